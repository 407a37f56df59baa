/- CodeKeeps: the walk. -/
import Derived.Test.YtpdjbhnpahkbpaaCE
namespace Go.Proofs.Ytpdjbhnpahkbpaa
open Go.ChangeShapes Go.WideShapes Go.ChangeAt Go.RowKit

namespace Z
/-- A program in the blocks from lo on, its value in the box bx behind them. -/
structure PB (lo bx : Nat) (w : World) (a0 : Option Addr) (n0 c0 : Nat) (a1 : Option Addr) (n1 c1 : Nat) (a2 : Option Addr) (n2 c2 : Nat) (p : PZ) : Prop where
  box : w.heap[bx]? = some (.cells #[.slice a0 n0 c0, .slice a1 n1 c1, .slice a2 n2 c2] 26)
  rd : RdP (fun i => lo ≤ i ∧ i < bx) w (.agg #[.slice a0 n0 c0, .slice a1 n1 c1, .slice a2 n2 c2]) p
  low : lo ≤ bx
section
variable {lo bx : Nat} {w w' : World} {a0 : Option Addr} {n0 c0 : Nat} {a1 : Option Addr} {n1 c1 : Nat} {a2 : Option Addr} {n2 c2 : Nat} {p : PZ} {S : Nat → Prop}
theorem PB.lt (h : PB lo bx w a0 n0 c0 a1 n1 c1 a2 n2 c2 p) : bx < w.heap.size := (Array.getElem?_eq_some_iff.1 h.box).1
theorem PB.cha (h : PB lo bx w a0 n0 c0 a1 n1 c1 a2 n2 c2 p) (c : Ytpdjbhnpahkbpaa.Cha S w w') (hS : ∀ i, S i → ¬ (lo ≤ i ∧ i ≤ bx)) : PB lo bx w' a0 n0 c0 a1 n1 c1 a2 n2 c2 p :=
  ⟨(c.old bx h.lt fun k => hS bx k ⟨h.low, Nat.le_refl _⟩).trans h.box, h.rd.cha c (fun _ k e => hS _ k ⟨e.1, by omega⟩) (fun _ e => e), h.low⟩
theorem PB.has (h : PB lo bx w a0 n0 c0 a1 n1 c1 a2 n2 c2 p) : HasP w (.agg #[.slice a0 n0 c0, .slice a1 n1 c1, .slice a2 n2 c2]) p :=
  RdP.cha h.rd (Ytpdjbhnpahkbpaa.Cha.refl (fun _ => False) w) (fun _ f => f.elim) (fun _ e => Nat.lt_trans e.2 h.lt)
end
theorem PB.of {W w : World} {a0 : Option Addr} {n0 c0 : Nat} {a1 : Option Addr} {n1 c1 : Nat} {a2 : Option Addr} {n2 c2 : Nat} {p : PZ} (h : RdP (fun i => W.heap.size ≤ i) w (.agg #[.slice a0 n0 c0, .slice a1 n1 c1, .slice a2 n2 c2]) p) (hl : W.heap.size ≤ w.heap.size) :
    PB W.heap.size w.heap.size (w.alloc (.cells #[.slice a0 n0 c0, .slice a1 n1 c1, .slice a2 n2 c2] 26)) a0 n0 c0 a1 n1 c1 a2 n2 c2 p :=
  ⟨heap_alloc_new w _, h.bound.cha ((Ytpdjbhnpahkbpaa.Cha.refl (fun _ => False) w).alloc _) (fun _ f => f.elim) (fun _ e => e), hl⟩
theorem wipe_c {B : Nat → Prop} {W : World} {v : Value} {p : PZ} (h : RdP B W v p) (hB : ∀ i, B i → i < W.heap.size) (hF : ∀ b o, B b → W.frozen? ⟨b, o, none⟩ = false) : Calls Try.prog 22 #[v] W fun e w' => e = .returned (.tuple #[]) ∧ Cha B W w' := by
  obtain ⟨v0, v1, v2, rfl, h0, h1, h2⟩ := h
  exact wipe_walk (Ls.of h0 fun _ _ _ h => TyW.of h) (Ls.of h1 fun _ _ _ h => In.of h) (Ls.of h2 fun _ _ _ h => FnW.of h) hB hF
theorem AT.own {W w : World} {a : Option Addr} {c : Nat} {T : List Nat} (h : w.ownsRow W.heap.size 5 1 (.slice a T.length c) T.length (bz T)) (hT : (∀ x ∈ T, x < 256) ∧ T.length ≤ 16384) : AT (fun i => W.heap.size ≤ i ∧ i < w.heap.size) w a T.length c T := by
  obtain ⟨k1, k2⟩ := own_bytes h hT.1 (by omega)
  exact ⟨k1, rfl, k2⟩
end Z
set_option maxRecDepth 100000 in
set_option maxHeartbeats 8000000 in
theorem keeps_walk {W : World} {a : Option Addr} {n c : Nat} {T : List Nat} (ht : HasT W a n c T) (ha : a = none → n = 0 ∧ c = 0) (hn : n ≤ 2000000) :
    Calls Try.prog 6 #[.slice a n c] W fun e w' => e = .returned (.bool true) ∧ Cha (fun _ => False) W w' := by
  have A0 : Hid (Z.AT (· < W.heap.size) W a n c T) := Lib.hid ht
  have HTB := Lib.hid ht.bytes
  have N := Lib.hid ht.2.1
  have HA := Lib.hid ha
  have DS := Z.dec_small T
  obtain ⟨i0, hi, hz0, hz1, hz2⟩ := info_parts info5
  have CD : Hid (∀ w g c, Z.XT w g n c T → Calls Try.prog 19 #[.slice (some ⟨g, 0, none⟩) n c] w (Z.Decd w (dec8 T))) := Lib.hid fun w g c h => Z.decode_any h.text.1 h.text.2.1 h.text.2.2
  have CDD : Hid (∀ w, Z.AT (· < W.heap.size) w a n c T → W.heap.size ≤ w.heap.size → Calls Try.prog 20 #[.slice a n c] w (DDec w (dec8 T))) := Lib.hid fun w h hl => ddec_any (h.text fun i hi => Nat.lt_of_lt_of_le hi hl)
  obtain ⟨r, hr⟩ : ∃ r, r = dec8 T := ⟨_, rfl⟩
  rw [← hr] at CD CDD DS
  clear hr ht ha
  obtain ⟨p, E, F, A⟩ := r
  have CE : Hid (∀ w (B : Nat → Prop) v, RdP B w v p → (∀ i, B i → i < w.heap.size) → Calls Try.prog 15 #[v] w (Encd w (enc8 p))) := Lib.hid fun w B v h hB => encode_any h hB
  have CN : Hid (∀ w v, HasP w v p → Calls Try.prog 16 #[v] w (Enc1 w (enc8 p))) := Lib.hid fun w v h => docenc_c h DS
  have EB : Hid (POk p → (∀ x ∈ (enc8 p).t, x < 256) ∧ (enc8 p).t.length ≤ 16384) := Lib.hid fun h => enc8_bytes h
  have hm : POk p → (enc8 p).t.length ≤ 16384 := fun h => (EB.out h).2
  obtain ⟨s, hs⟩ : ∃ s, s = enc8 p := ⟨_, rfl⟩
  rw [← hs] at CE CN EB hm
  clear hs DS
  obtain ⟨T1, E1⟩ := s
  obtain ⟨m, hm'⟩ : ∃ m, m = T1.length := ⟨_, rfl⟩
  have M : Hid (m = T1.length) := Lib.hid hm'
  have HM : Hid (POk p → m ≤ 16384) := Lib.hid fun h => by have := hm h; rw [hm']; exact this
  clear hm hm'
  go_enter Try.func6, Try.ntmps6
  go_wp2_with (first
    | (go_at_call 17; ((with_reducible refine (awake_any W).mono ?_); rintro e w1 ⟨rfl, k1⟩; have C1 := Lib.hid k1; have A1 := Lib.hid (A0.out.cha k1 (fun _ f => f.elim)); clear k1))
    | (at_builtin; refine Z.wpList_append_both rfl _ _ 27 rfl W.heap.size 5 i0 (.int .u8 0) 1 1 Try.underlying27 hi hz0 hz1 hz2 rfl (by decide) (.slice none 0 0) 0 [] rfl (World.ownsRow_nil _ _ _ _) a n c (bz T) rfl HA.out (by rw [Z.bzl, Nat.mul_one]; exact N.out.symm) (fun ad e => by subst e; exact A1.out.cells) (Z.bz1 T) (by unfold maxLen; omega) (by omega) C1.out.size ?_; intro v2 w2 hown hg; simp only [Nat.zero_add, List.nil_append] at hown; obtain ⟨a6, k6, rfl⟩ := own_shape hown; have O2 := Lib.hid hown; have C2 := Lib.hid (C1.out.trans (Cha.of_grownBy hg (fun k e => by cases e))); clear hown hg)
    | (at_builtin; go_loud (refine wpList_append_where _ rfl _ _ 27 rfl W.heap.size 5 i0 (.int .u8 0) 1 1 Try.underlying27 hi hz0 hz1 hz2 rfl (by decide) (.slice a6 n k6) n (bz T) rfl (own_but O2.out ((Cha.refl (fun _ => False) w2).alloc _) (fun _ _ f => f)) ⟨w2.heap.size, 0, none⟩ 1 1 [.int .u8 99] rfl rfl (one_new _ _ _) (one_byte _) (by unfold maxLen; omega) (by omega) (by rw [World.size_alloc]; have := C2.out.size; omega) ?_; intro v3 w3 hown hg hw; obtain ⟨g, cx, rfl, hg0, hX⟩ := Z.XT.of N.out (by omega) HTB.out hown; have X3 := Lib.hid hX; have HG := Lib.hid hg0; have C3 := Lib.hid ((C2.out.alloc (.cells #[.int .u8 99] 5)).over (Cha.of_grownBy (S := fun i => (Value.slice a6 n k6).ownBlock = some i) hg (fun k e => e)) (fun i e => .inr (O2.out.lt i e).1)); have hsl := Z.sliced_head (g := g) hX.cap; clear hown hg hw hX hg0))
    | (go_at_call 19; ((with_reducible refine (CD.out w3 g cx X3.out).mono ?_); rintro e w4 ⟨v0, v1, v2, rfl, k1, k2⟩; obtain ⟨⟨pa0, pn0, pc0, rfl⟩, ⟨pa1, pn1, pc1, rfl⟩, ⟨pa2, pn2, pc2, rfl⟩⟩ := rdp_shape k1; have K5 : Hid (Cha (fun _ => False) w4 ((w4.alloc (.cells #[.slice pa0 pn0 pc0, .slice pa1 pn1 pc1, .slice pa2 pn2 pc2] 26)).alloc (.cells #[.int .i64 E, .int .i64 F, .int .i64 A] 37))) := Lib.hid (((Cha.refl _ w4).alloc _).alloc _); have P5 : Hid (Z.PB w3.heap.size w4.heap.size ((w4.alloc (.cells #[.slice pa0 pn0 pc0, .slice pa1 pn1 pc1, .slice pa2 pn2 pc2] 26)).alloc (.cells #[.int .i64 E, .int .i64 F, .int .i64 A] 37)) pa0 pn0 pc0 pa1 pn1 pc1 pa2 pn2 pc2 p) := Lib.hid ((Z.PB.of k1 k2.size).cha ((Cha.refl (fun _ => False) _).alloc _) (fun _ f => f.elim)); have F5 : Hid (∀ b o, w3.heap.size ≤ b ∧ b < w4.heap.size → (((w4.alloc (.cells #[.slice pa0 pn0 pc0, .slice pa1 pn1 pc1, .slice pa2 pn2 pc2] 26)).alloc (.cells #[.int .i64 E, .int .i64 F, .int .i64 A] 37))).frozen? ⟨b, o, none⟩ = false) := Lib.hid (fun b o hb => Z.frz_cha K5.out hb.2 (fun f => f) (k2.new hb.1 o)); have K35 := k2.toCha.trans K5.out; have C5 := Lib.hid (C3.out.trans K35); have X5 := Lib.hid (X3.out.cha K35 (fun f => f)); clear k1 k2 K35 K5))
    | (go_at_call 19; ((with_reducible refine (CD.out _ g cx X5.out).mono ?_); rintro e w6 ⟨v0, v1, v2, rfl, k1, k2⟩; obtain ⟨⟨qa0, qn0, qc0, rfl⟩, ⟨qa1, qn1, qc1, rfl⟩, ⟨qa2, qn2, qc2, rfl⟩⟩ := rdp_shape k1; have K7 : Hid (Cha (fun _ => False) w6 ((w6.alloc (.cells #[.slice qa0 qn0 qc0, .slice qa1 qn1 qc1, .slice qa2 qn2 qc2] 26)).alloc (.cells #[.int .i64 E, .int .i64 F, .int .i64 A] 37))) := Lib.hid (((Cha.refl _ w6).alloc _).alloc _); have Q7 : Hid (Z.PB (((w4.alloc (.cells #[.slice pa0 pn0 pc0, .slice pa1 pn1 pc1, .slice pa2 pn2 pc2] 26)).alloc (.cells #[.int .i64 E, .int .i64 F, .int .i64 A] 37))).heap.size w6.heap.size ((w6.alloc (.cells #[.slice qa0 qn0 qc0, .slice qa1 qn1 qc1, .slice qa2 qn2 qc2] 26)).alloc (.cells #[.int .i64 E, .int .i64 F, .int .i64 A] 37)) qa0 qn0 qc0 qa1 qn1 qc1 qa2 qn2 qc2 p) := Lib.hid ((Z.PB.of k1 k2.size).cha ((Cha.refl (fun _ => False) _).alloc _) (fun _ f => f.elim)); have K57 := k2.toCha.trans K7.out; have L5 := P5.out.lt; have F7 : Hid (∀ b o, w3.heap.size ≤ b ∧ b < w4.heap.size → (((w6.alloc (.cells #[.slice qa0 qn0 qc0, .slice qa1 qn1 qc1, .slice qa2 qn2 qc2] 26)).alloc (.cells #[.int .i64 E, .int .i64 F, .int .i64 A] 37))).frozen? ⟨b, o, none⟩ = false) := Lib.hid (fun b o hb => Z.frz_cha K57 (by omega) (fun f => f) (F5.out b o hb)); have P7 := Lib.hid (P5.out.cha K57 (fun _ f => f.elim)); have C7 := Lib.hid (C5.out.trans K57); have X7 := Lib.hid (X5.out.cha K57 (fun f => f)); have S5 := Lib.hid L5; clear k1 k2 K57 K7 L5))
    | (go_at_call 20; ((with_reducible refine (CDD.out _ (A0.out.cha C7.out (fun _ f => f.elim)) C7.out.size).mono ?_); rintro e w8 ⟨v0, v1, v2, rfl, k1, k2⟩; obtain ⟨⟨da0, dn0, dc0, rfl⟩, ⟨da1, dn1, dc1, rfl⟩, ⟨da2, dn2, dc2, rfl⟩⟩ := rdp_shape k1; have K79 := k2.alloc (.cells #[.slice da0 dn0 dc0, .slice da1 dn1 dc1, .slice da2 dn2 dc2] 26); have D9 : Hid (Z.PB (((w6.alloc (.cells #[.slice qa0 qn0 qc0, .slice qa1 qn1 qc1, .slice qa2 qn2 qc2] 26)).alloc (.cells #[.int .i64 E, .int .i64 F, .int .i64 A] 37))).heap.size w8.heap.size (w8.alloc (.cells #[.slice da0 dn0 dc0, .slice da1 dn1 dc1, .slice da2 dn2 dc2] 26)) da0 dn0 dc0 da1 dn1 dc1 da2 dn2 dc2 p) := Lib.hid (Z.PB.of k1 k2.size); have L7 := P7.out.lt; have F9 : Hid (∀ b o, w3.heap.size ≤ b ∧ b < w4.heap.size → ((w8.alloc (.cells #[.slice da0 dn0 dc0, .slice da1 dn1 dc1, .slice da2 dn2 dc2] 26))).frozen? ⟨b, o, none⟩ = false) := Lib.hid (fun b o hb => Z.frz_cha K79 (by omega) (fun f => f) (F7.out b o hb)); have S7 := Lib.hid Q7.out.lt; have P9 := Lib.hid (P7.out.cha K79 (fun _ f => f.elim)); have Q9 := Lib.hid (Q7.out.cha K79 (fun _ f => f.elim)); have C9 := Lib.hid (C7.out.trans K79); have X9 := Lib.hid (X7.out.cha K79 (fun f => f)); clear k1 k2 K79 L7; have bp0 := cell_of_row (w8.alloc (.cells #[.slice da0 dn0 dc0, .slice da1 dn1 dc1, .slice da2 dn2 dc2] 26)) w4.heap.size 0 _ 26 (0, 0) P9.out.box; have bp1 := cell_of_row (w8.alloc (.cells #[.slice da0 dn0 dc0, .slice da1 dn1 dc1, .slice da2 dn2 dc2] 26)) w4.heap.size 1 _ 26 (0, 0) P9.out.box; have bp2 := cell_of_row (w8.alloc (.cells #[.slice da0 dn0 dc0, .slice da1 dn1 dc1, .slice da2 dn2 dc2] 26)) w4.heap.size 2 _ 26 (0, 0) P9.out.box))
    | (go_at_call 22; ((with_reducible refine (Z.wipe_c P9.out.rd (fun i hi => Nat.lt_trans hi.2 P9.out.lt) F9.out).mono ?_); rintro e w10 ⟨rfl, k1⟩; have C10 := Lib.hid (C9.out.over k1.toCha (fun i hi => .inr (Nat.le_trans C3.out.size hi.1))); have Q10 := Lib.hid (Q9.out.cha k1.toCha (fun i hi h => by have := S5.out; have := hi.2; have := h.1; omega)); have D10 := Lib.hid (D9.out.cha k1.toCha (fun i hi h => by have := S5.out; have := S7.out; have := Q7.out.low; have := hi.2; have := h.1; omega)); have X10 := Lib.hid (X9.out.cha k1.toCha (fun hi => by have := X3.out.lt; have := hi.1; omega)); clear k1 bp0 bp1 bp2; have bq0 := cell_of_row w10 w6.heap.size 0 _ 26 (0, 0) Q10.out.box; have bq1 := cell_of_row w10 w6.heap.size 1 _ 26 (0, 0) Q10.out.box; have bq2 := cell_of_row w10 w6.heap.size 2 _ 26 (0, 0) Q10.out.box; have bd0 := cell_of_row w10 w8.heap.size 0 _ 26 (0, 0) D10.out.box; have bd1 := cell_of_row w10 w8.heap.size 1 _ 26 (0, 0) D10.out.box; have bd2 := cell_of_row w10 w8.heap.size 2 _ 26 (0, 0) D10.out.box))
    | (go_at_call 21; ((with_reducible refine (samep_any Q10.out.rd D10.out.rd).mono ?_); rintro e w11 ⟨rfl, k1⟩; have C11 := Lib.hid (C10.out.trans k1); have Q11 := Lib.hid (Q10.out.cha k1 (fun _ f => f.elim)); have D11 := Lib.hid (D10.out.cha k1 (fun _ f => f.elim)); have X11 := Lib.hid (X10.out.cha k1 (fun f => f)); have x99 := X11.out.more; clear k1 bq0 bq1 bq2 bd0 bd1 bd2; have bq0 := cell_of_row w11 w6.heap.size 0 _ 26 (0, 0) Q11.out.box; have bq1 := cell_of_row w11 w6.heap.size 1 _ 26 (0, 0) Q11.out.box; have bq2 := cell_of_row w11 w6.heap.size 2 _ 26 (0, 0) Q11.out.box))
    | (go_at_call 18; ((with_reducible refine (same_c X11.out.text ((A0.out.cha C11.out (fun _ f => f.elim)).text (fun i hi => Nat.lt_of_lt_of_le hi C11.out.size))).mono ?_); rintro e wq ⟨rfl, rfl⟩))
    | (go_at_call 15; ((with_reducible refine (CE.out w11 _ _ Q11.out.rd (fun i hi => Nat.lt_trans hi.2 Q11.out.lt)).mono ?_); rintro e w12 ⟨ax, cx2, rfl, k1, k2⟩; simp only [← M.out] at k1 ⊢; have O12 := Lib.hid k1; have C12 := Lib.hid (C11.out.trans k2); have Q12 := Lib.hid (Q11.out.cha k2 (fun _ f => f.elim)); have D12 := Lib.hid (D11.out.cha k2 (fun _ f => f.elim)); have S11 := Lib.hid C11.out.size; have S12 := Lib.hid k2.size; clear k1 k2 bq0 bq1 bq2 x99; have bq0 := cell_of_row w12 w6.heap.size 0 _ 26 (0, 0) Q12.out.box; have bq1 := cell_of_row w12 w6.heap.size 1 _ 26 (0, 0) Q12.out.box; have bq2 := cell_of_row w12 w6.heap.size 2 _ 26 (0, 0) Q12.out.box))
    | (go_at_call 15; ((with_reducible refine (CE.out w12 _ _ Q12.out.rd (fun i hi => Nat.lt_trans hi.2 Q12.out.lt)).mono ?_); rintro e w13 ⟨ay, cy, rfl, k1, k2⟩; have Y13 := Lib.hid (Z.AT.own k1 (EB.out Q12.out.rd.ok)); simp only [← M.out] at k1 Y13 ⊢; have O13 := Lib.hid (own_but O12.out k2 (fun _ _ f => f)); have C13 := Lib.hid (C12.out.trans k2); have S13 := Lib.hid k2.size; have D13 := Lib.hid (D12.out.cha k2 (fun _ f => f.elim)); have LX := Lib.hid (fun g (h : (Value.slice ax m cx2).ownBlock = some g) => O12.out.lt g h); clear k1 k2 bq0 bq1 bq2)))
  have hm := HM.out Q12.out.rd.ok
  have SZ := Lib.hid (Nat.le_trans S12.out S13.out)
  have DL := Lib.hid D11.out.lt
  clear X3 X5 X7 X9 X10 X11 P5 P7 P9 F5 F7 F9 Q7 Q9 Q10 Q11 Q12 D9 D10 D11 D12 C1 C2 C3 C5 C7 C9 C10 C11 C12 O2 CD CDD CE hsl
  go_loopw [83] (fun i wr => ∃ (k : Nat) (ys : List Nat), k ≤ m ∧ i = .int .i64 (k : Int) ∧ wr.ownsRow w11.heap.size 5 1 (.slice ax m cx2) m (bz ys) ∧ Cha (fun i => w11.heap.size ≤ i ∧ i < w12.heap.size) w13 wr) (fun i _ => m - (intOf i).toNat)
  case atStart => exact ⟨0, T1, Nat.zero_le _, rfl, O13.out, Cha.refl _ _⟩
  case round =>
    obtain ⟨k, ys, hk, rfl, hO, hC⟩ := hrel
    by_cases hlt : k < m
    · obtain ⟨gx, rfl, h1, h2, ⟨u, hu⟩, hf, ho⟩ := Z.own_put hO hlt 255
      have HO := Lib.hid ho
      have HC := Lib.hid (hC.setCell (p := ⟨gx, k, none⟩) (fun _ => LX.out gx rfl) (.int .u8 255))
      clear hO hC ho h1 h2
      go_wp2
      go_roundw
      case rel => exact ⟨k + 1, ys.set k 255, by omega, by go_num, HO.out, HC.out⟩
      case measure => simp [intOf]; omega
    · have OR := Lib.hid hO
      have CR := Lib.hid hC
      have LY : Hid ((bz ys).length = m) := Lib.hid (by have := hO.1; rw [Nat.mul_one] at this; exact this)
      have hw1 : IntKind.i64.wrap (((m + 1 : Nat) : Int) - 1) = (m : Int) := by rw [IntKind.wrap_i64]; omega
      clear hO hC
      by_cases hE : E1 = 0
      · have hE1 : (E1 != 0) = false := by simpa using hE
        clear hE
        go_wp2_with (first
          | (at_builtin; refine wpList_append_where _ rfl _ _ 27 rfl w11.heap.size 5 i0 (.int .u8 0) 1 1 Try.underlying27 hi hz0 hz1 hz2 rfl (by decide) (.slice ax m cx2) m (bz ys) rfl (own_but OR.out ((Cha.refl (fun _ => False) wr).alloc _) (fun _ _ f => f)) ⟨wr.heap.size, 0, none⟩ 1 1 [.int .u8 1] rfl rfl (one_new _ _ _) (one_byte _) (by unfold maxLen; omega) (by omega) (by rw [World.size_alloc]; have := CR.out.size; have := SZ.out; omega) ?_; intro v15 w15 hown hg hw; have KC : Cha (fun i => w11.heap.size ≤ i ∧ i < w12.heap.size) w13 w15 := (CR.out.alloc (.cells #[.int .u8 1] 5)).over (Cha.of_grownBy (S := fun i => (Value.slice ax m cx2).ownBlock = some i) hg (fun k e => e)) (fun i e => .inl (LX.out i e)); obtain ⟨gz, cz, rfl, hgz, hgl, hlast⟩ := Z.own_get hown LY.out; have GL := Lib.hid hgl; have HL := Lib.hid hlast; have D15 := Lib.hid (D13.out.cha KC (fun i hi h => by have := DL.out; have := hi.1; have := h.2; omega)); have Y15 := Lib.hid (Y13.out.cha KC (fun i hi h => by have := hi.2; have := h.1; omega)); have C15 := Lib.hid (C13.out.over KC (fun i hi => .inr (by have := S11.out; have := hi.1; omega))); have S15 := Lib.hid KC.size; clear hown hg hw KC hgz hgl hlast; have bd0 := cell_of_row w15 w8.heap.size 0 _ 26 (0, 0) D15.out.box; have bd1 := cell_of_row w15 w8.heap.size 1 _ 26 (0, 0) D15.out.box; have bd2 := cell_of_row w15 w8.heap.size 2 _ 26 (0, 0) D15.out.box)
          | (go_at_call 16; ((with_reducible refine (CN.out w15 _ D15.out.has).mono ?_); rintro e w16 ⟨az, cz2, rfl, k1, k2⟩; simp only [← M.out] at k1 ⊢; have Z16 := Lib.hid k1; have Y16 := Lib.hid ((Y15.out.cha k2 (fun _ f => f.elim)).text (fun i hi => by have := hi.2; have := S15.out; have := k2.size; omega)); have C16 := Lib.hid (C15.out.trans k2); have lst := (World.cell?_of_block (a := ⟨gz, m, none⟩) (k2.old gz GL.out (fun f => f))).trans HL.out; clear k1 k2 bd0 bd1 bd2))
          | (go_at_call 18; ((with_reducible refine (same_c Y16.out Z16.out).mono ?_); rintro e wq ⟨rfl, rfl⟩)))
        go_ret
        exact ⟨rfl, C16.out⟩
      · have hE1 : (E1 != 0) = true := by simpa using hE
        clear hE
        go_wp2_with (first
          | (at_builtin; refine wpList_append_where _ rfl _ _ 27 rfl w11.heap.size 5 i0 (.int .u8 0) 1 1 Try.underlying27 hi hz0 hz1 hz2 rfl (by decide) (.slice ax m cx2) m (bz ys) rfl (own_but OR.out ((Cha.refl (fun _ => False) wr).alloc _) (fun _ _ f => f)) ⟨wr.heap.size, 0, none⟩ 1 1 [.int .u8 1] rfl rfl (one_new _ _ _) (one_byte _) (by unfold maxLen; omega) (by omega) (by rw [World.size_alloc]; have := CR.out.size; have := SZ.out; omega) ?_; intro v15 w15 hown hg hw; have KC : Cha (fun i => w11.heap.size ≤ i ∧ i < w12.heap.size) w13 w15 := (CR.out.alloc (.cells #[.int .u8 1] 5)).over (Cha.of_grownBy (S := fun i => (Value.slice ax m cx2).ownBlock = some i) hg (fun k e => e)) (fun i e => .inl (LX.out i e)); obtain ⟨gz, cz, rfl, hgz, hgl, hlast⟩ := Z.own_get hown LY.out; have GL := Lib.hid hgl; have HL := Lib.hid hlast; have D15 := Lib.hid (D13.out.cha KC (fun i hi h => by have := DL.out; have := hi.1; have := h.2; omega)); have Y15 := Lib.hid (Y13.out.cha KC (fun i hi h => by have := hi.2; have := h.1; omega)); have C15 := Lib.hid (C13.out.over KC (fun i hi => .inr (by have := S11.out; have := hi.1; omega))); have S15 := Lib.hid KC.size; clear hown hg hw KC hgz hgl hlast; have bd0 := cell_of_row w15 w8.heap.size 0 _ 26 (0, 0) D15.out.box; have bd1 := cell_of_row w15 w8.heap.size 1 _ 26 (0, 0) D15.out.box; have bd2 := cell_of_row w15 w8.heap.size 2 _ 26 (0, 0) D15.out.box)
          | (go_at_call 16; ((with_reducible refine (CN.out w15 _ D15.out.has).mono ?_); rintro e w16 ⟨az, cz2, rfl, k1, k2⟩; simp only [← M.out] at k1 ⊢; have Z16 := Lib.hid k1; have Y16 := Lib.hid ((Y15.out.cha k2 (fun _ f => f.elim)).text (fun i hi => by have := hi.2; have := S15.out; have := k2.size; omega)); have C16 := Lib.hid (C15.out.trans k2); have lst := (World.cell?_of_block (a := ⟨gz, m, none⟩) (k2.old gz GL.out (fun f => f))).trans HL.out; clear k1 k2 bd0 bd1 bd2)))
        go_ret
        exact ⟨rfl, C16.out⟩
end Go.Proofs.Ytpdjbhnpahkbpaa
