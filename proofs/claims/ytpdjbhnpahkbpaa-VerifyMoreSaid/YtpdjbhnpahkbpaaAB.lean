/- CodeBack: the walk. -/
import Derived.Test.YtpdjbhnpahkbpaaV
namespace Go.Proofs.Ytpdjbhnpahkbpaa
open Go.ChangeShapes Go.WideShapes Go.ChangeAt Go.RowKit

/-- A program, bytes, that a world holds. -/
def HasP (W : World) (v : Value) (p : PZ) : Prop := RdP (· < W.heap.size) W v p
def HasT (W : World) (a : Option Addr) (n c : Nat) (T : List Nat) : Prop := RdS 1 RdU8 (· < W.heap.size) W (.slice a n c) T ∧ n = T.length ∧ n ≤ c
section
variable {W w w' : World} {v v' : Value} {p : PZ} {a : Option Addr} {n c : Nat} {T : List Nat}
theorem HasP.cha (h : HasP W v p) (c : Cha (fun _ => False) W w) : HasP w v p := RdP.cha h c (fun _ f => f.elim) (fun _ hi => Nat.lt_of_lt_of_le hi c.size)
theorem HasT.cha (h : HasT W a n c T) (k : Cha (fun _ => False) W w) : HasT w a n c T := ⟨h.1.bytes k (fun _ f => f.elim) (fun _ hi => Nat.lt_of_lt_of_le hi k.size), h.2⟩
theorem HasP.ok (h : HasP W v p) : POk p := RdP.ok h
theorem RdS.i64s {s : Nat} {B : Nat → Prop} {xs : List Int} (h : RdS s RdI B W v xs) : ∀ z ∈ xs, I64 z := fun z hz => by
  obtain ⟨_, _, _, h⟩ := h.all hz
  exact h.2
theorem RdIns.fit {B : Nat → Prop} {b o : Nat} {x : IZ} (h : RdIns B W b o x) : IFit x := by
  obtain ⟨_, _, h5⟩ := h.c5
  exact ⟨h.ok, h.k0, h.k1, h.k2, h.k3, h5.i64s⟩
theorem RdFn.fit {B : Nat → Prop} {b o : Nat} {x : FZ} (h : RdFn B W b o x) : FFit x := by
  obtain ⟨_, _, h1⟩ := h.c1
  obtain ⟨_, _, h2⟩ := h.c2
  obtain ⟨_, _, h3⟩ := h.c3
  exact ⟨h.ok, h.k0, h1.i64s, h2.i64s, fun i hi => by obtain ⟨_, _, _, h⟩ := h3.all hi; exact h.fit⟩
theorem RdTy.fit {B : Nat → Prop} {b o : Nat} {x : TZ} (h : RdTy B W b o x) : TFit x := by
  obtain ⟨_, _, h1⟩ := h.c1
  exact ⟨h.ok, h1.i64s⟩
theorem HasP.fit (h : HasP W v p) : PFit p := by
  have h' := h
  obtain ⟨_, _, _, _, h0, h1, h2⟩ := h
  exact ⟨h'.ok, fun t ht => by obtain ⟨_, _, _, h⟩ := h0.all ht; exact h.fit, h1.i64s, fun f hf => by obtain ⟨_, _, _, h⟩ := h2.all hf; exact h.fit⟩
theorem HasT.bytes (h : HasT W a n c T) : ∀ x ∈ T, x < 256 := h.1.small
def Enc1 (W : World) (s : St) (e : Ending) (w' : World) : Prop := ∃ a c, e = .returned (.tuple #[.slice a s.t.length c, .int .i64 s.e]) ∧ HasT w' a s.t.length c s.t ∧ Cha (fun _ => False) W w'
theorem encode_c (h : HasP W v p) : Calls Try.prog 15 #[v] W (Enc1 W (enc8 p)) :=
  (encode_any h (fun _ hi => hi)).mono fun e w' ⟨a, c, h1, h2, h3⟩ => by
    have hb := enc8_bytes h.ok
    obtain ⟨k1, k2⟩ := own_bytes h2 hb.1 (by omega)
    exact ⟨a, c, h1, ⟨k1.bytes (Cha.refl (fun _ => False) _) (fun _ f => f.elim) (fun _ hi => hi.2), rfl, k2⟩, h3⟩
def Dec1 (W : World) (r : PZ × FT) (e : Ending) (w' : World) : Prop := ∃ a0 n0 c0 a1 n1 c1 a2 n2 c2, e = .returned (.tuple #[.agg #[.slice a0 n0 c0, .slice a1 n1 c1, .slice a2 n2 c2], .agg #[.int .i64 r.2.e, .int .i64 r.2.f, .int .i64 r.2.at_]]) ∧ HasP w' (.agg #[.slice a0 n0 c0, .slice a1 n1 c1, .slice a2 n2 c2]) r.1 ∧ Cha (fun _ => False) W w'
theorem decode_c (h : HasT W a n c T) : Calls Try.prog 19 #[.slice a n c] W (Dec1 W (dec8 T)) :=
  (decode_any h.1 h.2.1 h.2.2).mono fun e w' ⟨v0, v1, v2, h1, h2, h3⟩ => by
    obtain ⟨⟨a0, n0, c0, rfl⟩, ⟨a1, n1, c1, rfl⟩, ⟨a2, n2, c2, rfl⟩⟩ := rdp_shape h2
    exact ⟨a0, n0, c0, a1, n1, c1, a2, n2, c2, h1, RdP.cha h2.bound (Cha.refl (fun _ => False) _) (fun _ f => f.elim) (fun _ hi => hi.2), h3⟩
theorem samep_c (h : HasP W v p) (h' : HasP W v' p) : Calls Try.prog 21 #[v, v'] W fun e w' => e = .returned (.bool true) ∧ Cha (fun _ => False) W w' := samep_any h h'
theorem same_c {a' : Option Addr} {n' c' : Nat} (h : HasT W a n c T) (h' : HasT W a' n' c' T) : Calls Try.prog 18 #[.slice a n c, .slice a' n' c'] W fun e w' => e = .returned (.bool true) ∧ W = w' := same_any h.1 h'.1
end
set_option maxRecDepth 100000 in
set_option maxHeartbeats 4000000 in
theorem back_walk {W : World} {v0 v1 v2 : Value} {p : PZ} {a : Option Addr} {n c : Nat} {T : List Nat} (hp : HasP W (.agg #[v0, v1, v2]) p) (ht : HasT W a n c T) :
    Calls Try.prog 5 #[.agg #[v0, v1, v2], .slice a n c] W fun e w' => e = .returned (.bool true) ∧ Cha (fun _ => False) W w' := by
  obtain ⟨⟨a0, n0, c0, rfl⟩, ⟨a1, n1, c1, rfl⟩, ⟨a2, n2, c2, rfl⟩⟩ := rdp_shape hp
  have HP := Lib.hid hp
  have HT := Lib.hid ht
  have C0 : Hid (Cha (fun _ => False) W (W.alloc (.cells #[.slice a0 n0 c0, .slice a1 n1 c1, .slice a2 n2 c2] 26))) := Lib.hid ((Cha.refl _ W).alloc _)
  have X0 := Lib.hid (heap_alloc_new W (.cells #[.slice a0 n0 c0, .slice a1 n1 c1, .slice a2 n2 c2] 26))
  have AW := Lib.hid (awake_any (W.alloc (.cells #[.slice a0 n0 c0, .slice a1 n1 c1, .slice a2 n2 c2] 26)))
  have fit := Lib.hid hp.fit
  have DE := Lib.hid (fun (T' : List Nat) (h : enc8 p = ⟨T', 0⟩) => dec_enc hp.fit h)
  have ED := Lib.hid (fun (q : PZ) (f : FT) (h : dec8 T = (q, f)) (hf : f.e = 0) => enc_dec ht.bytes h hf)
  have CE : Hid (∀ w, Cha (fun _ => False) W w → Calls Try.prog 15 #[.agg #[.slice a0 n0 c0, .slice a1 n1 c1, .slice a2 n2 c2]] w (Enc1 w (enc8 p))) := Lib.hid fun w h => encode_c (HP.out.cha h)
  have CD : Hid (∀ w, Cha (fun _ => False) W w → Calls Try.prog 19 #[.slice a n c] w (Dec1 w (dec8 T))) := Lib.hid fun w h => decode_c (HT.out.cha h)
  obtain ⟨s, hs⟩ : ∃ s, s = enc8 p := ⟨_, rfl⟩
  obtain ⟨r, hr⟩ : ∃ r, r = dec8 T := ⟨_, rfl⟩
  rw [← hs] at CE DE
  rw [← hr] at CD ED
  clear hp ht hs hr
  obtain ⟨T1, E1⟩ := s
  obtain ⟨q, F, ff, fa⟩ := r
  by_cases hF : F = 0
  · subst hF
    have ED2 : Hid (enc8 q = ⟨T, 0⟩) := Lib.hid (ED.out _ _ rfl rfl)
    have CE2 : Hid (∀ w v, HasP w v q → Calls Try.prog 15 #[v] w (Enc1 w ⟨T, 0⟩)) := Lib.hid (fun w v h => by have := encode_c h; rw [ED2.out] at this; exact this)
    clear ED
    by_cases hE : E1 = 0
    · subst hE
      have DE2 := Lib.hid (DE.out T1 rfl)
      clear DE
      go_enter Try.func5, Try.ntmps5
      go_wp2_with (first
        | (go_at_call 17; ((with_reducible refine (AW.out).mono ?_); rintro e w1 ⟨rfl, k1⟩; have C1 := Lib.hid (C0.out.trans k1); have X1 := Lib.hid ((k1.old _ (Array.getElem?_eq_some_iff.1 X0.out).1 (fun f => f)).trans X0.out); clear k1; have b0 := cell_of_row w1 W.heap.size 0 _ 26 (0, 0) X1.out; have b1 := cell_of_row w1 W.heap.size 1 _ 26 (0, 0) X1.out; have b2 := cell_of_row w1 W.heap.size 2 _ 26 (0, 0) X1.out))
        | (go_at_call 15; ((with_reducible refine (CE.out _ C1.out).mono ?_); rintro e w2 ⟨x2, y2, rfl, k1, k2⟩; have T2 := Lib.hid k1; have C2 := Lib.hid (C1.out.trans k2); have X2 := Lib.hid ((k2.old _ (Array.getElem?_eq_some_iff.1 X1.out).1 (fun f => f)).trans X1.out); clear k1 k2 b0 b1 b2))
        | (go_at_call 19; ((with_reducible refine (decode_c T2.out).mono ?_); rintro e w3 ⟨p0, q0, r0, p1, q1, r1, p2, q2, r2, rfl, k1, k2⟩; rw [DE2.out] at k1; simp only [DE2.out]; have K3 := Lib.hid k1; have C3 := Lib.hid (C2.out.trans k2); have hX3 := (k2.old _ (Array.getElem?_eq_some_iff.1 X2.out).1 (fun f => f)).trans X2.out; have l3 := (Array.getElem?_eq_some_iff.1 hX3).1; have b0 := cell_of_row w3 W.heap.size 0 _ 26 (0, 0) hX3; have b1 := cell_of_row w3 W.heap.size 1 _ 26 (0, 0) hX3; have b2 := cell_of_row w3 W.heap.size 2 _ 26 (0, 0) hX3; clear k1 k2 hX3; have C4 : Hid (Cha (fun _ => False) W ((w3.alloc (.cells #[.slice p0 q0 r0, .slice p1 q1 r1, .slice p2 q2 r2] 26)).alloc (.cells #[.int .i64 0, .int .i64 0, .int .i64 0] 37))) := Lib.hid ((C3.out.alloc _).alloc _); have K4 : Hid (HasP ((w3.alloc (.cells #[.slice p0 q0 r0, .slice p1 q1 r1, .slice p2 q2 r2] 26)).alloc (.cells #[.int .i64 0, .int .i64 0, .int .i64 0] 37)) (.agg #[.slice p0 q0 r0, .slice p1 q1 r1, .slice p2 q2 r2]) p) := Lib.hid (K3.out.cha (((Cha.refl (fun _ => False) w3).alloc _).alloc _))))
        | (go_at_call 21; ((with_reducible refine ((samep_c (HP.out.cha C4.out) K4.out)).mono ?_); rintro e w4 ⟨rfl, k1⟩; have C7 := Lib.hid (C4.out.trans k1); clear k1 b0 b1 b2 l3))
        | (go_at_call 19; ((with_reducible refine (CD.out _ C7.out).mono ?_); rintro e w5 ⟨e0, i0, f0, e1, i1, f1, e2, i2, f2, rfl, k1, k2⟩; have K5 := Lib.hid k1; have C5 := Lib.hid (C7.out.trans k2); clear k1 k2))
        | (go_at_call 15; ((with_reducible refine (CE2.out _ _ (K5.out.cha (((Cha.refl (fun _ => False) w5).alloc (.cells #[.slice e0 i0 f0, .slice e1 i1 f1, .slice e2 i2 f2] 26)).alloc (.cells #[.int .i64 0, .int .i64 ff, .int .i64 fa] 37)))).mono ?_); rintro e w6 ⟨x6, y6, rfl, k1, k2⟩; have C6 := Lib.hid (((C5.out.alloc (.cells #[.slice e0 i0 f0, .slice e1 i1 f1, .slice e2 i2 f2] 26)).alloc (.cells #[.int .i64 0, .int .i64 ff, .int .i64 fa] 37)).trans k2); have T6 := Lib.hid k1; clear k1 k2))
        | (go_at_call 18; ((with_reducible refine ((same_c T6.out (HT.out.cha C6.out))).mono ?_); rintro e w7 ⟨rfl, rfl⟩)))
      go_ret
      exact ⟨rfl, C6.out⟩
    · have hE1 : (E1 == 0) = false := by simpa using hE
      clear DE hE
      go_enter Try.func5, Try.ntmps5
      go_wp2_with (first
        | (go_at_call 17; ((with_reducible refine (AW.out).mono ?_); rintro e w1 ⟨rfl, k1⟩; have C1 := Lib.hid (C0.out.trans k1); have X1 := Lib.hid ((k1.old _ (Array.getElem?_eq_some_iff.1 X0.out).1 (fun f => f)).trans X0.out); clear k1; have b0 := cell_of_row w1 W.heap.size 0 _ 26 (0, 0) X1.out; have b1 := cell_of_row w1 W.heap.size 1 _ 26 (0, 0) X1.out; have b2 := cell_of_row w1 W.heap.size 2 _ 26 (0, 0) X1.out))
        | (go_at_call 15; ((with_reducible refine (CE.out _ C1.out).mono ?_); rintro e w2 ⟨x2, y2, rfl, k1, k2⟩; have T2 := Lib.hid k1; have C2 := Lib.hid (C1.out.trans k2); have X2 := Lib.hid ((k2.old _ (Array.getElem?_eq_some_iff.1 X1.out).1 (fun f => f)).trans X1.out); clear k1 k2 b0 b1 b2))
        | (go_at_call 19; ((with_reducible refine (CD.out _ C2.out).mono ?_); rintro e w5 ⟨e0, i0, f0, e1, i1, f1, e2, i2, f2, rfl, k1, k2⟩; have K5 := Lib.hid k1; have C5 := Lib.hid (C2.out.trans k2); clear k1 k2))
        | (go_at_call 15; ((with_reducible refine (CE2.out _ _ (K5.out.cha (((Cha.refl (fun _ => False) w5).alloc (.cells #[.slice e0 i0 f0, .slice e1 i1 f1, .slice e2 i2 f2] 26)).alloc (.cells #[.int .i64 0, .int .i64 ff, .int .i64 fa] 37)))).mono ?_); rintro e w6 ⟨x6, y6, rfl, k1, k2⟩; have C6 := Lib.hid (((C5.out.alloc (.cells #[.slice e0 i0 f0, .slice e1 i1 f1, .slice e2 i2 f2] 26)).alloc (.cells #[.int .i64 0, .int .i64 ff, .int .i64 fa] 37)).trans k2); have T6 := Lib.hid k1; clear k1 k2))
        | (go_at_call 18; ((with_reducible refine ((same_c T6.out (HT.out.cha C6.out))).mono ?_); rintro e w7 ⟨rfl, rfl⟩)))
      go_ret
      exact ⟨rfl, C6.out⟩
  · have hF1 : (F != 0) = true := by simpa using hF
    clear ED hF
    by_cases hE : E1 = 0
    · subst hE
      have DE2 := Lib.hid (DE.out T1 rfl)
      clear DE
      go_enter Try.func5, Try.ntmps5
      go_wp2_with (first
        | (go_at_call 17; ((with_reducible refine (AW.out).mono ?_); rintro e w1 ⟨rfl, k1⟩; have C1 := Lib.hid (C0.out.trans k1); have X1 := Lib.hid ((k1.old _ (Array.getElem?_eq_some_iff.1 X0.out).1 (fun f => f)).trans X0.out); clear k1; have b0 := cell_of_row w1 W.heap.size 0 _ 26 (0, 0) X1.out; have b1 := cell_of_row w1 W.heap.size 1 _ 26 (0, 0) X1.out; have b2 := cell_of_row w1 W.heap.size 2 _ 26 (0, 0) X1.out))
        | (go_at_call 15; ((with_reducible refine (CE.out _ C1.out).mono ?_); rintro e w2 ⟨x2, y2, rfl, k1, k2⟩; have T2 := Lib.hid k1; have C2 := Lib.hid (C1.out.trans k2); have X2 := Lib.hid ((k2.old _ (Array.getElem?_eq_some_iff.1 X1.out).1 (fun f => f)).trans X1.out); clear k1 k2 b0 b1 b2))
        | (go_at_call 19; ((with_reducible refine (decode_c T2.out).mono ?_); rintro e w3 ⟨p0, q0, r0, p1, q1, r1, p2, q2, r2, rfl, k1, k2⟩; rw [DE2.out] at k1; simp only [DE2.out]; have K3 := Lib.hid k1; have C3 := Lib.hid (C2.out.trans k2); have hX3 := (k2.old _ (Array.getElem?_eq_some_iff.1 X2.out).1 (fun f => f)).trans X2.out; have l3 := (Array.getElem?_eq_some_iff.1 hX3).1; have b0 := cell_of_row w3 W.heap.size 0 _ 26 (0, 0) hX3; have b1 := cell_of_row w3 W.heap.size 1 _ 26 (0, 0) hX3; have b2 := cell_of_row w3 W.heap.size 2 _ 26 (0, 0) hX3; clear k1 k2 hX3; have C4 : Hid (Cha (fun _ => False) W ((w3.alloc (.cells #[.slice p0 q0 r0, .slice p1 q1 r1, .slice p2 q2 r2] 26)).alloc (.cells #[.int .i64 0, .int .i64 0, .int .i64 0] 37))) := Lib.hid ((C3.out.alloc _).alloc _); have K4 : Hid (HasP ((w3.alloc (.cells #[.slice p0 q0 r0, .slice p1 q1 r1, .slice p2 q2 r2] 26)).alloc (.cells #[.int .i64 0, .int .i64 0, .int .i64 0] 37)) (.agg #[.slice p0 q0 r0, .slice p1 q1 r1, .slice p2 q2 r2]) p) := Lib.hid (K3.out.cha (((Cha.refl (fun _ => False) w3).alloc _).alloc _))))
        | (go_at_call 21; ((with_reducible refine ((samep_c (HP.out.cha C4.out) K4.out)).mono ?_); rintro e w4 ⟨rfl, k1⟩; have C7 := Lib.hid (C4.out.trans k1); clear k1 b0 b1 b2 l3))
        | (go_at_call 19; ((with_reducible refine (CD.out _ C7.out).mono ?_); rintro e w5 ⟨e0, i0, f0, e1, i1, f1, e2, i2, f2, rfl, k1, k2⟩; have K5 := Lib.hid k1; have C5 := Lib.hid (C7.out.trans k2); clear k1 k2)))
      go_ret
      exact ⟨rfl, (C5.out.alloc _).alloc _⟩
    · have hE1 : (E1 == 0) = false := by simpa using hE
      clear DE hE
      go_enter Try.func5, Try.ntmps5
      go_wp2_with (first
        | (go_at_call 17; ((with_reducible refine (AW.out).mono ?_); rintro e w1 ⟨rfl, k1⟩; have C1 := Lib.hid (C0.out.trans k1); have X1 := Lib.hid ((k1.old _ (Array.getElem?_eq_some_iff.1 X0.out).1 (fun f => f)).trans X0.out); clear k1; have b0 := cell_of_row w1 W.heap.size 0 _ 26 (0, 0) X1.out; have b1 := cell_of_row w1 W.heap.size 1 _ 26 (0, 0) X1.out; have b2 := cell_of_row w1 W.heap.size 2 _ 26 (0, 0) X1.out))
        | (go_at_call 15; ((with_reducible refine (CE.out _ C1.out).mono ?_); rintro e w2 ⟨x2, y2, rfl, k1, k2⟩; have T2 := Lib.hid k1; have C2 := Lib.hid (C1.out.trans k2); have X2 := Lib.hid ((k2.old _ (Array.getElem?_eq_some_iff.1 X1.out).1 (fun f => f)).trans X1.out); clear k1 k2 b0 b1 b2))
        | (go_at_call 19; ((with_reducible refine (CD.out _ C2.out).mono ?_); rintro e w5 ⟨e0, i0, f0, e1, i1, f1, e2, i2, f2, rfl, k1, k2⟩; have K5 := Lib.hid k1; have C5 := Lib.hid (C2.out.trans k2); clear k1 k2)))
      go_ret
      exact ⟨rfl, (C5.out.alloc _).alloc _⟩
end Go.Proofs.Ytpdjbhnpahkbpaa

namespace Go.Proofs.Ytpdjbhnpahkbpaa
open Go.ChangeShapes Go.WideShapes Go.ChangeAt Go.RowKit
theorem same_of_cha {W W' : World} (h : Cha (fun _ => False) W W') {p : MemPlace} (hp : p.block < W.heap.size) : W.sameAt W' p := by
  have e := h.old _ hp (fun x => x)
  cases p with
  | cell b o => show W'.cell? ⟨b, o, none⟩ = W.cell? ⟨b, o, none⟩; have e : W'.heap[b]? = W.heap[b]? := e; simp [World.cell?, e]
  | map b => exact e
theorem stays_cha {H : Type} {enc : TypeId × Value → H} {W W' : World} {sp : Nat → Bool} {t : TypeId} {v : Value} {d : DataW H} {ps : List MemPlace} (hr : Try.prog.readableRec t = true) (hrow : t < Try.prog.types.size)
    (h : DataW.Trod enc Try.prog W 0 (fun _ => true) true t v d ps) (hg : Cha (fun _ => False) W W') (hb : ∀ p ∈ ps, p.block < W.heap.size) (hsp : ∀ p ∈ ps, sp p.block = true) : DataW.Trod enc Try.prog W' 0 sp true t v d ps :=
  WideElems.Trod_stays laidOut hr hrow h (fun p hp => same_of_cha hg (hb p hp)) hsp
section
variable {H : Type} {enc : TypeId × Value → H} {W : World} {base : Nat} {spare : Nat → Bool} {held : Bool}
theorem byte_elem {fuel : Nat} {cs : List Value} {x : DataW H × List MemPlace} (h : DataW.trod enc Try.prog W base spare held fuel 5 cs = some x) :
    cs.length = 1 ∧ ∃ y : Nat, ∀ b o, (∀ (j : Nat) (v : Value), cs[j]? = some v → W.cell? ⟨b, o + j, none⟩ = some v) → RdU8 (· < W.heap.size) W b o y := by
  obtain ⟨z, rfl, _, w⟩ := DataW.trod_int Try.underlying5 h
  have g1 := u8_lo w
  have g2 := u8_hi w
  refine ⟨rfl, z.toNat, fun b o hc => ⟨?_, by omega⟩⟩
  rw [Int.toNat_of_nonneg g1]
  exact hc 0 _ rfl
theorem text_of {fuel : Nat} {a : Option Addr} {len c : Nat} {x : DataW H × List MemPlace} (h : DataW.trod enc Try.prog W base spare held fuel 27 (Value.slice a len c).cells.toList = some x) : ∃ T, HasT W a len c T := by
  obtain ⟨T, hl, hT⟩ := rds_of Try.underlying27 cell5 (by omega) (fun _ _ _ h => byte_elem h) h
  refine ⟨T, hT, hl, ?_⟩
  rcases DataW.trod_slice Try.underlying27 h with ⟨hcs, _⟩ | ⟨a', len', cap', elems, rest, n, _, hcs, _, hb, hl, hm, _⟩
  · simp [Value.cells] at hcs
    omega
  · simp [Value.cells] at hcs
    omega
set_option maxRecDepth 100000 in
theorem prog_arg {r : Reach} {b0 fuel : Nat} {v : Value} {x : DataW H × List MemPlace} (hv : Value.okWide Try.prog W r b0 26 v) (h : DataW.trod enc Try.prog W base spare held fuel 26 v.cells.toList = some x) : ∃ v0 v1 v2, v = .agg #[v0, v1, v2] ∧ ∃ p, HasP W (.agg #[v0, v1, v2]) p := by
  obtain ⟨p, hp⟩ := prog_of hv h
  have hp' := hp
  obtain ⟨v0, v1, v2, rfl, _⟩ := hp'
  exact ⟨v0, v1, v2, rfl, p, hp⟩
end
end Go.Proofs.Ytpdjbhnpahkbpaa
