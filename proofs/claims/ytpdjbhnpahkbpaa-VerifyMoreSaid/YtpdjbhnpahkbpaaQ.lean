/- Decode. -/
import Derived.Test.YtpdjbhnpahkbpaaO
namespace Go.Proofs.Ytpdjbhnpahkbpaa
open Go.ChangeShapes Go.WideShapes Go.ChangeAt Go.RowKit

/-- What Decode leaves. -/
def Decd (W : World) (r : PZ × FT) (e : Ending) (w' : World) : Prop := ∃ v0 v1 v2, e = .returned (.tuple #[.agg #[v0, v1, v2], .agg #[.int .i64 r.2.e, .int .i64 r.2.f, .int .i64 r.2.at_]]) ∧ RdP (fun i => W.heap.size ≤ i) w' (.agg #[v0, v1, v2]) r.1 ∧ Cha (fun _ => False) W w'
theorem Decd.of {W w' : World} {e : Ending} {r r' : PZ × FT} (h : Decd W r e w') (he : r = r') : Decd W r' e w' := he ▸ h
theorem nop_reads (B : Nat → Prop) (W : World) : RdP B W (.agg #[.slice none 0 0, .slice none 0 0, .slice none 0 0]) noP := ⟨_, _, _, rfl, RdS.nil _ _ _ _, RdS.nil _ _ _ _, RdS.nil _ _ _ _⟩
theorem dec8_long {T : List Nat} (h : 16384 < T.length) : dec8 T = (noP, ⟨2, -1, 0⟩) := by unfold dec8; rw [if_pos h]
theorem dec8_bad {T : List Nat} (h : ¬ 16384 < T.length) (he : (rProg T ⟨0, 0, 0⟩).2.e ≠ 0) : dec8 T = (noP, ⟨(rProg T ⟨0, 0, 0⟩).2.e, -1, (rProg T ⟨0, 0, 0⟩).2.fa⟩) := by unfold dec8; rw [if_neg h]; simp only; rw [if_pos he]
theorem dec8_more {T : List Nat} (h : ¬ 16384 < T.length) (he : (rProg T ⟨0, 0, 0⟩).2.e = 0) (ha : (rProg T ⟨0, 0, 0⟩).2.at_ < T.length) : dec8 T = (noP, ⟨7, -1, (rProg T ⟨0, 0, 0⟩).2.at_⟩) := by unfold dec8; rw [if_neg h]; simp only; rw [if_neg (fun c => c he), if_pos ha]
theorem dec8_ok {T : List Nat} (h : ¬ 16384 < T.length) (he : (rProg T ⟨0, 0, 0⟩).2.e = 0) (ha : ¬ (rProg T ⟨0, 0, 0⟩).2.at_ < T.length) : dec8 T = ((rProg T ⟨0, 0, 0⟩).1, ⟨0, 0, 0⟩) := by unfold dec8; rw [if_neg h]; simp only; rw [if_neg (fun c => c he), if_neg ha]

/-- The two results' places lie as they were laid. -/
def Res (W w : World) : Prop := w.heap[W.heap.size]? = some (.cells #[.slice none 0 0, .slice none 0 0, .slice none 0 0] 26) ∧ w.heap[W.heap.size + 1]? = some (.cells #[.int .i64 0, .int .i64 0, .int .i64 0] 37)
theorem res_new (W : World) : Res W ((W.alloc (.cells #[.slice none 0 0, .slice none 0 0, .slice none 0 0] 26)).alloc (.cells #[.int .i64 0, .int .i64 0, .int .i64 0] 37)) := by
  have e := heap_alloc_new (W.alloc (.cells #[.slice none 0 0, .slice none 0 0, .slice none 0 0] 26)) (.cells #[.int .i64 0, .int .i64 0, .int .i64 0] 37)
  rw [World.size_alloc] at e
  exact ⟨(heap_alloc_old _ _ (by rw [World.size_alloc]; omega)).trans (heap_alloc_new W _), e⟩
theorem Res.cha {S : Nat → Prop} {W w w' : World} (h : Res W w) (c : Cha S w w') (hs : ∀ i, S i → i < W.heap.size ∨ W.heap.size + 2 ≤ i) : Res W w' := by
  have l1 := (Array.getElem?_eq_some_iff.1 h.1).1
  have l2 := (Array.getElem?_eq_some_iff.1 h.2).1
  exact ⟨(c.old _ l1 fun k => by have := hs _ k; omega).trans h.1, (c.old _ l2 fun k => by have := hs _ k; omega).trans h.2⟩
/-- Both results are written. -/
theorem res_puts {W w : World} {B : Nat → Prop} {v0 v1 v2 : Value} {p : PZ} (c : Cha (fun _ => False) W w) (hp : RdP B w (.agg #[v0, v1, v2]) p) (hB : ∀ i, B i → W.heap.size + 2 ≤ i) (l l' : List Value) :
    RdP (fun i => W.heap.size ≤ i) (puts (puts w W.heap.size 0 l) (W.heap.size + 1) 0 l') (.agg #[v0, v1, v2]) p ∧ Cha (fun _ => False) W (puts (puts w W.heap.size 0 l) (W.heap.size + 1) 0 l') := by
  have c1 := puts_cha W.heap.size l w 0
  have c2 := puts_cha (W.heap.size + 1) l' (puts w W.heap.size 0 l) 0
  have h1 := hp.cha (B' := fun i => W.heap.size + 2 ≤ i) c1 (fun i e hb => by have e : i = W.heap.size := e; have := hB i hb; omega) hB
  exact ⟨h1.cha c2 (fun i e hb => by have e : i = W.heap.size + 1 := e; have hb : W.heap.size + 2 ≤ i := hb; omega) (fun i hb => by have hb : W.heap.size + 2 ≤ i := hb; show W.heap.size ≤ i; omega), (c.over c1 (fun i e => by have e : i = W.heap.size := e; exact .inr (by omega))).over c2 (fun i e => by have e : i = W.heap.size + 1 := e; exact .inr (by omega))⟩
set_option maxRecDepth 100000 in
set_option maxHeartbeats 2000000 in
theorem decode_long {a : Option Addr} {n c : Nat} {T : List Nat} {W : World} (hn : n = T.length) (hl : 16384 < n) : Calls Try.prog 19 #[.slice a n c] W (Decd W (dec8 T)) := by
  have HE := Lib.hid (dec8_long (T := T) (by omega))
  have hl' : (16384 : Int) < (n : Int) := by omega
  have R0 := Lib.hid (res_new W)
  have C0 : Hid (Cha (fun _ => False) W ((W.alloc (.cells #[.slice none 0 0, .slice none 0 0, .slice none 0 0] 26)).alloc (.cells #[.int .i64 0, .int .i64 0, .int .i64 0] 37))) := Lib.hid (((Cha.refl _ W).alloc _).alloc _)
  clear hn
  go_enter Try.func19, Try.ntmps19
  go_wp2_with (go_at_call 33; ((with_reducible refine (fault_any _ _ _).mono ?_); rintro e w2 ⟨rfl, kc⟩; have R1 := Lib.hid (R0.out.cha kc (fun i f => f.elim)); have C1 := Lib.hid (C0.out.trans kc); clear kc; have x0 := cell_of_row w2 W.heap.size 0 _ 26 (0, 0) R1.out.1; have fx0 := frozen_of_row w2 W.heap.size 0 _ 26 R1.out.1; have y0 := cell_of_row w2 (W.heap.size + 1) 0 _ 37 (0, 0) R1.out.2; have fy0 := frozen_of_row w2 (W.heap.size + 1) 0 _ 37 R1.out.2; have x1 := cell_of_row w2 W.heap.size 1 _ 26 (0, 0) R1.out.1; have fx1 := frozen_of_row w2 W.heap.size 1 _ 26 R1.out.1; have y1 := cell_of_row w2 (W.heap.size + 1) 1 _ 37 (0, 0) R1.out.2; have fy1 := frozen_of_row w2 (W.heap.size + 1) 1 _ 37 R1.out.2; have x2 := cell_of_row w2 W.heap.size 2 _ 26 (0, 0) R1.out.1; have fx2 := frozen_of_row w2 W.heap.size 2 _ 26 R1.out.1; have y2 := cell_of_row w2 (W.heap.size + 1) 2 _ 37 (0, 0) R1.out.2; have fy2 := frozen_of_row w2 (W.heap.size + 1) 2 _ 37 R1.out.2))
  have P := res_puts C1.out (nop_reads (fun i => W.heap.size + 2 ≤ i) w2) (fun _ h => h) [.slice none 0 0, .slice none 0 0, .slice none 0 0] [.int .i64 2, .int .i64 (-1), .int .i64 0]
  exact bodyPost_ret (v := .tuple #[.agg #[.slice none 0 0, .slice none 0 0, .slice none 0 0], .agg #[.int .i64 2, .int .i64 (-1), .int .i64 0]]) (by simp [results, Try.results19, go_sem, x0, x1, x2, y0, y1, y2]) rfl (Decd.of (r := (noP, ⟨2, -1, 0⟩)) ⟨_, _, _, rfl, P.1, P.2⟩ HE.out.symm)
theorem rdp_shape {B : Nat → Prop} {W : World} {v0 v1 v2 : Value} {p : PZ} (h : RdP B W (.agg #[v0, v1, v2]) p) : (∃ a n c, v0 = .slice a n c) ∧ (∃ a n c, v1 = .slice a n c) ∧ ∃ a n c, v2 = .slice a n c := by
  obtain ⟨u0, u1, u2, e, h0, h1, h2⟩ := h
  injection e with e
  have e0 : v0 = u0 ∧ v1 = u1 ∧ v2 = u2 := by simpa using e
  obtain ⟨rfl, rfl, rfl⟩ := e0
  exact ⟨rds_shape h0, rds_shape h1, rds_shape h2⟩
set_option maxRecDepth 100000 in
set_option maxHeartbeats 2000000 in
theorem decode_prog {a : Option Addr} {n c : Nat} {T : List Nat} {W : World} (h : RdS 1 RdU8 (· < W.heap.size) W (.slice a n c) T) (hn : n = T.length) (hc : n ≤ c) :
    Calls Try.prog 34 #[.pointer (some ⟨W.heap.size + 1 + 1, 0, none⟩)] (((W.alloc (.cells #[.slice none 0 0, .slice none 0 0, .slice none 0 0] 26)).alloc (.cells #[.int .i64 0, .int .i64 0, .int .i64 0] 37)).alloc (.cells #[.slice a n c, .int .i64 0, .int .i64 0, .int .i64 0, .int .i64 0] 81)) fun e w' => ∃ v0 v1 v2, e = .returned (.agg #[v0, v1, v2]) ∧ RdP (fun i => W.heap.size + 2 ≤ i) w' (.agg #[v0, v1, v2]) (rProg T ⟨0, 0, 0⟩).1 ∧ Rd (· < W.heap.size) w' (W.heap.size + 1 + 1) T (rProg T ⟨0, 0, 0⟩).2 ∧ Res W w' ∧ Cha (fun _ => False) W w' := by
  have c3 : Cha (fun _ => False) W (((W.alloc (.cells #[.slice none 0 0, .slice none 0 0, .slice none 0 0] 26)).alloc (.cells #[.int .i64 0, .int .i64 0, .int .i64 0] 37)).alloc (.cells #[.slice a n c, .int .i64 0, .int .i64 0, .int .i64 0, .int .i64 0] 81)) := (((Cha.refl _ W).alloc _).alloc _).alloc _
  have hs : ((W.alloc (.cells #[.slice none 0 0, .slice none 0 0, .slice none 0 0] 26)).alloc (.cells #[.int .i64 0, .int .i64 0, .int .i64 0] 37)).heap.size = W.heap.size + 1 + 1 := by rw [World.size_alloc, World.size_alloc]
  have hn3 := heap_alloc_new ((W.alloc (.cells #[.slice none 0 0, .slice none 0 0, .slice none 0 0] 26)).alloc (.cells #[.int .i64 0, .int .i64 0, .int .i64 0] 37)) (.cells #[.slice a n c, .int .i64 0, .int .i64 0, .int .i64 0, .int .i64 0] 81)
  rw [hs] at hn3
  have hR : Rd (· < W.heap.size) (((W.alloc (.cells #[.slice none 0 0, .slice none 0 0, .slice none 0 0] 26)).alloc (.cells #[.int .i64 0, .int .i64 0, .int .i64 0] 37)).alloc (.cells #[.slice a n c, .int .i64 0, .int .i64 0, .int .i64 0, .int .i64 0] 81)) (W.heap.size + 1 + 1) T ⟨0, 0, 0⟩ := ⟨⟨a, c, by rw [← hn]; exact hn3, by rw [← hn]; exact h.bytes c3 (fun _ f => f.elim) (fun _ h => h), by omega⟩, fun i hi => by have hi : i < W.heap.size := hi; omega, ⟨Nat.zero_le _, Nat.zero_le _, fun _ => rfl⟩⟩
  have r3 : Res W (((W.alloc (.cells #[.slice none 0 0, .slice none 0 0, .slice none 0 0] 26)).alloc (.cells #[.int .i64 0, .int .i64 0, .int .i64 0] 37)).alloc (.cells #[.slice a n c, .int .i64 0, .int .i64 0, .int .i64 0, .int .i64 0] 81)) := (res_new W).cha ((Cha.refl (fun _ => False) _).alloc _) (fun i f => f.elim)
  refine (rprog_any hR).mono fun e w' ⟨v, he, hp, h1, h2⟩ => ?_
  have hsz : W.heap.size + 3 = (((W.alloc (.cells #[.slice none 0 0, .slice none 0 0, .slice none 0 0] 26)).alloc (.cells #[.int .i64 0, .int .i64 0, .int .i64 0] 37)).alloc (.cells #[.slice a n c, .int .i64 0, .int .i64 0, .int .i64 0, .int .i64 0] 81)).heap.size := by rw [World.size_alloc, hs]
  obtain ⟨v0, v1, v2, rfl, hp'⟩ := hp
  refine ⟨v0, v1, v2, he, RdP.cha (B := fun i => (((W.alloc (.cells #[.slice none 0 0, .slice none 0 0, .slice none 0 0] 26)).alloc (.cells #[.int .i64 0, .int .i64 0, .int .i64 0] 37)).alloc (.cells #[.slice a n c, .int .i64 0, .int .i64 0, .int .i64 0, .int .i64 0] 81)).heap.size ≤ i) ⟨_, _, _, rfl, hp'⟩ (Cha.refl (fun _ => False) _) (fun _ f => f.elim) (fun i hi => by have hi : (((W.alloc (.cells #[.slice none 0 0, .slice none 0 0, .slice none 0 0] 26)).alloc (.cells #[.int .i64 0, .int .i64 0, .int .i64 0] 37)).alloc (.cells #[.slice a n c, .int .i64 0, .int .i64 0, .int .i64 0, .int .i64 0] 81)).heap.size ≤ i := hi; show W.heap.size + 2 ≤ i; omega), h1, r3.cha h2 (fun i e => by have e : i = W.heap.size + 1 + 1 := e; omega), c3.over h2 (fun i e => by have e : i = W.heap.size + 1 + 1 := e; exact .inr (by omega))⟩
set_option maxRecDepth 100000 in
set_option maxHeartbeats 2000000 in
theorem decode_short {a : Option Addr} {n c : Nat} {T : List Nat} {W : World} (h : RdS 1 RdU8 (· < W.heap.size) W (.slice a n c) T) (hn : n = T.length) (hc : n ≤ c) (hl : ¬ 16384 < n) : Calls Try.prog 19 #[.slice a n c] W (Decd W (dec8 T)) := by
  have hl' : ¬ (16384 : Int) < (n : Int) := by omega
  have CP := Lib.hid (decode_prog h hn hc)
  have EB := Lib.hid (dec8_bad (T := T) (by omega))
  have EM := Lib.hid (dec8_more (T := T) (by omega))
  have EO := Lib.hid (dec8_ok (T := T) (by omega))
  obtain ⟨p, hp⟩ : ∃ p, p = rProg T ⟨0, 0, 0⟩ := ⟨_, rfl⟩
  rw [← hp] at CP EB EM EO
  clear hp
  obtain ⟨p, at_, E, fa⟩ := p
  simp only [← hn] at EM EO
  clear h hc hn
  by_cases hE : E = 0
  · subst hE
    by_cases ha : at_ < n
    · have ha' : (at_ : Int) < (n : Int) := by omega
      have EM2 := Lib.hid (EM.out (by first | rfl | trivial) ha)
      have HF : Hid (∀ W2, Rd (· < W.heap.size) W2 (W.heap.size + 1 + 1) T ⟨at_, 0, fa⟩ → Rd (· < W.heap.size) (puts W2 (W.heap.size + 1 + 1) 2 [.int .i64 7, .int .i64 (-1), .int .i64 (at_ : Int)]) (W.heap.size + 1 + 1) T ⟨at_, 7, at_⟩ ∧ Cha (fun i => i = W.heap.size + 1 + 1) W2 (puts W2 (W.heap.size + 1 + 1) 2 [.int .i64 7, .int .i64 (-1), .int .i64 (at_ : Int)])) := Lib.hid (fun W2 h2 => h2.fail 7 at_ ⟨at_, 7, at_⟩ rfl (by decide) ⟨h2.ok.le, h2.ok.le, fun e => by have e : (7 : Int) = 0 := e; omega⟩)
      clear EM EO EB
      go_enter Try.func19, Try.ntmps19
      go_wp2_with (first
        | (go_at_call 34; ((with_reducible refine (CP.out).mono ?_); rintro e w1 ⟨v0, v1, v2, rfl, k1, k2, k3, k4⟩; obtain ⟨⟨va0, vn0, vc0, rfl⟩, ⟨va1, vn1, vc1, rfl⟩, ⟨va2, vn2, vc2, rfl⟩⟩ := rdp_shape k1; have K1 := Lib.hid k1; have K2 := Lib.hid (k2.alloc (.cells #[.slice va0 vn0 vc0, .slice va1 vn1 vc1, .slice va2 vn2 vc2] 26)); have R2 := Lib.hid (k3.cha ((Cha.refl (fun _ => False) w1).alloc (.cells #[.slice va0 vn0 vc0, .slice va1 vn1 vc1, .slice va2 vn2 vc2] 26)) (fun i f => f.elim)); have C2 := Lib.hid (k4.alloc (.cells #[.slice va0 vn0 vc0, .slice va1 vn1 vc1, .slice va2 vn2 vc2] 26)); have c2 := K2.out.err; have c1 := K2.out.pos; have B5 := Lib.hid (heap_alloc_new w1 (.cells #[.slice va0 vn0 vc0, .slice va1 vn1 vc1, .slice va2 vn2 vc2] 26)); clear k1 k2 k3 k4; have x0 := cell_of_row (w1.alloc (.cells #[.slice va0 vn0 vc0, .slice va1 vn1 vc1, .slice va2 vn2 vc2] 26)) W.heap.size 0 _ 26 (0, 0) R2.out.1; have fx0 := frozen_of_row (w1.alloc (.cells #[.slice va0 vn0 vc0, .slice va1 vn1 vc1, .slice va2 vn2 vc2] 26)) W.heap.size 0 _ 26 R2.out.1; have y0 := cell_of_row (w1.alloc (.cells #[.slice va0 vn0 vc0, .slice va1 vn1 vc1, .slice va2 vn2 vc2] 26)) (W.heap.size + 1) 0 _ 37 (0, 0) R2.out.2; have fy0 := frozen_of_row (w1.alloc (.cells #[.slice va0 vn0 vc0, .slice va1 vn1 vc1, .slice va2 vn2 vc2] 26)) (W.heap.size + 1) 0 _ 37 R2.out.2; have x1 := cell_of_row (w1.alloc (.cells #[.slice va0 vn0 vc0, .slice va1 vn1 vc1, .slice va2 vn2 vc2] 26)) W.heap.size 1 _ 26 (0, 0) R2.out.1; have fx1 := frozen_of_row (w1.alloc (.cells #[.slice va0 vn0 vc0, .slice va1 vn1 vc1, .slice va2 vn2 vc2] 26)) W.heap.size 1 _ 26 R2.out.1; have y1 := cell_of_row (w1.alloc (.cells #[.slice va0 vn0 vc0, .slice va1 vn1 vc1, .slice va2 vn2 vc2] 26)) (W.heap.size + 1) 1 _ 37 (0, 0) R2.out.2; have fy1 := frozen_of_row (w1.alloc (.cells #[.slice va0 vn0 vc0, .slice va1 vn1 vc1, .slice va2 vn2 vc2] 26)) (W.heap.size + 1) 1 _ 37 R2.out.2; have x2 := cell_of_row (w1.alloc (.cells #[.slice va0 vn0 vc0, .slice va1 vn1 vc1, .slice va2 vn2 vc2] 26)) W.heap.size 2 _ 26 (0, 0) R2.out.1; have fx2 := frozen_of_row (w1.alloc (.cells #[.slice va0 vn0 vc0, .slice va1 vn1 vc1, .slice va2 vn2 vc2] 26)) W.heap.size 2 _ 26 R2.out.1; have y2 := cell_of_row (w1.alloc (.cells #[.slice va0 vn0 vc0, .slice va1 vn1 vc1, .slice va2 vn2 vc2] 26)) (W.heap.size + 1) 2 _ 37 (0, 0) R2.out.2; have fy2 := frozen_of_row (w1.alloc (.cells #[.slice va0 vn0 vc0, .slice va1 vn1 vc1, .slice va2 vn2 vc2] 26)) (W.heap.size + 1) 2 _ 37 R2.out.2))
        | (go_at_call 33; ((with_reducible refine (fault_any _ _ _).mono ?_); rintro e w2 ⟨rfl, kc⟩; have K3 := Lib.hid (K2.out.cha kc (fun f => f) (fun _ f => f.elim)); have R3 := Lib.hid (R2.out.cha kc (fun _ f => f.elim)); have C3 := Lib.hid (C2.out.trans kc); clear kc; have g2 := K3.out.err; have g3 := K3.out.cell3; have g4 := K3.out.cell4; have f2 := K3.out.free 2; have f3 := K3.out.free 3; have f4 := K3.out.free 4; have z0 := cell_of_row w2 W.heap.size 0 _ 26 (0, 0) R3.out.1; have fz0 := frozen_of_row w2 W.heap.size 0 _ 26 R3.out.1; have t0 := cell_of_row w2 (W.heap.size + 1) 0 _ 37 (0, 0) R3.out.2; have ft0 := frozen_of_row w2 (W.heap.size + 1) 0 _ 37 R3.out.2; have z1 := cell_of_row w2 W.heap.size 1 _ 26 (0, 0) R3.out.1; have fz1 := frozen_of_row w2 W.heap.size 1 _ 26 R3.out.1; have t1 := cell_of_row w2 (W.heap.size + 1) 1 _ 37 (0, 0) R3.out.2; have ft1 := frozen_of_row w2 (W.heap.size + 1) 1 _ 37 R3.out.2; have z2 := cell_of_row w2 W.heap.size 2 _ 26 (0, 0) R3.out.1; have fz2 := frozen_of_row w2 W.heap.size 2 _ 26 R3.out.1; have t2 := cell_of_row w2 (W.heap.size + 1) 2 _ 37 (0, 0) R3.out.2; have ft2 := frozen_of_row w2 (W.heap.size + 1) 2 _ 37 R3.out.2)))
      go_region
      all_goals
        go_wp2
      have C4 : Cha (fun _ => False) W (puts w2 (W.heap.size + 1 + 1) 2 [.int .i64 7, .int .i64 (-1), .int .i64 (at_ : Int)]) := C3.out.over (HF.out w2 K3.out).2 (fun i e => by have e : i = W.heap.size + 1 + 1 := e; exact .inr (by omega))
      refine bodyPost_ret (v := .tuple #[.agg #[.slice none 0 0, .slice none 0 0, .slice none 0 0], .agg #[.int .i64 7, .int .i64 (-1), .int .i64 (at_ : Int)]]) (by simp [results, Try.results19, go_sem, z0, z1, z2, t0, t1, t2]) rfl ?_
      exact Decd.of (r := (noP, ⟨7, -1, (at_ : Int)⟩)) ⟨_, _, _, rfl, nop_reads _ _, (res_puts C4 (nop_reads (fun i => W.heap.size + 2 ≤ i) _) (fun _ h => h) [.slice none 0 0, .slice none 0 0, .slice none 0 0] [.int .i64 7, .int .i64 (-1), .int .i64 (at_ : Int)]).2.drew⟩ EM2.out.symm
    · have ha' : ¬ (at_ : Int) < (n : Int) := by omega
      go_enter Try.func19, Try.ntmps19
      go_wp2_with (go_at_call 34; ((with_reducible refine (CP.out).mono ?_); rintro e w1 ⟨v0, v1, v2, rfl, k1, k2, k3, k4⟩; obtain ⟨⟨va0, vn0, vc0, rfl⟩, ⟨va1, vn1, vc1, rfl⟩, ⟨va2, vn2, vc2, rfl⟩⟩ := rdp_shape k1; have K1 := Lib.hid k1; have K2 := Lib.hid (k2.alloc (.cells #[.slice va0 vn0 vc0, .slice va1 vn1 vc1, .slice va2 vn2 vc2] 26)); have R2 := Lib.hid (k3.cha ((Cha.refl (fun _ => False) w1).alloc (.cells #[.slice va0 vn0 vc0, .slice va1 vn1 vc1, .slice va2 vn2 vc2] 26)) (fun i f => f.elim)); have C2 := Lib.hid (k4.alloc (.cells #[.slice va0 vn0 vc0, .slice va1 vn1 vc1, .slice va2 vn2 vc2] 26)); have c2 := K2.out.err; have c1 := K2.out.pos; have B5 := Lib.hid (heap_alloc_new w1 (.cells #[.slice va0 vn0 vc0, .slice va1 vn1 vc1, .slice va2 vn2 vc2] 26)); clear k1 k2 k3 k4; have x0 := cell_of_row (w1.alloc (.cells #[.slice va0 vn0 vc0, .slice va1 vn1 vc1, .slice va2 vn2 vc2] 26)) W.heap.size 0 _ 26 (0, 0) R2.out.1; have fx0 := frozen_of_row (w1.alloc (.cells #[.slice va0 vn0 vc0, .slice va1 vn1 vc1, .slice va2 vn2 vc2] 26)) W.heap.size 0 _ 26 R2.out.1; have y0 := cell_of_row (w1.alloc (.cells #[.slice va0 vn0 vc0, .slice va1 vn1 vc1, .slice va2 vn2 vc2] 26)) (W.heap.size + 1) 0 _ 37 (0, 0) R2.out.2; have fy0 := frozen_of_row (w1.alloc (.cells #[.slice va0 vn0 vc0, .slice va1 vn1 vc1, .slice va2 vn2 vc2] 26)) (W.heap.size + 1) 0 _ 37 R2.out.2; have x1 := cell_of_row (w1.alloc (.cells #[.slice va0 vn0 vc0, .slice va1 vn1 vc1, .slice va2 vn2 vc2] 26)) W.heap.size 1 _ 26 (0, 0) R2.out.1; have fx1 := frozen_of_row (w1.alloc (.cells #[.slice va0 vn0 vc0, .slice va1 vn1 vc1, .slice va2 vn2 vc2] 26)) W.heap.size 1 _ 26 R2.out.1; have y1 := cell_of_row (w1.alloc (.cells #[.slice va0 vn0 vc0, .slice va1 vn1 vc1, .slice va2 vn2 vc2] 26)) (W.heap.size + 1) 1 _ 37 (0, 0) R2.out.2; have fy1 := frozen_of_row (w1.alloc (.cells #[.slice va0 vn0 vc0, .slice va1 vn1 vc1, .slice va2 vn2 vc2] 26)) (W.heap.size + 1) 1 _ 37 R2.out.2; have x2 := cell_of_row (w1.alloc (.cells #[.slice va0 vn0 vc0, .slice va1 vn1 vc1, .slice va2 vn2 vc2] 26)) W.heap.size 2 _ 26 (0, 0) R2.out.1; have fx2 := frozen_of_row (w1.alloc (.cells #[.slice va0 vn0 vc0, .slice va1 vn1 vc1, .slice va2 vn2 vc2] 26)) W.heap.size 2 _ 26 R2.out.1; have y2 := cell_of_row (w1.alloc (.cells #[.slice va0 vn0 vc0, .slice va1 vn1 vc1, .slice va2 vn2 vc2] 26)) (W.heap.size + 1) 2 _ 37 (0, 0) R2.out.2; have fy2 := frozen_of_row (w1.alloc (.cells #[.slice va0 vn0 vc0, .slice va1 vn1 vc1, .slice va2 vn2 vc2] 26)) (W.heap.size + 1) 2 _ 37 R2.out.2))
      have P := res_puts C2.out (K1.out.cha ((Cha.refl (fun _ => False) w1).alloc (.cells #[.slice va0 vn0 vc0, .slice va1 vn1 vc1, .slice va2 vn2 vc2] 26)) (fun _ f => f.elim) (fun _ h => h)) (fun _ h => h) [.slice va0 vn0 vc0, .slice va1 vn1 vc1, .slice va2 vn2 vc2] [.int .i64 0, .int .i64 0, .int .i64 0]
      exact bodyPost_ret (v := .tuple #[.agg #[.slice va0 vn0 vc0, .slice va1 vn1 vc1, .slice va2 vn2 vc2], .agg #[.int .i64 0, .int .i64 0, .int .i64 0]]) (by simp [results, Try.results19, go_sem, x0, x1, x2, y0, y1, y2]) rfl (Decd.of (r := (p, ⟨0, 0, 0⟩)) ⟨_, _, _, rfl, P.1, P.2⟩ (EO.out (by first | rfl | trivial) ha).symm)
  · have he1 : (E == 0) = false := by simpa using hE
    have he2 : (E != 0) = true := by simpa using hE
    have EB2 := Lib.hid (EB.out hE)
    have hE' := Lib.hid hE
    clear EB EO EM hE
    go_enter Try.func19, Try.ntmps19
    go_wp2_with (go_at_call 34; ((with_reducible refine (CP.out).mono ?_); rintro e w1 ⟨v0, v1, v2, rfl, k1, k2, k3, k4⟩; obtain ⟨⟨va0, vn0, vc0, rfl⟩, ⟨va1, vn1, vc1, rfl⟩, ⟨va2, vn2, vc2, rfl⟩⟩ := rdp_shape k1; have K1 := Lib.hid k1; have K2 := Lib.hid (k2.alloc (.cells #[.slice va0 vn0 vc0, .slice va1 vn1 vc1, .slice va2 vn2 vc2] 26)); have R2 := Lib.hid (k3.cha ((Cha.refl (fun _ => False) w1).alloc (.cells #[.slice va0 vn0 vc0, .slice va1 vn1 vc1, .slice va2 vn2 vc2] 26)) (fun i f => f.elim)); have C2 := Lib.hid (k4.alloc (.cells #[.slice va0 vn0 vc0, .slice va1 vn1 vc1, .slice va2 vn2 vc2] 26)); have c2 := K2.out.err; have c1 := K2.out.pos; have B5 := Lib.hid (heap_alloc_new w1 (.cells #[.slice va0 vn0 vc0, .slice va1 vn1 vc1, .slice va2 vn2 vc2] 26)); clear k1 k2 k3 k4; have x0 := cell_of_row (w1.alloc (.cells #[.slice va0 vn0 vc0, .slice va1 vn1 vc1, .slice va2 vn2 vc2] 26)) W.heap.size 0 _ 26 (0, 0) R2.out.1; have fx0 := frozen_of_row (w1.alloc (.cells #[.slice va0 vn0 vc0, .slice va1 vn1 vc1, .slice va2 vn2 vc2] 26)) W.heap.size 0 _ 26 R2.out.1; have y0 := cell_of_row (w1.alloc (.cells #[.slice va0 vn0 vc0, .slice va1 vn1 vc1, .slice va2 vn2 vc2] 26)) (W.heap.size + 1) 0 _ 37 (0, 0) R2.out.2; have fy0 := frozen_of_row (w1.alloc (.cells #[.slice va0 vn0 vc0, .slice va1 vn1 vc1, .slice va2 vn2 vc2] 26)) (W.heap.size + 1) 0 _ 37 R2.out.2; have x1 := cell_of_row (w1.alloc (.cells #[.slice va0 vn0 vc0, .slice va1 vn1 vc1, .slice va2 vn2 vc2] 26)) W.heap.size 1 _ 26 (0, 0) R2.out.1; have fx1 := frozen_of_row (w1.alloc (.cells #[.slice va0 vn0 vc0, .slice va1 vn1 vc1, .slice va2 vn2 vc2] 26)) W.heap.size 1 _ 26 R2.out.1; have y1 := cell_of_row (w1.alloc (.cells #[.slice va0 vn0 vc0, .slice va1 vn1 vc1, .slice va2 vn2 vc2] 26)) (W.heap.size + 1) 1 _ 37 (0, 0) R2.out.2; have fy1 := frozen_of_row (w1.alloc (.cells #[.slice va0 vn0 vc0, .slice va1 vn1 vc1, .slice va2 vn2 vc2] 26)) (W.heap.size + 1) 1 _ 37 R2.out.2; have x2 := cell_of_row (w1.alloc (.cells #[.slice va0 vn0 vc0, .slice va1 vn1 vc1, .slice va2 vn2 vc2] 26)) W.heap.size 2 _ 26 (0, 0) R2.out.1; have fx2 := frozen_of_row (w1.alloc (.cells #[.slice va0 vn0 vc0, .slice va1 vn1 vc1, .slice va2 vn2 vc2] 26)) W.heap.size 2 _ 26 R2.out.1; have y2 := cell_of_row (w1.alloc (.cells #[.slice va0 vn0 vc0, .slice va1 vn1 vc1, .slice va2 vn2 vc2] 26)) (W.heap.size + 1) 2 _ 37 (0, 0) R2.out.2; have fy2 := frozen_of_row (w1.alloc (.cells #[.slice va0 vn0 vc0, .slice va1 vn1 vc1, .slice va2 vn2 vc2] 26)) (W.heap.size + 1) 2 _ 37 R2.out.2))
    have q3 : (w1.alloc (.cells #[.slice va0 vn0 vc0, .slice va1 vn1 vc1, .slice va2 vn2 vc2] 26)).cell? ⟨W.heap.size + 1 + 1, 3, none⟩ = some (.int .i64 (-1)) := by
      rw [K2.out.cell3]
      unfold RSt.fn
      rw [if_neg hE'.out]
    have q4 := K2.out.cell4
    go_region
    all_goals
      go_wp2
    refine bodyPost_ret (v := .tuple #[.agg #[.slice none 0 0, .slice none 0 0, .slice none 0 0], .agg #[.int .i64 E, .int .i64 (-1), .int .i64 (fa : Int)]]) (by simp [results, Try.results19, go_sem, x0, x1, x2, y0, y1, y2]) rfl ?_
    exact Decd.of (r := (noP, ⟨E, -1, (fa : Int)⟩)) ⟨_, _, _, rfl, nop_reads _ _, (res_puts C2.out (nop_reads (fun i => W.heap.size + 2 ≤ i) _) (fun _ h => h) [.slice none 0 0, .slice none 0 0, .slice none 0 0] [.int .i64 E, .int .i64 (-1), .int .i64 (fa : Int)]).2.drew⟩ EB2.out.symm
theorem decode_any {a : Option Addr} {n c : Nat} {T : List Nat} {W : World} (h : RdS 1 RdU8 (· < W.heap.size) W (.slice a n c) T) (hn : n = T.length) (hc : n ≤ c) : Calls Try.prog 19 #[.slice a n c] W (Decd W (dec8 T)) := by
  by_cases hl : 16384 < n
  · exact decode_long hn hl
  · exact decode_short h hn hc hl
end Go.Proofs.Ytpdjbhnpahkbpaa
