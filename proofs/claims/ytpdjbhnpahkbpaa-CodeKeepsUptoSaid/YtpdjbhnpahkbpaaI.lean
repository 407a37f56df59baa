/- Encode. -/
import Derived.Test.YtpdjbhnpahkbpaaH
namespace Go.Proofs.Ytpdjbhnpahkbpaa
open Go.ChangeShapes Go.WideShapes Go.ChangeAt Go.RowKit

theorem own_shape {w : World} {B : Nat} {t : TypeId} {size n : Nat} {v : Value} {xs : List Value} (h : w.ownsRow B t size v n xs) : ∃ a c, v = .slice a n c := by
  rcases h.2 with ⟨rfl, rfl⟩ | ⟨g, cap, cur, rfl, _⟩
  · exact ⟨none, 0, rfl⟩
  · exact ⟨_, _, rfl⟩
/-- What Encode leaves: bytes in new memory, an error. -/
def Encd (W : World) (s : St) (e : Ending) (w' : World) : Prop := ∃ a c, e = .returned (.tuple #[.slice a s.t.length c, .int .i64 s.e]) ∧ w'.ownsRow W.heap.size 5 1 (.slice a s.t.length c) s.t.length (bz s.t) ∧ Cha (fun _ => False) W w'
theorem enc8_bad {p : PZ} (h : (wProg p ⟨[], 0⟩).e ≠ 0) : enc8 p = ⟨[], (wProg p ⟨[], 0⟩).e⟩ := by unfold enc8; exact if_pos h
theorem enc8_long {p : PZ} (h : (wProg p ⟨[], 0⟩).e = 0) (hl : 16384 < (wProg p ⟨[], 0⟩).t.length) : enc8 p = ⟨[], 2⟩ := by unfold enc8; simp only; rw [if_neg (fun c => c h), if_pos hl]
theorem enc8_ok {p : PZ} (h : (wProg p ⟨[], 0⟩).e = 0) (hl : ¬ 16384 < (wProg p ⟨[], 0⟩).t.length) : enc8 p = wProg p ⟨[], 0⟩ := by unfold enc8; simp only; rw [if_neg (fun c => c h), if_neg hl]
theorem Encd.of {W w' : World} {e : Ending} {s s' : St} (h : Encd W s e w') (he : s = s') : Encd W s' e w' := he ▸ h
set_option maxRecDepth 100000 in
set_option maxHeartbeats 2000000 in
theorem encode_any {B : Nat → Prop} {W : World} {v : Value} {p : PZ} (hp : RdP B W v p) (hB : ∀ i, B i → i < W.heap.size) : Calls Try.prog 15 #[v] W (Encd W (enc8 p)) := by
  obtain ⟨v0, v1, v2, rfl, h0, h1, h2⟩ := hp.cha (B' := (· < W.heap.size)) (Cha.refl (fun _ => False) W) (fun _ f => f.elim) hB
  clear hp
  have HP : Hid (∀ o o', ∀ W1, W1 = (W.alloc o).alloc o' → RdS 2 RdTy (· < W.heap.size) W1 v0 p.ty ∧ RdS 1 RdI (· < W.heap.size) W1 v1 p.gl ∧ RdS 4 RdFn (· < W.heap.size) W1 v2 p.fu) := Lib.hid fun o o' W1 e => by
    have c := ((Cha.refl (fun _ => False) W).alloc o).alloc o'
    rw [← e] at c
    exact ⟨h0.tys c (fun _ f => f.elim) (fun _ h => h), h1.ints c (fun _ f => f.elim) (fun _ h => h), h2.fns c (fun _ f => f.elim) (fun _ h => h)⟩
  have CP : Hid (∀ o, Calls Try.prog 28 #[.pointer (some ⟨W.heap.size + 1, 0, none⟩), .agg #[v0, v1, v2]] ((W.alloc o).alloc (.cells #[.slice none 0 0, .int .i64 0] 71)) (Wrote W.heap.size (W.heap.size + 1) (fun i => i = W.heap.size + 1) ((W.alloc o).alloc (.cells #[.slice none 0 0, .int .i64 0] 71)) (wProg p ⟨[], 0⟩))) := Lib.hid fun o => by
    have hs1 : (W.alloc o).heap.size = W.heap.size + 1 := World.size_alloc _ _
    have hn := heap_alloc_new (W.alloc o) (.cells #[.slice none 0 0, .int .i64 0] 71)
    rw [hs1] at hn
    obtain ⟨g0, g1, g2⟩ := HP.out o (.cells #[.slice none 0 0, .int .i64 0] 71) _ rfl
    refine prog_walk (s := ⟨[], 0⟩) g0 g1 g2 ⟨⟨_, hn, World.ownsRow_nil _ _ _ _, fun g hg => by simp [Value.ownBlock] at hg⟩, rfl, fun i hi => ?_, fun i hi => ?_⟩ (by simp) ?_
    · have hi : i = W.heap.size + 1 := hi
      rw [World.size_alloc, hs1]; omega
    · have hi : i = W.heap.size + 1 := hi
      omega
    · rw [World.size_alloc, hs1]; omega
  clear h0 h1 h2 HP hB B
  obtain ⟨s, hs⟩ : ∃ s, s = wProg p ⟨[], 0⟩ := ⟨_, rfl⟩
  have EB := Lib.hid (enc8_bad (p := p))
  have EL := Lib.hid (enc8_long (p := p))
  have EO := Lib.hid (enc8_ok (p := p))
  rw [← hs] at CP EB EL EO
  have HW8 := Lib.hid hs
  clear hs
  obtain ⟨T, E⟩ := s
  have HF : Hid (∀ (F' : Nat → Prop) (o : Obj) (w1 : World), Mv (fun i => i = W.heap.size + 1) ((W.alloc o).alloc (.cells #[.slice none 0 0, .int .i64 0] 71)) F' w1 → Cha (fun _ => False) W w1) := Lib.hid fun F' o w1 m =>
    (((Cha.refl (fun _ => False) W).alloc o).alloc _).over m.cha fun i hi => .inr (by have hi : i = W.heap.size + 1 := hi; omega)
  by_cases hE : E = 0
  · subst hE
    by_cases hl : 16384 < T.length
    · have hl' : ((16384 : Int) < (T.length : Int)) := by omega
      go_enter Try.func15, Try.ntmps15
      go_wp2_with (go_at_call 28; ((with_reducible refine ((CP.out _)).mono ?_); rintro e w1 ⟨rfl, F1, k1, k2⟩; have c1 := k1.err; have f1 := k1.free 1; obtain ⟨vt, q1, q2, _⟩ := k1.head; obtain ⟨at1, ct1, rfl⟩ := own_shape q2; have c0 := cell_of_row w1 (W.heap.size + 1) 0 _ 71 (0, 0) q1; have K1 := Lib.hid k1; have K2 := Lib.hid (HF.out _ _ _ k2); have Q2 := Lib.hid q2; clear k1 k2 q1 q2))
      go_quiet (fail)
      go_wp2
      go_ret2
      exact Encd.of (s := ⟨[], 2⟩) ⟨none, 0, rfl, World.ownsRow_nil _ _ _ _, ((K2.out.setCell (p := ⟨W.heap.size + 1, 1, none⟩) (fun h => by have h : W.heap.size + 1 < W.heap.size := h; omega) _).drewN _)⟩ (EL.out (by first | rfl | trivial) hl).symm
    · have hl' : ¬ ((16384 : Int) < (T.length : Int)) := by omega
      go_enter Try.func15, Try.ntmps15
      go_wp2_with (go_at_call 28; ((with_reducible refine ((CP.out _)).mono ?_); rintro e w1 ⟨rfl, F1, k1, k2⟩; have c1 := k1.err; have f1 := k1.free 1; obtain ⟨vt, q1, q2, _⟩ := k1.head; obtain ⟨at1, ct1, rfl⟩ := own_shape q2; have c0 := cell_of_row w1 (W.heap.size + 1) 0 _ 71 (0, 0) q1; have K1 := Lib.hid k1; have K2 := Lib.hid (HF.out _ _ _ k2); have Q2 := Lib.hid q2; clear k1 k2 q1 q2))
      go_ret2
      exact Encd.of ⟨_, _, rfl, Q2.out, K2.out⟩ (EO.out (by first | rfl | trivial) hl).symm
  · have hE1 : (E == 0) = false := by simpa using hE
    have hE2 : (E != 0) = true := by simpa using hE
    have EB2 := Lib.hid (EB.out hE)
    clear EB EL EO
    go_enter Try.func15, Try.ntmps15
    go_wp2_with (go_at_call 28; ((with_reducible refine ((CP.out _)).mono ?_); rintro e w1 ⟨rfl, F1, k1, k2⟩; have c1 := k1.err; have f1 := k1.free 1; obtain ⟨vt, q1, q2, _⟩ := k1.head; obtain ⟨at1, ct1, rfl⟩ := own_shape q2; have c0 := cell_of_row w1 (W.heap.size + 1) 0 _ 71 (0, 0) q1; have K1 := Lib.hid k1; have K2 := Lib.hid (HF.out _ _ _ k2); have Q2 := Lib.hid q2; clear k1 k2 q1 q2))
    go_quiet (fail)
    go_wp2
    go_ret2
    exact Encd.of (s := ⟨[], E⟩) ⟨none, 0, rfl, World.ownsRow_nil _ _ _ _, K2.out.drewN _⟩ EB2.out.symm
end Go.Proofs.Ytpdjbhnpahkbpaa
