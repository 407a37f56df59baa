/- Contracts of the document's own answers of layer 1: Product. -/
import Derived.Test.YtlpgfdphoiideaaG
import Derived.LoopN
namespace Go.Proofs.Ytlpgfdphoiideaa
open Go.ChangeShapes Go.WideShapes Go.ChangeAt Go.RowKit

theorem frozen?_setRow (w : World) (g : Nat) (cs : Array Value) (a : Addr) : (w.setRow g cs).frozen? a = w.frozen? a := by
  simp only [World.frozen?, World.setRow, Array.getElem?_modify]
  by_cases h : g = a.block
  · rw [if_pos h]
    cases w.heap[a.block]? with
    | none => rfl
    | some o => cases o <;> rfl
  · rw [if_neg h]
theorem Grown.setRow {W w' : World} (h : Grown W w') {g : Nat} (hg : W.heap.size ≤ g) (cs : Array Value) : Grown W (w'.setRow g cs) := by
  obtain ⟨⟨h1, h2, h3⟩, hf, hs⟩ := h
  refine ⟨⟨h1, h2, fun i hi => ?_⟩, fun x => (frozen?_setRow _ _ _ _).trans (hf x), by rw [size_setRow]; exact hs⟩
  have e : (w'.setRow g cs).heap[i]? = w'.heap[i]? := setRow_other _ _ _ _ (by omega)
  rw [e]
  exact h3 i hi
theorem Grown.drewN {W w' : World} (h : Grown W w') (n : Nat) : Grown W (w'.drewN n) := h
theorem heap_drewN (w : World) (n : Nat) : (w.drewN n).heap = w.heap := rfl

/-- A block's cells are put one by one. -/
theorem put0 {g : Nat} {W : World} {a0 a1 a2 a3 : Value} (v : Value) (h : W.heap[g]? = some (.cells #[a0, a1, a2, a3] 90 (0, 0))) : (W.setCell ⟨g, 0, none⟩ v).heap[g]? = some (.cells #[v, a1, a2, a3] 90 (0, 0)) := heap_setCell_same W g 0 _ 90 v h
theorem put1 {g : Nat} {W : World} {a0 a1 a2 a3 : Value} (v : Value) (h : W.heap[g]? = some (.cells #[a0, a1, a2, a3] 90 (0, 0))) : (W.setCell ⟨g, 1, none⟩ v).heap[g]? = some (.cells #[a0, v, a2, a3] 90 (0, 0)) := heap_setCell_same W g 1 _ 90 v h
theorem put2 {g : Nat} {W : World} {a0 a1 a2 a3 : Value} (v : Value) (h : W.heap[g]? = some (.cells #[a0, a1, a2, a3] 90 (0, 0))) : (W.setCell ⟨g, 2, none⟩ v).heap[g]? = some (.cells #[a0, a1, v, a3] 90 (0, 0)) := heap_setCell_same W g 2 _ 90 v h
theorem put3 {g : Nat} {W : World} {a0 a1 a2 a3 : Value} (v : Value) (h : W.heap[g]? = some (.cells #[a0, a1, a2, a3] 90 (0, 0))) : (W.setCell ⟨g, 3, none⟩ v).heap[g]? = some (.cells #[a0, a1, a2, v] 90 (0, 0)) := heap_setCell_same W g 3 _ 90 v h
theorem putd {g : Nat} {W : World} {o : Obj} (n : Nat) (h : W.heap[g]? = some o) : (W.drewN n).heap[g]? = some o := h
theorem puto {g : Nat} {W : World} {o : Obj} {a : Addr} (v : Value) (hn : g ≠ a.block) (h : W.heap[g]? = some o) : (W.setCell a v).heap[g]? = some o := (heap_setCell_other W a g v hn).trans h
theorem puta {g : Nat} {W : World} {o : Obj} (x : Obj) (hn : g < W.heap.size) (h : W.heap[g]? = some o) : (W.alloc x).heap[g]? = some o := (heap_alloc_old W x hn).trans h

/-- What the walk has made behind its loops: the digits in their block, the result's block as it was laid, and nothing that was there has turned. -/
structure Digits (w : World) (r00 r10 r11 c11 : Int) (W : World) : Prop where
  digits : W.heap[w.heap.size + 1]? = some (.cells #[.int .u64 r00, .int .u64 r10, .int .u64 r11, .int .u64 c11] 90 (0, 0))
  res : W.heap[w.heap.size]? = some (.cells #[.int .u64 0, .int .u64 0, .int .u64 0, .int .u64 0] 90 (0, 0))
  grown : Grown w W

theorem digits_of (w : World) (x0 x1 y0 y1 : Int) (r00 r01 c01 r10 r11 c11 : Int) (n1 n2 n3 n4 : Nat) : Digits w r00 r10 r11 c11
    ((((((((((((((w.alloc (.cells #[.int .u64 0, .int .u64 0, .int .u64 0, .int .u64 0] 90)).alloc (.cells #[.int .u64 0, .int .u64 0, .int .u64 0, .int .u64 0] 90)).alloc (.cells #[.int .u64 x0, .int .u64 x1] 22)).alloc (.cells #[.int .u64 y0, .int .u64 y1] 22)).drewN
      n1).setCell ⟨w.heap.size + 1, 0, none⟩ (.int .u64 r00)).drewN n2).setCell ⟨w.heap.size + 1, 1, none⟩ (.int .u64 r01)).setCell ⟨w.heap.size + 1, 2, none⟩ (.int .u64 c01)).drewN
      n3).setCell ⟨w.heap.size + 1, 1, none⟩ (.int .u64 r10)).drewN n4).setCell ⟨w.heap.size + 1, 2, none⟩ (.int .u64 r11)).setCell ⟨w.heap.size + 1, 3, none⟩ (.int .u64 c11)) := by
  refine ⟨put3 _ (put2 _ (putd _ (put1 _ (putd _ (put2 _ (put1 _ (putd _ (put0 _ (putd _ (puta _ (by simp) (puta _ (by simp) (heap_alloc2_new w _ _)))))))))))),
    puto _ (by simp) (puto _ (by simp) (putd _ (puto _ (by simp) (putd _ (puto _ (by simp) (puto _ (by simp) (putd _ (puto _ (by simp) (putd _ (puta _ (by simp; omega) (puta _ (by simp; omega) (puta _ (by simp) (heap_alloc_new w _))))))))))))), ?_⟩
  have h1 : Grown w ((((w.alloc (.cells #[.int .u64 0, .int .u64 0, .int .u64 0, .int .u64 0] 90)).alloc (.cells #[.int .u64 0, .int .u64 0, .int .u64 0, .int .u64 0] 90)).alloc (.cells #[.int .u64 x0, .int .u64 x1] 22)).alloc (.cells #[.int .u64 y0, .int .u64 y1] 22)) :=
    (((((Grown.refl w).alloc _ _).alloc _ _).alloc _ _).alloc _ _)
  have hs : ∀ {W : World} (a : Nat) (v : Value), Grown w W → Grown w (W.setCell ⟨w.heap.size + 1, a, none⟩ v) := fun a v h => Grown.setCell h (by simp) v
  exact hs _ _ (hs _ _ (Grown.drewN (hs _ _ (Grown.drewN (hs _ _ (hs _ _ (Grown.drewN (hs _ _ (Grown.drewN h1 _)) _))) _)) _))

set_option maxHeartbeats 4000000 in
theorem product_walk (a b x0 x1 y0 y1 r00 c00 r01 c01 r10 c10 r11 c11 : Int) (w : World)
    (ha0 : bits .and .u64 a 4294967295 = x0) (ha1 : a / 4294967296 = x1) (hb0 : bits .and .u64 b 4294967295 = y0) (hb1 : b / 4294967296 = y1)
    (h00 : 0 ≤ x0 * y0 ∧ x0 * y0 ≤ 18446744065119617025) (h01 : 0 ≤ x0 * y1 ∧ x0 * y1 ≤ 18446744065119617025) (h10 : 0 ≤ x1 * y0 ∧ x1 * y0 ≤ 18446744065119617025) (h11 : 0 ≤ x1 * y1 ∧ x1 * y1 ≤ 18446744065119617025)
    (g01 : 0 ≤ c01 ∧ c01 ≤ 4294967295) (g11 : 0 ≤ c11 ∧ c11 ≤ 4294967295) (k01 : 0 ≤ r01 ∧ r01 ≤ 4294967295)
    (e00 : bits .and .u64 (x0 * y0) 4294967295 = r00) (f00 : x0 * y0 / 4294967296 = c00)
    (e01 : bits .and .u64 (x0 * y1 + c00) 4294967295 = r01) (f01 : (x0 * y1 + c00) / 4294967296 = c01)
    (e10 : bits .and .u64 (r01 + x1 * y0) 4294967295 = r10) (f10 : (r01 + x1 * y0) / 4294967296 = c10)
    (e11 : bits .and .u64 (c01 + x1 * y1 + c10) 4294967295 = r11) (f11 : (c01 + x1 * y1 + c10) / 4294967296 = c11) :
    Calls Try.prog 58 #[.int .u64 a, .int .u64 b] w fun e w' => e = .returned (.agg #[.int .u64 r00, .int .u64 r10, .int .u64 r11, .int .u64 c11]) ∧ Grown w w' := by
  go_enter Try.func58, Try.ntmps58
  go_wp2
  refine wp_loop_rounds 3 ?_
  rw [rounds_succ]
  go_wp2
  refine wp_loop_rounds 3 ?_
  rw [rounds_succ]
  go_wp2
  go_quiet (fail)
  go_wp2
  rw [rounds_succ]
  go_wp2
  go_quiet (fail)
  go_wp2
  rw [rounds_succ]
  go_wp2
  rw [rounds_succ]
  go_wp2
  refine wp_loop_rounds 3 ?_
  rw [rounds_succ]
  go_wp2
  go_quiet (fail)
  go_wp2
  rw [rounds_succ]
  go_wp2
  go_quiet (fail)
  go_wp2
  rw [rounds_succ]
  go_wp2
  rw [rounds_succ]
  go_upto_region 15 with fail
  refine (?_ : ∀ W : World, Digits w r00 r10 r11 c11 W → Code.wp Try.prog _ _ _ W) _ (digits_of w x0 x1 y0 y1 r00 r01 c01 r10 r11 c11 _ _ _ _)
  intro W ⟨hd, hr, hg⟩
  have z : ∀ i : Nat, i < 4 → W.cell? ⟨w.heap.size, i, none⟩ = some (.int .u64 0) := fun i hi => by
    rcases i with _ | _ | _ | _ | i
    · simp [World.cell?, hr]
    · simp [World.cell?, hr]
    · simp [World.cell?, hr]
    · simp [World.cell?, hr]
    · omega
  have z0 := z 0 (by omega)
  have z1 := z 1 (by omega)
  have z2 := z 2 (by omega)
  have z3 := z 3 (by omega)
  have f0 := frozen_of_row W w.heap.size 0 _ 90 hr
  have f1 := frozen_of_row W w.heap.size 1 _ 90 hr
  have f2 := frozen_of_row W w.heap.size 2 _ 90 hr
  have f3 := frozen_of_row W w.heap.size 3 _ 90 hr
  have Hr : Hid _ := hr
  clear z hr
  go_wp2_with (refine wpList_load_row rfl 90 (.tmp 5) rfl (w.heap.size + 1) rfl 90 _ (0, 0) (.array 4 22) hd Try.underlying90 rfl (by kernel_rfl) ?_)
  exact bodyPost_ret (v := .agg #[.int .u64 r00, .int .u64 r10, .int .u64 r11, .int .u64 c11])
    (results_cell_row rfl _ _ w.heap.size 90 _ (0, 0) (.array 4 22) rfl (put3 _ (put2 _ (put1 _ (put0 _ Hr.out)))) Try.underlying90 rfl (by kernel_rfl)) rfl
    ⟨rfl, (((hg.setCell (Nat.le_refl _) _).setCell (Nat.le_refl _) _).setCell (Nat.le_refl _) _).setCell (Nat.le_refl _) _⟩

theorem digit_split (a : Int) (h0 : 0 ≤ a) (h1 : a ≤ 18446744073709551615) : bits .and .u64 a 4294967295 = a % 4294967296 ∧ 0 ≤ a % 4294967296 ∧ a % 4294967296 ≤ 4294967295 ∧ 0 ≤ a / 4294967296 ∧ a / 4294967296 ≤ 4294967295 ∧ a / 4294967296 * 4294967296 + a % 4294967296 = a := by
  refine ⟨maskI a h0 (by omega), by omega, by omega, by omega, by omega, by omega⟩

/-- The product of two numbers of 64 bits: four digits, that are its value. -/
theorem product_any (a b : Int) (w : World) (ha : 0 ≤ a) (ha1 : a ≤ 18446744073709551615) (hb : 0 ≤ b) (hb1 : b ≤ 18446744073709551615) :
    Calls Try.prog 58 #[.int .u64 a, .int .u64 b] w fun e w' => (∃ d0 d1 d2 d3 : Int, e = .returned (.agg #[.int .u64 d0, .int .u64 d1, .int .u64 d2, .int .u64 d3]) ∧ Digit d0 ∧ Digit d1 ∧ Digit d2 ∧ Digit d3 ∧ M.val d0 d1 d2 d3 = a * b) ∧ Grown w w' := by
  obtain ⟨m1, p1, p2, p3, p4, p5⟩ := digit_split a ha ha1
  obtain ⟨m2, q1, q2, q3, q4, q5⟩ := digit_split b hb hb1
  have h00 := M.mul_bd p1 q1 p2 q2
  have h01 := M.mul_bd p1 q3 p2 q4
  have h10 := M.mul_bd p3 q1 p4 q2
  have h11 := M.mul_bd p3 q3 p4 q4
  obtain ⟨e00, r1, r2, r3, r4, r5⟩ := digit_split (a % 4294967296 * (b % 4294967296)) (by omega) (by omega)
  obtain ⟨e01, s1, s2, s3, s4, s5⟩ := digit_split (a % 4294967296 * (b / 4294967296) + a % 4294967296 * (b % 4294967296) / 4294967296) (by omega) (by omega)
  obtain ⟨e10, t1, t2, t3, t4, t5⟩ := digit_split ((a % 4294967296 * (b / 4294967296) + a % 4294967296 * (b % 4294967296) / 4294967296) % 4294967296 + a / 4294967296 * (b % 4294967296)) (by omega) (by omega)
  obtain ⟨e11, u1, u2, u3, u4, u5⟩ := digit_split ((a % 4294967296 * (b / 4294967296) + a % 4294967296 * (b % 4294967296) / 4294967296) / 4294967296 + a / 4294967296 * (b / 4294967296) + ((a % 4294967296 * (b / 4294967296) + a % 4294967296 * (b % 4294967296) / 4294967296) % 4294967296 + a / 4294967296 * (b % 4294967296)) / 4294967296) (by omega) (by omega)
  refine (product_walk a b _ _ _ _ _ _ _ _ _ _ _ _ w m1 rfl m2 rfl (by omega) (by omega) (by omega) (by omega) ⟨s3, s4⟩ ⟨u3, u4⟩ ⟨s1, s2⟩ e00 rfl e01 rfl e10 rfl e11 rfl).mono fun e w' h => ⟨⟨_, _, _, _, h.1, ⟨r1, by omega⟩, ⟨t1, by omega⟩, ⟨u1, by omega⟩, ⟨u3, by omega⟩, ?_⟩, h.2⟩
  have e : a * b = (a / 4294967296 * 4294967296 + a % 4294967296) * (b / 4294967296 * 4294967296 + b % 4294967296) := by rw [p5, q5]
  rw [e]
  generalize a % 4294967296 = x0 at *
  generalize a / 4294967296 = x1 at *
  generalize b % 4294967296 = y0 at *
  generalize b / 4294967296 = y1 at *
  have e2 : (x1 * 4294967296 + x0) * (y1 * 4294967296 + y0) = x1 * y1 * 18446744073709551616 + x1 * y0 * 4294967296 + x0 * y1 * 4294967296 + x0 * y0 := by grind
  rw [e2]
  unfold M.val
  omega
end Go.Proofs.Ytlpgfdphoiideaa
