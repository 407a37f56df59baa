/- Contracts of mark: object, root, find, Get, Has, Counts, Roots, Start. -/
import Derived.Test.YtllefljimkmbhaaD
namespace Go.Proofs.Ytllefljimkmbhaa
open Go.ChangeShapes Go.WideShapes Go.ChangeAt Go.RowKit
variable {w w' w1 W W' : World} {F S : Nat → Prop} {bg : Nat} {vo vr vq : Value} {q f T : Nat → Nat} {g : Gr} {lv : Int} {rt : Nat → Int}

theorem object_some (h : Pm W F bg vo vr vq q f T g lv rt) (id : Nat) (k : g.col id ≠ 0) :
    Calls Try.prog 44 #[.pointer (some ⟨bg, 0, none⟩), .int .i64 (id : Int)] W fun e W' => e = .returned (.pointer (some ⟨q id, 0, none⟩)) ∧ W = W' := by
  obtain ⟨a, cap, rfl, hc1, hc2, hp⟩ := h.pts
  obtain ⟨_, _, c2, _⟩ := h.facts
  obtain ⟨h1, h2⟩ := h.sz.out id k
  have h4 := h.sz.n
  obtain ⟨b, o, rfl, hcell⟩ := hp (by omega)
  obtain ⟨j, rfl⟩ : ∃ j, id = j + 1 := ⟨id - 1, by omega⟩
  have y := (hcell j (by omega)).1
  rw [if_neg k] at y
  have y : W.cell? ⟨b, o + j, none⟩ = some (.pointer (some ⟨q (j + 1), 0, none⟩)) := y
  unfold maxLen at hc2
  generalize q (j + 1) = Q at *
  clear h hcell hp k h1
  have e1 : IntKind.i64.wrap ((j : Int) + 1 - 1) = (j : Int) := by rw [IntWalk.i64_in _ (by omega)]; omega
  have e2 : ¬ ((j : Int) + 1 < 1) := by omega
  have e3 : ¬ ((g.n : Int) < (j : Int) + 1) := by omega
  go_enter Try.func44, Try.ntmps44
  go_wp2
  go_returns
  exact ⟨rfl, rfl⟩
theorem object_none (h : Pm W F bg vo vr vq q f T g lv rt) (id : Int) (k : id < 1 ∨ (g.n : Int) < id ∨ g.col id.toNat = 0) :
    Calls Try.prog 44 #[.pointer (some ⟨bg, 0, none⟩), .int .i64 id] W fun e W' => e = .returned (.pointer none) ∧ W = W' := by
  obtain ⟨a, cap, rfl, hc1, hc2, hp⟩ := h.pts
  obtain ⟨_, _, c2, _⟩ := h.facts
  have h4 := h.sz.n
  by_cases k1 : id < 1
  · clear h hp k
    go_enter Try.func44, Try.ntmps44
    go_wp2
    go_returns
    exact ⟨rfl, rfl⟩
  · by_cases k2 : (g.n : Int) < id
    · clear h hp k
      go_enter Try.func44, Try.ntmps44
      go_wp2
      go_returns
      exact ⟨rfl, rfl⟩
    · obtain ⟨j, rfl⟩ : ∃ j : Nat, id = (j : Int) + 1 := ⟨(id - 1).toNat, by omega⟩
      obtain ⟨b, o, rfl, hcell⟩ := hp (by omega)
      have y := (hcell j (by omega)).1
      have k : g.col (j + 1) = 0 := by
        rcases k with k | k | k
        · exact absurd k k1
        · exact absurd k k2
        · rwa [show ((j : Int) + 1).toNat = j + 1 by omega] at k
      rw [if_pos k] at y
      have y : W.cell? ⟨b, o + j, none⟩ = some (.pointer none) := y
      unfold maxLen at hc2
      have e1 : IntKind.i64.wrap ((j : Int) + 1 - 1) = (j : Int) := by rw [IntWalk.i64_in _ (by omega)]; omega
      have hjn : j < g.n := by omega
      clear h hcell hp k
      go_enter Try.func44, Try.ntmps44
      go_wp2
      go_returns
      exact ⟨rfl, rfl⟩
theorem out_zero (s : Sz g) {id : Nat} (k : ¬ (1 ≤ id ∧ id ≤ g.n)) : g.col id = 0 := Decidable.byContradiction fun c => k (s.out id c)
theorem counts_any (h : Pm W F bg vo vr vq q f T g lv rt) : Calls Try.prog 26 #[.pointer (some ⟨bg, 0, none⟩)] W fun e W' => e = .returned (.tuple #[.int .i64 g.ph, .int .i64 g.cyc, .int .i64 lv]) ∧ Cha (fun _ => False) W W' := by
  obtain ⟨c0, c1, c2, c3, c4, c5, c6, c7, cf⟩ := h.facts
  clear h
  go_enter Try.func26, Try.ntmps26
  go_wp2
  go_quiet (fail)
  go_wp2
  go_returns
  exact ⟨rfl, (Cha.refl _ _).drewN _⟩
theorem counts_none (W : World) : Calls Try.prog 26 #[.pointer none] W fun e W' => e = .returned (.tuple #[.int .i64 0, .int .i64 0, .int .i64 0]) ∧ W = W' := by
  go_enter Try.func26, Try.ntmps26
  go_wp2
  go_returns
  exact ⟨rfl, rfl⟩
def Gr.has (g : Gr) (id : Int) : Bool := decide (1 ≤ id ∧ g.col id.toNat ≠ 0)
theorem has_any (h : Pm W F bg vo vr vq q f T g lv rt) (id : Int) : Calls Try.prog 28 #[.pointer (some ⟨bg, 0, none⟩), .int .i64 id] W fun e W' => e = .returned (.bool (g.has id)) ∧ W = W' := by
  by_cases k : 1 ≤ id ∧ g.col id.toNat ≠ 0
  · have e0 : g.has id = true := decide_eq_true k
    rw [e0]
    obtain ⟨j, rfl⟩ : ∃ j : Nat, id = j := ⟨id.toNat, by omega⟩
    have C := Lib.hid (object_some h j (by simpa using k.2))
    clear h e0 k
    go_enter Try.func28, Try.ntmps28
    go_wp2_with (go_at_call 44; ((with_reducible refine (C.out).mono ?_); rintro e w1 ⟨rfl, rfl⟩))
    go_returns
    exact ⟨rfl, rfl⟩
  · have e0 : g.has id = false := decide_eq_false k
    rw [e0]
    have C := Lib.hid (object_none h id (by
      by_cases c : id < 1
      · exact .inl c
      · exact .inr (.inr (Decidable.byContradiction fun d => k ⟨by omega, d⟩))))
    clear h e0 k
    go_enter Try.func28, Try.ntmps28
    go_wp2_with (go_at_call 44; ((with_reducible refine (C.out).mono ?_); rintro e w1 ⟨rfl, rfl⟩))
    go_returns
    exact ⟨rfl, rfl⟩
theorem has_none (id : Int) (W : World) : Calls Try.prog 28 #[.pointer none, .int .i64 id] W fun e W' => e = .returned (.bool false) ∧ W = W' := by
  go_enter Try.func28, Try.ntmps28
  go_wp2
  go_returns
  exact ⟨rfl, rfl⟩
/-- Roots are there. -/
structure Rk (g : Gr) (rt : Nat → Int) : Prop where
  rt : rt = cntI g.roots
  here : ∀ r ∈ g.roots, g.col r ≠ 0
theorem isRoot_iff (id : Int) : g.isRoot id = true ↔ 0 ≤ id ∧ id.toNat ∈ g.roots := by unfold Gr.isRoot; simp
theorem Rk.pos (k : Rk g rt) {id : Nat} : 0 < rt id ↔ id ∈ g.roots := by
  rw [k.rt]; unfold cntI
  rw [← List.count_pos_iff]
  omega
theorem root_some (h : Pm W F bg vo vr vq q f T g lv rt) (k : Rk g rt) (id : Nat) (hi : id ∈ g.roots) :
    Calls Try.prog 39 #[.pointer (some ⟨bg, 0, none⟩), .int .i64 (id : Int)] W fun e W' => e = .returned (.pointer (some ⟨q id, 0, none⟩)) ∧ W = W' := by
  have hz := k.here id hi
  have C := Lib.hid (object_some h id hz)
  obtain ⟨_, _, y, _⟩ := h.oc hz
  have hpos : 0 < rt id := k.pos.2 hi
  clear h k hz
  go_enter Try.func39, Try.ntmps39
  go_wp2_with (go_at_call 44; ((with_reducible refine (C.out).mono ?_); rintro e w1 ⟨rfl, rfl⟩))
  go_returns
  exact ⟨rfl, rfl⟩
theorem root_none (h : Pm W F bg vo vr vq q f T g lv rt) (k : Rk g rt) (id : Int) (hi : g.isRoot id = false) :
    Calls Try.prog 39 #[.pointer (some ⟨bg, 0, none⟩), .int .i64 id] W fun e W' => e = .returned (.pointer none) ∧ W = W' := by
  have hi : ¬ (0 ≤ id ∧ id.toNat ∈ g.roots) := fun c => by rw [(isRoot_iff id).2 c] at hi; cases hi
  by_cases c : 1 ≤ id ∧ g.col id.toNat ≠ 0
  · obtain ⟨j, rfl⟩ : ∃ j : Nat, id = j := ⟨id.toNat, by omega⟩
    have hz : g.col j ≠ 0 := by simpa using c.2
    have C := Lib.hid (object_some h j hz)
    obtain ⟨_, _, y, _⟩ := h.oc hz
    have hpos : ¬ (0 < rt j) := fun x => hi ⟨by omega, by simpa using k.pos.1 x⟩
    clear h k hz c hi
    go_enter Try.func39, Try.ntmps39
    go_wp2_with (go_at_call 44; ((with_reducible refine (C.out).mono ?_); rintro e w1 ⟨rfl, rfl⟩))
    go_returns
    exact ⟨rfl, rfl⟩
  · have C := Lib.hid (object_none h id (by
      by_cases c2 : id < 1
      · exact .inl c2
      · exact .inr (.inr (Decidable.byContradiction fun d => c ⟨by omega, d⟩))))
    clear h c hi k
    go_enter Try.func39, Try.ntmps39
    go_wp2_with (go_at_call 44; ((with_reducible refine (C.out).mono ?_); rintro e w1 ⟨rfl, rfl⟩))
    go_returns
    exact ⟨rfl, rfl⟩
/-- Where a field lies. -/
theorem find_bad (h : Pm W F bg vo vr vq q f T g lv rt) (k : Rk g rt) (id i : Int) (hi : g.isRoot id = false) :
    Calls Try.prog 40 #[.pointer (some ⟨bg, 0, none⟩), .int .i64 id, .int .i64 i] W fun e W' => e = .returned (.tuple #[.pointer none, .int .i64 4]) ∧ W = W' := by
  have C := Lib.hid (root_none h k id hi)
  clear h k hi
  go_enter Try.func40, Try.ntmps40
  go_wp2_with (go_at_call 39; ((with_reducible refine (C.out).mono ?_); rintro e w1 ⟨rfl, rfl⟩))
  go_returns
  exact ⟨rfl, rfl⟩
theorem find_out (h : Pm W F bg vo vr vq q f T g lv rt) (k : Rk g rt) (id : Nat) (i : Int) (hi : id ∈ g.roots) (hf : i < 0 ∨ ((g.fs id).length : Int) ≤ i) :
    Calls Try.prog 40 #[.pointer (some ⟨bg, 0, none⟩), .int .i64 (id : Int), .int .i64 i] W fun e W' => e = .returned (.tuple #[.pointer none, .int .i64 1]) ∧ W = W' := by
  have C := Lib.hid (root_some h k id hi)
  obtain ⟨_, y, _⟩ := h.oc (k.here id hi)
  clear h k hi
  by_cases c : i < 0
  · clear hf
    go_enter Try.func40, Try.ntmps40
    go_wp2_with (go_at_call 39; ((with_reducible refine (C.out).mono ?_); rintro e w1 ⟨rfl, rfl⟩))
    go_returns
    exact ⟨rfl, rfl⟩
  · have hf := hf.resolve_left c
    go_enter Try.func40, Try.ntmps40
    go_wp2_with (go_at_call 39; ((with_reducible refine (C.out).mono ?_); rintro e w1 ⟨rfl, rfl⟩))
    go_returns
    exact ⟨rfl, rfl⟩
theorem find_in (h : Pm W F bg vo vr vq q f T g lv rt) (k : Rk g rt) (id i : Nat) (hi : id ∈ g.roots) (hf : i < (g.fs id).length) :
    Calls Try.prog 40 #[.pointer (some ⟨bg, 0, none⟩), .int .i64 (id : Int), .int .i64 (i : Int)] W fun e W' => e = .returned (.tuple #[.pointer (some ⟨f id, i, none⟩), .int .i64 0]) ∧ W = W' := by
  have C := Lib.hid (root_some h k id hi)
  obtain ⟨_, y, _⟩ := h.oc (k.here id hi)
  clear h k hi
  go_enter Try.func40, Try.ntmps40
  go_wp2_with (go_at_call 39; ((with_reducible refine (C.out).mono ?_); rintro e w1 ⟨rfl, rfl⟩))
  go_returns
  exact ⟨by simp, rfl⟩
def pairV (r : Int × Int) : Value := .tuple #[.int .i64 r.1, .int .i64 r.2]
theorem get_any (h : Pm W F bg vo vr vq q f T g lv rt) (k : Rk g rt) (id i : Int) :
    Calls Try.prog 24 #[.pointer (some ⟨bg, 0, none⟩), .int .i64 id, .int .i64 i] W fun e W' => e = .returned (pairV (g.get id i)) ∧ W = W' := by
  unfold Gr.get
  by_cases hi : g.isRoot id = true
  · rw [if_pos hi]
    obtain ⟨i0, hr⟩ := (isRoot_iff id).1 hi
    obtain ⟨j, rfl⟩ : ∃ j : Nat, id = j := ⟨id.toNat, by omega⟩
    rw [Int.toNat_natCast] at hr ⊢
    by_cases hf : i < 0 ∨ ((g.fs j).length : Int) ≤ i
    · rw [if_pos hf]
      have C := Lib.hid (find_out h k j i hr hf)
      clear h k hi hr hf
      go_enter Try.func24, Try.ntmps24
      go_wp2_with (go_at_call 40; ((with_reducible refine (C.out).mono ?_); rintro e w1 ⟨rfl, rfl⟩))
      go_returns
      exact ⟨rfl, rfl⟩
    · rw [if_neg hf]
      obtain ⟨x, rfl⟩ : ∃ x : Nat, i = x := ⟨i.toNat, by omega⟩
      have hx : x < (g.fs j).length := by omega
      have C := Lib.hid (find_in h k j x hr hx)
      have y := (h.fc (k.here j hr) hx).1
      rw [Int.toNat_natCast]
      generalize (g.fs j).getD x 0 = V at *
      clear h k hi hr hf hx
      go_enter Try.func24, Try.ntmps24
      go_wp2_with (go_at_call 40; ((with_reducible refine (C.out).mono ?_); rintro e w1 ⟨rfl, rfl⟩))
      go_returns
      exact ⟨rfl, rfl⟩
  · rw [if_neg hi]
    have C := Lib.hid (find_bad h k id i (by simpa using hi))
    clear h k hi
    go_enter Try.func24, Try.ntmps24
    go_wp2_with (go_at_call 40; ((with_reducible refine (C.out).mono ?_); rintro e w1 ⟨rfl, rfl⟩))
    go_returns
    exact ⟨rfl, rfl⟩
theorem get_none (a b : Int) (W : World) : Calls Try.prog 24 #[.pointer none, .int .i64 a, .int .i64 b] W fun e W' => e = .returned (pairV (0, 5)) ∧ W = W' := by
  go_enter Try.func24, Try.ntmps24
  go_wp2
  go_returns
  exact ⟨rfl, rfl⟩
theorem start_any (h : Pm W F bg vo vr vq q f T g lv rt) (hg : g.ph = 0 → g.greys = []) : Calls Try.prog 20 #[.pointer (some ⟨bg, 0, none⟩)] W fun e W' => e = .returned (.int .i64 g.startR.1) ∧ Goes (PmX bg g.startR.2 lv rt) W W' F := by
  obtain ⟨c0, c1, c2, c3, c4, c5, c6, c7, cf⟩ := h.facts
  have H := Lib.hid h
  have hp := h.sz.ph
  unfold Gr.startR
  by_cases k : g.ph = 0
  · rw [if_pos k]
    rw [k] at c0
    have hg := hg k
    have HF : Hid (Goes (PmX bg { g with ph := 1, thr := 0, greys := [], swp := 0 } lv rt) W (((W.setCell ⟨bg, 0, none⟩ (.int .i64 1)).setCell ⟨bg, 5, none⟩ (.int .i64 0)).setCell ⟨bg, 7, none⟩ (.int .i64 0)) F) := Lib.hid (by
      have s := h.sz
      obtain ⟨h1, d1⟩ := h.put (g' := { g with ph := 1 }) (lv' := lv) 0 (.int .i64 1) rfl rfl rfl rfl rfl rfl ⟨s.n, s.r, s.q, s.f, s.thr, s.swp, by show 1 ≤ 2; decide, s.c3, s.out⟩
      obtain ⟨h2, d2⟩ := h1.put (g' := { g with ph := 1, thr := 0 }) (lv' := lv) 5 (.int .i64 0) rfl rfl rfl rfl rfl rfl ⟨s.n, s.r, s.q, s.f, Nat.zero_le _, s.swp, by show 1 ≤ 2; decide, s.c3, s.out⟩
      obtain ⟨h3, d3⟩ := h2.put (g' := { g with ph := 1, thr := 0, greys := [], swp := 0 }) (lv' := lv) 7 (.int .i64 0) rfl rfl rfl rfl rfl hg.symm ⟨s.n, s.r, Nat.zero_le _, s.f, Nat.zero_le _, Nat.zero_le _, by show 1 ≤ 2; decide, s.c3, s.out⟩
      exact ⟨F, h3.x, (d1.trans d2).trans d3, fun _ x => .inl x⟩)
    clear h k hg
    go_enter Try.func20, Try.ntmps20
    go_wp2
    go_returns
    exact ⟨rfl, HF.out⟩
  · rw [if_neg k]
    have k2 : ((g.ph : Int) == 0) = false := by simp; exact k
    clear h
    go_enter Try.func20, Try.ntmps20
    go_wp2
    go_returns
    exact ⟨rfl, F, H.out.x, Cha.refl _ _, fun _ x => .inl x⟩
theorem start_none (W : World) : Calls Try.prog 20 #[.pointer none] W fun e W' => e = .returned (.int .i64 5) ∧ W = W' := by
  go_enter Try.func20, Try.ntmps20
  go_wp2
  go_returns
  exact ⟨rfl, rfl⟩
end Go.Proofs.Ytllefljimkmbhaa
