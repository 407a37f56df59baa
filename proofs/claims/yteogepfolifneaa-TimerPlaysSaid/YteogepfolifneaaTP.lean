/- TimerFull. -/
import Derived.Test.YteogepfolifneaaTO
namespace Go.Proofs.Yteogepfolifneaa
open Go.ChangeShapes Go.WideShapes Go.ChangeAt Go.RowKit
variable {w0 w w' : World} {bt bp p : Nat} {P : List (List Ent)} {a x : Int} {i : Nat}

theorem tmove_bad (p : Nat) (q : Int) {F : Nat → Prop} {lv : Nat → Value} (h : Ts w F bt bp lv P a) (hp : p < P.length) (hq : q < 0 ∨ (P.length : Int) ≤ q) :
    Calls Try.prog 31 #[.pointer (some ⟨bt, 0, none⟩), .int .i64 (p : Int), .int .i64 q] w fun e w' => e = .returned (.int .i64 1) ∧ w = w' := by
  have C := Lib.hid (tisproc_yes p h hp)
  have D := Lib.hid (tisproc_no q h hq)
  clear h hp hq
  go_enter Try.func31, Try.ntmps31
  go_wp2_with (first
    | (go_at_call 45; ((with_reducible refine (C.out).mono ?_); rintro e w1 ⟨rfl, rfl⟩))
    | (go_at_call 45; ((with_reducible refine (D.out).mono ?_); rintro e w1 ⟨rfl, rfl⟩)))
  go_ret
  exact ⟨rfl, rfl⟩
/-- The timer of the number x. -/
def nth (x : Nat) : Ent := ⟨(x : Int), (x : Int), (x : Int)⟩
/-- Of i timers those of the processor p. -/
def evs (p i : Nat) : List Ent := (List.range ((i + 1 - p) / 2)).map fun m => nth (2 * m + p)
theorem evs_len (p i : Nat) : (evs p i).length = (i + 1 - p) / 2 := by simp [evs]
theorem evs_get (p i m : Nat) (h : m < (i + 1 - p) / 2) : (evs p i).getD m ⟨0, 0, 0⟩ = nth (2 * m + p) := by
  simp [evs, List.getD, h]
theorem evs_rises (p i : Nat) : Rises (evs p i) := by
  unfold Rises evs
  rw [List.pairwise_map]
  refine (List.pairwise_lt_range (n := (i + 1 - p) / 2)).imp fun {x y} h => .inl ?_
  show ((2 * x + p : Nat) : Int) < ((2 * y + p : Nat) : Int)
  omega
theorem evs_mem (p i : Nat) (x : Ent) : x ∈ evs p i ↔ ∃ m, m < (i + 1 - p) / 2 ∧ nth (2 * m + p) = x := by simp [evs]
theorem evs_lo (p i : Nat) (_ : p < 2) : ∀ x ∈ evs p i, x.order < i := fun x hx => by
  obtain ⟨m, hm, rfl⟩ := (evs_mem p i x).1 hx
  show ((2 * m + p : Nat) : Int) < _
  omega
theorem evs_more (i : Nat) (x : Ent) : x ∈ evs (i % 2) (i + 1) ↔ x = nth i ∨ x ∈ evs (i % 2) i := by
  rw [evs_mem, evs_mem]
  constructor
  · rintro ⟨m, hm, rfl⟩
    by_cases e : m < (i + 1 - i % 2) / 2
    · exact .inr ⟨m, e, rfl⟩
    · exact .inl (by congr 1; omega)
  · rintro (rfl | ⟨m, hm, rfl⟩)
    · exact ⟨(i + 1 - i % 2) / 2, by omega, by congr 1; omega⟩
    · exact ⟨m, by omega, rfl⟩
theorem evs_other (p i : Nat) (hp : p < 2) (h : p ≠ i % 2) : evs p (i + 1) = evs p i := by
  unfold evs
  rw [show (i + 1 + 1 - p) / 2 = (i + 1 - p) / 2 by omega]
def both (i : Nat) : List (List Ent) := [evs 0 i, evs 1 i]
theorem both_tidy (i : Nat) : Tidy (both i) i := by
  refine ⟨fun q M hq => ?_, fun q M hq => ?_⟩
  all_goals
    rcases q with _ | _ | q
    · cases hq; first | exact evs_rises 0 i | exact evs_lo 0 i (by decide)
    · cases hq; first | exact evs_rises 1 i | exact evs_lo 1 i (by decide)
    · cases hq
theorem both_at (i : Nat) : (both i)[i % 2]? = some (evs (i % 2) i) := by
  rcases (by omega : i % 2 = 0 ∨ i % 2 = 1) with h | h <;> rw [h] <;> rfl
theorem both_many (i : Nat) : many (both i) = i := by
  simp only [many, both, List.map_cons, List.map_nil, List.sum_cons, List.sum_nil, evs_len]
  omega
theorem both_more (i : Nat) : (both i).set (i % 2) (evs (i % 2) (i + 1)) = both (i + 1) := by
  unfold both
  rcases (by omega : i % 2 = 0 ∨ i % 2 = 1) with h | h
  · rw [h, evs_other 1 i (by decide) (by omega)]; rfl
  · rw [h, evs_other 0 i (by decide) (by omega)]; rfl
theorem full_add (h : Tl w0 w bt bp (both i) (i : Int)) (hi : i < 1024) :
    Calls Try.prog 26 #[.pointer (some ⟨bt, 0, none⟩), .int .i64 ((i % 2 : Nat) : Int), .int .u64 (i : Int), .int .i64 (i : Int)] w fun e w' => e = .returned (.int .i64 0) ∧ Tl w0 w' bt bp (both (i + 1)) ((i + 1 : Nat) : Int) :=
  tl_add_is (p := i % 2) h (both_tidy i) (both_at i) (by rw [both_many]; exact hi) (by omega) (by omega) (i : Int) (i : Int) (evs_rises _ _) (evs_more i) (both_more i) rfl
/-- When the first k + 1 were told. -/
def rest (k : Nat) : List (List Ent) := [(evs 0 1024).drop (k + 1), evs 1 1024]
theorem rest_many (k : Nat) (hk : k < 500) : many (rest k) = 1023 - k := by
  simp only [many, rest, List.map_cons, List.map_nil, List.sum_cons, List.sum_nil, List.length_drop, evs_len]
  omega
theorem rest_tidy (k : Nat) : Tidy (rest k) 1024 := by
  have h := (both_tidy 1024).set (p := 0) (L := (evs 0 1024).drop (k + 1)) (b := 1024) (by decide) (List.Pairwise.drop (evs_rises 0 1024)) fun x hx => evs_lo 0 1024 (by decide) x (List.mem_of_mem_drop hx)
  exact h
theorem full_due (h : Tl w0 w bt bp (both 1024) 1024) (k : Nat) (hk : k < 500) :
    Calls Try.prog 29 #[.pointer (some ⟨bt, 0, none⟩), .int .i64 0, .int .u64 ((2 * k : Nat) : Int)] w fun e w' => ∃ s c, e = .returned (.slice s (k + 1) c) ∧ Tl w0 w' bt bp (rest k) 1024 := by
  refine (tl_due (p := 0) h rfl (by rw [evs_len]; omega) _).mono fun e w' ⟨m, s, c, q1, hu, hT⟩ => ?_
  have h1 := hu.le
  rw [evs_len] at h1
  have hm : m = k + 1 := by
    have h2 := hu.lo
    have h3 := hu.hi
    rw [evs_len] at h3
    by_cases e1 : m < k + 1
    · have := h3 (by omega)
      rw [evs_get 0 1024 m (by omega)] at this
      have : ((2 * k : Nat) : Int) < ((2 * m + 0 : Nat) : Int) := this
      omega
    · by_cases e2 : k + 1 < m
      · have := h2 (k + 1) e2
        rw [evs_get 0 1024 (k + 1) (by omega)] at this
        have : ((2 * (k + 1) + 0 : Nat) : Int) ≤ ((2 * k : Nat) : Int) := this
        omega
      · omega
  subst hm
  exact ⟨s, c, q1, hT.tl⟩
end Go.Proofs.Yteogepfolifneaa
