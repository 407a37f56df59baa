/- Timers: comparing. -/
import Derived.Test.YtaloafihbdamiaaC
import Derived.Handy
import Derived.Deep.RegionLaw
import Derived.Deep.RegionHeld3
import Derived.Deep.QuietTactic
namespace Go.Proofs.Ytaloafihbdamiaa
open Go.ChangeShapes Go.WideShapes Go.ChangeAt Go.RowKit

theorem isnan_any (x : Int) (w : World) : Calls Try.prog 68 #[.int .u64 x] w fun e w' => e = .returned (.bool false) ∧ w = w' := by
  go_enter Try.func68, Try.ntmps68
  go_wp2
  go_ret
  exact ⟨rfl, rfl⟩
/-- -1, 0 or 1. -/
def sgn (x y : Int) : Int := if x < y then -1 else if y < x then 1 else 0
theorem compare_u64 (x y : Int) (w : World) : Calls Try.prog 58 #[.int .u64 x, .int .u64 y] w fun e w' => e = .returned (.int .i64 (sgn x y)) ∧ w = w' := by
  have N := Lib.hid isnan_any
  unfold sgn
  by_cases h1 : x < y
  · rw [if_pos h1]
    go_enter Try.func58, Try.ntmps58
    go_wp2_with (go_at_call 68; ((with_reducible refine (N.out _ _).mono ?_); rintro e w1 ⟨rfl, rfl⟩))
    go_ret
    exact ⟨rfl, rfl⟩
  · rw [if_neg h1]
    by_cases h2 : y < x
    · rw [if_pos h2]
      go_enter Try.func58, Try.ntmps58
      go_wp2_with (go_at_call 68; ((with_reducible refine (N.out _ _).mono ?_); rintro e w1 ⟨rfl, rfl⟩))
      go_ret
      exact ⟨rfl, rfl⟩
    · rw [if_neg h2]
      go_enter Try.func58, Try.ntmps58
      go_wp2_with (go_at_call 68; ((with_reducible refine (N.out _ _).mono ?_); rintro e w1 ⟨rfl, rfl⟩))
      go_ret
      exact ⟨rfl, rfl⟩
/-- The first of two that isn't 0. -/
def orI (x y : Int) : Int := if x = 0 then y else x
theorem or_two (x y : Int) (g : Nat) (w : World) (h0 : w.cell? ⟨g, 0, none⟩ = some (.int .i64 x)) (h1 : w.cell? ⟨g, 1, none⟩ = some (.int .i64 y)) :
    Calls Try.prog 57 #[.slice (some ⟨g, 0, none⟩) 2 2] w fun e w' => e = .returned (.int .i64 (orI x y)) ∧ w = w' := by
  unfold orI
  by_cases hx : x = 0
  · subst hx
    rw [if_pos rfl]
    by_cases hy : y = 0
    · subst hy
      go_enter Try.func57, Try.ntmps57
      go_wp2
      refine wp_loop_rounds 3 ?_
      rw [rounds_succ]
      go_wp2
      rw [rounds_succ]
      go_wp2
      rw [rounds_succ]
      go_wp2
      go_ret
      exact ⟨rfl, rfl⟩
    · have hy1 : (y != 0) = true := by simpa using hy
      go_enter Try.func57, Try.ntmps57
      go_wp2
      refine wp_loop_rounds 2 ?_
      rw [rounds_succ]
      go_wp2
      rw [rounds_succ]
      go_wp2
      go_ret
      exact ⟨rfl, rfl⟩
  · rw [if_neg hx]
    have hx1 : (x != 0) = true := by simpa using hx
    go_enter Try.func57, Try.ntmps57
    go_wp2
    refine wp_loop_rounds 1 ?_
    rw [rounds_succ]
    go_wp2
    go_ret
    exact ⟨rfl, rfl⟩
/-- A timer: its time, how many were added ahead of it, its number. -/
structure Ent where
  when : Int
  order : Int
  id : Int
def Ent.val (a : Ent) : Value := .agg #[.int .u64 a.when, .int .u64 a.order, .int .i64 a.id]
/-- How two timers stand to one another. -/
def Ent.cmp (a b : Ent) : Int := orI (sgn a.when b.when) (sgn a.order b.order)
theorem compare_any (a1 a2 a3 b1 b2 b3 : Int) (w : World) :
    Calls Try.prog 45 #[.agg #[.int .u64 a1, .int .u64 a2, .int .i64 a3], .agg #[.int .u64 b1, .int .u64 b2, .int .i64 b3]] w fun e w' => e = .returned (.int .i64 (Ent.cmp ⟨a1, a2, a3⟩ ⟨b1, b2, b3⟩)) ∧ Cha (fun _ => False) w w' := by
  have C := Lib.hid compare_u64
  go_enter Try.func45, Try.ntmps45
  go_wp2
  generalize hW1 : w.alloc (.cells #[.int .u64 a1, .int .u64 a2, .int .i64 a3] 93) = W1 at *
  generalize hW2 : W1.alloc (.cells #[.int .u64 b1, .int .u64 b2, .int .i64 b3] 93) = W2 at *
  have hs : W1.heap.size = w.heap.size + 1 := by rw [← hW1]; exact World.size_alloc _ _
  have r1 : W2.heap[w.heap.size]? = some (.cells #[.int .u64 a1, .int .u64 a2, .int .i64 a3] 93 (0, 0)) := by
    rw [← hW2, heap_alloc_old W1 _ (by omega), ← hW1]; exact heap_alloc_new w _
  have r2 : W2.heap[w.heap.size + 1]? = some (.cells #[.int .u64 b1, .int .u64 b2, .int .i64 b3] 93 (0, 0)) := by
    rw [← hW2, ← hs]; exact heap_alloc_new W1 _
  have c0 : Hid (Cha (fun _ => False) w W2) := Lib.hid (by rw [← hW2, ← hW1]; exact ((Cha.refl _ w).alloc _).alloc _)
  have z2 : W2.heap.size = w.heap.size + 2 := by rw [← hW2, World.size_alloc]; omega
  have k1 := cell_of_row W2.drew _ 0 _ 93 (0, 0) r1
  have k2 := cell_of_row W2.drew _ 1 _ 93 (0, 0) r1
  have k3 := cell_of_row W2.drew _ 0 _ 93 (0, 0) r2
  have k4 := cell_of_row W2.drew _ 1 _ 93 (0, 0) r2
  have k1 : W2.drew.cell? ⟨w.heap.size, 0, none⟩ = some (.int .u64 a1) := k1
  have k2 : W2.drew.cell? ⟨w.heap.size, 1, none⟩ = some (.int .u64 a2) := k2
  have k3 : W2.drew.cell? ⟨w.heap.size + 1, 0, none⟩ = some (.int .u64 b1) := k3
  have k4 : W2.drew.cell? ⟨w.heap.size + 1, 1, none⟩ = some (.int .u64 b2) := k4
  have OR : Hid (∀ x y, Calls Try.prog 57 #[.slice (some ⟨W2.heap.size, 0, none⟩) 2 2] (W2.drew.alloc (.cells #[.int .i64 x, .int .i64 y] 3)) fun e w' => e = .returned (.int .i64 (orI x y)) ∧ W2.drew.alloc (.cells #[.int .i64 x, .int .i64 y] 3) = w') := Lib.hid fun x y => by
    have hr := heap_alloc_new W2.drew (.cells #[.int .i64 x, .int .i64 y] 3)
    exact or_two x y W2.heap.size _ (cell_of_row _ _ 0 _ 3 (0, 0) hr) (cell_of_row _ _ 1 _ 3 (0, 0) hr)
  have KX : Hid (∀ W', Cha (fun _ => False) W2 W' → W'.cell? ⟨w.heap.size, 0, none⟩ = some (.int .u64 a1) ∧ W'.cell? ⟨w.heap.size, 1, none⟩ = some (.int .u64 a2) ∧ W'.cell? ⟨w.heap.size + 1, 0, none⟩ = some (.int .u64 b1) ∧ W'.cell? ⟨w.heap.size + 1, 1, none⟩ = some (.int .u64 b2)) := Lib.hid fun W' c => by
    have e1 := (c.old _ (by omega) (fun f => f)).trans r1
    have e2 := (c.old _ (by omega) (fun f => f)).trans r2
    exact ⟨cell_of_row W' _ 0 _ 93 (0, 0) e1, cell_of_row W' _ 1 _ 93 (0, 0) e1, cell_of_row W' _ 0 _ 93 (0, 0) e2, cell_of_row W' _ 1 _ 93 (0, 0) e2⟩
  clear hW1 hW2 r1 r2 hs
  have HZ := Lib.hid z2
  clear z2
  generalize w.heap.size = g at *
  go_region_held3 (fun w' => w'.cell? ⟨g, 0, none⟩ = some (.int .u64 a1) ∧ w'.cell? ⟨g, 1, none⟩ = some (.int .u64 a2) ∧ w'.cell? ⟨g + 1, 0, none⟩ = some (.int .u64 b1) ∧ w'.cell? ⟨g + 1, 1, none⟩ = some (.int .u64 b2))
    (first
      | exact ⟨k1, k2, k3, k4⟩
      | exact KX.out _ (((Cha.refl _ W2).alloc _).drew)
      | go_keep)
    (first
      | (go_at_call 58; refine (C.out _ _ _).mono ?_; rintro e5 w5 ⟨rfl, rfl⟩)
      | (go_at_call 57; refine (OR.out _ _).mono ?_; rintro e6 w6 ⟨rfl, rfl⟩))
  all_goals
    go_wp2
    go_ret
    exact ⟨rfl, (c0.out.drew).alloc _⟩
end Go.Proofs.Ytaloafihbdamiaa
