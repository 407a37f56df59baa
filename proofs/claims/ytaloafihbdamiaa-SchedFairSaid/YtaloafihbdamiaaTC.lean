/- Timers: their state in memory; isProc, Next. -/
import Derived.Test.YtaloafihbdamiaaTB
import Derived.Handy
namespace Go.Proofs.Ytaloafihbdamiaa
open Go.ChangeShapes Go.WideShapes Go.ChangeAt Go.RowKit
variable {w w' : World} {F F' : Nat → Prop} {bt bp : Nat} {lv : Nat → Value} {P : List (List Ent)} {a x : Int} {y : Ent} {l : List Ent}

/-- Timers at block bt, their lists' slices at bp; F: their blocks; a: how many have been added. -/
structure Ts (w : World) (F : Nat → Prop) (bt bp : Nat) (lv : Nat → Value) (P : List (List Ent)) (a : Int) : Prop where
  head : w.heap[bt]? = some (.cells #[.slice (some ⟨bp, 0, none⟩) P.length P.length, .int .u64 a] 88 (0, 0))
  k1 : 1 ≤ P.length
  k8 : P.length ≤ 8
  tab : FRow 95 w bp P.length lv
  lst : ∀ (p : Nat) (L : List Ent), P[p]? = some L → Ents w (lv p) L
  ne : bt ≠ bp
  ft : F bt
  fp : F bp
  fv : ∀ p g, p < P.length → (lv p).ownBlock = some g → F g ∧ g ≠ bt ∧ g ≠ bp
  fpq : ∀ p q g, p < P.length → q < P.length → p ≠ q → (lv p).ownBlock = some g → (lv q).ownBlock ≠ some g
  old : ∀ i, F i → i < w.heap.size
theorem Ts.ptr (h : Ts w F bt bp lv P a) : w.cell? ⟨bt, 0, none⟩ = some (.slice (some ⟨bp, 0, none⟩) P.length P.length) := cell_of_row w bt 0 _ 88 (0, 0) h.head
theorem Ts.num (h : Ts w F bt bp lv P a) : w.cell? ⟨bt, 1, none⟩ = some (.int .u64 a) := cell_of_row w bt 1 _ 88 (0, 0) h.head
theorem Ts.free (h : Ts w F bt bp lv P a) (i : Nat) : w.frozen? ⟨bt, i, none⟩ = false := frozen_of_row w bt i _ 88 h.head
theorem tisproc_yes (p : Nat) (h : Ts w F bt bp lv P a) (hp : p < P.length) : Calls Try.prog 43 #[.pointer (some ⟨bt, 0, none⟩), .int .i64 (p : Int)] w fun e w' => e = .returned (.bool true) ∧ w = w' := by
  have c := h.ptr
  have h8 := h.k8
  clear h
  generalize P.length = n at *
  have hp2 : (p : Int) < n := by omega
  have hp1 : (0 : Int) ≤ (p : Int) := by omega
  go_enter Try.func43, Try.ntmps43
  go_wp2
  go_ret
  exact ⟨rfl, rfl⟩
theorem tisproc_no (p : Int) (h : Ts w F bt bp lv P a) (hp : p < 0 ∨ (P.length : Int) ≤ p) : Calls Try.prog 43 #[.pointer (some ⟨bt, 0, none⟩), .int .i64 p] w fun e w' => e = .returned (.bool false) ∧ w = w' := by
  have c := h.ptr
  have h8 := h.k8
  clear h
  generalize P.length = n at *
  by_cases h0 : p < 0
  · have h1 : decide (0 ≤ p) = false := by simpa using h0
    clear hp
    go_enter Try.func43, Try.ntmps43
    go_wp2
    go_ret
    exact ⟨rfl, rfl⟩
  · have h1 : 0 ≤ p := by omega
    have h2 : decide (p < (n : Int)) = false := by simp; omega
    clear hp h0
    go_enter Try.func43, Try.ntmps43
    go_wp2
    go_ret
    exact ⟨rfl, rfl⟩
theorem tnext_none (p : Int) (w : World) : Calls Try.prog 64 #[.pointer none, .int .i64 p] w fun e w' => e = .returned (.tuple #[.int .u64 0, .bool false]) ∧ w = w' := by
  go_enter Try.func64, Try.ntmps64
  go_wp2
  go_returns
  exact ⟨rfl, rfl⟩
theorem tnext_bad (p : Int) (h : Ts w F bt bp lv P a) (hp : p < 0 ∨ (P.length : Int) ≤ p) : Calls Try.prog 64 #[.pointer (some ⟨bt, 0, none⟩), .int .i64 p] w fun e w' => e = .returned (.tuple #[.int .u64 0, .bool false]) ∧ w = w' := by
  have C := Lib.hid (tisproc_no p h hp)
  clear h hp
  go_enter Try.func64, Try.ntmps64
  go_wp2_with (go_at_call 43; ((with_reducible refine (C.out).mono ?_); rintro e w1 ⟨rfl, rfl⟩))
  go_returns
  exact ⟨rfl, rfl⟩
theorem tnext_zero (p : Nat) (h : Ts w F bt bp lv P a) (hp : P[p]? = some []) : Calls Try.prog 64 #[.pointer (some ⟨bt, 0, none⟩), .int .i64 (p : Int)] w fun e w' => e = .returned (.tuple #[.int .u64 0, .bool false]) ∧ w = w' := by
  have hpl := (List.getElem?_eq_some_iff.1 hp).1
  have C := Lib.hid (tisproc_yes p h hpl)
  obtain ⟨s, cap, hv⟩ := (h.lst p _ hp).form
  dsimp only [List.length_nil] at hv
  have c1 := h.tab.cell hpl
  rw [hv] at c1
  have c0 := h.ptr
  have h8 := h.k8
  clear h hp
  generalize P.length = n at *
  have hp2 : (p : Int) < n := by omega
  have hp1 : (0 : Int) ≤ (p : Int) := by omega
  go_enter Try.func64, Try.ntmps64
  go_wp2_with (go_at_call 43; ((with_reducible refine (C.out).mono ?_); rintro e w1 ⟨rfl, rfl⟩))
  go_returns
  exact ⟨rfl, rfl⟩
theorem tnext_some (p : Nat) (h : Ts w F bt bp lv P a) (hp : P[p]? = some (y :: l)) : Calls Try.prog 64 #[.pointer (some ⟨bt, 0, none⟩), .int .i64 (p : Int)] w fun e w' => e = .returned (.tuple #[.int .u64 y.when, .bool true]) ∧ w = w' := by
  have hpl := (List.getElem?_eq_some_iff.1 hp).1
  have C := Lib.hid (tisproc_yes p h hpl)
  obtain ⟨g, cap, hv, -, -, hc⟩ := (h.lst p _ hp).at (i := 0) (by simp)
  obtain ⟨e0, -, -⟩ := hc w (Cha.refl _ w)
  have c1 := h.tab.cell hpl
  rw [hv] at c1
  have c0 := h.ptr
  have h8 := h.k8
  clear h hp hc
  generalize P.length = n at *
  obtain ⟨m, hm⟩ : ∃ m, m + 1 = (y :: l).length := ⟨_, rfl⟩
  rw [← hm] at c1
  clear hm
  have hp2 : (p : Int) < n := by omega
  have hp1 : (0 : Int) ≤ (p : Int) := by omega
  have hm1 : ((m + 1 : Nat) : Int) ≠ 0 := by omega
  have hm2 : (0 : Int) < ((m + 1 : Nat) : Int) := by omega
  simp only [Nat.zero_mul, List.getD_cons_zero] at e0
  go_enter Try.func64, Try.ntmps64
  go_wp2_with (go_at_call 43; ((with_reducible refine (C.out).mono ?_); rintro e w1 ⟨rfl, rfl⟩))
  go_returns
  exact ⟨rfl, rfl⟩
end Go.Proofs.Ytaloafihbdamiaa
