/- Contracts of layer 3's faults: caught, and the deferred functions of Load, Store, Cas and Copy. -/
import Derived.Test.YtbkpbineagfbgaaB
import Derived.WalkKit
import Derived.ProofKit
import Derived.Outline
import Derived.WalkLawsBesides
import Derived.Defers
import Derived.Recover
import Derived.Orders
import Derived.Lib.Hide
namespace Go.Proofs.Ytbkpbineagfbgaa
open Go.ChangeShapes Go.WideShapes Go.ChangeAt Go.RowKit

theorem ret_int {k : IntKind} {a b : Int} (h : a = b) : Ending.returned (.int k a) = .returned (.int k b) := by rw [h]
theorem ret_bool {a b : Bool} (h : a = b) : Ending.returned (.bool a) = .returned (.bool b) := by rw [h]

/-- A region that draws its order, in a deferred function that may recover: whatever the order. -/
theorem wpS_region_draw {P : Program} {Q : Exit → Act → List Frame → World → Prop} {a : Act} {cs : List Frame} {w : World} {id : Nat} {ops : Array Oper}
    (h : ∀ t, wpOpsS P ops Q (Region.schedule (P.follows .mixedOrders) ops t) a cs { w with drawn := w.drawn + 1 }) : (Code.region id ops true).wpS P Q a cs w :=
  fun b k hb hr => let ⟨e, a', cs', w', q, r⟩ := wp_opsS _ a cs _ (h _) b k hb hr; ⟨e, a', cs', w', q, .of_steps (.one step_region_draw) r⟩

theorem lin_step (m : Region.Mode) (ops : Array Oper) (fuel t : Nat) (listed : Array Bool) (acc : List Nat) (rs : List Nat) (h : Region.ready m ops listed = rs) :
    Region.linearise.go m ops (fuel + 1) t listed acc = match rs[t % rs.length]? with
      | some i => Region.linearise.go m ops fuel (t / rs.length) (listed.setIfInBounds i true) (i :: acc)
      | none => acc.reverse := by subst h; rfl

/-- Four operations, of which the first two may come in either order. -/
theorem lin_two (ops : Array Oper) (hs : ops.size = 4) (h0 : Region.ready .any ops #[false, false, false, false] = [0, 1]) (h1 : Region.ready .any ops #[true, false, false, false] = [1])
    (h2 : Region.ready .any ops #[false, true, false, false] = [0]) (h3 : Region.ready .any ops #[true, true, false, false] = [2]) (h4 : Region.ready .any ops #[true, true, true, false] = [3]) (t : Nat) :
    Region.schedule true ops t = [0, 1, 2, 3] ∨ Region.schedule true ops t = [1, 0, 2, 3] := by
  have e : Region.schedule true ops t = Region.linearise.go .any ops 4 t #[false, false, false, false] [] := by
    simp only [Region.schedule, Bool.true_or, if_true, Region.linearise, hs]
    rfl
  rw [e, lin_step _ _ _ _ _ _ _ h0]
  have ht : t % 2 = 0 ∨ t % 2 = 1 := by omega
  rcases ht with ht | ht
  · left
    simp only [List.length_cons, List.length_nil, Nat.zero_add, Nat.reduceAdd, ht, List.getElem?_cons_zero]
    rw [show (#[false, false, false, false] : Array Bool).setIfInBounds 0 true = #[true, false, false, false] from rfl, lin_step _ _ _ _ _ _ [1] h1]
    simp only [List.length_cons, List.length_nil, Nat.zero_add, Nat.mod_one, List.getElem?_cons_zero]
    rw [show (#[true, false, false, false] : Array Bool).setIfInBounds 1 true = #[true, true, false, false] from rfl, lin_step _ _ _ _ _ _ [2] h3]
    simp only [List.length_cons, List.length_nil, Nat.zero_add, Nat.mod_one, List.getElem?_cons_zero]
    rw [show (#[true, true, false, false] : Array Bool).setIfInBounds 2 true = #[true, true, true, false] from rfl, lin_step _ _ _ _ _ _ [3] h4]
    simp only [List.length_cons, List.length_nil, Nat.zero_add, Nat.mod_one, List.getElem?_cons_zero]
    rfl
  · right
    simp only [List.length_cons, List.length_nil, Nat.zero_add, Nat.reduceAdd, ht, List.getElem?_cons_succ, List.getElem?_cons_zero]
    rw [show (#[false, false, false, false] : Array Bool).setIfInBounds 1 true = #[false, true, false, false] from rfl, lin_step _ _ _ _ _ _ [0] h2]
    simp only [List.length_cons, List.length_nil, Nat.zero_add, Nat.mod_one, List.getElem?_cons_zero]
    rw [show (#[false, true, false, false] : Array Bool).setIfInBounds 0 true = #[true, true, false, false] from rfl, lin_step _ _ _ _ _ _ [2] h3]
    simp only [List.length_cons, List.length_nil, Nat.zero_add, Nat.mod_one, List.getElem?_cons_zero]
    rw [show (#[true, true, false, false] : Array Bool).setIfInBounds 2 true = #[true, true, true, false] from rfl, lin_step _ _ _ _ _ _ [3] h4]
    simp only [List.length_cons, List.length_nil, Nat.zero_add, Nat.mod_one, List.getElem?_cons_zero]
    rfl

theorem mixed : Try.prog.follows .mixedOrders = true := by kernel_rfl

/-- Nothing was thrown: the error stays. -/
theorem caught_nil (x : Int) (w : World) : Calls Try.prog 35 #[.nilIface, .int .i64 x] w fun e w' => e = .returned (.int .i64 x) ∧ w = w' := by
  go_enter Try.func35, Try.ntmps35
  go_wp2
  go_ret
  exact ⟨rfl, rfl⟩
theorem assert85 (v : Value) (w : World) : (Instr.typeAssert (.iface 85 v) 20 85 true).run Try.prog w = .ok (.tuple #[v, .bool true]) w := by kernel_rfl
/-- A fault was thrown: its error. -/
theorem caught_fault (x y : Int) (w : World) : Calls Try.prog 35 #[.iface 85 (.agg #[.int .i64 y]), .int .i64 x] w fun e w' => e = .returned (.int .i64 y) ∧ w' = w.alloc (.cells #[.int .i64 y] 85) := by
  have k := fun w => assert85 (.agg #[.int .i64 y]) w
  go_enter Try.func35, Try.ntmps35
  go_wp2_with (simp only [k])
  go_ret
  exact ⟨rfl, rfl⟩

theorem ops4 {P : Program} {Q : Exit → Act → List Frame → World → Prop} {a : Act} {cs : List Frame} {w : World} {id : Nat} {ops : Array Oper} (hm : P.follows .mixedOrders = true) (hs : ops.size = 4) (h0 : Region.ready .any ops #[false, false, false, false] = [0, 1]) (h1 : Region.ready .any ops #[true, false, false, false] = [1])
    (h2 : Region.ready .any ops #[false, true, false, false] = [0]) (h3 : Region.ready .any ops #[true, true, false, false] = [2]) (h4 : Region.ready .any ops #[true, true, true, false] = [3])
    (k0 : wpOpsS P ops Q [0, 1, 2, 3] a cs w.drew) (k1 : wpOpsS P ops Q [1, 0, 2, 3] a cs w.drew) : (Code.region id ops true).wpS P Q a cs w := by
  refine wpS_region_draw fun t => ?_
  rw [hm]
  rcases lin_two ops hs h0 h1 h2 h3 h4 t with h | h
  · rw [h]; exact k0
  · rw [h]; exact k1

theorem catch34_fault (p : Addr) (x y : Int) (older : List PanicEntry) (w : World) (hc : w.cell? p = some (.int .i64 x)) (hz : w.frozen? p = false) (hp : p.block < w.heap.size) :
    CallsD Try.prog 34 #[.pointer (some p)] (.panicking ({ v := .iface 85 (.agg #[.int .i64 y]), recovered := false } :: older)) w fun e u' w' =>
      e = .returned (.tuple #[]) ∧ u' = .panicking ({ v := .iface 85 (.agg #[.int .i64 y]), recovered := true } :: older) ∧ w' = ((w.alloc (.cells #[.int .i64 y] 85)).setCell p (.int .i64 y)).drew := by
  have hc2 : (w.alloc (.cells #[.int .i64 y] 85)).cell? p = some (.int .i64 x) := (World.cell?_alloc_lt _ _ _ hp).trans hc
  have hz2 : (w.alloc (.cells #[.int .i64 y] 85)).frozen? p = false := (frozen?_alloc_cells _ _ _ _).trans hz
  refine callsD_of_wpS Try.func34 rfl fun c₀ cs hu => ?_
  refine ops4 mixed rfl (by kernel_rfl) (by kernel_rfl) (by kernel_rfl) (by kernel_rfl) (by kernel_rfl) ?_ ?_
  all_goals
    simp [wpOpsS, go_sem, recoverD, hu, Try.ntmps34, hc]
    refine (caught_fault x y _).mono ?_
    rintro e w' ⟨rfl, rfl⟩
    simp [go_sem, hc2, hz2, bodyPostS, results, Try.results34]
theorem catch34_idle (p : Addr) (x : Int) (w : World) (hc : w.cell? p = some (.int .i64 x)) (hz : w.frozen? p = false) :
    CallsD Try.prog 34 #[.pointer (some p)] .returning w fun e u' w' => e = .returned (.tuple #[]) ∧ u' = .returning ∧ w' = (w.setCell p (.int .i64 x)).drew := by
  refine callsD_of_wpS Try.func34 rfl fun c₀ cs hu => ?_
  refine ops4 mixed rfl (by kernel_rfl) (by kernel_rfl) (by kernel_rfl) (by kernel_rfl) (by kernel_rfl) ?_ ?_
  all_goals
    simp [wpOpsS, go_sem, recoverD, hu, Try.ntmps34, hc]
    refine (caught_nil x _).mono ?_
    rintro e w' ⟨rfl, rfl⟩
    simp [go_sem, hc, hz, bodyPostS, results, Try.results34]
    try (cases c₀; simp_all)
theorem catch37_fault (p : Addr) (x y : Int) (older : List PanicEntry) (w : World) (hc : w.cell? p = some (.int .i64 x)) (hz : w.frozen? p = false) (hp : p.block < w.heap.size) :
    CallsD Try.prog 37 #[.pointer (some p)] (.panicking ({ v := .iface 85 (.agg #[.int .i64 y]), recovered := false } :: older)) w fun e u' w' =>
      e = .returned (.tuple #[]) ∧ u' = .panicking ({ v := .iface 85 (.agg #[.int .i64 y]), recovered := true } :: older) ∧ w' = ((w.alloc (.cells #[.int .i64 y] 85)).setCell p (.int .i64 y)).drew := by
  have hc2 : (w.alloc (.cells #[.int .i64 y] 85)).cell? p = some (.int .i64 x) := (World.cell?_alloc_lt _ _ _ hp).trans hc
  have hz2 : (w.alloc (.cells #[.int .i64 y] 85)).frozen? p = false := (frozen?_alloc_cells _ _ _ _).trans hz
  refine callsD_of_wpS Try.func37 rfl fun c₀ cs hu => ?_
  refine ops4 mixed rfl (by kernel_rfl) (by kernel_rfl) (by kernel_rfl) (by kernel_rfl) (by kernel_rfl) ?_ ?_
  all_goals
    simp [wpOpsS, go_sem, recoverD, hu, Try.ntmps37, hc]
    refine (caught_fault x y _).mono ?_
    rintro e w' ⟨rfl, rfl⟩
    simp [go_sem, hc2, hz2, bodyPostS, results, Try.results37]
theorem catch37_idle (p : Addr) (x : Int) (w : World) (hc : w.cell? p = some (.int .i64 x)) (hz : w.frozen? p = false) :
    CallsD Try.prog 37 #[.pointer (some p)] .returning w fun e u' w' => e = .returned (.tuple #[]) ∧ u' = .returning ∧ w' = (w.setCell p (.int .i64 x)).drew := by
  refine callsD_of_wpS Try.func37 rfl fun c₀ cs hu => ?_
  refine ops4 mixed rfl (by kernel_rfl) (by kernel_rfl) (by kernel_rfl) (by kernel_rfl) (by kernel_rfl) ?_ ?_
  all_goals
    simp [wpOpsS, go_sem, recoverD, hu, Try.ntmps37, hc]
    refine (caught_nil x _).mono ?_
    rintro e w' ⟨rfl, rfl⟩
    simp [go_sem, hc, hz, bodyPostS, results, Try.results37]
    try (cases c₀; simp_all)
theorem catch41_fault (p : Addr) (x y : Int) (older : List PanicEntry) (w : World) (hc : w.cell? p = some (.int .i64 x)) (hz : w.frozen? p = false) (hp : p.block < w.heap.size) :
    CallsD Try.prog 41 #[.pointer (some p)] (.panicking ({ v := .iface 85 (.agg #[.int .i64 y]), recovered := false } :: older)) w fun e u' w' =>
      e = .returned (.tuple #[]) ∧ u' = .panicking ({ v := .iface 85 (.agg #[.int .i64 y]), recovered := true } :: older) ∧ w' = ((w.alloc (.cells #[.int .i64 y] 85)).setCell p (.int .i64 y)).drew := by
  have hc2 : (w.alloc (.cells #[.int .i64 y] 85)).cell? p = some (.int .i64 x) := (World.cell?_alloc_lt _ _ _ hp).trans hc
  have hz2 : (w.alloc (.cells #[.int .i64 y] 85)).frozen? p = false := (frozen?_alloc_cells _ _ _ _).trans hz
  refine callsD_of_wpS Try.func41 rfl fun c₀ cs hu => ?_
  refine ops4 mixed rfl (by kernel_rfl) (by kernel_rfl) (by kernel_rfl) (by kernel_rfl) (by kernel_rfl) ?_ ?_
  all_goals
    simp [wpOpsS, go_sem, recoverD, hu, Try.ntmps41, hc]
    refine (caught_fault x y _).mono ?_
    rintro e w' ⟨rfl, rfl⟩
    simp [go_sem, hc2, hz2, bodyPostS, results, Try.results41]
theorem catch41_idle (p : Addr) (x : Int) (w : World) (hc : w.cell? p = some (.int .i64 x)) (hz : w.frozen? p = false) :
    CallsD Try.prog 41 #[.pointer (some p)] .returning w fun e u' w' => e = .returned (.tuple #[]) ∧ u' = .returning ∧ w' = (w.setCell p (.int .i64 x)).drew := by
  refine callsD_of_wpS Try.func41 rfl fun c₀ cs hu => ?_
  refine ops4 mixed rfl (by kernel_rfl) (by kernel_rfl) (by kernel_rfl) (by kernel_rfl) (by kernel_rfl) ?_ ?_
  all_goals
    simp [wpOpsS, go_sem, recoverD, hu, Try.ntmps41, hc]
    refine (caught_nil x _).mono ?_
    rintro e w' ⟨rfl, rfl⟩
    simp [go_sem, hc, hz, bodyPostS, results, Try.results41]
    try (cases c₀; simp_all)
theorem catch42_fault (p : Addr) (x y : Int) (older : List PanicEntry) (w : World) (hc : w.cell? p = some (.int .i64 x)) (hz : w.frozen? p = false) (hp : p.block < w.heap.size) :
    CallsD Try.prog 42 #[.pointer (some p)] (.panicking ({ v := .iface 85 (.agg #[.int .i64 y]), recovered := false } :: older)) w fun e u' w' =>
      e = .returned (.tuple #[]) ∧ u' = .panicking ({ v := .iface 85 (.agg #[.int .i64 y]), recovered := true } :: older) ∧ w' = ((w.alloc (.cells #[.int .i64 y] 85)).setCell p (.int .i64 y)).drew := by
  have hc2 : (w.alloc (.cells #[.int .i64 y] 85)).cell? p = some (.int .i64 x) := (World.cell?_alloc_lt _ _ _ hp).trans hc
  have hz2 : (w.alloc (.cells #[.int .i64 y] 85)).frozen? p = false := (frozen?_alloc_cells _ _ _ _).trans hz
  refine callsD_of_wpS Try.func42 rfl fun c₀ cs hu => ?_
  refine ops4 mixed rfl (by kernel_rfl) (by kernel_rfl) (by kernel_rfl) (by kernel_rfl) (by kernel_rfl) ?_ ?_
  all_goals
    simp [wpOpsS, go_sem, recoverD, hu, Try.ntmps42, hc]
    refine (caught_fault x y _).mono ?_
    rintro e w' ⟨rfl, rfl⟩
    simp [go_sem, hc2, hz2, bodyPostS, results, Try.results42]
theorem catch42_idle (p : Addr) (x : Int) (w : World) (hc : w.cell? p = some (.int .i64 x)) (hz : w.frozen? p = false) :
    CallsD Try.prog 42 #[.pointer (some p)] .returning w fun e u' w' => e = .returned (.tuple #[]) ∧ u' = .returning ∧ w' = (w.setCell p (.int .i64 x)).drew := by
  refine callsD_of_wpS Try.func42 rfl fun c₀ cs hu => ?_
  refine ops4 mixed rfl (by kernel_rfl) (by kernel_rfl) (by kernel_rfl) (by kernel_rfl) (by kernel_rfl) ?_ ?_
  all_goals
    simp [wpOpsS, go_sem, recoverD, hu, Try.ntmps42, hc]
    refine (caught_nil x _).mono ?_
    rintro e w' ⟨rfl, rfl⟩
    simp [go_sem, hc, hz, bodyPostS, results, Try.results42]
    try (cases c₀; simp_all)
end Go.Proofs.Ytbkpbineagfbgaa
