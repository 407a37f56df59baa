/- Timers: comparing. -/
import Derived.Test.YtaloafihbdamiaaGreatE
import Derived.Handy
import Derived.Deep.RegionLaw
import Derived.Deep.RegionHeld3
import Derived.Deep.QuietTactic
namespace Go.Proofs.YtaloafihbdamiaaGreat
open Go.ChangeShapes Go.WideShapes Go.ChangeAt Go.RowKit

theorem isnan_any (x : Int) (w : World) : Calls Tryz.prog 92 #[.int .u64 x] w fun e w' => e = .returned (.bool false) ∧ w = w' := by
  go_enter Tryz.func92, Tryz.ntmps92
  go_wp2
  go_ret
  exact ⟨rfl, rfl⟩
/-- -1, 0 or 1. -/
def sgn (x y : Int) : Int := if x < y then -1 else if y < x then 1 else 0
theorem compare_u64 (x y : Int) (w : World) : Calls Tryz.prog 82 #[.int .u64 x, .int .u64 y] w fun e w' => e = .returned (.int .i64 (sgn x y)) ∧ w = w' := by
  have N := Lib.hid isnan_any
  unfold sgn
  by_cases h1 : x < y
  · rw [if_pos h1]
    go_enter Tryz.func82, Tryz.ntmps82
    go_wp2_with (go_at_call 92; ((with_reducible refine (N.out _ _).mono ?_); rintro e w1 ⟨rfl, rfl⟩))
    go_ret
    exact ⟨rfl, rfl⟩
  · rw [if_neg h1]
    by_cases h2 : y < x
    · rw [if_pos h2]
      go_enter Tryz.func82, Tryz.ntmps82
      go_wp2_with (go_at_call 92; ((with_reducible refine (N.out _ _).mono ?_); rintro e w1 ⟨rfl, rfl⟩))
      go_ret
      exact ⟨rfl, rfl⟩
    · rw [if_neg h2]
      go_enter Tryz.func82, Tryz.ntmps82
      go_wp2_with (go_at_call 92; ((with_reducible refine (N.out _ _).mono ?_); rintro e w1 ⟨rfl, rfl⟩))
      go_ret
      exact ⟨rfl, rfl⟩
/-- The first of two that isn't 0. -/
def orI (x y : Int) : Int := if x = 0 then y else x
theorem or_two (x y : Int) (g : Nat) (w : World) (h0 : w.cell? ⟨g, 0, none⟩ = some (.int .i64 x)) (h1 : w.cell? ⟨g, 1, none⟩ = some (.int .i64 y)) :
    Calls Tryz.prog 81 #[.slice (some ⟨g, 0, none⟩) 2 2] w fun e w' => e = .returned (.int .i64 (orI x y)) ∧ w = w' := by
  unfold orI
  by_cases hx : x = 0
  · subst hx
    rw [if_pos rfl]
    by_cases hy : y = 0
    · subst hy
      go_enter Tryz.func81, Tryz.ntmps81
      go_wp2
      refine wp_loop_rounds 3 ?_
      rw [rounds_succ]
      go_wp2
      rw [rounds_succ]
      go_wp2
      rw [rounds_succ]
      go_wp2
      go_ret
      exact ⟨rfl, rfl⟩
    · have hy1 : (y != 0) = true := by simpa using hy
      go_enter Tryz.func81, Tryz.ntmps81
      go_wp2
      refine wp_loop_rounds 2 ?_
      rw [rounds_succ]
      go_wp2
      rw [rounds_succ]
      go_wp2
      go_ret
      exact ⟨rfl, rfl⟩
  · rw [if_neg hx]
    have hx1 : (x != 0) = true := by simpa using hx
    go_enter Tryz.func81, Tryz.ntmps81
    go_wp2
    refine wp_loop_rounds 1 ?_
    rw [rounds_succ]
    go_wp2
    go_ret
    exact ⟨rfl, rfl⟩
/-- A timer: its time, how many were added ahead of it, its number. -/
structure Ent where
  when : Int
  order : Int
  id : Int
def Ent.val (a : Ent) : Value := .agg #[.int .u64 a.when, .int .u64 a.order, .int .i64 a.id]
/-- How two timers stand to one another. -/
def Ent.cmp (a b : Ent) : Int := orI (sgn a.when b.when) (sgn a.order b.order)
theorem compare_any (a1 a2 a3 b1 b2 b3 : Int) (w : World) :
    Calls Tryz.prog 66 #[.agg #[.int .u64 a1, .int .u64 a2, .int .i64 a3], .agg #[.int .u64 b1, .int .u64 b2, .int .i64 b3]] w fun e w' => e = .returned (.int .i64 (Ent.cmp ⟨a1, a2, a3⟩ ⟨b1, b2, b3⟩)) ∧ Cha (fun _ => False) w w' := by
  have C := Lib.hid compare_u64
  go_enter Tryz.func66, Tryz.ntmps66
  go_wp2
  generalize hW1 : w.alloc (.cells #[.int .u64 a1, .int .u64 a2, .int .i64 a3] 113) = W1 at *
  generalize hW2 : W1.alloc (.cells #[.int .u64 b1, .int .u64 b2, .int .i64 b3] 113) = W2 at *
  have hs : W1.heap.size = w.heap.size + 1 := by rw [← hW1]; exact World.size_alloc _ _
  have r1 : W2.heap[w.heap.size]? = some (.cells #[.int .u64 a1, .int .u64 a2, .int .i64 a3] 113 (0, 0)) := by
    rw [← hW2, heap_alloc_old W1 _ (by omega), ← hW1]; exact heap_alloc_new w _
  have r2 : W2.heap[w.heap.size + 1]? = some (.cells #[.int .u64 b1, .int .u64 b2, .int .i64 b3] 113 (0, 0)) := by
    rw [← hW2, ← hs]; exact heap_alloc_new W1 _
  have c0 : Hid (Cha (fun _ => False) w W2) := Lib.hid (by rw [← hW2, ← hW1]; exact ((Cha.refl _ w).alloc _).alloc _)
  have z2 : W2.heap.size = w.heap.size + 2 := by rw [← hW2, World.size_alloc]; omega
  have k1 := cell_of_row W2.drew _ 0 _ 113 (0, 0) r1
  have k2 := cell_of_row W2.drew _ 1 _ 113 (0, 0) r1
  have k3 := cell_of_row W2.drew _ 0 _ 113 (0, 0) r2
  have k4 := cell_of_row W2.drew _ 1 _ 113 (0, 0) r2
  have k1 : W2.drew.cell? ⟨w.heap.size, 0, none⟩ = some (.int .u64 a1) := k1
  have k2 : W2.drew.cell? ⟨w.heap.size, 1, none⟩ = some (.int .u64 a2) := k2
  have k3 : W2.drew.cell? ⟨w.heap.size + 1, 0, none⟩ = some (.int .u64 b1) := k3
  have k4 : W2.drew.cell? ⟨w.heap.size + 1, 1, none⟩ = some (.int .u64 b2) := k4
  have OR : Hid (∀ x y, Calls Tryz.prog 81 #[.slice (some ⟨W2.heap.size, 0, none⟩) 2 2] (W2.drew.alloc (.cells #[.int .i64 x, .int .i64 y] 3)) fun e w' => e = .returned (.int .i64 (orI x y)) ∧ W2.drew.alloc (.cells #[.int .i64 x, .int .i64 y] 3) = w') := Lib.hid fun x y => by
    have hr := heap_alloc_new W2.drew (.cells #[.int .i64 x, .int .i64 y] 3)
    exact or_two x y W2.heap.size _ (cell_of_row _ _ 0 _ 3 (0, 0) hr) (cell_of_row _ _ 1 _ 3 (0, 0) hr)
  have KX : Hid (∀ W', Cha (fun _ => False) W2 W' → W'.cell? ⟨w.heap.size, 0, none⟩ = some (.int .u64 a1) ∧ W'.cell? ⟨w.heap.size, 1, none⟩ = some (.int .u64 a2) ∧ W'.cell? ⟨w.heap.size + 1, 0, none⟩ = some (.int .u64 b1) ∧ W'.cell? ⟨w.heap.size + 1, 1, none⟩ = some (.int .u64 b2)) := Lib.hid fun W' c => by
    have e1 := (c.old _ (by omega) (fun f => f)).trans r1
    have e2 := (c.old _ (by omega) (fun f => f)).trans r2
    exact ⟨cell_of_row W' _ 0 _ 113 (0, 0) e1, cell_of_row W' _ 1 _ 113 (0, 0) e1, cell_of_row W' _ 0 _ 113 (0, 0) e2, cell_of_row W' _ 1 _ 113 (0, 0) e2⟩
  clear hW1 hW2 r1 r2 hs
  have HZ := Lib.hid z2
  clear z2
  generalize w.heap.size = g at *
  go_region_held3 (fun w' => w'.cell? ⟨g, 0, none⟩ = some (.int .u64 a1) ∧ w'.cell? ⟨g, 1, none⟩ = some (.int .u64 a2) ∧ w'.cell? ⟨g + 1, 0, none⟩ = some (.int .u64 b1) ∧ w'.cell? ⟨g + 1, 1, none⟩ = some (.int .u64 b2))
    (first
      | exact ⟨k1, k2, k3, k4⟩
      | exact KX.out _ (((Cha.refl _ W2).alloc _).drew)
      | go_keep)
    (first
      | (go_at_call 82; refine (C.out _ _ _).mono ?_; rintro e5 w5 ⟨rfl, rfl⟩)
      | (go_at_call 81; refine (OR.out _ _).mono ?_; rintro e6 w6 ⟨rfl, rfl⟩))
  all_goals
    go_wp2
    go_ret
    exact ⟨rfl, (c0.out.drew).alloc _⟩
end Go.Proofs.YtaloafihbdamiaaGreat

namespace Go.Proofs.YtaloafihbdamiaaGreat
open Go.ChangeShapes Go.WideShapes Go.ChangeAt Go.RowKit
variable {w w' : World} {v : Value} {E : List Ent} {S : Nat → Prop}

def ec (a : Ent) : List Value := [.int .u64 a.when, .int .u64 a.order, .int .i64 a.id]
def ecs (E : List Ent) : List Value := E.flatMap ec
theorem ecs_len (E : List Ent) : (ecs E).length = E.length * 3 := by
  unfold ecs
  induction E with
  | nil => rfl
  | cons a l ih => rw [List.flatMap_cons, List.length_append, ih, List.length_cons]; simp [ec]; omega
theorem ecs_get (E : List Ent) (i j : Nat) (hi : i < E.length) (hj : j < 3) : (ecs E)[i * 3 + j]? = (ec (E.getD i ⟨0, 0, 0⟩))[j]? := by
  unfold ecs
  induction E generalizing i with
  | nil => cases hi
  | cons a l ih =>
    rw [List.flatMap_cons]
    have hl : (ec a).length = 3 := rfl
    cases i with
    | zero =>
      rw [List.getElem?_append_left (by omega)]
      simp
    | succ i =>
      rw [List.getElem?_append_right (by omega), hl, show (i + 1) * 3 + j - 3 = i * 3 + j by omega, ih i (by simpa using hi)]
      simp
/-- A list of timers of one's own. -/
def Ents (w : World) (v : Value) (E : List Ent) : Prop := w.ownsRow 0 113 3 v E.length (ecs E)
theorem Ents.at (h : Ents w v E) {i : Nat} (hi : i < E.length) : ∃ g cap, v = .slice (some ⟨g, 0, none⟩) E.length cap ∧ E.length ≤ cap ∧ cap ≤ maxLen ∧ ∀ w', Cha (fun _ => False) w w' →
    w'.cell? ⟨g, i * 3, none⟩ = some (.int .u64 (E.getD i ⟨0, 0, 0⟩).when) ∧ w'.cell? ⟨g, i * 3 + 1, none⟩ = some (.int .u64 (E.getD i ⟨0, 0, 0⟩).order) ∧ w'.cell? ⟨g, i * 3 + 2, none⟩ = some (.int .i64 (E.getD i ⟨0, 0, 0⟩).id) := by
  rcases h.2 with ⟨_, h0⟩ | ⟨g, cap, cur, hv, _, hg, hc, hm, hs, ht⟩
  · omega
  · refine ⟨g, cap, hv, hc, hm, fun w' c => ?_⟩
    have hg' := (c.old g (Array.getElem?_eq_some_iff.1 hg).1 (fun f => f)).trans hg
    have key : ∀ j, j < 3 → w'.cell? ⟨g, i * 3 + j, none⟩ = (ec (E.getD i ⟨0, 0, 0⟩))[j]? := fun j hj => by
      rw [cell_of_row w' g _ cur 113 (0, 0) hg', ← ecs_get E i j hi hj, ← ht, List.getElem?_take, if_pos (by omega), Array.getElem?_toList]
    exact ⟨key 0 (by omega), key 1 (by omega), key 2 (by omega)⟩
theorem Ents.form (h : Ents w v E) : ∃ a cap, v = .slice a E.length cap := by
  rcases h.2 with ⟨rfl, h0⟩ | ⟨g, cap, cur, hv, _⟩
  · exact ⟨none, 0, by rw [h0]⟩
  · exact ⟨_, cap, hv⟩
/-- Where a timer belongs. -/
structure Place (E : List Ent) (t : Ent) (i : Nat) : Prop where
  le : i ≤ E.length
  lo : ∀ m, m < i → (E.getD m ⟨0, 0, 0⟩).cmp t < 0
  hi : ∀ m, i ≤ m → m < E.length → 0 ≤ (E.getD m ⟨0, 0, 0⟩).cmp t
def Found (E : List Ent) (t : Ent) (w : World) (e : Ending) (w' : World) : Prop := ∃ (i : Nat) (b : Bool), e = .returned (.tuple #[.int .i64 (i : Int), .bool b]) ∧ Place E t i ∧ Cha (fun _ => False) w w'
set_option maxRecDepth 100000 in
set_option maxHeartbeats 1000000 in
theorem search_any (t1 t2 t3 : Int) (h : Ents w v E) (hl : E.length ≤ 1024) (hm : ∀ i j, i < j → j < E.length → (E.getD j ⟨0, 0, 0⟩).cmp ⟨t1, t2, t3⟩ < 0 → (E.getD i ⟨0, 0, 0⟩).cmp ⟨t1, t2, t3⟩ < 0) :
    Calls Tryz.prog 65 #[v, .agg #[.int .u64 t1, .int .u64 t2, .int .i64 t3], .func (.func 66) #[] #[]] w (Found E ⟨t1, t2, t3⟩ w) := by
  obtain ⟨a, cap, rfl⟩ := h.form
  have H := Lib.hid h
  have HM := Lib.hid hm
  clear h hm
  have HBOX : Hid (∀ W', Cha (fun _ => False) (w.alloc (.cells #[.int .u64 t1, .int .u64 t2, .int .i64 t3] 113)) W' → W'.cell? ⟨w.heap.size, 0, none⟩ = some (.int .u64 t1) ∧ W'.cell? ⟨w.heap.size, 1, none⟩ = some (.int .u64 t2) ∧ W'.cell? ⟨w.heap.size, 2, none⟩ = some (.int .i64 t3)) := Lib.hid fun W' c => by
    have e := (c.old w.heap.size (by rw [World.size_alloc]; omega) (fun f => f)).trans (heap_alloc_new w _)
    exact ⟨cell_of_row W' _ 0 _ 113 (0, 0) e, cell_of_row W' _ 1 _ 113 (0, 0) e, cell_of_row W' _ 2 _ 113 (0, 0) e⟩
  have c0 : Hid (Cha (fun _ => False) w (w.alloc (.cells #[.int .u64 t1, .int .u64 t2, .int .i64 t3] 113))) := Lib.hid ((Cha.refl _ w).alloc _)
  obtain ⟨n, hn⟩ : ∃ n, n = E.length := ⟨_, rfl⟩
  have HN := Lib.hid hn
  rw [← hn] at hl H ⊢
  clear hn
  go_enter Tryz.func65, Tryz.ntmps65
  go_wp2
  generalize hW1 : w.alloc (.cells #[.int .u64 t1, .int .u64 t2, .int .i64 t3] 113) = W1 at *
  clear hW1
  generalize hg : w.heap.size = g at *
  clear hg
  go_loopw [9, 10] (fun ix jx wr => ∃ i j : Nat, i ≤ j ∧ j ≤ n ∧ ix = .int .i64 (i : Int) ∧ jx = .int .i64 (j : Int) ∧ Cha (fun _ => False) W1 wr ∧ (∀ m, m < i → (E.getD m ⟨0, 0, 0⟩).cmp ⟨t1, t2, t3⟩ < 0) ∧ (∀ m, j ≤ m → m < n → 0 ≤ (E.getD m ⟨0, 0, 0⟩).cmp ⟨t1, t2, t3⟩)) (fun ix jx _ => (intOf jx).toNat - (intOf ix).toNat)
  case atStart => exact ⟨0, n, by omega, by omega, rfl, rfl, Cha.refl _ _, fun m hm => absurd hm (by omega), fun m h1 h2 => absurd h2 (by omega)⟩
  case round =>
    obtain ⟨i, j, hij, hj, rfl, rfl, hC, hlo, hhi⟩ := hrel
    have HC := Lib.hid hC
    have HLO := Lib.hid hlo
    have HHI := Lib.hid hhi
    clear hC hlo hhi
    by_cases hlt : i < j
    · obtain ⟨hh, hhe⟩ : ∃ hh, hh = (i + j) / 2 := ⟨_, rfl⟩
      have ehh : ((i : Int) + (j : Int)) / 2 = (hh : Int) := by omega
      have hh1 : i ≤ hh := by omega
      have hh2 : hh < j := by omega
      have hhn : hh < n := by omega
      obtain ⟨g2, cap2, e, -, -, hel⟩ := H.out.at (i := hh) (by rw [← HN.out]; exact hhn)
      rw [← HN.out] at e
      cases e
      obtain ⟨d1, d2, d3⟩ := hel wr.drew ((c0.out.trans HC.out).drew)
      obtain ⟨b1, b2, b3⟩ := HBOX.out wr.drew HC.out.drew
      have k1 : (hh : Int) < (n : Int) := by omega
      have k2 : (0 : Int) ≤ (hh : Int) := by omega
      obtain ⟨x, hx⟩ : ∃ x, x = E.getD hh ⟨0, 0, 0⟩ := ⟨_, rfl⟩
      rw [← hx] at d1 d2 d3
      have HX := Lib.hid hx
      have HE := Lib.hid hhe
      have CC : Hid (Calls Tryz.prog 66 #[.agg #[.int .u64 x.when, .int .u64 x.order, .int .i64 x.id], .agg #[.int .u64 t1, .int .u64 t2, .int .i64 t3]] wr.drew fun e w' => e = .returned (.int .i64 (Ent.cmp x ⟨t1, t2, t3⟩)) ∧ Cha (fun _ => False) wr.drew w') := Lib.hid (compare_any _ _ _ _ _ _ _)
      generalize hcv : Ent.cmp x ⟨t1, t2, t3⟩ = cv at *
      have HCV := Lib.hid hcv
      clear hx hhe hcv hel
      obtain ⟨x1, x2, x3⟩ := x
      dsimp only at *
      by_cases hneg : cv < 0
      · have HL2 : Hid (∀ m, m < hh + 1 → (E.getD m ⟨0, 0, 0⟩).cmp ⟨t1, t2, t3⟩ < 0) := Lib.hid fun m hm => by
          have hq : (E.getD hh ⟨0, 0, 0⟩).cmp ⟨t1, t2, t3⟩ < 0 := by rw [← HX.out, HCV.out]; exact hneg
          by_cases e : m = hh
          · rw [e]; exact hq
          · exact HM.out m hh (by omega) (by rw [← HN.out]; exact hhn) hq
        go_wp2
        go_region_law (go_simp; go_at_call 66; refine (CC.out).mono ?_; rintro e w2 ⟨rfl, hc⟩; have HC2 := Lib.hid hc; clear hc)
        all_goals
          go_wp2
          go_roundw
          case rel => exact ⟨hh + 1, j, by omega, hj, by go_num, rfl, (HC.out.drew).trans HC2.out, HL2.out, HHI.out⟩
          case measure => simp [intOf]; omega
      · have HH2 : Hid (∀ m, hh ≤ m → m < n → 0 ≤ (E.getD m ⟨0, 0, 0⟩).cmp ⟨t1, t2, t3⟩) := Lib.hid fun m h1 h2 => Int.not_lt.1 fun hc => by
          have hq : (E.getD hh ⟨0, 0, 0⟩).cmp ⟨t1, t2, t3⟩ < 0 := by
            by_cases e : m = hh
            · rw [← e]; exact hc
            · exact HM.out hh m (by omega) (by rw [← HN.out]; exact h2) hc
          rw [← HX.out, HCV.out] at hq
          exact hneg hq
        go_wp2
        go_region_law (go_simp; go_at_call 66; refine (CC.out).mono ?_; rintro e w2 ⟨rfl, hc⟩; have HC2 := Lib.hid hc; clear hc)
        all_goals
          go_wp2
          go_roundw
          case rel => exact ⟨i, hh, by omega, by omega, rfl, rfl, (HC.out.drew).trans HC2.out, HLO.out, HH2.out⟩
          case measure => simp [intOf]; omega
    · obtain rfl : i = j := by omega
      have HP : Hid (Place E ⟨t1, t2, t3⟩ i) := Lib.hid ⟨by rw [← HN.out]; exact hj, HLO.out, fun m h1 h2 => HHI.out m h1 (by rw [HN.out]; exact h2)⟩
      by_cases hin : i < n
      · obtain ⟨g2, cap2, e, -, -, hel⟩ := H.out.at (i := i) (by rw [← HN.out]; exact hin)
        rw [← HN.out] at e
        cases e
        obtain ⟨d1, d2, d3⟩ := hel wr.drew ((c0.out.trans HC.out).drew)
        obtain ⟨b1, b2, b3⟩ := HBOX.out wr.drew HC.out.drew
        have k1 : (i : Int) < (n : Int) := by omega
        have k2 : (0 : Int) ≤ (i : Int) := by omega
        obtain ⟨x, hx⟩ : ∃ x, x = E.getD i ⟨0, 0, 0⟩ := ⟨_, rfl⟩
        rw [← hx] at d1 d2 d3 hel
        have KE := Lib.hid hel
        have CC : Hid (Calls Tryz.prog 66 #[.agg #[.int .u64 x.when, .int .u64 x.order, .int .i64 x.id], .agg #[.int .u64 t1, .int .u64 t2, .int .i64 t3]] wr.drew fun e w' => e = .returned (.int .i64 (Ent.cmp x ⟨t1, t2, t3⟩)) ∧ Cha (fun _ => False) wr.drew w') := Lib.hid (compare_any _ _ _ _ _ _ _)
        generalize Ent.cmp x ⟨t1, t2, t3⟩ = cv at *
        clear hx hel
        obtain ⟨x1, x2, x3⟩ := x
        dsimp only at *
        have KS : Hid (∀ w', Cha (fun _ => False) wr.drew w' → w'.cell? ⟨g2, i * 3, none⟩ = some (.int .u64 x1) ∧ w'.cell? ⟨g2, i * 3 + 1, none⟩ = some (.int .u64 x2) ∧ w'.cell? ⟨g2, i * 3 + 2, none⟩ = some (.int .i64 x3) ∧ w'.cell? ⟨g, 0, none⟩ = some (.int .u64 t1) ∧ w'.cell? ⟨g, 1, none⟩ = some (.int .u64 t2) ∧ w'.cell? ⟨g, 2, none⟩ = some (.int .i64 t3)) := Lib.hid fun w' c => by
          obtain ⟨e1, e2, e3⟩ := KE.out w' (((c0.out.trans HC.out).drew).trans c)
          obtain ⟨e4, e5, e6⟩ := HBOX.out w' ((HC.out.drew).trans c)
          exact ⟨e1, e2, e3, e4, e5, e6⟩
        clear KE
        go_wp2
        go_region_held3 (fun w' => w'.cell? ⟨g2, i * 3, none⟩ = some (.int .u64 x1) ∧ w'.cell? ⟨g2, i * 3 + 1, none⟩ = some (.int .u64 x2) ∧ w'.cell? ⟨g2, i * 3 + 2, none⟩ = some (.int .i64 x3) ∧ w'.cell? ⟨g, 0, none⟩ = some (.int .u64 t1) ∧ w'.cell? ⟨g, 1, none⟩ = some (.int .u64 t2) ∧ w'.cell? ⟨g, 2, none⟩ = some (.int .i64 t3))
          (first
            | exact ⟨d1, d2, d3, b1, b2, b3⟩
            | exact KS.out _ HC2.out)
          (first | (go_at_call 66; refine (CC.out).mono ?_; rintro e w2 ⟨rfl, hc⟩; have HC2 := Lib.hid hc; clear hc))
        all_goals
          go_wp2
          go_returns
          exact ⟨i, (cv == 0), rfl, HP.out, ((c0.out.trans HC.out).drew).trans HC2.out⟩
      · have hin1 : decide ((i : Int) < (n : Int)) = false := by simp; omega
        have hin2 : decide (i < n) = false := by simp; omega
        go_wp2
        go_region
        all_goals
          go_wp2
          go_returns
          exact ⟨i, false, rfl, HP.out, (c0.out.trans HC.out).drew⟩
end Go.Proofs.YtaloafihbdamiaaGreat

namespace Go.Proofs.YtaloafihbdamiaaGreat
open Go.ChangeShapes Go.WideShapes Go.ChangeAt Go.RowKit
variable {w w' : World} {F F' : Nat → Prop} {bt bp : Nat} {lv : Nat → Value} {P : List (List Ent)} {a x : Int} {y : Ent} {l : List Ent}

/-- Timers at block bt, their lists' slices at bp; F: their blocks; a: how many have been added. -/
structure Ts (w : World) (F : Nat → Prop) (bt bp : Nat) (lv : Nat → Value) (P : List (List Ent)) (a : Int) : Prop where
  head : w.heap[bt]? = some (.cells #[.slice (some ⟨bp, 0, none⟩) P.length P.length, .int .u64 a] 95 (0, 0))
  k1 : 1 ≤ P.length
  k8 : P.length ≤ 8
  tab : FRow 106 w bp P.length lv
  lst : ∀ (p : Nat) (L : List Ent), P[p]? = some L → Ents w (lv p) L
  ne : bt ≠ bp
  ft : F bt
  fp : F bp
  fv : ∀ p g, p < P.length → (lv p).ownBlock = some g → F g ∧ g ≠ bt ∧ g ≠ bp
  fpq : ∀ p q g, p < P.length → q < P.length → p ≠ q → (lv p).ownBlock = some g → (lv q).ownBlock ≠ some g
  old : ∀ i, F i → i < w.heap.size
theorem Ts.ptr (h : Ts w F bt bp lv P a) : w.cell? ⟨bt, 0, none⟩ = some (.slice (some ⟨bp, 0, none⟩) P.length P.length) := cell_of_row w bt 0 _ 95 (0, 0) h.head
theorem Ts.num (h : Ts w F bt bp lv P a) : w.cell? ⟨bt, 1, none⟩ = some (.int .u64 a) := cell_of_row w bt 1 _ 95 (0, 0) h.head
theorem Ts.free (h : Ts w F bt bp lv P a) (i : Nat) : w.frozen? ⟨bt, i, none⟩ = false := frozen_of_row w bt i _ 95 h.head
theorem tisproc_yes (p : Nat) (h : Ts w F bt bp lv P a) (hp : p < P.length) : Calls Tryz.prog 64 #[.pointer (some ⟨bt, 0, none⟩), .int .i64 (p : Int)] w fun e w' => e = .returned (.bool true) ∧ w = w' := by
  have c := h.ptr
  have h8 := h.k8
  clear h
  generalize P.length = n at *
  have hp2 : (p : Int) < n := by omega
  have hp1 : (0 : Int) ≤ (p : Int) := by omega
  go_enter Tryz.func64, Tryz.ntmps64
  go_wp2
  go_ret
  exact ⟨rfl, rfl⟩
theorem tisproc_no (p : Int) (h : Ts w F bt bp lv P a) (hp : p < 0 ∨ (P.length : Int) ≤ p) : Calls Tryz.prog 64 #[.pointer (some ⟨bt, 0, none⟩), .int .i64 p] w fun e w' => e = .returned (.bool false) ∧ w = w' := by
  have c := h.ptr
  have h8 := h.k8
  clear h
  generalize P.length = n at *
  by_cases h0 : p < 0
  · have h1 : decide (0 ≤ p) = false := by simpa using h0
    clear hp
    go_enter Tryz.func64, Tryz.ntmps64
    go_wp2
    go_ret
    exact ⟨rfl, rfl⟩
  · have h1 : 0 ≤ p := by omega
    have h2 : decide (p < (n : Int)) = false := by simp; omega
    clear hp h0
    go_enter Tryz.func64, Tryz.ntmps64
    go_wp2
    go_ret
    exact ⟨rfl, rfl⟩
theorem tnext_none (p : Int) (w : World) : Calls Tryz.prog 88 #[.pointer none, .int .i64 p] w fun e w' => e = .returned (.tuple #[.int .u64 0, .bool false]) ∧ w = w' := by
  go_enter Tryz.func88, Tryz.ntmps88
  go_wp2
  go_returns
  exact ⟨rfl, rfl⟩
theorem tnext_bad (p : Int) (h : Ts w F bt bp lv P a) (hp : p < 0 ∨ (P.length : Int) ≤ p) : Calls Tryz.prog 88 #[.pointer (some ⟨bt, 0, none⟩), .int .i64 p] w fun e w' => e = .returned (.tuple #[.int .u64 0, .bool false]) ∧ w = w' := by
  have C := Lib.hid (tisproc_no p h hp)
  clear h hp
  go_enter Tryz.func88, Tryz.ntmps88
  go_wp2_with (go_at_call 64; ((with_reducible refine (C.out).mono ?_); rintro e w1 ⟨rfl, rfl⟩))
  go_returns
  exact ⟨rfl, rfl⟩
theorem tnext_zero (p : Nat) (h : Ts w F bt bp lv P a) (hp : P[p]? = some []) : Calls Tryz.prog 88 #[.pointer (some ⟨bt, 0, none⟩), .int .i64 (p : Int)] w fun e w' => e = .returned (.tuple #[.int .u64 0, .bool false]) ∧ w = w' := by
  have hpl := (List.getElem?_eq_some_iff.1 hp).1
  have C := Lib.hid (tisproc_yes p h hpl)
  obtain ⟨s, cap, hv⟩ := (h.lst p _ hp).form
  dsimp only [List.length_nil] at hv
  have c1 := h.tab.cell hpl
  rw [hv] at c1
  have c0 := h.ptr
  have h8 := h.k8
  clear h hp
  generalize P.length = n at *
  have hp2 : (p : Int) < n := by omega
  have hp1 : (0 : Int) ≤ (p : Int) := by omega
  go_enter Tryz.func88, Tryz.ntmps88
  go_wp2_with (go_at_call 64; ((with_reducible refine (C.out).mono ?_); rintro e w1 ⟨rfl, rfl⟩))
  go_returns
  exact ⟨rfl, rfl⟩
theorem tnext_some (p : Nat) (h : Ts w F bt bp lv P a) (hp : P[p]? = some (y :: l)) : Calls Tryz.prog 88 #[.pointer (some ⟨bt, 0, none⟩), .int .i64 (p : Int)] w fun e w' => e = .returned (.tuple #[.int .u64 y.when, .bool true]) ∧ w = w' := by
  have hpl := (List.getElem?_eq_some_iff.1 hp).1
  have C := Lib.hid (tisproc_yes p h hpl)
  obtain ⟨g, cap, hv, -, -, hc⟩ := (h.lst p _ hp).at (i := 0) (by simp)
  obtain ⟨e0, -, -⟩ := hc w (Cha.refl _ w)
  have c1 := h.tab.cell hpl
  rw [hv] at c1
  have c0 := h.ptr
  have h8 := h.k8
  clear h hp hc
  generalize P.length = n at *
  obtain ⟨m, hm⟩ : ∃ m, m + 1 = (y :: l).length := ⟨_, rfl⟩
  rw [← hm] at c1
  clear hm
  have hp2 : (p : Int) < n := by omega
  have hp1 : (0 : Int) ≤ (p : Int) := by omega
  have hm1 : ((m + 1 : Nat) : Int) ≠ 0 := by omega
  have hm2 : (0 : Int) < ((m + 1 : Nat) : Int) := by omega
  simp only [Nat.zero_mul, List.getD_cons_zero] at e0
  go_enter Tryz.func88, Tryz.ntmps88
  go_wp2_with (go_at_call 64; ((with_reducible refine (C.out).mono ?_); rintro e w1 ⟨rfl, rfl⟩))
  go_returns
  exact ⟨rfl, rfl⟩
end Go.Proofs.YtaloafihbdamiaaGreat

namespace Go.Proofs.YtaloafihbdamiaaGreat
open Go.ChangeShapes Go.WideShapes Go.ChangeAt Go.RowKit
variable {w w' : World} {F F' : Nat → Prop} {bt bp : Nat} {lv : Nat → Value} {P : List (List Ent)} {a x : Int} {y : Ent} {l : List Ent}

/-- How many timers there are. -/
def many (P : List (List Ent)) : Nat := (P.map List.length).sum
theorem many_take (P : List (List Ent)) (j : Nat) (hj : j < P.length) : many (P.take (j + 1)) = many (P.take j) + (P.getD j []).length := by
  unfold many
  rw [List.take_add_one, List.getElem?_eq_getElem hj, List.map_append, List.sum_append]
  simp [List.getD, List.getElem?_eq_getElem hj]
theorem many_le (P : List (List Ent)) (j : Nat) : many (P.take j) ≤ many P := by
  have h : many P = many (P.take j) + many (P.drop j) := by
    unfold many
    rw [← List.sum_append, ← List.map_append, List.take_append_drop]
  omega
theorem tcount_none (w : World) : Calls Tryz.prog 34 #[.pointer none] w fun e w' => e = .returned (.int .i64 0) ∧ w = w' := by
  go_enter Tryz.func34, Tryz.ntmps34
  go_wp2
  go_ret
  exact ⟨rfl, rfl⟩
set_option maxRecDepth 100000 in
theorem tcount_any (h : Ts w F bt bp lv P a) (hm : many P ≤ 1024) : Calls Tryz.prog 34 #[.pointer (some ⟨bt, 0, none⟩)] w fun e w' => e = .returned (.int .i64 (many P : Int)) ∧ ∃ k, w' = w.drewN k := by
  have c0 := h.ptr
  have h8 := h.k8
  have H := Lib.hid h
  clear h
  obtain ⟨n, hn⟩ : ∃ n, n = P.length := ⟨_, rfl⟩
  have HN := Lib.hid hn
  rw [← hn] at c0 h8
  clear hn
  go_enter Tryz.func34, Tryz.ntmps34
  go_wp2
  go_loopw [3, 5, 13] (fun sx _ ix wr => ∃ j : Nat, j ≤ n ∧ sx = .int .i64 (many (P.take j) : Int) ∧ ix = .int .i64 (j : Int) ∧ ∃ k, wr = w.drewN k) (fun _ _ ix _ => n - (intOf ix).toNat)
  case atStart => exact ⟨0, Nat.zero_le _, by simp [many], rfl, 0, rfl⟩
  case round =>
    obtain ⟨j, hj, rfl, rfl, k, rfl⟩ := hrel
    by_cases hlt : j < n
    · have hp : P[j]? = some (P.getD j []) := by rw [HN.out] at hlt; simp [List.getD, List.getElem?_eq_getElem hlt]
      obtain ⟨s, cap, hv⟩ := (H.out.lst j _ hp).form
      have c1 : (w.drewN k).cell? ⟨bp, j, none⟩ = some (lv j) := H.out.tab.cell (i := j) (by rw [← HN.out]; exact hlt)
      rw [hv] at c1
      have HS := many_take P j (by rw [← HN.out]; exact hlt)
      have HL := many_le P (j + 1)
      obtain ⟨q, hq⟩ : ∃ q, q = (P.getD j []).length := ⟨_, rfl⟩
      obtain ⟨s0, hs0⟩ : ∃ s0, s0 = many (P.take j) := ⟨_, rfl⟩
      rw [← hq] at c1 HS
      rw [← hs0] at HS ⊢
      rw [HS] at HL
      have HSS := Lib.hid HS
      have h1 : IntKind.i64.wrap ((s0 : Int) + (q : Int)) = (s0 : Int) + q := IntWalk.i64_in _ (by omega)
      have k1 : (j : Int) < (n : Int) := by omega
      have k2 : (0 : Int) ≤ (j : Int) := by omega
      clear HS HL hv hp hq hs0
      go_wp2
      go_roundw
      case rel => exact ⟨j + 1, by omega, by rw [HSS.out]; go_num, by go_num, k, rfl⟩
      case measure => simp [intOf]; omega
    · obtain rfl : j = n := by omega
      have HT : Hid (many (P.take j) = many P) := Lib.hid (by rw [HN.out, List.take_length])
      go_wp2
      go_ret
      exact ⟨by rw [HT.out]; rfl, k, rfl⟩
theorem tnew_bad (n : Int) (w : World) (h : n < 1 ∨ 8 < n) : Calls Tryz.prog 15 #[.int .i64 n] w fun e w' => e = .returned (.tuple #[.pointer none, .int .i64 1]) ∧ w = w' := by
  by_cases h1 : n < 1
  · have h2 : decide (n < 1) = true := by simpa using h1
    clear h
    go_enter Tryz.func15, Tryz.ntmps15
    go_wp2
    go_returns
    exact ⟨rfl, rfl⟩
  · have h2 : decide (n < 1) = false := by simpa using h1
    have h3 : decide (8 < n) = true := by simp; omega
    have h4 : 8 < n := by omega
    clear h
    go_enter Tryz.func15, Tryz.ntmps15
    go_wp2
    go_returns
    exact ⟨rfl, rfl⟩
theorem info92 : (Tryz.prog.info? 106).map (fun i => (i.zero, i.size, i.bytes)) = some (some (.slice none 0 0), 1, 24) := by kernel_rfl
theorem made_lists (m : Nat) : madeCells (Value.slice none 0 0).cells (m * 1) = fcells m (fun _ => .slice none 0 0) := by
  rw [Nat.mul_one]
  unfold madeCells fcells
  congr 1
  funext x
  show (#[Value.slice none 0 0])[x % 1]! = _
  rw [Nat.mod_one]
  rfl
theorem mk_tabs (m : Nat) (hm : m ≤ 1000000) (W : World) : (Instr.makeSlice 93 (.int .i64 (m : Int)) (.int .i64 (m : Int))).run Tryz.prog W = .ok (.slice (some ⟨W.heap.size, 0, none⟩) m m) (W.alloc (.cells (fcells m (fun _ => .slice none 0 0)) 106)) := by
  obtain ⟨i, hi, hz, hs, hb⟩ := info_parts info92
  have h := run_make (P := Tryz.prog) W 93 106 i _ Tryz.underlying93 hi hz .i64 .i64 (m : Int) (m : Int) (by omega) (by omega) (by rw [hb]; omega) (by omega)
  rw [hs, Int.toNat_natCast, made_lists] at h
  exact h
/-- Timers that were just made. -/
def TFresh (n : Nat) (w w' : World) : Prop := Ts w' (fun i => i = w.heap.size + 1 ∨ i = w.heap.size) (w.heap.size + 1) w.heap.size (fun _ => .slice none 0 0) (List.replicate n []) 0 ∧ Cha (fun _ => False) w w'
theorem tnew_ok (n : Nat) (w : World) (h1 : 1 ≤ n) (h2 : n ≤ 8) : Calls Tryz.prog 15 #[.int .i64 (n : Int)] w fun e w' => e = .returned (.tuple #[.pointer (some ⟨w.heap.size + 1, 0, none⟩), .int .i64 0]) ∧ TFresh n w w' := by
  have hmk := mk_tabs n (by omega)
  have I0 : Hid (((w.alloc (.cells (fcells n (fun _ => .slice none 0 0)) 106)).alloc (.cells #[.slice (some ⟨w.heap.size, 0, none⟩) n n, .int .u64 0] 95)).heap[w.heap.size]? = some (.cells (fcells n (fun _ => .slice none 0 0)) 106 (0, 0))) := Lib.hid (heap_alloc2_old w _ _)
  have I1 : Hid (((w.alloc (.cells (fcells n (fun _ => .slice none 0 0)) 106)).alloc (.cells #[.slice (some ⟨w.heap.size, 0, none⟩) n n, .int .u64 0] 95)).heap[w.heap.size + 1]? = some (.cells #[.slice (some ⟨w.heap.size, 0, none⟩) n n, .int .u64 0] 95 (0, 0))) := Lib.hid (heap_alloc2_new w _ _)
  have I2 : Hid (Cha (fun _ => False) w ((w.alloc (.cells (fcells n (fun _ => .slice none 0 0)) 106)).alloc (.cells #[.slice (some ⟨w.heap.size, 0, none⟩) n n, .int .u64 0] 95))) := Lib.hid (((Cha.refl _ w).alloc _).alloc _)
  have key : ∀ W', W'.heap[w.heap.size]? = some (.cells (fcells n (fun _ => .slice none 0 0)) 106 (0, 0)) → W'.heap[w.heap.size + 1]? = some (.cells #[.slice (some ⟨w.heap.size, 0, none⟩) n n, .int .u64 0] 95 (0, 0)) → Cha (fun _ => False) w W' → TFresh n w W' := fun W' k0 k1 k2 => by
    refine ⟨⟨by rw [List.length_replicate]; exact k1, by simpa using h1, by simpa using h2, by rw [List.length_replicate]; exact k0, fun p L hL => ?_, by omega, .inl rfl, .inr rfl, (fun p g _ hg => by cases hg), (fun p q g _ _ _ hg => by cases hg), fun i hi => ?_⟩, k2⟩
    · rw [List.getElem?_replicate] at hL
      split at hL
      · obtain rfl := Option.some.inj hL
        exact World.ownsRow_nil _ _ 113 3
      · cases hL
    · have := (Array.getElem?_eq_some_iff.1 k1).1
      omega
  have KEY := Lib.hid key
  clear key
  obtain ⟨c, hc⟩ : ∃ c, c = fcells n (fun _ => .slice none 0 0) := ⟨_, rfl⟩
  rw [← hc] at I0 I1 I2 hmk KEY
  clear hc
  go_enter Tryz.func15, Tryz.ntmps15
  go_wp2
  go_returns
  exact ⟨rfl, KEY.out _ I0.out I1.out I2.out⟩
end Go.Proofs.YtaloafihbdamiaaGreat

namespace Go.Proofs.YtaloafihbdamiaaGreat
variable {L L1 L2 : List Ent} {x y e : Ent} {P : List (List Ent)} {a now : Int}

/-- Comes ahead of. -/
def Ent.lt (a b : Ent) : Prop := a.when < b.when ∨ (a.when = b.when ∧ a.order < b.order)
theorem cmp_lt (a b : Ent) : a.cmp b < 0 ↔ a.lt b := by
  unfold Ent.cmp orI sgn Ent.lt
  by_cases h1 : a.when < b.when
  · simp [h1]
  · by_cases h2 : b.when < a.when
    · have h3 : ¬ a.when = b.when := by omega
      simp [h1, h2, h3]
    · have h3 : a.when = b.when := by omega
      by_cases h4 : a.order < b.order
      · simp [h4, h3]
      · by_cases h5 : b.order < a.order <;> simp [h3, h4, h5]
theorem Ent.lt_trans {a b c : Ent} (h : a.lt b) (k : b.lt c) : a.lt c := by unfold Ent.lt at *; omega
theorem Ent.lt_irrefl (a : Ent) : ¬ a.lt a := by unfold Ent.lt; omega
def Rises (L : List Ent) : Prop := L.Pairwise Ent.lt
theorem Rises.at (h : Rises L) {i j : Nat} (hij : i < j) (hj : j < L.length) : (L.getD i ⟨0, 0, 0⟩).lt (L.getD j ⟨0, 0, 0⟩) := by
  have := List.pairwise_iff_getElem.1 h i j (by omega) hj hij
  simpa [List.getD, List.getElem?_eq_getElem hj, List.getElem?_eq_getElem (show i < L.length by omega)] using this
/-- What the search asks. -/
theorem Rises.mono (h : Rises L) (t : Ent) (i j : Nat) (hij : i < j) (hj : j < L.length) (hc : (L.getD j ⟨0, 0, 0⟩).cmp t < 0) : (L.getD i ⟨0, 0, 0⟩).cmp t < 0 :=
  (cmp_lt _ _).2 (Ent.lt_trans (h.at hij hj) ((cmp_lt _ _).1 hc))
theorem mem_take_lt {i : Nat} (hx : x ∈ L.take i) : ∃ m, m < i ∧ m < L.length ∧ L.getD m ⟨0, 0, 0⟩ = x := by
  obtain ⟨m, hm, e⟩ := List.getElem_of_mem hx
  rw [List.length_take] at hm
  refine ⟨m, by omega, by omega, ?_⟩
  rw [List.getElem_take] at e
  simp [List.getD, List.getElem?_eq_getElem (show m < L.length by omega), e]
theorem mem_drop_ge {i : Nat} (hx : x ∈ L.drop i) : ∃ m, i ≤ m ∧ m < L.length ∧ L.getD m ⟨0, 0, 0⟩ = x := by
  obtain ⟨m, hm, e⟩ := List.getElem_of_mem hx
  rw [List.length_drop] at hm
  refine ⟨i + m, by omega, by omega, ?_⟩
  rw [List.getElem_drop] at e
  simp [List.getD, List.getElem?_eq_getElem (show i + m < L.length by omega), e]
/-- One more, at its place. -/
theorem Rises.ins (h : Rises L) (ho : ∀ x ∈ L, x.order < e.order) {i : Nat} (hp : Place L e i) : Rises (L.take i ++ e :: L.drop i) := by
  have h0 : Rises (L.take i ++ L.drop i) := by rw [List.take_append_drop]; exact h
  obtain ⟨h1, h2, h3⟩ := List.pairwise_append.1 h0
  refine List.pairwise_append.2 ⟨h1, List.pairwise_cons.2 ⟨fun y hy => ?_, h2⟩, fun x hx y hy => ?_⟩
  · obtain ⟨m, k1, k2, rfl⟩ := mem_drop_ge hy
    have c := hp.hi m k1 k2
    have c2 : ¬ (L.getD m ⟨0, 0, 0⟩).lt e := fun c3 => by have := (cmp_lt _ _).2 c3; omega
    have o := ho _ (List.mem_of_mem_drop hy)
    unfold Ent.lt at c2 ⊢
    omega
  · have hxe : x.lt e := by
      obtain ⟨m, k1, k2, rfl⟩ := mem_take_lt hx
      exact (cmp_lt _ _).1 (hp.lo m k1)
    rcases List.mem_cons.1 hy with rfl | hy
    · exact hxe
    · exact h3 x hx y hy
theorem mem_ins {i : Nat} : x ∈ L.take i ++ e :: L.drop i ↔ x = e ∨ x ∈ L := by
  constructor
  · intro h
    rcases List.mem_append.1 h with h | h
    · exact .inr (List.mem_of_mem_take h)
    · rcases List.mem_cons.1 h with h | h
      · exact .inl h
      · exact .inr (List.mem_of_mem_drop h)
  · rintro (rfl | h)
    · simp
    · rw [← List.take_append_drop i L] at h
      rcases List.mem_append.1 h with h | h
      · exact List.mem_append_left _ h
      · exact List.mem_append_right _ (List.mem_cons_of_mem _ h)
theorem len_ins {i : Nat} : (L.take i ++ e :: L.drop i).length = L.length + 1 := by
  simp only [List.length_append, List.length_cons, List.length_take, List.length_drop]; omega
/-- Two lists that rise and have the same in them are one. -/
theorem Rises.unique : ∀ {L1 L2 : List Ent}, Rises L1 → Rises L2 → (∀ x, x ∈ L1 ↔ x ∈ L2) → L1 = L2
  | [], [], _, _, _ => rfl
  | [], y :: l, _, _, h => absurd ((h y).2 List.mem_cons_self) (by simp)
  | x :: l, [], _, _, h => absurd ((h x).1 List.mem_cons_self) (by simp)
  | x :: l, y :: m, h1, h2, h => by
    obtain ⟨a1, b1⟩ := List.pairwise_cons.1 h1
    obtain ⟨a2, b2⟩ := List.pairwise_cons.1 h2
    have e : x = y := by
      rcases List.mem_cons.1 ((h x).1 List.mem_cons_self) with e | e
      · exact e
      · rcases List.mem_cons.1 ((h y).2 List.mem_cons_self) with e2 | e2
        · exact e2.symm
        · exact absurd (Ent.lt_trans (a2 x e) (a1 y e2)) (Ent.lt_irrefl _)
    subst e
    rw [Rises.unique b1 b2 fun z => ?_]
    constructor
    · intro hz
      rcases List.mem_cons.1 ((h z).1 (List.mem_cons_of_mem _ hz)) with e | e
      · exact absurd (e ▸ a1 z hz) (Ent.lt_irrefl _)
      · exact e
    · intro hz
      rcases List.mem_cons.1 ((h z).2 (List.mem_cons_of_mem _ hz)) with e | e
      · exact absurd (e ▸ a2 z hz) (Ent.lt_irrefl _)
      · exact e
/-- The first k are due, the next one isn't. -/
structure Upto (L : List Ent) (now : Int) (k : Nat) : Prop where
  le : k ≤ L.length
  lo : ∀ i, i < k → (L.getD i ⟨0, 0, 0⟩).when ≤ now
  hi : k < L.length → now < (L.getD k ⟨0, 0, 0⟩).when
theorem Upto.all {k : Nat} (h : Upto L now k) : ∀ x ∈ L.take k, x.when ≤ now := fun x hx => by
  obtain ⟨m, k1, k2, rfl⟩ := mem_take_lt hx
  exact h.lo m k1
theorem Upto.none {k : Nat} (h : Upto L now k) (hr : Rises L) : ∀ x ∈ L.drop k, now < x.when := fun x hx => by
  obtain ⟨m, k1, k2, rfl⟩ := mem_drop_ge hx
  have h0 := h.hi (by omega)
  by_cases e : m = k
  · rw [e]; exact h0
  · have := hr.at (show k < m by omega) k2
    unfold Ent.lt at this
    omega
/-- The processors' lists rise; who was added is numbered below a. -/
structure Tidy (P : List (List Ent)) (a : Int) : Prop where
  up : ∀ (p : Nat) (L : List Ent), P[p]? = some L → Rises L
  lo : ∀ (p : Nat) (L : List Ent), P[p]? = some L → ∀ x ∈ L, x.order < a
theorem Tidy.set (h : Tidy P a) {p : Nat} {b : Int} (hab : a ≤ b) (hr : Rises L) (hl : ∀ x ∈ L, x.order < b) : Tidy (P.set p L) b := by
  refine ⟨fun q M hq => ?_, fun q M hq x hx => ?_⟩
  · rw [List.getElem?_set] at hq
    split at hq
    · split at hq
      · cases hq; exact hr
      · cases hq
    · exact h.up q M hq
  · rw [List.getElem?_set] at hq
    split at hq
    · split at hq
      · cases hq; exact hl x hx
      · cases hq
    · have := h.lo q M hq x hx; omega
theorem tidy_new (n : Nat) (a : Int) : Tidy (List.replicate n []) a := by
  refine ⟨fun q M hq => ?_, fun q M hq x hx => ?_⟩
  · rw [List.getElem?_replicate] at hq
    split at hq
    · cases hq; exact List.Pairwise.nil
    · cases hq
  · rw [List.getElem?_replicate] at hq
    split at hq
    · cases hq; cases hx
    · cases hq
/-- A processor's list in the sum of all. -/
theorem many_set {P : List (List Ent)} {p : Nat} {L M : List Ent} (hp : P[p]? = some L) : many (P.set p M) + L.length = many P + M.length := by
  induction P generalizing p with
  | nil => cases hp
  | cons x l ih =>
    cases p with
    | zero =>
      have e : x = L := by simpa using hp
      subst e
      simp only [many, List.set_cons_zero, List.map_cons, List.sum_cons]; omega
    | succ p =>
      have := ih (p := p) (by simpa using hp)
      simp only [many, List.set_cons_succ, List.map_cons, List.sum_cons] at this ⊢; omega
end Go.Proofs.YtaloafihbdamiaaGreat
