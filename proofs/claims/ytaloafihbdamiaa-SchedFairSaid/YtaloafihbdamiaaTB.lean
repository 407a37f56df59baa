/- Timers: lists of them in memory; the search. -/
import Derived.Test.YtaloafihbdamiaaTA
namespace Go.Proofs.Ytaloafihbdamiaa
open Go.ChangeShapes Go.WideShapes Go.ChangeAt Go.RowKit
variable {w w' : World} {v : Value} {E : List Ent} {S : Nat → Prop}

def ec (a : Ent) : List Value := [.int .u64 a.when, .int .u64 a.order, .int .i64 a.id]
def ecs (E : List Ent) : List Value := E.flatMap ec
theorem ecs_len (E : List Ent) : (ecs E).length = E.length * 3 := by
  unfold ecs
  induction E with
  | nil => rfl
  | cons a l ih => rw [List.flatMap_cons, List.length_append, ih, List.length_cons]; simp [ec]; omega
theorem ecs_get (E : List Ent) (i j : Nat) (hi : i < E.length) (hj : j < 3) : (ecs E)[i * 3 + j]? = (ec (E.getD i ⟨0, 0, 0⟩))[j]? := by
  unfold ecs
  induction E generalizing i with
  | nil => cases hi
  | cons a l ih =>
    rw [List.flatMap_cons]
    have hl : (ec a).length = 3 := rfl
    cases i with
    | zero =>
      rw [List.getElem?_append_left (by omega)]
      simp
    | succ i =>
      rw [List.getElem?_append_right (by omega), hl, show (i + 1) * 3 + j - 3 = i * 3 + j by omega, ih i (by simpa using hi)]
      simp
/-- A list of timers of one's own. -/
def Ents (w : World) (v : Value) (E : List Ent) : Prop := w.ownsRow 0 93 3 v E.length (ecs E)
theorem Ents.at (h : Ents w v E) {i : Nat} (hi : i < E.length) : ∃ g cap, v = .slice (some ⟨g, 0, none⟩) E.length cap ∧ E.length ≤ cap ∧ cap ≤ maxLen ∧ ∀ w', Cha (fun _ => False) w w' →
    w'.cell? ⟨g, i * 3, none⟩ = some (.int .u64 (E.getD i ⟨0, 0, 0⟩).when) ∧ w'.cell? ⟨g, i * 3 + 1, none⟩ = some (.int .u64 (E.getD i ⟨0, 0, 0⟩).order) ∧ w'.cell? ⟨g, i * 3 + 2, none⟩ = some (.int .i64 (E.getD i ⟨0, 0, 0⟩).id) := by
  rcases h.2 with ⟨_, h0⟩ | ⟨g, cap, cur, hv, _, hg, hc, hm, hs, ht⟩
  · omega
  · refine ⟨g, cap, hv, hc, hm, fun w' c => ?_⟩
    have hg' := (c.old g (Array.getElem?_eq_some_iff.1 hg).1 (fun f => f)).trans hg
    have key : ∀ j, j < 3 → w'.cell? ⟨g, i * 3 + j, none⟩ = (ec (E.getD i ⟨0, 0, 0⟩))[j]? := fun j hj => by
      rw [cell_of_row w' g _ cur 93 (0, 0) hg', ← ecs_get E i j hi hj, ← ht, List.getElem?_take, if_pos (by omega), Array.getElem?_toList]
    exact ⟨key 0 (by omega), key 1 (by omega), key 2 (by omega)⟩
theorem Ents.form (h : Ents w v E) : ∃ a cap, v = .slice a E.length cap := by
  rcases h.2 with ⟨rfl, h0⟩ | ⟨g, cap, cur, hv, _⟩
  · exact ⟨none, 0, by rw [h0]⟩
  · exact ⟨_, cap, hv⟩
/-- Where a timer belongs. -/
structure Place (E : List Ent) (t : Ent) (i : Nat) : Prop where
  le : i ≤ E.length
  lo : ∀ m, m < i → (E.getD m ⟨0, 0, 0⟩).cmp t < 0
  hi : ∀ m, i ≤ m → m < E.length → 0 ≤ (E.getD m ⟨0, 0, 0⟩).cmp t
def Found (E : List Ent) (t : Ent) (w : World) (e : Ending) (w' : World) : Prop := ∃ (i : Nat) (b : Bool), e = .returned (.tuple #[.int .i64 (i : Int), .bool b]) ∧ Place E t i ∧ Cha (fun _ => False) w w'
set_option maxRecDepth 100000 in
set_option maxHeartbeats 1000000 in
theorem search_any (t1 t2 t3 : Int) (h : Ents w v E) (hl : E.length ≤ 1024) (hm : ∀ i j, i < j → j < E.length → (E.getD j ⟨0, 0, 0⟩).cmp ⟨t1, t2, t3⟩ < 0 → (E.getD i ⟨0, 0, 0⟩).cmp ⟨t1, t2, t3⟩ < 0) :
    Calls Try.prog 44 #[v, .agg #[.int .u64 t1, .int .u64 t2, .int .i64 t3], .func (.func 45) #[] #[]] w (Found E ⟨t1, t2, t3⟩ w) := by
  obtain ⟨a, cap, rfl⟩ := h.form
  have H := Lib.hid h
  have HM := Lib.hid hm
  clear h hm
  have HBOX : Hid (∀ W', Cha (fun _ => False) (w.alloc (.cells #[.int .u64 t1, .int .u64 t2, .int .i64 t3] 93)) W' → W'.cell? ⟨w.heap.size, 0, none⟩ = some (.int .u64 t1) ∧ W'.cell? ⟨w.heap.size, 1, none⟩ = some (.int .u64 t2) ∧ W'.cell? ⟨w.heap.size, 2, none⟩ = some (.int .i64 t3)) := Lib.hid fun W' c => by
    have e := (c.old w.heap.size (by rw [World.size_alloc]; omega) (fun f => f)).trans (heap_alloc_new w _)
    exact ⟨cell_of_row W' _ 0 _ 93 (0, 0) e, cell_of_row W' _ 1 _ 93 (0, 0) e, cell_of_row W' _ 2 _ 93 (0, 0) e⟩
  have c0 : Hid (Cha (fun _ => False) w (w.alloc (.cells #[.int .u64 t1, .int .u64 t2, .int .i64 t3] 93))) := Lib.hid ((Cha.refl _ w).alloc _)
  obtain ⟨n, hn⟩ : ∃ n, n = E.length := ⟨_, rfl⟩
  have HN := Lib.hid hn
  rw [← hn] at hl H ⊢
  clear hn
  go_enter Try.func44, Try.ntmps44
  go_wp2
  generalize hW1 : w.alloc (.cells #[.int .u64 t1, .int .u64 t2, .int .i64 t3] 93) = W1 at *
  clear hW1
  generalize hg : w.heap.size = g at *
  clear hg
  go_loopw [9, 10] (fun ix jx wr => ∃ i j : Nat, i ≤ j ∧ j ≤ n ∧ ix = .int .i64 (i : Int) ∧ jx = .int .i64 (j : Int) ∧ Cha (fun _ => False) W1 wr ∧ (∀ m, m < i → (E.getD m ⟨0, 0, 0⟩).cmp ⟨t1, t2, t3⟩ < 0) ∧ (∀ m, j ≤ m → m < n → 0 ≤ (E.getD m ⟨0, 0, 0⟩).cmp ⟨t1, t2, t3⟩)) (fun ix jx _ => (intOf jx).toNat - (intOf ix).toNat)
  case atStart => exact ⟨0, n, by omega, by omega, rfl, rfl, Cha.refl _ _, fun m hm => absurd hm (by omega), fun m h1 h2 => absurd h2 (by omega)⟩
  case round =>
    obtain ⟨i, j, hij, hj, rfl, rfl, hC, hlo, hhi⟩ := hrel
    have HC := Lib.hid hC
    have HLO := Lib.hid hlo
    have HHI := Lib.hid hhi
    clear hC hlo hhi
    by_cases hlt : i < j
    · obtain ⟨hh, hhe⟩ : ∃ hh, hh = (i + j) / 2 := ⟨_, rfl⟩
      have ehh : ((i : Int) + (j : Int)) / 2 = (hh : Int) := by omega
      have hh1 : i ≤ hh := by omega
      have hh2 : hh < j := by omega
      have hhn : hh < n := by omega
      obtain ⟨g2, cap2, e, -, -, hel⟩ := H.out.at (i := hh) (by rw [← HN.out]; exact hhn)
      rw [← HN.out] at e
      cases e
      obtain ⟨d1, d2, d3⟩ := hel wr.drew ((c0.out.trans HC.out).drew)
      obtain ⟨b1, b2, b3⟩ := HBOX.out wr.drew HC.out.drew
      have k1 : (hh : Int) < (n : Int) := by omega
      have k2 : (0 : Int) ≤ (hh : Int) := by omega
      obtain ⟨x, hx⟩ : ∃ x, x = E.getD hh ⟨0, 0, 0⟩ := ⟨_, rfl⟩
      rw [← hx] at d1 d2 d3
      have HX := Lib.hid hx
      have HE := Lib.hid hhe
      have CC : Hid (Calls Try.prog 45 #[.agg #[.int .u64 x.when, .int .u64 x.order, .int .i64 x.id], .agg #[.int .u64 t1, .int .u64 t2, .int .i64 t3]] wr.drew fun e w' => e = .returned (.int .i64 (Ent.cmp x ⟨t1, t2, t3⟩)) ∧ Cha (fun _ => False) wr.drew w') := Lib.hid (compare_any _ _ _ _ _ _ _)
      generalize hcv : Ent.cmp x ⟨t1, t2, t3⟩ = cv at *
      have HCV := Lib.hid hcv
      clear hx hhe hcv hel
      obtain ⟨x1, x2, x3⟩ := x
      dsimp only at *
      by_cases hneg : cv < 0
      · have HL2 : Hid (∀ m, m < hh + 1 → (E.getD m ⟨0, 0, 0⟩).cmp ⟨t1, t2, t3⟩ < 0) := Lib.hid fun m hm => by
          have hq : (E.getD hh ⟨0, 0, 0⟩).cmp ⟨t1, t2, t3⟩ < 0 := by rw [← HX.out, HCV.out]; exact hneg
          by_cases e : m = hh
          · rw [e]; exact hq
          · exact HM.out m hh (by omega) (by rw [← HN.out]; exact hhn) hq
        go_wp2
        go_region_law (go_simp; go_at_call 45; refine (CC.out).mono ?_; rintro e w2 ⟨rfl, hc⟩; have HC2 := Lib.hid hc; clear hc)
        all_goals
          go_wp2
          go_roundw
          case rel => exact ⟨hh + 1, j, by omega, hj, by go_num, rfl, (HC.out.drew).trans HC2.out, HL2.out, HHI.out⟩
          case measure => simp [intOf]; omega
      · have HH2 : Hid (∀ m, hh ≤ m → m < n → 0 ≤ (E.getD m ⟨0, 0, 0⟩).cmp ⟨t1, t2, t3⟩) := Lib.hid fun m h1 h2 => Int.not_lt.1 fun hc => by
          have hq : (E.getD hh ⟨0, 0, 0⟩).cmp ⟨t1, t2, t3⟩ < 0 := by
            by_cases e : m = hh
            · rw [← e]; exact hc
            · exact HM.out hh m (by omega) (by rw [← HN.out]; exact h2) hc
          rw [← HX.out, HCV.out] at hq
          exact hneg hq
        go_wp2
        go_region_law (go_simp; go_at_call 45; refine (CC.out).mono ?_; rintro e w2 ⟨rfl, hc⟩; have HC2 := Lib.hid hc; clear hc)
        all_goals
          go_wp2
          go_roundw
          case rel => exact ⟨i, hh, by omega, by omega, rfl, rfl, (HC.out.drew).trans HC2.out, HLO.out, HH2.out⟩
          case measure => simp [intOf]; omega
    · obtain rfl : i = j := by omega
      have HP : Hid (Place E ⟨t1, t2, t3⟩ i) := Lib.hid ⟨by rw [← HN.out]; exact hj, HLO.out, fun m h1 h2 => HHI.out m h1 (by rw [HN.out]; exact h2)⟩
      by_cases hin : i < n
      · obtain ⟨g2, cap2, e, -, -, hel⟩ := H.out.at (i := i) (by rw [← HN.out]; exact hin)
        rw [← HN.out] at e
        cases e
        obtain ⟨d1, d2, d3⟩ := hel wr.drew ((c0.out.trans HC.out).drew)
        obtain ⟨b1, b2, b3⟩ := HBOX.out wr.drew HC.out.drew
        have k1 : (i : Int) < (n : Int) := by omega
        have k2 : (0 : Int) ≤ (i : Int) := by omega
        obtain ⟨x, hx⟩ : ∃ x, x = E.getD i ⟨0, 0, 0⟩ := ⟨_, rfl⟩
        rw [← hx] at d1 d2 d3 hel
        have KE := Lib.hid hel
        have CC : Hid (Calls Try.prog 45 #[.agg #[.int .u64 x.when, .int .u64 x.order, .int .i64 x.id], .agg #[.int .u64 t1, .int .u64 t2, .int .i64 t3]] wr.drew fun e w' => e = .returned (.int .i64 (Ent.cmp x ⟨t1, t2, t3⟩)) ∧ Cha (fun _ => False) wr.drew w') := Lib.hid (compare_any _ _ _ _ _ _ _)
        generalize Ent.cmp x ⟨t1, t2, t3⟩ = cv at *
        clear hx hel
        obtain ⟨x1, x2, x3⟩ := x
        dsimp only at *
        have KS : Hid (∀ w', Cha (fun _ => False) wr.drew w' → w'.cell? ⟨g2, i * 3, none⟩ = some (.int .u64 x1) ∧ w'.cell? ⟨g2, i * 3 + 1, none⟩ = some (.int .u64 x2) ∧ w'.cell? ⟨g2, i * 3 + 2, none⟩ = some (.int .i64 x3) ∧ w'.cell? ⟨g, 0, none⟩ = some (.int .u64 t1) ∧ w'.cell? ⟨g, 1, none⟩ = some (.int .u64 t2) ∧ w'.cell? ⟨g, 2, none⟩ = some (.int .i64 t3)) := Lib.hid fun w' c => by
          obtain ⟨e1, e2, e3⟩ := KE.out w' (((c0.out.trans HC.out).drew).trans c)
          obtain ⟨e4, e5, e6⟩ := HBOX.out w' ((HC.out.drew).trans c)
          exact ⟨e1, e2, e3, e4, e5, e6⟩
        clear KE
        go_wp2
        go_region_held3 (fun w' => w'.cell? ⟨g2, i * 3, none⟩ = some (.int .u64 x1) ∧ w'.cell? ⟨g2, i * 3 + 1, none⟩ = some (.int .u64 x2) ∧ w'.cell? ⟨g2, i * 3 + 2, none⟩ = some (.int .i64 x3) ∧ w'.cell? ⟨g, 0, none⟩ = some (.int .u64 t1) ∧ w'.cell? ⟨g, 1, none⟩ = some (.int .u64 t2) ∧ w'.cell? ⟨g, 2, none⟩ = some (.int .i64 t3))
          (first
            | exact ⟨d1, d2, d3, b1, b2, b3⟩
            | exact KS.out _ HC2.out)
          (first | (go_at_call 45; refine (CC.out).mono ?_; rintro e w2 ⟨rfl, hc⟩; have HC2 := Lib.hid hc; clear hc))
        all_goals
          go_wp2
          go_returns
          exact ⟨i, (cv == 0), rfl, HP.out, ((c0.out.trans HC.out).drew).trans HC2.out⟩
      · have hin1 : decide ((i : Int) < (n : Int)) = false := by simp; omega
        have hin2 : decide (i < n) = false := by simp; omega
        go_wp2
        go_region
        all_goals
          go_wp2
          go_returns
          exact ⟨i, false, rfl, HP.out, (c0.out.trans HC.out).drew⟩
end Go.Proofs.Ytaloafihbdamiaa
