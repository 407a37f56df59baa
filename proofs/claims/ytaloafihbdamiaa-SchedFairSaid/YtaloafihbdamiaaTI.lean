/- Timers: Add. -/
import Derived.Test.YtaloafihbdamiaaTH
import Derived.Handy
namespace Go.Proofs.Ytaloafihbdamiaa
open Go.ChangeShapes Go.WideShapes Go.ChangeAt Go.RowKit
variable {w w' : World} {F F' : Nat → Prop} {bt bp : Nat} {lv : Nat → Value} {P : List (List Ent)} {a x : Int} {y : Ent} {E L L2 : List Ent} {v v' : Value}
theorem TLeft.over {w3 : World} (h : TLeft w3 w' F bt bp P a) (c : Cha F w w3) : TLeft w w' F bt bp P a := by
  obtain ⟨F', lv', k1, k2, k3, k4⟩ := h
  exact ⟨F', lv', k1, c.trans k2, k3, fun i hi => (k4 i hi).imp id (fun h => Nat.le_trans c.size h)⟩
set_option maxRecDepth 100000 in
set_option linter.unusedSimpArgs false in
set_option maxHeartbeats 4000000 in
theorem tadd_ok (p : Nat) (t n : Int) (h : Ts w F bt bp lv P a) (hp : P[p]? = some L) (hm : many P < 1024) (ha : 0 ≤ a) (ha2 : a < 2 ^ 63) (hs : ∀ i j, i < j → j < L.length → (L.getD j ⟨0, 0, 0⟩).cmp ⟨t, a, n⟩ < 0 → (L.getD i ⟨0, 0, 0⟩).cmp ⟨t, a, n⟩ < 0) :
    Calls Try.prog 34 #[.pointer (some ⟨bt, 0, none⟩), .int .i64 (p : Int), .int .u64 t, .int .i64 n] w fun e w' => e = .returned (.int .i64 0) ∧ ∃ i, Place L ⟨t, a, n⟩ i ∧ TLeft w w' F bt bp (P.set p (L.take i ++ ⟨t, a, n⟩ :: L.drop i)) (a + 1) := by
  have hpl := (List.getElem?_eq_some_iff.1 hp).1
  have C := Lib.hid (tisproc_yes p h hpl)
  have D := Lib.hid (tcount_any h (by omega))
  have hq : ((many P : Nat) : Int) < 1024 := by omega
  obtain ⟨q, hqe⟩ : ∃ q, q = many P := ⟨_, rfl⟩
  rw [← hqe] at D hq
  clear hqe
  have c0 := h.ptr
  have c1 := h.num
  have z1 := h.free 1
  have hw1 : IntKind.u64.wrap (a + 1) = a + 1 := by rw [IntKind.wrap_u64]; omega
  have H := Lib.hid h
  have hbt := h.old bt h.ft
  have hA : ∀ k, ((w.drewN k).alloc (.cells #[.int .u64 0, .int .u64 0, .int .i64 0] 93)).heap[w.heap.size]? = some (.cells #[.int .u64 0, .int .u64 0, .int .i64 0] 93 (0, 0)) := fun k => heap_alloc_new (w.drewN k) _
  have g0 : ∀ k, ((w.drewN k).alloc (.cells #[.int .u64 0, .int .u64 0, .int .i64 0] 93)).cell? ⟨w.heap.size, 0, none⟩ = some (.int .u64 0) := fun k => cell_of_row _ w.heap.size 0 _ 93 (0, 0) (hA k)
  have g1 : ∀ k, ((w.drewN k).alloc (.cells #[.int .u64 0, .int .u64 0, .int .i64 0] 93)).cell? ⟨w.heap.size, 1, none⟩ = some (.int .u64 0) := fun k => cell_of_row _ w.heap.size 1 _ 93 (0, 0) (hA k)
  have g2 : ∀ k, ((w.drewN k).alloc (.cells #[.int .u64 0, .int .u64 0, .int .i64 0] 93)).cell? ⟨w.heap.size, 2, none⟩ = some (.int .i64 0) := fun k => cell_of_row _ w.heap.size 2 _ 93 (0, 0) (hA k)
  have gz : ∀ k j, ((w.drewN k).alloc (.cells #[.int .u64 0, .int .u64 0, .int .i64 0] 93)).frozen? ⟨w.heap.size, j, none⟩ = false := fun k j => frozen_of_row _ w.heap.size j _ 93 (hA k)
  obtain ⟨WN, hWN⟩ : ∃ WN : Nat → World, ∀ k, ((((((w.drewN k).alloc (.cells #[.int .u64 0, .int .u64 0, .int .i64 0] 93)).setCell ⟨w.heap.size, 0, none⟩ (.int .u64 t)).setCell ⟨w.heap.size, 1, none⟩ (.int .u64 a)).setCell ⟨w.heap.size, 2, none⟩ (.int .i64 n))) = WN k := ⟨fun k => ((((((w.drewN k).alloc (.cells #[.int .u64 0, .int .u64 0, .int .i64 0] 93)).setCell ⟨w.heap.size, 0, none⟩ (.int .u64 t)).setCell ⟨w.heap.size, 1, none⟩ (.int .u64 a)).setCell ⟨w.heap.size, 2, none⟩ (.int .i64 n))), fun k => rfl⟩
  have KN : ∀ k, Cha (fun _ => False) w (WN k) ∧ (WN k).heap.size = w.heap.size + 1 ∧ (WN k).heap[w.heap.size]? = some (.cells #[.int .u64 t, .int .u64 a, .int .i64 n] 93 (0, 0)) := fun k => by
    refine ⟨?_, ?_, ?_⟩
    · rw [← hWN]
      have c0 := ((Cha.refl (fun _ => False) w).drewN k).alloc (.cells #[.int .u64 0, .int .u64 0, .int .i64 0] 93)
      exact ((c0.setCell (p := ⟨w.heap.size, 0, none⟩) (fun e => absurd e (Nat.lt_irrefl _)) _).setCell (p := ⟨w.heap.size, 1, none⟩) (fun e => absurd e (Nat.lt_irrefl _)) _).setCell (p := ⟨w.heap.size, 2, none⟩) (fun e => absurd e (Nat.lt_irrefl _)) _
    · rw [← hWN]; simp [World.setCell, World.alloc, World.drewN]
    · rw [← hWN]
      have e1 := heap_setCell_same _ w.heap.size 0 _ 93 (.int .u64 t) (hA k)
      have e2 := heap_setCell_same _ w.heap.size 1 _ 93 (.int .u64 a) e1
      exact heap_setCell_same _ w.heap.size 2 _ 93 (.int .i64 n) e2
  have TN : ∀ k, Ts (WN k) F bt bp lv P a := fun k => h.same (KN k).1
  have c1n : ∀ k, (WN k).cell? ⟨bt, 1, none⟩ = some (.int .u64 a) := fun k => (TN k).num
  have z1n : ∀ k, (WN k).frozen? ⟨bt, 1, none⟩ = false := fun k => (TN k).free 1
  have TN2 : Hid (∀ k, Ts ((WN k).setCell ⟨bt, 1, none⟩ (.int .u64 (a + 1))) F bt bp lv P (a + 1)) := Lib.hid fun k => (TN k).count (a + 1)
  have KN2 := Lib.hid KN
  have HS := Lib.hid hs
  have HL : Hid (L.length ≤ 1024) := Lib.hid (by
    have e1 := many_take P p hpl
    have e2 := many_le P (p + 1)
    have e3 : P.getD p [] = L := by simp [List.getD, hp]
    rw [e3] at e1
    omega)
  clear h hA TN KN hs
  go_enter Try.func34, Try.ntmps34
  go_wp2_with (first
    | (go_at_call 43; ((with_reducible refine (C.out).mono ?_); rintro e w1 ⟨rfl, rfl⟩))
    | (go_at_call 35; ((with_reducible refine (D.out).mono ?_); rintro e w1 ⟨rfl, k, rfl⟩)))
  obtain ⟨W, hW⟩ : ∃ W, W = (WN k).setCell ⟨bt, 1, none⟩ (.int .u64 (a + 1)) := ⟨_, rfl⟩
  rw [← hW]
  have T := TN2.out k
  rw [← hW] at T
  have hvb : W.heap[w.heap.size]? = some (.cells #[.int .u64 t, .int .u64 a, .int .i64 n] 93 (0, 0)) := by rw [hW]; exact (heap_setCell_other _ _ _ _ (show w.heap.size ≠ bt by omega)).trans (KN2.out k).2.2
  have cW : Cha F w W := by rw [hW]; exact ((KN2.out k).1.wide).setCell (p := ⟨bt, 1, none⟩) (fun _ => H.out.ft) _
  obtain ⟨vb, hvbe⟩ : ∃ vb, vb = w.heap.size := ⟨_, rfl⟩
  rw [← hvbe] at hvb ⊢
  have hFvb : Hid (¬ F vb) := Lib.hid fun c => by have := H.out.old vb c; omega
  have HVBE := Lib.hid hvbe
  have HT := Lib.hid T
  have HCW := Lib.hid cW
  have t0 : W.drew.cell? ⟨bt, 0, none⟩ = some (.slice (some ⟨bp, 0, none⟩) P.length P.length) := T.ptr
  have t1 : W.drew.cell? ⟨bp, p, none⟩ = some (lv p) := T.tab.cell hpl
  have t2 : W.drew.cell? ⟨vb, 0, none⟩ = some (.int .u64 t) := cell_of_row W vb 0 _ 93 (0, 0) hvb
  have t3 : W.drew.cell? ⟨vb, 1, none⟩ = some (.int .u64 a) := cell_of_row W vb 1 _ 93 (0, 0) hvb
  have t4 : W.drew.cell? ⟨vb, 2, none⟩ = some (.int .i64 n) := cell_of_row W vb 2 _ 93 (0, 0) hvb
  have KS : Hid (∀ w', Cha (fun _ => False) W.drew w' → w'.cell? ⟨bt, 0, none⟩ = some (.slice (some ⟨bp, 0, none⟩) P.length P.length) ∧ w'.cell? ⟨bp, p, none⟩ = some (lv p) ∧ w'.cell? ⟨vb, 0, none⟩ = some (.int .u64 t) ∧ w'.cell? ⟨vb, 1, none⟩ = some (.int .u64 a) ∧ w'.cell? ⟨vb, 2, none⟩ = some (.int .i64 n)) := Lib.hid fun w' c => by
    have c' : Cha (fun _ => False) W w' := ((Cha.refl (fun _ => False) W).drew).trans c
    have T' := T.same c'
    have r := (c'.old vb (Array.getElem?_eq_some_iff.1 hvb).1 (fun f => f)).trans hvb
    exact ⟨T'.ptr, T'.tab.cell hpl, cell_of_row w' vb 0 _ 93 (0, 0) r, cell_of_row w' vb 1 _ 93 (0, 0) r, cell_of_row w' vb 2 _ 93 (0, 0) r⟩
  have CS := Lib.hid (search_any t a n ((T.same ((Cha.refl (fun _ => False) W).drew)).lst p _ hp) HL.out HS.out)
  have HVB := Lib.hid hvb
  have HP := Lib.hid hp
  have k1 : (p : Int) < (P.length : Int) := by omega
  have k2 : (0 : Int) ≤ (p : Int) := by omega
  clear hvbe T hvb cW hW c0 c1 z1 c1n z1n g0 g1 g2 gz hWN hp
  go_wp2
  go_region_held3 (fun w' => w'.cell? ⟨bt, 0, none⟩ = some (.slice (some ⟨bp, 0, none⟩) P.length P.length) ∧ w'.cell? ⟨bp, p, none⟩ = some (lv p) ∧ w'.cell? ⟨vb, 0, none⟩ = some (.int .u64 t) ∧ w'.cell? ⟨vb, 1, none⟩ = some (.int .u64 a) ∧ w'.cell? ⟨vb, 2, none⟩ = some (.int .i64 n))
    (first | exact ⟨t0, t1, t2, t3, t4⟩ | exact KS.out _ HC2.out)
    (first | (go_at_call 44; refine (CS.out).mono ?_; rintro e w2 ⟨i, b, rfl, hpl2, hc⟩; have HPL := Lib.hid hpl2; have HC2 := Lib.hid hc; clear hpl2 hc))
  all_goals
    obtain ⟨u0, u1, u2, u3, u4⟩ := KS.out _ HC2.out
    clear t0 t1 t2 t3 t4
    go_wp2
  have c2 : Cha (fun _ => False) W w2 := ((Cha.refl (fun _ => False) W).drew).trans HC2.out
  have c3 : Cha (fun _ => False) W (w2.drew.alloc (.cells #[.int .u64 t, .int .u64 a, .int .i64 n] 93)) := c2.drew.alloc _
  have T3 := Lib.hid (HT.out.same c3)
  have T2 := HT.out.same c2
  have CW3 := Lib.hid (HCW.out.trans (c3.wide (S := F)))
  have r3 := (c3.old vb (Array.getElem?_eq_some_iff.1 HVB.out).1 (fun f => f)).trans HVB.out
  have CI := Lib.hid (insert_any ⟨t, a, n⟩ w2.heap.size i (T3.out.lst p _ HP.out) HPL.out.le HL.out (heap_alloc_new w2.drew _) (fun g hg e => by have := T2.old g (T2.fv p g hpl hg).1; omega))
  have v0 : (w2.drew.alloc (.cells #[.int .u64 t, .int .u64 a, .int .i64 n] 93)).cell? ⟨bt, 0, none⟩ = some (.slice (some ⟨bp, 0, none⟩) P.length P.length) := T3.out.ptr
  have v1 : (w2.drew.alloc (.cells #[.int .u64 t, .int .u64 a, .int .i64 n] 93)).cell? ⟨bp, p, none⟩ = some (lv p) := T3.out.tab.cell hpl
  have v1b : (w2.alloc (.cells #[.int .u64 t, .int .u64 a, .int .i64 n] 93)).cell? ⟨bp, p, none⟩ = some (lv p) := v1
  have v2 := cell_of_row _ vb 0 _ 93 (0, 0) r3
  have v3 := cell_of_row _ vb 1 _ 93 (0, 0) r3
  have v4 := cell_of_row _ vb 2 _ 93 (0, 0) r3
  have KY : Hid (∀ w4, Cha (fun j => (lv p).ownBlock = some j) (w2.drew.alloc (.cells #[.int .u64 t, .int .u64 a, .int .i64 n] 93)) w4 → w4.cell? ⟨bt, 0, none⟩ = some (.slice (some ⟨bp, 0, none⟩) P.length P.length) ∧ w4.cell? ⟨vb, 0, none⟩ = some (.int .u64 t) ∧ w4.cell? ⟨vb, 1, none⟩ = some (.int .u64 a) ∧ w4.cell? ⟨vb, 2, none⟩ = some (.int .i64 n) ∧ w4.cell? ⟨bp, p, none⟩ = some (lv p) ∧ w4.frozen? ⟨bp, p, none⟩ = false) := Lib.hid fun w4 c => by
    have e0 := (c.old bt (T3.out.old _ T3.out.ft) (fun e => (T3.out.fv p bt hpl e).2.1 rfl)).trans T3.out.head
    have e1 := (c.old vb (Array.getElem?_eq_some_iff.1 r3).1 (fun e => hFvb.out (T3.out.fv p vb hpl e).1)).trans r3
    have e2 := c.row T3.out.tab (fun e => (T3.out.fv p bp hpl e).2.2 rfl)
    exact ⟨cell_of_row w4 bt 0 _ 88 (0, 0) e0, cell_of_row w4 vb 0 _ 93 (0, 0) e1, cell_of_row w4 vb 1 _ 93 (0, 0) e1, cell_of_row w4 vb 2 _ 93 (0, 0) e1, e2.cell hpl, e2.free p⟩
  have hbv : bp ≠ vb := fun e => hFvb.out (e ▸ T2.fp)
  have KZ : Hid (∀ (w4 : World) (x : Value), w4.cell? ⟨bt, 0, none⟩ = some (.slice (some ⟨bp, 0, none⟩) P.length P.length) → w4.cell? ⟨vb, 0, none⟩ = some (.int .u64 t) → w4.cell? ⟨vb, 1, none⟩ = some (.int .u64 a) → w4.cell? ⟨vb, 2, none⟩ = some (.int .i64 n) → (w4.setCell ⟨bp, p, none⟩ x).cell? ⟨bt, 0, none⟩ = some (.slice (some ⟨bp, 0, none⟩) P.length P.length) ∧ (w4.setCell ⟨bp, p, none⟩ x).cell? ⟨vb, 0, none⟩ = some (.int .u64 t) ∧ (w4.setCell ⟨bp, p, none⟩ x).cell? ⟨vb, 1, none⟩ = some (.int .u64 a) ∧ (w4.setCell ⟨bp, p, none⟩ x).cell? ⟨vb, 2, none⟩ = some (.int .i64 n)) := Lib.hid fun w4 x y0 y2 y3 y4 => by
    refine ⟨?_, ?_, ?_, ?_⟩
    · exact (World.cell?_setCell_other w4 _ _ _ (by intro e; cases e; exact T2.ne rfl)).trans y0
    · exact (World.cell?_setCell_other w4 _ _ _ (by intro e; cases e; exact hbv rfl)).trans y2
    · exact (World.cell?_setCell_other w4 _ _ _ (by intro e; cases e; exact hbv rfl)).trans y3
    · exact (World.cell?_setCell_other w4 _ _ _ (by intro e; cases e; exact hbv rfl)).trans y4
  clear c2 c3 T2 r3 hbv
  refine wp_region_held_drew (S := (fun w' => w'.cell? ⟨bt, 0, none⟩ = some (.slice (some ⟨bp, 0, none⟩) P.length P.length) ∧ w'.cell? ⟨vb, 0, none⟩ = some (.int .u64 t) ∧ w'.cell? ⟨vb, 1, none⟩ = some (.int .u64 a) ∧ w'.cell? ⟨vb, 2, none⟩ = some (.int .i64 n))) (by kernel_rfl) (by exact ⟨u0, u2, u3, u4⟩) (fun hHeld => ?_)
  refine wpAnyH_take (i := 0) (v := ?_) rfl (by kernel_rfl) (by kernel_rfl) (by kernel_rfl) (fun _ _ _ h => h) (Or.inl ⟨by rfl, ?_⟩) (by assumption) ?_
  rotate_left
  · intro w hSw; (try dsimp only at hSw); go_simp; (try with_reducible rfl)
  try simp only [Act.put, List.setIfInBounds_toArray, List.set_cons_zero, List.set_cons_succ]
  refine wpAnyH_take (i := 1) (v := ?_) rfl (by kernel_rfl) (by kernel_rfl) (by kernel_rfl) (fun _ _ _ h => h) (Or.inl ⟨by rfl, ?_⟩) (by assumption) ?_
  rotate_left
  · intro w hSw; (try dsimp only at hSw); go_simp; (try with_reducible rfl)
  try simp only [Act.put, List.setIfInBounds_toArray, List.set_cons_zero, List.set_cons_succ]
  refine wpAnyH_take (i := 2) (v := ?_) rfl (by kernel_rfl) (by kernel_rfl) (by kernel_rfl) (fun _ _ _ h => h) (Or.inl ⟨by rfl, ?_⟩) (by assumption) ?_
  rotate_left
  · intro w hSw; (try dsimp only at hSw); go_simp; (try with_reducible rfl)
  try simp only [Act.put, List.setIfInBounds_toArray, List.set_cons_zero, List.set_cons_succ]
  refine wpAnyH_take (i := 3) (v := ?_) rfl (by kernel_rfl) (by kernel_rfl) (by kernel_rfl) (fun _ _ _ h => h) (Or.inl ⟨by rfl, ?_⟩) (by assumption) ?_
  rotate_left
  · intro w hSw; (try dsimp only at hSw); go_simp; (try with_reducible rfl)
  try simp only [Act.put, List.setIfInBounds_toArray, List.set_cons_zero, List.set_cons_succ]
  refine wpAnyH_take (i := 4) (v := ?_) rfl (by kernel_rfl) (by kernel_rfl) (by kernel_rfl) (fun _ _ _ h => h) (Or.inl ⟨by rfl, ?_⟩) (by assumption) ?_
  rotate_left
  · intro w hSw; (try dsimp only at hSw); go_simp; (try with_reducible rfl)
  try simp only [Act.put, List.setIfInBounds_toArray, List.set_cons_zero, List.set_cons_succ]
  refine wpAnyH_take (i := 5) (v := ?_) rfl (by kernel_rfl) (by kernel_rfl) (by kernel_rfl) (fun _ _ _ h => h) (Or.inl ⟨by rfl, ?_⟩) (by assumption) ?_
  rotate_left
  · intro w hSw; (try dsimp only at hSw); go_simp; (try with_reducible rfl)
  try simp only [Act.put, List.setIfInBounds_toArray, List.set_cons_zero, List.set_cons_succ]
  refine wpAnyH_take (i := 6) (v := ?_) rfl (by kernel_rfl) (by kernel_rfl) (by kernel_rfl) (fun _ _ _ h => h) (Or.inl ⟨by rfl, ?_⟩) (by assumption) ?_
  rotate_left
  · intro w hSw; (try dsimp only at hSw); go_simp; (try with_reducible rfl)
  try simp only [Act.put, List.setIfInBounds_toArray, List.set_cons_zero, List.set_cons_succ]
  refine wpAnyH_take (i := 7) (v := ?_) rfl (by kernel_rfl) (by kernel_rfl) (by kernel_rfl) (fun _ _ _ h => h) (Or.inl ⟨by rfl, ?_⟩) (by assumption) ?_
  rotate_left
  · intro w hSw; (try dsimp only at hSw); go_simp; (try with_reducible rfl)
  try simp only [Act.put, List.setIfInBounds_toArray, List.set_cons_zero, List.set_cons_succ]
  refine wpAnyH_take (i := 8) (v := ?_) rfl (by kernel_rfl) (by kernel_rfl) (by kernel_rfl) (fun _ _ _ h => h) (Or.inl ⟨by rfl, ?_⟩) (by assumption) ?_
  rotate_left
  · intro w hSw; (try dsimp only at hSw); go_simp; (try with_reducible rfl)
  try simp only [Act.put, List.setIfInBounds_toArray, List.set_cons_zero, List.set_cons_succ]
  refine wpAnyH_take (i := 9) (v := ?_) rfl (by kernel_rfl) (by kernel_rfl) (by kernel_rfl) (fun _ _ _ h => h) (Or.inl ⟨by rfl, ?_⟩) (by assumption) ?_
  rotate_left
  · intro w hSw; (try dsimp only at hSw); go_simp; (try with_reducible rfl)
  try simp only [Act.put, List.setIfInBounds_toArray, List.set_cons_zero, List.set_cons_succ]
  refine wpAnyH_take (i := 10) (v := ?_) rfl (by kernel_rfl) (by kernel_rfl) (by kernel_rfl) (fun _ _ _ h => h) (Or.inl ⟨by rfl, ?_⟩) (by assumption) ?_
  rotate_left
  · intro w hSw; (try dsimp only at hSw); go_simp; (try with_reducible rfl)
  try simp only [Act.put, List.setIfInBounds_toArray, List.set_cons_zero, List.set_cons_succ]
  refine wpAnyH_take (i := 12) (v := ?_) rfl (by kernel_rfl) (by kernel_rfl) (by kernel_rfl) (fun _ _ _ h => h) (Or.inl ⟨by rfl, ?_⟩) (by assumption) ?_
  rotate_left
  · intro w hSw; (try dsimp only at hSw); go_simp; (try with_reducible rfl)
  try simp only [Act.put, List.setIfInBounds_toArray, List.set_cons_zero, List.set_cons_succ]
  refine wpAnyH_take (i := 13) (v := ?_) rfl (by kernel_rfl) (by kernel_rfl) (by kernel_rfl) (fun _ _ _ h => h) (Or.inl ⟨by rfl, ?_⟩) (by assumption) ?_
  rotate_left
  · intro w hSw; (try dsimp only at hSw); go_simp; (try with_reducible rfl)
  try simp only [Act.put, List.setIfInBounds_toArray, List.set_cons_zero, List.set_cons_succ]
  refine wpAnyH_ready (rs := [11, 14]) (by kernel_rfl) (by simp) ?_
  refine AllReadyH.cons rfl (fun K hK => ?_) (AllReadyH.cons rfl (fun K hK => ?_) AllReadyH.nil)
  · go_simp
    refine hK.out _ _ ⟨u0, u2, u3, u4⟩ (fun hHeld => ?_)
    clear hK K
    try simp only [Act.put, List.setIfInBounds_toArray, List.set_cons_zero, List.set_cons_succ]
    refine wpAnyH_ready (rs := [14]) (by kernel_rfl) (by simp) ?_
    refine AllReadyH.cons rfl (fun K hK => ?_) AllReadyH.nil
    go_simp
    refine hK.out _ _ ⟨v0, v2, v3, v4⟩ (fun hHeld => ?_)
    clear hK K
    try simp only [Act.put, List.setIfInBounds_toArray, List.set_cons_zero, List.set_cons_succ]
    refine wpAnyH_ready (rs := [15]) (by kernel_rfl) (by simp) ?_
    refine AllReadyH.cons rfl (fun K hK => ?_) AllReadyH.nil
    go_simp
    go_at_call 46
    refine (CI.out).mono ?_
    rintro e w4 ⟨g4, cap4, rfl, hk⟩
    obtain ⟨x0, x2, x3, x4, x1, z1⟩ := KY.out w4 hk.cha
    have S4 := Lib.hid (KZ.out w4 (.slice (some ⟨g4, 0, none⟩) (L.length + 1) cap4) x0 x2 x3 x4)
    have FIN := Lib.hid ((T3.out.put hpl hk).over CW3.out)
    clear hk
    go_wp2_with fail
    refine hK.out _ _ ⟨x0, x2, x3, x4⟩ (fun hHeld => ?_)
    clear hK K
    try simp only [Act.put, List.setIfInBounds_toArray, List.set_cons_zero, List.set_cons_succ]
    refine wpAnyH_take (i := 16) (v := ?_) rfl (by kernel_rfl) (by kernel_rfl) (by kernel_rfl) (fun _ _ _ h => h) (Or.inl ⟨by rfl, ?_⟩) (by assumption) ?_
    rotate_left
    · intro w hSw; (try dsimp only at hSw); go_simp; (try with_reducible rfl)
    try simp only [Act.put, List.setIfInBounds_toArray, List.set_cons_zero, List.set_cons_succ]
    refine wpAnyH_ready (rs := [17]) (by kernel_rfl) (by simp) ?_
    refine AllReadyH.cons rfl (fun K hK => ?_) AllReadyH.nil
    go_simp
    refine hK.out _ _ (S4.out) (fun hHeld => ?_)
    clear hK K
    try simp only [Act.put, List.setIfInBounds_toArray, List.set_cons_zero, List.set_cons_succ]
    refine wpAnyH_done (by kernel_rfl) ?_ _
    go_wp2
    go_returns
    exact ⟨rfl, i, HPL.out, FIN.out⟩
  · go_simp
    refine hK.out _ _ ⟨v0, v2, v3, v4⟩ (fun hHeld => ?_)
    clear hK K
    try simp only [Act.put, List.setIfInBounds_toArray, List.set_cons_zero, List.set_cons_succ]
    refine wpAnyH_ready (rs := [11]) (by kernel_rfl) (by simp) ?_
    refine AllReadyH.cons rfl (fun K hK => ?_) AllReadyH.nil
    go_simp
    refine hK.out _ _ ⟨v0, v2, v3, v4⟩ (fun hHeld => ?_)
    clear hK K
    try simp only [Act.put, List.setIfInBounds_toArray, List.set_cons_zero, List.set_cons_succ]
    refine wpAnyH_ready (rs := [15]) (by kernel_rfl) (by simp) ?_
    refine AllReadyH.cons rfl (fun K hK => ?_) AllReadyH.nil
    go_simp
    go_at_call 46
    refine (CI.out).mono ?_
    rintro e w4 ⟨g4, cap4, rfl, hk⟩
    obtain ⟨x0, x2, x3, x4, x1, z1⟩ := KY.out w4 hk.cha
    have S4 := Lib.hid (KZ.out w4 (.slice (some ⟨g4, 0, none⟩) (L.length + 1) cap4) x0 x2 x3 x4)
    have FIN := Lib.hid ((T3.out.put hpl hk).over CW3.out)
    clear hk
    go_wp2_with fail
    refine hK.out _ _ ⟨x0, x2, x3, x4⟩ (fun hHeld => ?_)
    clear hK K
    try simp only [Act.put, List.setIfInBounds_toArray, List.set_cons_zero, List.set_cons_succ]
    refine wpAnyH_take (i := 16) (v := ?_) rfl (by kernel_rfl) (by kernel_rfl) (by kernel_rfl) (fun _ _ _ h => h) (Or.inl ⟨by rfl, ?_⟩) (by assumption) ?_
    rotate_left
    · intro w hSw; (try dsimp only at hSw); go_simp; (try with_reducible rfl)
    try simp only [Act.put, List.setIfInBounds_toArray, List.set_cons_zero, List.set_cons_succ]
    refine wpAnyH_ready (rs := [17]) (by kernel_rfl) (by simp) ?_
    refine AllReadyH.cons rfl (fun K hK => ?_) AllReadyH.nil
    go_simp
    refine hK.out _ _ (S4.out) (fun hHeld => ?_)
    clear hK K
    try simp only [Act.put, List.setIfInBounds_toArray, List.set_cons_zero, List.set_cons_succ]
    refine wpAnyH_done (by kernel_rfl) ?_ _
    go_wp2
    go_returns
    exact ⟨rfl, i, HPL.out, FIN.out⟩
end Go.Proofs.Ytaloafihbdamiaa
