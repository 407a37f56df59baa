/- Check: slots of one kind, channels, globals, jumps. -/
import Derived.Test.YtpdjbhnpahkbpaaVF
namespace Go.Proofs.Ytpdjbhnpahkbpaa
set_option linter.unusedVariables false
open Go.ChangeShapes Go.WideShapes Go.ChangeAt Go.RowKit
section
variable {W w w' : World} {x : SV} {p : PZ} {f : FZ} {i : IZ}
theorem site_keep {v0 v1 v2 v3 v4 v5 v6 v7 v8 v9 v10 v11 v12 : Value} {t : TypeId} (h : Cha (fun _ => False) (W.alloc (.cells #[v0, v1, v2, v3, v4, v5, v6, v7, v8, v9, v10, v11, v12] t)) w) :
    w.cell? ⟨W.heap.size, 0, none⟩ = some v0 ∧ w.cell? ⟨W.heap.size, 1, none⟩ = some v1 ∧ w.cell? ⟨W.heap.size, 2, none⟩ = some v2 ∧ w.cell? ⟨W.heap.size, 3, none⟩ = some v3 ∧ w.cell? ⟨W.heap.size, 4, none⟩ = some v4 ∧ w.cell? ⟨W.heap.size, 5, none⟩ = some v5 ∧ w.cell? ⟨W.heap.size, 6, none⟩ = some v6 ∧ w.cell? ⟨W.heap.size, 7, none⟩ = some v7 ∧ w.cell? ⟨W.heap.size, 8, none⟩ = some v8 ∧ w.cell? ⟨W.heap.size, 9, none⟩ = some v9 ∧ w.cell? ⟨W.heap.size, 10, none⟩ = some v10 ∧ w.cell? ⟨W.heap.size, 11, none⟩ = some v11 ∧ w.cell? ⟨W.heap.size, 12, none⟩ = some v12 :=
  ⟨box_keep h 0, box_keep h 1, box_keep h 2, box_keep h 3, box_keep h 4, box_keep h 5, box_keep h 6, box_keep h 7, box_keep h 8, box_keep h 9, box_keep h 10, box_keep h 11, box_keep h 12⟩
theorem want1 (w : World) (y k : Int) (t : TypeId) : RdS 2 RdW (· < (w.alloc (.cells #[.int .i64 y, .int .i64 k] t)).heap.size) (w.alloc (.cells #[.int .i64 y, .int .i64 k] t)) (.slice (some ⟨w.heap.size, 0, none⟩) 1 1) [(y, k)] := by
  have e := heap_alloc_new w (.cells #[.int .i64 y, .int .i64 k] t)
  have hs : w.heap.size < (w.alloc (.cells #[.int .i64 y, .int .i64 k] t)).heap.size := by rw [World.size_alloc]; omega
  refine ⟨_, _, rfl, by simp, fun _ => ⟨_, _, rfl, hs, hs, fun i x hx => ?_⟩⟩
  match i, hx with
  | 0, hx =>
    cases hx
    exact ⟨cell_of_row _ w.heap.size 0 _ t (0, 0) e, cell_of_row _ w.heap.size 1 _ t (0, 0) e⟩
theorem want2 (w : World) (y k z l : Int) (t : TypeId) : RdS 2 RdW (· < (w.alloc (.cells #[.int .i64 y, .int .i64 k, .int .i64 z, .int .i64 l] t)).heap.size) (w.alloc (.cells #[.int .i64 y, .int .i64 k, .int .i64 z, .int .i64 l] t)) (.slice (some ⟨w.heap.size, 0, none⟩) 2 2) [(y, k), (z, l)] := by
  have e := heap_alloc_new w (.cells #[.int .i64 y, .int .i64 k, .int .i64 z, .int .i64 l] t)
  have hs : w.heap.size < (w.alloc (.cells #[.int .i64 y, .int .i64 k, .int .i64 z, .int .i64 l] t)).heap.size := by rw [World.size_alloc]; omega
  refine ⟨_, _, rfl, by simp, fun _ => ⟨_, _, rfl, hs, hs, fun i x hx => ?_⟩⟩
  match i, hx with
  | 0, hx =>
    cases hx
    exact ⟨cell_of_row _ w.heap.size 0 _ t (0, 0) e, cell_of_row _ w.heap.size 1 _ t (0, 0) e⟩
  | 1, hx =>
    cases hx
    exact ⟨cell_of_row _ w.heap.size 2 _ t (0, 0) e, cell_of_row _ w.heap.size 3 _ t (0, 0) e⟩
theorem want3 (w : World) (y k z l u m : Int) (t : TypeId) : RdS 2 RdW (· < (w.alloc (.cells #[.int .i64 y, .int .i64 k, .int .i64 z, .int .i64 l, .int .i64 u, .int .i64 m] t)).heap.size) (w.alloc (.cells #[.int .i64 y, .int .i64 k, .int .i64 z, .int .i64 l, .int .i64 u, .int .i64 m] t)) (.slice (some ⟨w.heap.size, 0, none⟩) 3 3) [(y, k), (z, l), (u, m)] := by
  have e := heap_alloc_new w (.cells #[.int .i64 y, .int .i64 k, .int .i64 z, .int .i64 l, .int .i64 u, .int .i64 m] t)
  have hs : w.heap.size < (w.alloc (.cells #[.int .i64 y, .int .i64 k, .int .i64 z, .int .i64 l, .int .i64 u, .int .i64 m] t)).heap.size := by rw [World.size_alloc]; omega
  refine ⟨_, _, rfl, by simp, fun _ => ⟨_, _, rfl, hs, hs, fun i x hx => ?_⟩⟩
  match i, hx with
  | 0, hx =>
    cases hx
    exact ⟨cell_of_row _ w.heap.size 0 _ t (0, 0) e, cell_of_row _ w.heap.size 1 _ t (0, 0) e⟩
  | 1, hx =>
    cases hx
    exact ⟨cell_of_row _ w.heap.size 2 _ t (0, 0) e, cell_of_row _ w.heap.size 3 _ t (0, 0) e⟩
  | 2, hx =>
    cases hx
    exact ⟨cell_of_row _ w.heap.size 4 _ t (0, 0) e, cell_of_row _ w.heap.size 5 _ t (0, 0) e⟩
/-- One slot, two, three, in a list that has just been made. -/
theorem slots1 (h : Sit W x p f i) (y k : Int) : Calls Try.prog 89 #[x.v f i, .slice (some ⟨W.heap.size, 0, none⟩) 1 1] (W.alloc (.cells #[.int .i64 y, .int .i64 k] 137)) (Says W (.int .i64 (wantsZ f.sl [(y, k)]))) :=
  (slots_any (h.cha cha_box) (want1 W y k 137) rfl).mono fun _ _ ⟨a, c⟩ => ⟨a, cha_box.trans c⟩
theorem slots2 (h : Sit W x p f i) (y k z l : Int) : Calls Try.prog 89 #[x.v f i, .slice (some ⟨W.heap.size, 0, none⟩) 2 2] (W.alloc (.cells #[.int .i64 y, .int .i64 k, .int .i64 z, .int .i64 l] 137)) (Says W (.int .i64 (wantsZ f.sl [(y, k), (z, l)]))) :=
  (slots_any (h.cha cha_box) (want2 W y k z l 137) rfl).mono fun _ _ ⟨a, c⟩ => ⟨a, cha_box.trans c⟩
theorem slots3 (h : Sit W x p f i) (y k z l u m : Int) : Calls Try.prog 89 #[x.v f i, .slice (some ⟨W.heap.size, 0, none⟩) 3 3] (W.alloc (.cells #[.int .i64 y, .int .i64 k, .int .i64 z, .int .i64 l, .int .i64 u, .int .i64 m] 137)) (Says W (.int .i64 (wantsZ f.sl [(y, k), (z, l), (u, m)]))) :=
  (slots_any (h.cha cha_box) (want3 W y k z l u m 137) rfl).mono fun _ _ ⟨a, c⟩ => ⟨a, cha_box.trans c⟩
theorem or_new (w : World) (E1 E2 : Int) (t : TypeId) : Calls Try.prog 88 #[.slice (some ⟨w.heap.size, 0, none⟩) 2 2] (w.alloc (.cells #[.int .i64 E1, .int .i64 E2] t)) (Says w (.int .i64 (orZ E1 E2))) :=
  (or_any (heap_alloc_new w _)).mono fun _ _ ⟨a, e⟩ => ⟨a, e ▸ cha_box⟩
theorem kdK_i64 {sl : List Int} (h : ∀ z ∈ sl, I64 z) (s : Int) : I64 (kdK sl s) := by
  rcases kd_cases sl s with ⟨k, z, rfl, hz, hlt⟩ | ho
  · rw [kdK_in hz]; exact h z (List.mem_of_getElem? hz)
  · rw [kdK_out ho]; exact ⟨by omega, by omega⟩
theorem Sit.kinds (h : Sit W x p f i) (s : Int) : I64 (kdK f.sl s) := kdK_i64 h.sl.i64s s
theorem alike_any (h : Sit W x p f i) (y z : Int) : Calls Try.prog 85 #[x.v f i, .int .i64 y, .int .i64 z] W (SaysK W (kdK f.sl y) (alikeE f.sl y z)) := by
  have CK : Hid (∀ w, Cha (fun _ => False) W w → Calls Try.prog 114 #[x.v f i, .int .i64 y] w (SaysK w (kdK f.sl y) (kdE f.sl y))) := Lib.hid fun w c => kindof_any (h.cha c) y
  have CS : Hid (∀ w, Cha (fun _ => False) W w → Calls Try.prog 89 #[x.v f i, .slice (some ⟨w.heap.size, 0, none⟩) 1 1] (w.alloc (.cells #[.int .i64 z, .int .i64 (kdK f.sl y)] 137)) (Says w (.int .i64 (wantsZ f.sl [(z, kdK f.sl y)])))) := Lib.hid fun w c => slots1 (h.cha c) z _
  have HR : Hid (alikeE f.sl y z = orZ (kdE f.sl y) (wantsZ f.sl [(z, kdK f.sl y)])) := Lib.hid rfl
  clear h
  obtain ⟨aT, nT, cT, aG, nG, cG, aF, nF, cF, aS, nS, cS, aR, nR, cR, aC, nC, cC, aL, nL, cL⟩ := x
  obtain ⟨pa, sl, re, co⟩ := f
  obtain ⟨op, a, b, c, im, li⟩ := i
  dsimp only [SV.v] at *
  rw [HR.out]
  clear HR
  generalize kdK sl y = K at *
  generalize kdE sl y = E at *
  generalize wantsZ sl [(z, K)] = R at *
  go_enter Try.func85, Try.ntmps85
  go_wp2_with (first
    | (go_at_call 114; ((with_reducible refine (CK.out _ cha_box).mono ?_); rintro e w1 ⟨rfl, k1⟩; have C1 := Lib.hid (Cha.trans cha_box k1); obtain ⟨b0, b1, b2, b3, b4, b5, b6, b7, b8, b9, b10, b11, b12⟩ := site_keep k1; clear k1))
    | (go_at_call 89; ((with_reducible refine (CS.out _ C1.out).mono ?_); rintro e w2 ⟨rfl, k2⟩; have C2 := Lib.hid (C1.out.trans k2); clear k2))
    | (go_at_call 88; ((with_reducible refine (or_new _ _ _ _).mono ?_); rintro e w3 ⟨rfl, k3⟩; have C3 := Lib.hid (C2.out.trans k3); clear k3)))
  go_returns
  exact ⟨rfl, C3.out⟩
theorem carried_slot (h : Sit W x p f i) (s : Int) : Calls Try.prog 100 #[x.v f i, .int .i64 s] W (SaysK W (carK f.sl s) (carE f.sl s)) := by
  have CK : Hid (∀ w, Cha (fun _ => False) W w → Calls Try.prog 114 #[x.v f i, .int .i64 s] w (SaysK w (kdK f.sl s) (kdE f.sl s))) := Lib.hid fun w c => kindof_any (h.cha c) s
  have HI := h.kinds s
  have E1 : Hid (kdE f.sl s ≠ 0 → carK f.sl s = 0 ∧ carE f.sl s = kdE f.sl s) := Lib.hid fun e => by
    unfold carK carE; rw [if_neg e, if_neg e]; refine ⟨rfl, ?_⟩
    unfold kdE at e ⊢; by_cases c : 0 ≤ s ∧ s < f.sl.length; exact absurd (if_pos c) e; exact (if_neg c).symm
  have E2 : Hid (kdE f.sl s = 0 → 64 ≤ kdK f.sl s → carK f.sl s = kdK f.sl s - 64 ∧ carE f.sl s = 0) := Lib.hid fun e h => by unfold carK carE; rw [if_pos e, if_pos e, if_pos h, if_pos h]; exact ⟨rfl, rfl⟩
  have E3 : Hid (kdE f.sl s = 0 → ¬ 64 ≤ kdK f.sl s → carK f.sl s = 0 ∧ carE f.sl s = 10) := Lib.hid fun e h => by unfold carK carE; rw [if_pos e, if_pos e, if_neg h, if_neg h]; exact ⟨rfl, rfl⟩
  clear h
  obtain ⟨aT, nT, cT, aG, nG, cG, aF, nF, cF, aS, nS, cS, aR, nR, cR, aC, nC, cC, aL, nL, cL⟩ := x
  obtain ⟨pa, sl, re, co⟩ := f
  obtain ⟨op, a, b, c, im, li⟩ := i
  dsimp only [SV.v] at *
  generalize kdK sl s = K at *
  generalize kdE sl s = E at *
  generalize carK sl s = R at *
  generalize carE sl s = Q at *
  have CI : Hid (∀ w, Calls Try.prog 81 #[.int .i64 K] w fun e w' => e = .returned (.bool (decide (64 ≤ K))) ∧ w' = w) := Lib.hid fun w => ischan_any K
  obtain ⟨k1, k2⟩ := HI
  by_cases h0 : E = 0
  · by_cases h1 : 64 ≤ K
    · obtain ⟨e1, e2⟩ := E2.out h0 h1
      have e1 := Lib.hid e1
      have e2 := Lib.hid e2
      have d1 : decide (64 ≤ K) = true := decide_eq_true h1
      have hw : IntKind.i64.wrap (K - 64) = K - 64 := by rw [IntKind.wrap_i64]; omega
      subst h0
      rw [d1] at CI
      clear E1 E2 E3
      go_enter Try.func100, Try.ntmps100
      go_wp2_with (first
        | (go_at_call 114; ((with_reducible refine (CK.out _ cha_box).mono ?_); rintro e w1 ⟨rfl, k1⟩; have C1 := Lib.hid (Cha.trans cha_box k1); obtain ⟨b0, b1, b2, b3, b4, b5, b6, b7, b8, b9, b10, b11, b12⟩ := site_keep k1; clear k1))
        | (go_at_call 81; ((with_reducible refine (CI.out _).mono ?_); rintro e w4 ⟨rfl, rfl⟩)))
      go_returns
      exact ⟨by first | (rw [e1.out, e2.out]; done) | (rw [e1.out, e2.out]; rfl), C1.out⟩
    · obtain ⟨e1, e2⟩ := E3.out h0 h1
      have e1 := Lib.hid e1
      have e2 := Lib.hid e2
      have d1 : decide (64 ≤ K) = false := decide_eq_false h1
      subst h0
      rw [d1] at CI
      clear E1 E2 E3
      go_enter Try.func100, Try.ntmps100
      go_wp2_with (first
        | (go_at_call 114; ((with_reducible refine (CK.out _ cha_box).mono ?_); rintro e w1 ⟨rfl, k1⟩; have C1 := Lib.hid (Cha.trans cha_box k1); obtain ⟨b0, b1, b2, b3, b4, b5, b6, b7, b8, b9, b10, b11, b12⟩ := site_keep k1; clear k1))
        | (go_at_call 81; ((with_reducible refine (CI.out _).mono ?_); rintro e w4 ⟨rfl, rfl⟩)))
      go_returns
      exact ⟨by first | (rw [e1.out, e2.out]; done) | (rw [e1.out, e2.out]; rfl), C1.out⟩
  · obtain ⟨e1, e2⟩ := E1.out h0
    have e1 := Lib.hid e1
    have e2 := Lib.hid e2
    have h0' : (E == 0) = false := by simpa using h0
    have h0'' : (E != 0) = true := by simpa using h0
    clear E1 E2 E3 h0
    go_enter Try.func100, Try.ntmps100
    go_wp2_with (go_at_call 114; ((with_reducible refine (CK.out _ cha_box).mono ?_); rintro e w1 ⟨rfl, k1⟩; have C1 := Lib.hid (Cha.trans cha_box k1); obtain ⟨b0, b1, b2, b3, b4, b5, b6, b7, b8, b9, b10, b11, b12⟩ := site_keep k1; clear k1))
    go_returns
    exact ⟨by first | (rw [e1.out, e2.out]; done) | (rw [e1.out, e2.out]; rfl), C1.out⟩
theorem carries_any (h : Sit W x p f i) (y z : Int) : Calls Try.prog 99 #[x.v f i, .int .i64 y, .int .i64 z] W (Says W (.int .i64 (carriesZ f.sl y z))) := by
  have CK : Hid (∀ w, Cha (fun _ => False) W w → Calls Try.prog 100 #[x.v f i, .int .i64 y] w (SaysK w (carK f.sl y) (carE f.sl y))) := Lib.hid fun w c => carried_slot (h.cha c) y
  have CS : Hid (∀ w, Cha (fun _ => False) W w → Calls Try.prog 89 #[x.v f i, .slice (some ⟨w.heap.size, 0, none⟩) 1 1] (w.alloc (.cells #[.int .i64 z, .int .i64 (carK f.sl y)] 137)) (Says w (.int .i64 (wantsZ f.sl [(z, carK f.sl y)])))) := Lib.hid fun w c => slots1 (h.cha c) z _
  have HR : Hid (carriesZ f.sl y z = orZ (carE f.sl y) (wantsZ f.sl [(z, carK f.sl y)])) := Lib.hid rfl
  clear h
  obtain ⟨aT, nT, cT, aG, nG, cG, aF, nF, cF, aS, nS, cS, aR, nR, cR, aC, nC, cC, aL, nL, cL⟩ := x
  obtain ⟨pa, sl, re, co⟩ := f
  obtain ⟨op, a, b, c, im, li⟩ := i
  dsimp only [SV.v] at *
  rw [HR.out]
  clear HR
  generalize carK sl y = K at *
  generalize carE sl y = E at *
  generalize wantsZ sl [(z, K)] = R at *
  go_enter Try.func99, Try.ntmps99
  go_wp2_with (first
    | (go_at_call 100; ((with_reducible refine (CK.out _ cha_box).mono ?_); rintro e w1 ⟨rfl, k1⟩; have C1 := Lib.hid (Cha.trans cha_box k1); obtain ⟨b0, b1, b2, b3, b4, b5, b6, b7, b8, b9, b10, b11, b12⟩ := site_keep k1; clear k1))
    | (go_at_call 89; ((with_reducible refine (CS.out _ C1.out).mono ?_); rintro e w2 ⟨rfl, k2⟩; have C2 := Lib.hid (C1.out.trans k2); clear k2))
    | (go_at_call 88; ((with_reducible refine (or_new _ _ _ _).mono ?_); rintro e w3 ⟨rfl, k3⟩; have C3 := Lib.hid (C2.out.trans k3); clear k3)))
  go_ret
  exact ⟨rfl, C3.out⟩
theorem target_any (h : Sit W x p f i) (y : Int) : Calls Try.prog 87 #[x.v f i, .int .i64 y] W (Says W (.int .i64 (targetZ f.co.length y))) := by
  have hn := h.eC
  clear h
  obtain ⟨aT, nT, cT, aG, nG, cG, aF, nF, cF, aS, nS, cS, aR, nR, cR, aC, nC, cC, aL, nL, cL⟩ := x
  obtain ⟨pa, sl, re, co⟩ := f
  obtain ⟨op, a, b, c, im, li⟩ := i
  dsimp only [SV.v] at *
  rw [← hn]
  clear hn
  by_cases h0 : y < 0
  · have e : targetZ nC y = 12 := if_neg (by omega)
    rw [e]
    go_enter Try.func87, Try.ntmps87
    go_wp2
    go_ret
    exact ⟨rfl, cha_box⟩
  · by_cases h1 : (nC : Int) ≤ y
    · have e : targetZ nC y = 12 := if_neg (by omega)
      rw [e]
      go_enter Try.func87, Try.ntmps87
      go_wp2
      go_ret
      exact ⟨rfl, cha_box⟩
    · have e : targetZ nC y = 0 := if_pos (by omega)
      rw [e]
      go_enter Try.func87, Try.ntmps87
      go_wp2
      go_ret
      exact ⟨rfl, cha_box⟩
theorem number_any (h : Sit W x p f i) : Calls Try.prog 84 #[x.v f i] W (Says W (.int .i64 (numberZ f.sl i.a))) := by
  have CK : Hid (∀ w, Cha (fun _ => False) W w → Calls Try.prog 114 #[x.v f i, .int .i64 i.a] w (SaysK w (kdK f.sl i.a) (kdE f.sl i.a))) := Lib.hid fun w c => kindof_any (h.cha c) i.a
  have E1 : Hid (kdE f.sl i.a ≠ 0 → numberZ f.sl i.a = kdE f.sl i.a) := Lib.hid fun e => by
    unfold numberZ; rw [if_neg e]
    unfold kdE at e ⊢; by_cases c : 0 ≤ i.a ∧ i.a < f.sl.length; exact absurd (if_pos c) e; exact (if_neg c).symm
  have E2 : Hid (kdE f.sl i.a = 0 → (kdK f.sl i.a = 0 ∨ kdK f.sl i.a = 1) → numberZ f.sl i.a = 0) := Lib.hid fun e h => by unfold numberZ; rw [if_pos e, if_pos h]
  have E3 : Hid (kdE f.sl i.a = 0 → ¬ (kdK f.sl i.a = 0 ∨ kdK f.sl i.a = 1) → numberZ f.sl i.a = 10) := Lib.hid fun e h => by unfold numberZ; rw [if_pos e, if_neg h]
  clear h
  obtain ⟨aT, nT, cT, aG, nG, cG, aF, nF, cF, aS, nS, cS, aR, nR, cR, aC, nC, cC, aL, nL, cL⟩ := x
  obtain ⟨pa, sl, re, co⟩ := f
  obtain ⟨op, a, b, c, im, li⟩ := i
  dsimp only [SV.v] at *
  generalize kdK sl a = K at *
  generalize kdE sl a = E at *
  generalize numberZ sl a = R at *
  by_cases h0 : E = 0
  · by_cases h1 : K = 0
    · have e := Lib.hid (E2.out h0 (.inl h1))
      subst h0
      subst h1
      clear E1 E2 E3
      go_enter Try.func84, Try.ntmps84
      go_wp2_with (go_at_call 114; ((with_reducible refine (CK.out _ cha_box).mono ?_); rintro e w1 ⟨rfl, k1⟩; have C1 := Lib.hid (Cha.trans cha_box k1); obtain ⟨b0, b1, b2, b3, b4, b5, b6, b7, b8, b9, b10, b11, b12⟩ := site_keep k1; clear k1))
      go_ret
      exact ⟨by first | (rw [e.out]; done) | (rw [e.out]; rfl), C1.out⟩
    · by_cases h2 : K = 1
      · have e := Lib.hid (E2.out h0 (.inr h2))
        subst h0
        subst h2
        clear E1 E2 E3
        go_enter Try.func84, Try.ntmps84
        go_wp2_with (go_at_call 114; ((with_reducible refine (CK.out _ cha_box).mono ?_); rintro e w1 ⟨rfl, k1⟩; have C1 := Lib.hid (Cha.trans cha_box k1); obtain ⟨b0, b1, b2, b3, b4, b5, b6, b7, b8, b9, b10, b11, b12⟩ := site_keep k1; clear k1))
        go_ret
        exact ⟨by first | (rw [e.out]; done) | (rw [e.out]; rfl), C1.out⟩
      · have e := Lib.hid (E3.out h0 (by omega))
        have h1' : (K == 0) = false := by simpa using h1
        have h1'' : (K != 0) = true := by simpa using h1
        have h2' : (K == 1) = false := by simpa using h2
        have h2'' : (K != 1) = true := by simpa using h2
        subst h0
        clear E1 E2 E3 h1 h2
        go_enter Try.func84, Try.ntmps84
        go_wp2_with (go_at_call 114; ((with_reducible refine (CK.out _ cha_box).mono ?_); rintro e w1 ⟨rfl, k1⟩; have C1 := Lib.hid (Cha.trans cha_box k1); obtain ⟨b0, b1, b2, b3, b4, b5, b6, b7, b8, b9, b10, b11, b12⟩ := site_keep k1; clear k1))
        go_ret
        exact ⟨by first | (rw [e.out]; done) | (rw [e.out]; rfl), C1.out⟩
  · have e := Lib.hid (E1.out h0)
    have h0' : (E == 0) = false := by simpa using h0
    have h0'' : (E != 0) = true := by simpa using h0
    clear E1 E2 E3 h0
    go_enter Try.func84, Try.ntmps84
    go_wp2_with (go_at_call 114; ((with_reducible refine (CK.out _ cha_box).mono ?_); rintro e w1 ⟨rfl, k1⟩; have C1 := Lib.hid (Cha.trans cha_box k1); obtain ⟨b0, b1, b2, b3, b4, b5, b6, b7, b8, b9, b10, b11, b12⟩ := site_keep k1; clear k1))
    go_ret
    exact ⟨by first | (rw [e.out]; done) | (rw [e.out]; rfl), C1.out⟩
end
end Go.Proofs.Ytpdjbhnpahkbpaa

namespace Go.Proofs.Ytpdjbhnpahkbpaa
set_option linter.unusedVariables false
open Go.ChangeShapes Go.WideShapes Go.ChangeAt Go.RowKit
section
variable {W w w' : World} {x : SV} {p : PZ} {f : FZ} {i : IZ}
theorem slots1_box (h : Sit W x p f i) (o : Obj) (y k : Int) : Calls Try.prog 89 #[x.v f i, .slice (some ⟨W.heap.size + 1, 0, none⟩) 1 1] ((W.alloc o).alloc (.cells #[.int .i64 y, .int .i64 k] 137)) (Says W (.int .i64 (wantsZ f.sl [(y, k)]))) := by
  have C := slots1 (h.cha (cha_box (o := o))) y k
  rw [World.size_alloc] at C
  exact C.mono fun _ _ ⟨a, c⟩ => ⟨a, cha_box.trans c⟩
theorem slots2_box (h : Sit W x p f i) (o : Obj) (y k z l : Int) : Calls Try.prog 89 #[x.v f i, .slice (some ⟨W.heap.size + 1, 0, none⟩) 2 2] ((W.alloc o).alloc (.cells #[.int .i64 y, .int .i64 k, .int .i64 z, .int .i64 l] 137)) (Says W (.int .i64 (wantsZ f.sl [(y, k), (z, l)]))) := by
  have C := slots2 (h.cha (cha_box (o := o))) y k z l
  rw [World.size_alloc] at C
  exact C.mono fun _ _ ⟨a, c⟩ => ⟨a, cha_box.trans c⟩
theorem slots3_box (h : Sit W x p f i) (o : Obj) (y k z l u m : Int) : Calls Try.prog 89 #[x.v f i, .slice (some ⟨W.heap.size + 1, 0, none⟩) 3 3] ((W.alloc o).alloc (.cells #[.int .i64 y, .int .i64 k, .int .i64 z, .int .i64 l, .int .i64 u, .int .i64 m] 137)) (Says W (.int .i64 (wantsZ f.sl [(y, k), (z, l), (u, m)]))) := by
  have C := slots3 (h.cha (cha_box (o := o))) y k z l u m
  rw [World.size_alloc] at C
  exact C.mono fun _ _ ⟨a, c⟩ => ⟨a, cha_box.trans c⟩
theorem slots1_drew (h : Sit W x p f i) (o : Obj) (y k : Int) : Calls Try.prog 89 #[x.v f i, .slice (some ⟨W.heap.size + 1, 0, none⟩) 1 1] ((W.alloc o).alloc (.cells #[.int .i64 y, .int .i64 k] 137)).drew (Says (W.alloc o) (.int .i64 (wantsZ f.sl [(y, k)]))) := by
  have hw := want1 (W.alloc o) y k 137
  rw [show W.heap.size + 1 = (W.alloc o).heap.size from (World.size_alloc ..).symm]
  exact (slots_any (h.cha (((Cha.refl _ W).alloc o).alloc _).drew) (hw.wants ((Cha.refl (fun _ => False) _).drew) (fun _ f => f.elim) (fun _ h => h)) rfl).mono fun _ _ ⟨a, c⟩ => ⟨a, (((Cha.refl _ (W.alloc o)).alloc _).drew).trans c⟩
theorem slots2_drew (h : Sit W x p f i) (o : Obj) (y k z l : Int) : Calls Try.prog 89 #[x.v f i, .slice (some ⟨W.heap.size + 1, 0, none⟩) 2 2] ((W.alloc o).alloc (.cells #[.int .i64 y, .int .i64 k, .int .i64 z, .int .i64 l] 137)).drew (Says (W.alloc o) (.int .i64 (wantsZ f.sl [(y, k), (z, l)]))) := by
  have hw := want2 (W.alloc o) y k z l 137
  rw [show W.heap.size + 1 = (W.alloc o).heap.size from (World.size_alloc ..).symm]
  exact (slots_any (h.cha (((Cha.refl _ W).alloc o).alloc _).drew) (hw.wants ((Cha.refl (fun _ => False) _).drew) (fun _ f => f.elim) (fun _ h => h)) rfl).mono fun _ _ ⟨a, c⟩ => ⟨a, (((Cha.refl _ (W.alloc o)).alloc _).drew).trans c⟩
theorem kdE_11 {sl : List Int} {s : Int} (h : kdE sl s ≠ 0) : kdE sl s = 11 := by
  unfold kdE at h ⊢
  by_cases c : 0 ≤ s ∧ s < sl.length
  · exact absurd (if_pos c) h
  · exact if_neg c
theorem peq_any (h : Sit W x p f i) : Calls Try.prog 86 #[x.v f i] W (Says W (.int .i64 (peqZ f.sl i.a i.b i.c))) := by
  have CS : Hid (∀ w, Cha (fun _ => False) W w → Calls Try.prog 89 #[x.v f i, .slice (some ⟨w.heap.size, 0, none⟩) 1 1] (w.alloc (.cells #[.int .i64 i.a, .int .i64 0] 137)) (Says w (.int .i64 (wantsZ f.sl [(i.a, 0)])))) := Lib.hid fun w c => slots1 (h.cha c) _ _
  have CB : Hid (∀ o, Calls Try.prog 89 #[x.v f i, .slice (some ⟨W.heap.size + 1, 0, none⟩) 1 1] ((W.alloc o).alloc (.cells #[.int .i64 i.a, .int .i64 0] 137)) (Says (W.alloc o) (.int .i64 (wantsZ f.sl [(i.a, 0)])))) := Lib.hid fun o => by
    have C := slots1 (h.cha (cha_box (o := o))) i.a 0
    rw [World.size_alloc] at C
    exact C
  have CA : Hid (∀ w, Cha (fun _ => False) W w → Calls Try.prog 85 #[x.v f i, .int .i64 i.b, .int .i64 i.c] w (SaysK w (kdK f.sl i.b) (alikeE f.sl i.b i.c))) := Lib.hid fun w c => alike_any (h.cha c) _ _
  have E1 : Hid (wantsZ f.sl [(i.a, 0)] ≠ 0 → peqZ f.sl i.a i.b i.c = wantsZ f.sl [(i.a, 0)]) := Lib.hid fun e => if_neg e
  have E2 : Hid (wantsZ f.sl [(i.a, 0)] = 0 → alikeE f.sl i.b i.c ≠ 0 → peqZ f.sl i.a i.b i.c = alikeE f.sl i.b i.c) := Lib.hid fun e d => by unfold peqZ; rw [if_pos e, if_neg d]
  have E3 : Hid (wantsZ f.sl [(i.a, 0)] = 0 → alikeE f.sl i.b i.c = 0 → 16 ≤ kdK f.sl i.b → peqZ f.sl i.a i.b i.c = 0) := Lib.hid fun e d c => by unfold peqZ; rw [if_pos e, if_pos d, if_pos c]
  have E4 : Hid (wantsZ f.sl [(i.a, 0)] = 0 → alikeE f.sl i.b i.c = 0 → ¬ 16 ≤ kdK f.sl i.b → peqZ f.sl i.a i.b i.c = 10) := Lib.hid fun e d c => by unfold peqZ; rw [if_pos e, if_pos d, if_neg c]
  clear h
  obtain ⟨aT, nT, cT, aG, nG, cG, aF, nF, cF, aS, nS, cS, aR, nR, cR, aC, nC, cC, aL, nL, cL⟩ := x
  obtain ⟨pa, sl, re, co⟩ := f
  obtain ⟨op, a, b, c, im, li⟩ := i
  dsimp only [SV.v] at *
  generalize wantsZ sl [(a, 0)] = R1 at *
  generalize alikeE sl b c = E at *
  generalize kdK sl b = K at *
  generalize peqZ sl a b c = R at *
  have CI : Hid (∀ w, Calls Try.prog 27 #[.int .i64 K] w fun e w' => e = .returned (.bool (decide (16 ≤ K))) ∧ w' = w) := Lib.hid fun w => isref_any K
  by_cases h1 : R1 = 0
  · by_cases h2 : E = 0
    · by_cases h3 : 16 ≤ K
      · have e := Lib.hid (E3.out h1 h2 h3)
        have d1 : decide (16 ≤ K) = true := decide_eq_true h3
        subst h1
        subst h2
        rw [d1] at CI
        clear E1 E2 E3 E4 h3
        go_enter Try.func86, Try.ntmps86
        go_wp2_with (first
          | (go_at_call 89; ((with_reducible refine (CB.out _).mono ?_); rintro e w1 ⟨rfl, k1⟩; have C1 := Lib.hid (Cha.trans cha_box k1); obtain ⟨b0, b1, b2, b3, b4, b5, b6, b7, b8, b9, b10, b11, b12⟩ := site_keep k1; clear k1))
          | (go_at_call 85; ((with_reducible refine (CA.out _ C1.out).mono ?_); rintro e w2 ⟨rfl, k2⟩; have C2 := Lib.hid (C1.out.trans k2); clear k2))
          | (go_at_call 27; ((with_reducible refine (CI.out _).mono ?_); rintro e w4 ⟨rfl, rfl⟩)))
        go_ret
        exact ⟨by first | (rw [e.out]; done) | (rw [e.out]; rfl), C2.out⟩
      · have e := Lib.hid (E4.out h1 h2 h3)
        have d1 : decide (16 ≤ K) = false := decide_eq_false h3
        subst h1
        subst h2
        rw [d1] at CI
        clear E1 E2 E3 E4 h3
        go_enter Try.func86, Try.ntmps86
        go_wp2_with (first
          | (go_at_call 89; ((with_reducible refine (CB.out _).mono ?_); rintro e w1 ⟨rfl, k1⟩; have C1 := Lib.hid (Cha.trans cha_box k1); obtain ⟨b0, b1, b2, b3, b4, b5, b6, b7, b8, b9, b10, b11, b12⟩ := site_keep k1; clear k1))
          | (go_at_call 85; ((with_reducible refine (CA.out _ C1.out).mono ?_); rintro e w2 ⟨rfl, k2⟩; have C2 := Lib.hid (C1.out.trans k2); clear k2))
          | (go_at_call 27; ((with_reducible refine (CI.out _).mono ?_); rintro e w4 ⟨rfl, rfl⟩)))
        go_ret
        exact ⟨by first | (rw [e.out]; done) | (rw [e.out]; rfl), C2.out⟩
    · have e := Lib.hid (E2.out h1 h2)
      have d1 : (E == 0) = false := by simpa using h2
      have d2 : (E != 0) = true := by simpa using h2
      subst h1
      clear E1 E2 E3 E4 h2
      go_enter Try.func86, Try.ntmps86
      go_wp2_with (first
        | (go_at_call 89; ((with_reducible refine (CB.out _).mono ?_); rintro e w1 ⟨rfl, k1⟩; have C1 := Lib.hid (Cha.trans cha_box k1); obtain ⟨b0, b1, b2, b3, b4, b5, b6, b7, b8, b9, b10, b11, b12⟩ := site_keep k1; clear k1))
        | (go_at_call 85; ((with_reducible refine (CA.out _ C1.out).mono ?_); rintro e w2 ⟨rfl, k2⟩; have C2 := Lib.hid (C1.out.trans k2); clear k2))
        | (go_at_call 27; ((with_reducible refine (CI.out _).mono ?_); rintro e w4 ⟨rfl, rfl⟩)))
      go_ret
      exact ⟨by first | (rw [e.out]; done) | (rw [e.out]; rfl), C2.out⟩
  · have e := Lib.hid (E1.out h1)
    have d1 : (R1 == 0) = false := by simpa using h1
    have d2 : (R1 != 0) = true := by simpa using h1
    clear E1 E2 E3 E4 h1
    go_enter Try.func86, Try.ntmps86
    go_wp2_with (first
      | (go_at_call 89; ((with_reducible refine (CB.out _).mono ?_); rintro e w1 ⟨rfl, k1⟩; have C1 := Lib.hid (Cha.trans cha_box k1); obtain ⟨b0, b1, b2, b3, b4, b5, b6, b7, b8, b9, b10, b11, b12⟩ := site_keep k1; clear k1))
      | (go_at_call 85; ((with_reducible refine (CA.out _ C1.out).mono ?_); rintro e w2 ⟨rfl, k2⟩; have C2 := Lib.hid (C1.out.trans k2); clear k2))
      | (go_at_call 27; ((with_reducible refine (CI.out _).mono ?_); rintro e w4 ⟨rfl, rfl⟩)))
    go_ret
    exact ⟨by first | (rw [e.out]; done) | (rw [e.out]; rfl), C1.out⟩
theorem global_any (h : Sit W x p f i) (y z : Int) : Calls Try.prog 94 #[x.v f i, .int .i64 y, .int .i64 z] W (Says W (.int .i64 (globalZ p.gl f.sl y z))) := by
  have CB : Hid (∀ o k, Calls Try.prog 89 #[x.v f i, .slice (some ⟨W.heap.size + 1, 0, none⟩) 1 1] ((W.alloc o).alloc (.cells #[.int .i64 z, .int .i64 k] 137)).drew (Says (W.alloc o) (.int .i64 (wantsZ f.sl [(z, k)])))) := Lib.hid fun o k => slots1_drew h o _ _
  have HG := Lib.hid h.gl
  have hn := h.eG
  have hb := h.gl.len
  rw [← hn] at hb
  obtain ⟨R, hR⟩ : ∃ R, R = globalZ p.gl f.sl y z := ⟨_, rfl⟩
  have E1 : Hid (¬ (0 ≤ y ∧ y < x.nG) → R = 15) := Lib.hid fun e => by rw [hR]; exact if_neg (by rw [← hn]; exact e)
  have E2 : Hid (∀ (k : Nat) v, y = (k : Int) → p.gl[k]? = some v → R = wantsZ f.sl [(z, v)]) := Lib.hid fun k v e hv => by
    have := (List.getElem?_eq_some_iff.1 hv).1
    rw [hR]; unfold globalZ; rw [if_pos (by omega), e, Int.toNat_natCast, hv]; rfl
  rw [← hR]
  have HN := Lib.hid hn
  clear h hR hn
  obtain ⟨aT, nT, cT, aG, nG, cG, aF, nF, cF, aS, nS, cS, aR, nR, cR, aC, nC, cC, aL, nL, cL⟩ := x
  obtain ⟨pa, sl, re, co⟩ := f
  obtain ⟨op, a, b, c, im, li⟩ := i
  dsimp only [SV.v] at *
  by_cases h0 : y < 0
  · have e := Lib.hid (E1.out (by omega))
    clear E1 E2
    go_enter Try.func94, Try.ntmps94
    go_wp2
    go_ret
    exact ⟨by first | (rw [e.out]; done) | (rw [e.out]; rfl), cha_box⟩
  · by_cases h1 : (nG : Int) ≤ y
    · have e := Lib.hid (E1.out (by omega))
      clear E1 E2
      go_enter Try.func94, Try.ntmps94
      go_wp2
      go_ret
      exact ⟨by first | (rw [e.out]; done) | (rw [e.out]; rfl), cha_box⟩
    · obtain ⟨k, rfl⟩ : ∃ k : Nat, y = (k : Int) := ⟨y.toNat, by omega⟩
      have hlt : k < nG := by omega
      obtain ⟨v, hv⟩ : ∃ v, p.gl[k]? = some v := ⟨_, List.getElem?_eq_getElem (by have := HN.out; omega)⟩
      have e := Lib.hid (E2.out k v rfl hv)
      obtain ⟨bg, og, _, he, hb0, hbs, hx⟩ := (HG.out.ints (cha_box (o := .cells #[.slice aT nT cT, .slice aG nG cG, .slice aF nF cF, .int .i64 pa, .slice aS nS cS, .slice aR nR cR, .slice aC nC cC, .int .i64 op, .int .i64 a, .int .i64 b, .int .i64 c, .int .u64 (im : Int), .slice aL nL cL] 92)) (fun _ f => f.elim) (fun _ h => h) (B' := (· < W.heap.size))).at hv
      obtain rfl : aG = some ⟨bg, og, none⟩ := by injection he
      have q0 := hx.1
      rw [Nat.mul_one] at q0
      have hb0 : bg < W.heap.size := hb0
      obtain ⟨b0, b1, b2, b3, b4, b5, b6, b7, b8, b9, b10, b11, b12⟩ := site_keep (Cha.refl (fun _ => False) (W.alloc (.cells #[.slice aT nT cT, .slice (some ⟨bg, og, none⟩) nG cG, .slice aF nF cF, .int .i64 pa, .slice aS nS cS, .slice aR nR cR, .slice aC nC cC, .int .i64 op, .int .i64 a, .int .i64 b, .int .i64 c, .int .u64 (im : Int), .slice aL nL cL] 92)))
      clear E1 E2 he hx hv h0 h1
      go_enter Try.func94, Try.ntmps94
      go_wp2
      go_region_held3 (fun w' => w'.cell? ⟨bg, og + k, none⟩ = some (.int .i64 v) ∧ w'.cell? ⟨W.heap.size, 0, none⟩ = some (.slice aT nT cT) ∧ w'.cell? ⟨W.heap.size, 1, none⟩ = some (.slice (some ⟨bg, og, none⟩) nG cG) ∧ w'.cell? ⟨W.heap.size, 2, none⟩ = some (.slice aF nF cF) ∧ w'.cell? ⟨W.heap.size, 3, none⟩ = some (.int .i64 pa) ∧ w'.cell? ⟨W.heap.size, 4, none⟩ = some (.slice aS nS cS) ∧ w'.cell? ⟨W.heap.size, 5, none⟩ = some (.slice aR nR cR) ∧ w'.cell? ⟨W.heap.size, 6, none⟩ = some (.slice aC nC cC) ∧ w'.cell? ⟨W.heap.size, 7, none⟩ = some (.int .i64 op) ∧ w'.cell? ⟨W.heap.size, 8, none⟩ = some (.int .i64 a) ∧ w'.cell? ⟨W.heap.size, 9, none⟩ = some (.int .i64 b) ∧ w'.cell? ⟨W.heap.size, 10, none⟩ = some (.int .i64 c) ∧ w'.cell? ⟨W.heap.size, 11, none⟩ = some (.int .u64 (im : Int)) ∧ w'.cell? ⟨W.heap.size, 12, none⟩ = some (.slice aL nL cL))
        (first
          | exact ⟨q0, b0, b1, b2, b3, b4, b5, b6, b7, b8, b9, b10, b11, b12⟩
          | exact ⟨q1, d0, d1, d2, d3, d4, d5, d6, d7, d8, d9, d10, d11, d12⟩
          | go_keep)
        (first | (go_at_call 89; (with_reducible refine (CB.out _ _).mono ?_); rintro e w1 ⟨rfl, hC⟩; have C1 := Lib.hid (Cha.trans cha_box hC); have q1 := cell_cha (B := fun _ => True) hC (fun _ f => f.elim) trivial q0; obtain ⟨d0, d1, d2, d3, d4, d5, d6, d7, d8, d9, d10, d11, d12⟩ := site_keep hC; clear hC))
      all_goals
        go_wp2
        go_ret
        exact ⟨by first | (rw [e.out]; done) | (rw [e.out]; rfl), C1.out⟩
end
end Go.Proofs.Ytpdjbhnpahkbpaa
