/- Timers: append of any list to a list; slices.Grow of nil; slices.Concat of two lists. -/
import Derived.Test.YtaloafihbdamiaaTO
import Derived.Lib.AppendZeros
import Derived.Deep.Upon
namespace Go.Proofs.Ytaloafihbdamiaa
open Go.ChangeShapes Go.WideShapes Go.ChangeAt Go.RowKit
variable {w w' : World} {v u v1 v2 : Value} {E N L1 L2 : List Ent} {n : Nat}

theorem run_eapp_any (ty : TypeId) (h : Ents w v E) (k : Ents w u N) (b2 : (E.length + N.length) * 24 ≤ 140737488355328) :
    ∃ v' w', (Builtin.append_ #[95, 95] ty #[v, u]).run Try.prog w = .ok v' w' ∧ EApp w w' v (E ++ N) v' := by
  by_cases h0 : N.length = 0
  · have hN : N = [] := List.eq_nil_of_length_eq_zero h0
    subst hN
    obtain ⟨s, c, rfl⟩ := k.form
    obtain ⟨s2, c2, rfl⟩ := h.form
    have hc2 : E.length ≤ c2 := by
      rcases h.2 with ⟨e, e0⟩ | ⟨g, cap, cur, e, _, _, q1, _⟩
      · omega
      · injection e with e1 e2 e3
        omega
    obtain ⟨i0, hi, hz0, hz1, hz2⟩ := info_parts info90
    refine ⟨.slice s2 E.length c2, w, ?_, ?_⟩
    · refine run_append_nothing w 95 95 ty 93 i0 Try.underlying95 hi s2 E.length c2 hc2 _ ?_
      cases s with
      | none => exact Src.ofNil w Try.underlying95 c
      | some a => exact ⟨.inl ⟨93, Try.underlying95⟩, fun _ => rfl, run_firstCells_some w _ 0 a 0 c [] (by simp) (fun j v hj => by cases hj), run_firstCells_some w.drew _ 0 a 0 c [] (by simp) (fun j v hj => by cases hj), by simp, fun u hu => by cases hu⟩
    · rw [List.append_nil]
      exact ⟨h, Cha.refl _ _, fun g hg => .inl hg⟩
  · rcases k.2 with ⟨_, e0⟩ | ⟨g, cap, cur, rfl, r⟩
    · exact absurd e0 h0
    · obtain ⟨cap', g', w', hr, hA⟩ := run_eapp ty h ⟨g, 0, none⟩ cap (World.ownsRow.cells k rfl) b2 (by omega)
      exact ⟨_, w', hr, hA⟩
/-- What a call that makes a list leaves. -/
structure EMade (w w' : World) (v : Value) (E : List Ent) : Prop where
  ents : Ents w' v E
  cha : Cha (fun _ => False) w w'
  own : ∀ g, v.ownBlock = some g → w.heap.size ≤ g
theorem EMade.app {w2 : World} {v' : Value} (h : EMade w w' v E) (k : EApp w' w2 v N v') : EMade w w2 v' N :=
  ⟨k.ents, h.cha.over k.cha fun i hi => .inr (h.own i hi), fun g hg => (k.at' g hg).elim (h.own g) (Nat.le_trans h.cha.size)⟩
theorem grow_none (w : World) : Calls Try.prog 65 #[.slice none 0 0, .int .i64 0] w fun e w' => e = .returned (.slice none 0 0) ∧ w = w' := by
  go_enter Try.func65, Try.ntmps65
  go_wp2
  go_ret
  exact ⟨rfl, rfl⟩
theorem grow_some (w : World) (h0 : 0 < n) (hn : n ≤ 4096) : Calls Try.prog 65 #[.slice none 0 0, .int .i64 (n : Int)] w fun e w' => ∃ g c, e = .returned (.slice (some ⟨g, 0, none⟩) 0 c) ∧ EMade w w' (.slice (some ⟨g, 0, none⟩) 0 c) [] := by
  obtain ⟨i0, hi0, hz0, hzs, hzb⟩ := info_parts info90
  obtain ⟨G, hG⟩ : ∃ G, G = grownCap w n 0 93 := ⟨_, rfl⟩
  have hGn : n ≤ G := by rw [hG]; exact grownCap_ge w _ _ _
  have hGm : G ≤ maxLen := by rw [hG]; exact grownCap_le_maxLen w n 0 93 (by unfold maxLen; omega)
  have hG63 : G ≤ 9223372036854775807 := by unfold maxLen at hGm; omega
  obtain ⟨R, hR⟩ : ∃ R, R = (Builtin.zeroCells zero90.cells n ++ Builtin.zeroCells zero90.cells (G - n)) := ⟨_, rfl⟩
  have hrz : ∀ ty, (Builtin.append_ #[95, 3] ty #[.slice none 0 0, .int .i64 (n : Int)]).run Try.prog w = .ok (.slice (some ⟨w.heap.size, 0, none⟩) n G) (w.drew.alloc (.cells R 93)) := fun ty => by
    have h := Lib.run_append_nil_zeros w 95 3 ty 93 i0 _ .i64 .i64 Try.underlying95 Try.underlying3 hi0 hz0 n h0 (by omega) (by omega) (by rw [hzb]; omega)
    rw [← hG] at h
    rw [hR]
    exact h
  have hs : R.size = G * 3 := by
    rw [hR, Array.size_append, ← Array.length_toList, ← Array.length_toList, zero_len, zero_len]; omega
  have FIN : Hid (EMade w (w.drew.alloc (.cells R 93)) (.slice (some ⟨w.heap.size, 0, none⟩) 0 G) []) := Lib.hid
    ⟨⟨rfl, .inr ⟨w.heap.size, G, R, rfl, Nat.zero_le _, heap_alloc_new w.drew _, Nat.zero_le _, hGm, hs, by simp [ecs]⟩⟩, ((Cha.refl _ w).drew).alloc _, fun g hg => by cases hg; exact Nat.le_refl _⟩
  have k1 : ¬ ((n : Int) < 0) := by omega
  have k2 : (0 : Int) < (n : Int) := by omega
  have k3 : IntKind.i64.wrap (n : Int) = (n : Int) := IntWalk.i64_in _ (by omega)
  clear hR hs hG hGm
  go_enter Try.func65, Try.ntmps65
  go_wp2_with (at_builtin; refine Lib.wpList_append_run _ rfl _ _ _ _ rfl _ _ rfl rfl _ _ (hrz _) ?_)
  go_ret
  exact ⟨_, _, rfl, FIN.out⟩
theorem grow_any (w : World) (hn : n ≤ 4096) : Calls Try.prog 65 #[.slice none 0 0, .int .i64 (n : Int)] w fun e w' => ∃ v, e = .returned v ∧ EMade w w' v [] := by
  by_cases h0 : n = 0
  · subst h0
    exact (grow_none w).mono fun e w' ⟨a, b⟩ => ⟨_, a, b ▸ ⟨⟨rfl, .inl ⟨rfl, rfl⟩⟩, Cha.refl _ _, fun g hg => by cases hg⟩⟩
  · exact (grow_some w (by omega) hn).mono fun e w' ⟨g, c, a, b⟩ => ⟨_, a, b⟩
/-- The first j of two lists, one behind the other. -/
def joinTo (L1 L2 : List Ent) (j : Nat) : List Ent := if j = 0 then [] else if j = 1 then L1 else L1 ++ L2
theorem EMade.keep {w2 : World} (h : EMade w w' v E) (c : Cha (fun _ => False) w' w2) : EMade w w2 v E := ⟨h.ents.cha c (fun _ _ f => f), h.cha.trans c, h.own⟩
set_option maxHeartbeats 1000000 in
theorem concat_any (gs : Nat) (h1 : Ents w v1 L1) (h2 : Ents w v2 L2) (hg : w.heap[gs]? = some (.cells #[v1, v2] 95 (0, 0))) (hl : L1.length + L2.length ≤ 4096) :
    Calls Try.prog 55 #[.slice (some ⟨gs, 0, none⟩) 2 2] w fun e w' => ∃ v, e = .returned v ∧ EMade w w' v (L1 ++ L2) := by
  obtain ⟨s1, c1, rfl⟩ := h1.form
  obtain ⟨s2, c2, rfl⟩ := h2.form
  have HG : Hid (∀ W, Cha (fun _ => False) w W → W.cell? ⟨gs, 0, none⟩ = some (.slice s1 L1.length c1) ∧ W.cell? ⟨gs, 1, none⟩ = some (.slice s2 L2.length c2)) := Lib.hid fun W c => by
    have e := (c.old gs (Array.getElem?_eq_some_iff.1 hg).1 (fun f => f)).trans hg
    exact ⟨cell_of_row W gs 0 _ 95 (0, 0) e, cell_of_row W gs 1 _ 95 (0, 0) e⟩
  have H1 := Lib.hid h1
  have H2 := Lib.hid h2
  have HL := Lib.hid hl
  obtain ⟨n1, hn1⟩ : ∃ n, n = L1.length := ⟨_, rfl⟩
  obtain ⟨n2, hn2⟩ : ∃ n, n = L2.length := ⟨_, rfl⟩
  rw [← hn1] at HG H1 HL
  rw [← hn2] at HG H2 HL
  have HN1 := Lib.hid hn1
  have HN2 := Lib.hid hn2
  clear h1 h2 hg hl hn1 hn2
  obtain ⟨g0, g1⟩ := HG.out w (Cha.refl _ _)
  go_enter Try.func55, Try.ntmps55
  go_wp2
  go_loopw [3, 11] (fun m i wr => ∃ j k : Nat, j ≤ 2 ∧ i = .int .i64 (j : Int) ∧ m = .int .i64 (k : Int) ∧ (j = 0 → k = 0) ∧ (j = 1 → k = n1) ∧ (j = 2 → k = n1 + n2) ∧ w = wr) (fun _ i _ => 2 - (intOf i).toNat)
  case atStart => exact ⟨0, 0, by omega, rfl, rfl, fun _ => rfl, by omega, by omega, rfl⟩
  case round =>
    obtain ⟨j, k, hj, rfl, rfl, e0, e1, e2, rfl⟩ := hrel
    by_cases hj0 : j = 0
    · obtain rfl := hj0
      obtain rfl := e0 rfl
      have hb := HL.out
      have k1 : ¬ ((n1 : Int) < 0) := by omega
      have k2 : IntKind.i64.wrap (n1 : Int) = (n1 : Int) := IntWalk.i64_in _ (by omega)
      clear e0 e1 e2
      go_wp2
      go_roundw
      case rel => exact ⟨1, n1, by omega, rfl, by go_num, by omega, by omega, by omega, by first | rfl | trivial⟩
      case measure => simp [intOf]
    · by_cases hj1 : j = 1
      · obtain rfl := hj1
        obtain rfl := e1 rfl
        have hb := HL.out
        have k1 : ¬ ((k : Int) + (n2 : Int) < 0) := by omega
        have k2 : IntKind.i64.wrap ((k : Int) + (n2 : Int)) = (k : Int) + (n2 : Int) := IntWalk.i64_in _ (by omega)
        clear e0 e1 e2
        go_wp2
        go_roundw
        case rel => exact ⟨2, k + n2, by omega, rfl, by go_num, by omega, by omega, by omega, by first | rfl | trivial⟩
        case measure => simp [intOf]
      · obtain rfl : j = 2 := by omega
        have hk := e2 rfl
        have HK := Lib.hid hk
        clear hk
        have C := Lib.hid (grow_any (n := k) w (by have := HL.out; have := HK.out; omega))
        clear e0 e1 e2
        go_wp2_with (go_at_call 65; ((with_reducible refine (C.out).mono ?_); rintro e w1 ⟨v, rfl, h⟩; have HM := Lib.hid h; clear h))
        clear g0 g1
        go_loopw [6, 27] (fun m i wr => ∃ j : Nat, j ≤ 2 ∧ i = .int .i64 (j : Int) ∧ EMade w wr m (joinTo L1 L2 j)) (fun _ i _ => 2 - (intOf i).toNat)
        case atStart => exact ⟨0, by omega, rfl, HM.out⟩
        case round =>
          clear HM
          obtain ⟨j, hj, rfl, hM2⟩ := hrel
          have HM2 := Lib.hid hM2
          clear hM2
          by_cases hj0 : j = 0
          · obtain rfl := hj0
            have hM := HM2.out
            obtain ⟨sv, cv, rfl⟩ := hM.ents.form
            have hu := (H1.out.cha hM.cha (fun _ _ f => f))
            obtain ⟨v3, w3, hr, hA⟩ := run_eapp_any 95 hM.ents hu (by have := HL.out; have := HN1.out; have := HN2.out; show (0 + L1.length) * 24 ≤ _; omega)
            have HF := Lib.hid (hM.app hA)
            obtain ⟨g0, g1⟩ := HG.out wr hM.cha
            clear hM hu hA HM2
            go_wp2_with (at_builtin; refine Lib.wpList_append_run _ rfl _ _ _ _ rfl _ _ rfl rfl _ _ hr ?_)
            go_roundw
            case rel => exact ⟨1, by omega, rfl, HF.out⟩
            case measure => simp [intOf]
          · by_cases hj1 : j = 1
            · obtain rfl := hj1
              have hM := HM2.out
              obtain ⟨sv, cv, rfl⟩ := hM.ents.form
              have hu := (H2.out.cha hM.cha (fun _ _ f => f))
              obtain ⟨v3, w3, hr, hA⟩ := run_eapp_any 95 hM.ents hu (by have := HL.out; have := HN1.out; have := HN2.out; show (L1.length + L2.length) * 24 ≤ _; omega)
              have HF := Lib.hid (hM.app hA)
              obtain ⟨g0, g1⟩ := HG.out wr hM.cha
              clear hM hu hA HM2
              go_wp2_with (at_builtin; refine Lib.wpList_append_run _ rfl _ _ _ _ rfl _ _ rfl rfl _ _ hr ?_)
              go_roundw
              case rel => exact ⟨2, by omega, rfl, HF.out⟩
              case measure => simp [intOf]
            · obtain rfl : j = 2 := by omega
              go_wp2
              go_ret
              exact ⟨_, rfl, HM2.out⟩
end Go.Proofs.Ytaloafihbdamiaa
