/- Timers: slices.Delete of a whole list that fills its block; of any beginning. -/
import Derived.Test.YtaloafihbdamiaaTK
namespace Go.Proofs.Ytaloafihbdamiaa
open Go.ChangeShapes Go.WideShapes Go.ChangeAt Go.RowKit
variable {w w' : World} {v : Value} {E N : List Ent} {y : Ent}
set_option maxRecDepth 100000 in
set_option maxHeartbeats 4000000 in
theorem delete_whole (g j : Nat) (h : Ents w (.slice (some ⟨g, 0, none⟩) E.length j) E) (hj : j = E.length) (h0 : 0 < j) :
    Calls Try.prog 62 #[.slice (some ⟨g, 0, none⟩) j j, .int .i64 0, .int .i64 (j : Int)] w (Cut w (.slice (some ⟨g, 0, none⟩) j j) E j) := by
  rcases h.2 with ⟨e, _⟩ | ⟨g', cap', cur, e, _, hg, h1, h2, h3, h4⟩
  · cases e
  injection e with e1 e2 e3
  injection e1 with e1
  injection e1 with e1 _ _
  subst e1 e3
  have hm2 := h2
  unfold maxLen at hm2
  rw [← hj] at h4 h1
  have FIN := Lib.hid (eapp_del (E := E) w g j j j cur hj (Nat.le_refl _) (Nat.le_refl _) h2 hg h3)
  rw [Nat.sub_self] at FIN
  have hE := ecs_len E
  have hd : ((ecs E).drop (j * 3)).length = 0 := by rw [List.length_drop, hE, ← hj]; omega
  have hap : ∀ ty, (Builtin.append_ #[95, 95] ty #[.slice (some ⟨g, 0, none⟩) 0 j, .slice (some ⟨g, 0, none⟩) 0 0]).run Try.prog w.drew = .ok (.slice (some ⟨g, 0, none⟩) 0 j) (w.drew.setCells g 0 ((ecs E).drop (j * 3))) := fun ty => by
    have := run_shift (E := E) w.drew ty g j j j 0 0 cur hj (Nat.le_refl _) (Nat.le_refl _) hg h3 h4 (fun k => absurd k (Nat.lt_irrefl _))
    rw [Nat.sub_self] at this
    exact this
  obtain ⟨c1, a1, a2, a3⟩ := heap_setCells_same g 93 ((ecs E).drop (j * 3)) 0 w.drew cur hg (by rw [hd, h3]; omega)
  obtain ⟨W1, hW1⟩ : ∃ W1, W1 = w.drew.setCells g 0 ((ecs E).drop (j * 3)) := ⟨_, rfl⟩
  rw [← hW1] at a1 FIN hap
  have hclr : ∀ ty c, (Builtin.clear_ #[95] ty #[.slice (some ⟨g, 0, none⟩) j c]).run Try.prog W1 = .ok (.tuple #[]) (W1.setCells g 0 (Builtin.zeroCells zero90.cells j).toList) := fun ty c =>
    run_clear3 W1 ty g 0 j c h0 (fun k hk => by rw [cell_of_row W1 g _ c1 93 (0, 0) a1, Array.getElem?_eq_getElem (by rw [a2, h3]; omega)]; rfl) (fun k _ => frozen_of_row W1 g _ c1 93 a1)
  obtain ⟨Z, hZ⟩ : ∃ Z, Z = (Builtin.zeroCells zero90.cells j).toList := ⟨_, rfl⟩
  rw [← hZ] at FIN hclr
  rw [Nat.zero_mul] at FIN
  clear hZ
  have k1 : ¬ ((0 : Int) = (j : Int)) := by omega
  have k1b : ¬ (0 = j) := by omega
  have k1c : ¬ (j = 0) := by omega
  clear h h4 hd hE hg a1 a2 a3 hW1 hj e2 h1 h2 h3
  go_enter Try.func62, Try.ntmps62
  go_wp2
  go_region_law (refine step_append_runI _ rfl _ _ rfl (.slice (some ⟨g, 0, none⟩) 0 j) (.slice (some ⟨g, 0, none⟩) 0 0) (by simp [Act.eval, Act.put]) (by simp [Act.eval, Act.put]) (hap _) ?_)
  go_wp2_with (at_builtin; refine wpList_clear_run _ rfl _ rfl rfl (hclr _ _) ?_)
  go_ret
  exact ⟨_, rfl, FIN.out⟩
end Go.Proofs.Ytaloafihbdamiaa
