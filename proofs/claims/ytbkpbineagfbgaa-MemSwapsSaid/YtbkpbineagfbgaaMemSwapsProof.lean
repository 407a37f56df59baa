/- 'Rows.MemSwapsSaid': for every input, the Go function treadlelaw03.MemSwaps returns true, and its arguments read as before. -/
import Derived.Test.YtbkpbineagfbgaaRows
import Derived.WalkKit
import Derived.ProofKit
import Derived.OpenShut
import Derived.Test.YtbkpbineagfbgaaQ
import Derived.Test.YtbkpbineagfbgaaL
namespace Go.Proofs.Ytbkpbineagfbgaa.memSwaps
open Go.ChangeShapes Go.WideShapes Go.ChangeAt Go.RowKit
set_option linter.unusedVariables false

theorem own : ownKnob Try.prog.godebug = none := by kernel_rfl

theorem walk (v0 v1 : Value) (w : World) (h0 : Nums .u8 w v0) (h1 : Nums .u8 w v1) :
    Calls Try.prog 7 #[v0, v1] w fun e w' => e = .returned (.bool true) ∧ Grown w w' := by
  obtain ⟨a0, n0, c0, rfl, m0, k0⟩ := h0
  obtain ⟨a1, n1, c1, rfl, m1, k1⟩ := h1
  by_cases hz : n0 = 0 ∨ n1 = 0
  · exact (swaps_none a0 a1 n0 c0 n1 c1 w hz m0 m1).mono fun _ _ ⟨he, hc⟩ => ⟨he, hc.grown fun _ _ h => h⟩
  · obtain ⟨b0, o0, z0, rfl, j0⟩ := k0 (by omega)
    obtain ⟨b1, o1, z1, rfl, j1⟩ := k1 (by omega)
    exact (swaps_walk b0 o0 n0 c0 b1 o1 n1 c1 z0 z1 w m0 m1 (fun i hi => ⟨(j0 i hi).1, u8_lo (j0 i hi).2, u8_hi (j0 i hi).2⟩) (fun i hi => ⟨(j1 i hi).1, u8_lo (j1 i hi).2, u8_hi (j1 i hi).2⟩)).mono fun _ _ ⟨he, hc⟩ => ⟨he, hc.grown fun _ _ h => h⟩

set_option maxRecDepth 100000 in
theorem lifted (os : Os) (started : os.Started) (H : Type) (enc : TypeId × Value → H) :
    ReturnsInHanded {} Try.checked os 7 .any (Rows.memSwapsSpec.pre6 enc Try.prog Try.f7 Rows.memSwapsRow.domain false) (Rows.memSwapsSpec.post enc Try.prog Try.f7 false true false false) := by
  refine returnsInHanded_of_change (C := Try.checked) own started (by kernel_rfl) Try.func7
    (ChangeSpec.witness6 (enc := enc) (C := Try.checked) false ⟨#[], #[.slice none 0 0, .slice none 0 0], []⟩ 8 (by kernel_rfl) (by kernel_rfl) (by kernel_rfl) (by kernel_rfl)) ?_
  intro W base args ds gs before hval0 hW hcnd _
  have hval : ∀ (j : Nat) t v, Try.f7.params[j]? = some t → args[j]? = some v → Value.okWide Try.prog W .any base t v := hval0
  have hW' := hW
  obtain ⟨p, q, hA0, hV, rfl, hfz, hnd⟩ := hW
  have hA : DataW.TrodAll enc Try.prog W 0 (fun _ => true) true Try.f7.params.toList args.toList ds p := hA0
  rw [Try.params7] at hA hval
  obtain ⟨v0, vs0, d0, ds0, p0, q0, hargs, rfl, rfl, h0, r0⟩ := trodAll_cons hA
  obtain ⟨v1, vs1, d1, ds1, p1, q1, rfl, rfl, rfl, h1, r1⟩ := trodAll_cons r0
  obtain ⟨rfl, rfl, rfl⟩ := trodAll_nil r1
  obtain rfl : args = #[v0, v1] := by cases args; simp_all
  obtain ⟨rfl, rfl⟩ := trodVars_none hV
  obtain ⟨a0, n0, c0, rfl⟩ := okWide_slice Try.underlying52 (hval 0 52 v0 rfl rfl)
  obtain ⟨a1, n1, c1, rfl⟩ := okWide_slice Try.underlying52 (hval 1 52 v1 rfl rfl)
  obtain ⟨fuel0, t0⟩ := h0
  obtain ⟨fuel1, t1⟩ := h1
  have k0 := nums_of Try.underlying52 Try.underlying5 cells5 (fun _ => rfl) t0
  have k1 := nums_of Try.underlying52 Try.underlying5 cells5 (fun _ => rfl) t1
  clear hA0 hval0
  simp only [List.append_nil] at hW'
  have hlt := fun p hp => hW'.lt p hp
  refine (walk _ _ W k0 k1).mono fun e W' ⟨he, hg⟩ => ?_
  subst he
  exact ⟨_, rfl, post_of_same (pv := []) hW' (fun _ _ _ => (trodAll_cons_mk (shut_bool Try.underlying4 _) trodAll_mk0)) (fun sp hsp => (trodAll_cons_mk (stays (by kernel_rfl) (of_decide_eq_true (by kernel_rfl)) ⟨fuel0, t0⟩ hg hlt (fun p hp => by simp [hp]) hsp) (trodAll_cons_mk (stays (by kernel_rfl) (of_decide_eq_true (by kernel_rfl)) ⟨fuel1, t1⟩ hg hlt (fun p hp => by simp [hp]) hsp) trodAll_mk0))) (fun _ _ => rfl) (by simp)
    (hg.frame _) hg.2.1 (ok_one (by kernel_rfl) rfl (okWide_bool_mk Try.underlying4 _))⟩

theorem over : Rows.memSwapsRow.holds Try.pinned (OpenSpec.ofChange Rows.memSwapsSpec) :=
  OpenClaim.holds_of_wide 7 Try.f7 rfl rfl rfl rfl rfl rfl rfl ⟨rfl, rfl, rfl, rfl, rfl⟩ rfl rfl rfl rfl rfl (by kernel_rfl) Try.func7 (by kernel_rfl)
    (of_decide_eq_true (by kernel_rfl)) (by unfold Func.isWrapper; first | (rw [if_pos (by decide +kernel)]; kernel_rfl) | (rw [if_neg (by decide +kernel)]; exact ⟨rfl, rfl⟩))
    (fun os started H enc _ => lifted os started H enc)

/-- ████ THE STATEMENT ████ -/
theorem proved : Rows.MemSwapsSaid :=
  over
#print axioms proved
end Go.Proofs.Ytbkpbineagfbgaa.memSwaps
