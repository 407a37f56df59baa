/- 'Rows.VerifyMoreSaid': for every input, the Go function treadlelaw09.VerifyMore returns true, and its arguments read as before. -/
import Derived.Test.YtpdjbhnpahkbpaaRows
import Derived.WalkKit
import Derived.ProofKit
import Derived.OpenShut
import Derived.Test.YtpdjbhnpahkbpaaAB
import Derived.Test.YtpdjbhnpahkbpaaXH
namespace Go.Proofs.Ytpdjbhnpahkbpaa.verifyMore
open Go.ChangeShapes Go.WideShapes Go.ChangeAt Go.RowKit
set_option linter.unusedVariables false

theorem own : ownKnob Try.prog.godebug = none := by kernel_rfl

theorem walk (W : World) (xa0 : Option Addr) (xn0 xc0 : Nat) (ya0 : Option Addr) (yn0 yc0 : Nat) (za0 : Option Addr) (zn0 zc0 : Nat) (P0 : PZ) (k0 : HasP W (.agg #[.slice xa0 xn0 xc0, .slice ya0 yn0 yc0, .slice za0 zn0 zc0]) P0) (q0 : CapP W za0 zn0) (a1 : Bool) :
    Calls Try.prog 13 #[.agg #[.slice xa0 xn0 xc0, .slice ya0 yn0 yc0, .slice za0 zn0 zc0], .bool a1] W fun e w' => e = .returned (.bool true) ∧ Cha (fun _ => False) W w' := by
  exact vmore_walk k0 q0 a1

set_option maxRecDepth 100000 in
theorem lifted (os : Go.Os) (started : os.Started) (H : Type) (enc : TypeId × Value → H) :
    ReturnsInHanded {} Try.checked os 13 .any (Rows.verifyMoreSpec.pre6 enc Try.prog Try.f13 Rows.verifyMoreRow.domain false) (Rows.verifyMoreSpec.post enc Try.prog Try.f13 false true false false) := by
  refine returnsInHanded_of_change (C := Try.checked) own started (by kernel_rfl) Try.func13
    (ChangeSpec.witness6 (enc := enc) (C := Try.checked) false ⟨#[], #[.agg #[.slice none 0 0, .slice none 0 0, .slice none 0 0], .bool false], []⟩ 8 (by kernel_rfl) (by kernel_rfl) (by kernel_rfl) (by kernel_rfl)) ?_
  intro W base args ds gs before hval0 hW hcnd _
  have hval : ∀ (j : Nat) t v, Try.f13.params[j]? = some t → args[j]? = some v → Value.okWide Try.prog W .any base t v := hval0
  have hW' := hW
  obtain ⟨p, q, hA0, hV, rfl, hfz, hnd⟩ := hW
  have hA : DataW.TrodAll enc Try.prog W 0 (fun _ => true) true Try.f13.params.toList args.toList ds p := hA0
  rw [Try.params13] at hA hval
  obtain ⟨v0, vs0, d0, ds0, p0, q0, hargs, rfl, rfl, h0, r0⟩ := trodAll_cons hA
  obtain ⟨v1, vs1, d1, ds1, p1, q1, rfl, rfl, rfl, h1, r1⟩ := trodAll_cons r0
  obtain ⟨rfl, rfl, rfl⟩ := trodAll_nil r1
  obtain rfl : args = #[v0, v1] := by cases args; simp_all
  obtain ⟨rfl, rfl⟩ := trodVars_none hV
  have h0k := h0
  obtain ⟨fuel0, t0⟩ := h0
  obtain ⟨xa0, xn0, xc0, ya0, yn0, yc0, za0, zn0, zc0, rfl, ⟨P0, k0⟩, qq0⟩ := prog_argc (hval 0 26 v0 rfl rfl) t0
  obtain ⟨a1, rfl, rfl, rfl⟩ := open_bool Try.underlying4 (hval 1 4 v1 rfl rfl) h1
  clear hA0 hval0
  simp only [List.append_nil] at hW'
  have hlt0 : ∀ x ∈ p0, x.block < W.heap.size := fun x hx => hW'.lt x (by simp [hx])
  refine (walk W xa0 xn0 xc0 ya0 yn0 yc0 za0 zn0 zc0 P0 k0 qq0 a1).mono fun e W' ⟨he, hg⟩ => ?_
  subst he
  refine ⟨_, rfl, _, _, _, [], p0 ++ ([] ++ []), [], hW', ?_, ?_, rfl, hg.keptBut _, fun h => by cases h⟩
  · exact trodAll_cons_mk (shut_bool Try.underlying4 _) trodAll_mk0
  · exact trodAll_cons_mk (stays_cha (by kernel_rfl) (of_decide_eq_true (by kernel_rfl)) h0k hg hlt0 (fun x hx => by simpa using hlt0 x hx)) (trodAll_cons_mk (shut_bool Try.underlying4 a1) (trodAll_mk0))

theorem over : Rows.verifyMoreRow.holds Try.pinned (OpenSpec.ofChange Rows.verifyMoreSpec) :=
  OpenClaim.holds_of_wide 13 Try.f13 rfl rfl rfl rfl rfl rfl rfl ⟨rfl, rfl, rfl, rfl, rfl⟩ rfl rfl rfl rfl rfl (by kernel_rfl) Try.func13 (by kernel_rfl)
    (of_decide_eq_true (by kernel_rfl)) (by unfold Func.isWrapper; first | (rw [if_pos (by decide +kernel)]; kernel_rfl) | (rw [if_neg (by decide +kernel)]; exact ⟨rfl, rfl⟩))
    (fun os started H enc _ => lifted os started H enc)

/-- ████ THE STATEMENT ████ -/
theorem proved : Rows.VerifyMoreSaid :=
  over
#print axioms proved
end Go.Proofs.Ytpdjbhnpahkbpaa.verifyMore
