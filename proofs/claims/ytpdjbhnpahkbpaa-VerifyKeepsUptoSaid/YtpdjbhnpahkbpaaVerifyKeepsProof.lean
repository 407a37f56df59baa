/- 'Rows.VerifyKeepsUptoSaid': for every program of a bulk of at most 1048576, the Go function treadlelaw09.VerifyKeeps returns true, and its argument reads as before. Condition: the program's lists hold together at most 1048576 values (the law writes the program by the document's Encode, which writes on behind a fault: of lists that share memory it would write more bytes than any memory holds). -/
import Derived.Test.YtpdjbhnpahkbpaaRows
import Derived.WalkKit
import Derived.ProofKit
import Derived.OpenShut
import Derived.JoinedCond
import Derived.Test.YtpdjbhnpahkbpaaAB
import Derived.Test.YtpdjbhnpahkbpaaBI
import Derived.Test.YtpdjbhnpahkbpaaXK
import Derived.Test.YtpdjbhnpahkbpaaXD
namespace Go.Proofs.Ytpdjbhnpahkbpaa.verifyKeeps
open Go.ChangeShapes Go.WideShapes Go.ChangeAt Go.RowKit
set_option linter.unusedVariables false

theorem own : ownKnob Try.prog.godebug = none := by kernel_rfl
theorem bound {H : Type} {d0 : DataW H} {n : Nat} (hk : Rows.uptoSmall H [d0] = true) (h0 : n ≤ Rows.uptoBulk d0) : n ≤ 1000000000 := by
  have h : Rows.uptoBulkAll [d0] ≤ 1048576 := of_decide_eq_true hk
  simp only [Rows.uptoBulkAll] at h
  omega

theorem walk (W : World) (xa0 : Option Addr) (xn0 xc0 : Nat) (ya0 : Option Addr) (yn0 yc0 : Nat) (za0 : Option Addr) (zn0 zc0 : Nat) (P0 : PZ) (k0 : HasP W (.agg #[.slice xa0 xn0 xc0, .slice ya0 yn0 yc0, .slice za0 zn0 zc0]) P0) (q0 : CapP W za0 zn0) (hs : szP P0 ≤ 1000000000) :
    Calls Try.prog 12 #[.agg #[.slice xa0 xn0 xc0, .slice ya0 yn0 yc0, .slice za0 zn0 zc0]] W fun e w' => e = .returned (.bool true) ∧ Cha (fun _ => False) W w' := by
  exact vkeeps_walk k0 q0 hs

set_option maxRecDepth 100000 in
theorem contract (H : Type) (enc : TypeId × Value → H) (W : World) (base : Nat) (args : Array Value) (ds gs : List (DataW H)) (before : List MemPlace)
    (hval0 : ∀ (j : Nat) t v, Try.f12.params[j]? = some t → args[j]? = some v → Value.okWide Try.prog W .any base t v)
    (hW : DataW.Whole enc Try.prog Try.f12.params.toList Rows.verifyKeepsSpec.vars false W args.toList ds gs before) (hk : Rows.uptoSmall H (ds ++ gs) = true) :
    Calls Try.prog 12 args W fun e W' => ∃ v, e = .returned v ∧ Rows.verifyKeepsSpec.post enc Try.prog Try.f12 false true false false W args v W' := by
  have hval : ∀ (j : Nat) t v, Try.f12.params[j]? = some t → args[j]? = some v → Value.okWide Try.prog W .any base t v := hval0
  have hW' := hW
  obtain ⟨p, q, hA0, hV, rfl, hfz, hnd⟩ := hW
  have hA : DataW.TrodAll enc Try.prog W 0 (fun _ => true) true Try.f12.params.toList args.toList ds p := hA0
  rw [Try.params12] at hA hval
  obtain ⟨v0, vs0, d0, ds0, p0, q0, hargs, rfl, rfl, h0, r0⟩ := trodAll_cons hA
  obtain ⟨rfl, rfl, rfl⟩ := trodAll_nil r0
  obtain rfl : args = #[v0] := by cases args; simp_all
  obtain ⟨rfl, rfl⟩ := trodVars_none hV
  have h0k := h0
  obtain ⟨fuel0, t0⟩ := h0
  obtain ⟨xa0, xn0, xc0, ya0, yn0, yc0, za0, zn0, zc0, rfl, _, qq0⟩ := prog_argc (hval 0 26 v0 rfl rfl) t0
  obtain ⟨x0, y0, z0, e0, P0, k0, kb⟩ := bprog_of (hval 0 26 _ rfl rfl) t0
  rw [← e0] at k0
  simp only [List.append_nil] at hk
  have hs := bound hk kb
  clear hA0 hval0
  simp only [List.append_nil] at hW'
  have hlt0 : ∀ x ∈ p0, x.block < W.heap.size := fun x hx => hW'.lt x (by simp [hx])
  refine (walk W xa0 xn0 xc0 ya0 yn0 yc0 za0 zn0 zc0 P0 k0 qq0 hs).mono fun e W' ⟨he, hg⟩ => ?_
  subst he
  refine ⟨_, rfl, _, _, _, [], p0 ++ [], [], hW', ?_, ?_, rfl, hg.keptBut _, fun h => by cases h⟩
  · exact trodAll_cons_mk (shut_bool Try.underlying4 _) trodAll_mk0
  · exact trodAll_cons_mk (stays_cha (by kernel_rfl) (of_decide_eq_true (by kernel_rfl)) h0k hg hlt0 (fun x hx => by simpa using hlt0 x hx)) (trodAll_mk0)

set_option maxRecDepth 100000 in
theorem lifted (os : Go.Os) (started : os.Started) (H : Type) (enc : TypeId × Value → H) (F : Stop.Interp) :
    ReturnsInHanded {} Try.checked os 12 .any ((Rows.OpenSpec.upto Rows.verifyKeepsSpec).pre6 enc Try.prog Try.f12 Rows.verifyKeepsUptoRow.domain false) (((Rows.OpenSpec.upto Rows.verifyKeepsSpec).at F).post enc Try.prog Try.f12 false true false false) := by
  refine returnsInHanded_of_cond (C := Try.checked) (s := Rows.OpenSpec.upto Rows.verifyKeepsSpec) (k := Rows.uptoSmall) rfl own started (by kernel_rfl) Try.func12
    (OpenSpec.witness (enc := enc) (C := Try.checked) (s := Rows.OpenSpec.upto Rows.verifyKeepsSpec) (k := Rows.uptoSmall) rfl false ⟨#[], #[.agg #[.slice none 0 0, .slice none 0 0, .slice none 0 0]], []⟩ 8 (by kernel_rfl) (by kernel_rfl) (by kernel_rfl)
      (x := ([.agg [.nil, .nil, .nil]], [], [])) (by kernel_rfl) rfl (by kernel_rfl)) ?_
  intro W base args ds gs before hval hW _ hk _
  exact contract H enc W base args ds gs before hval hW hk

/-- ████ THE STATEMENT ████ -/
theorem proved : Rows.VerifyKeepsUptoSaid :=
  OpenClaim.holds_of_cond 12 Try.f12 rfl rfl rfl rfl rfl rfl rfl ⟨rfl, rfl, rfl, rfl, rfl⟩ rfl rfl rfl rfl rfl (by kernel_rfl) Try.func12 (by kernel_rfl)
    (of_decide_eq_true (by kernel_rfl)) (by unfold Func.isWrapper; first | (rw [if_pos (by decide +kernel)]; kernel_rfl) | (rw [if_neg (by decide +kernel)]; exact ⟨rfl, rfl⟩))
    (fun os started H enc _ F => lifted os started H enc F)
#print axioms proved
end Go.Proofs.Ytpdjbhnpahkbpaa.verifyKeeps
