/- The document's writer: a count. -/
import Derived.Test.YtpdjbhnpahkbpaaBC
namespace Go.Proofs.Ytpdjbhnpahkbpaa
set_option linter.unusedVariables false
open Go.ChangeShapes Go.WideShapes Go.ChangeAt Go.RowKit
section
variable {B bw : Nat} {F : Nat → Prop} {W : World} {A : List Nat} {e : Int}
/-- A count, as the document writes it. -/
def dCount (n lim : Nat) (s : St) : St := dNum (n : Int) ⟨s.t, if s.e = 0 ∧ lim < n then 16 else s.e⟩
set_option maxRecDepth 100000 in
theorem dcount_any (n lim : Nat) (hn : n ≤ 1000000000000) (hl : lim ≤ 1000000) (h : Wd B F W bw A e) (hA : A.length ≤ 70000000000000) (h0 : B ≤ W.heap.size) :
    Calls Try.prog 29 #[.pointer (some ⟨bw, 0, none⟩), .int .i64 (n : Int), .int .i64 (lim : Int)] W (DWrote B bw F W (dCount n lim ⟨A, e⟩)) := by
  have c1 := h.err
  have f1 := h.free 1
  have hI : I64 (n : Int) := ⟨by omega, by omega⟩
  by_cases hb : lim < n
  · have hb' : (lim : Int) < (n : Int) := by omega
    by_cases he : e = 0
    · subst he
      have E1 : Hid (dCount n lim ⟨A, 0⟩ = dNum (n : Int) ⟨A, 16⟩) := Lib.hid (by unfold dCount; rw [if_pos ⟨rfl, hb⟩])
      have H2 := Lib.hid (h.fail 16)
      have C : Hid (Calls Try.prog 30 #[.pointer (some ⟨bw, 0, none⟩), .int .i64 (n : Int)] (W.setCell ⟨bw, 1, none⟩ (.int .i64 16)) (DWrote B bw F (W.setCell ⟨bw, 1, none⟩ (.int .i64 16)) (dNum (n : Int) ⟨A, 16⟩))) := Lib.hid (dnumber_any (n : Int) hI H2.out.1 hA (Nat.le_trans h0 H2.out.2.cha.size))
      clear h hI hb
      go_enter Try.func29, Try.ntmps29
      go_wp2_with (go_at_call 30; ((with_reducible refine (C.out).mono ?_); rintro e w1 ⟨rfl, F1, k1, k2⟩; have K1 := Lib.hid k1; have K2 := Lib.hid k2; clear k1 k2))
      go_end0
      exact DWrote.of ⟨rfl, F1, K1.out, H2.out.2.trans K2.out⟩ E1.out
    · have he1 : (e == 0) = false := by simpa using he
      have E1 : Hid (dCount n lim ⟨A, e⟩ = dNum (n : Int) ⟨A, e⟩) := Lib.hid (by unfold dCount; rw [if_neg (fun c => he c.1)])
      have C : Hid (Calls Try.prog 30 #[.pointer (some ⟨bw, 0, none⟩), .int .i64 (n : Int)] W (DWrote B bw F W (dNum (n : Int) ⟨A, e⟩))) := Lib.hid (dnumber_any (n : Int) hI h hA h0)
      clear h hI hb he
      go_enter Try.func29, Try.ntmps29
      go_wp2_with (go_at_call 30; ((with_reducible refine (C.out).mono ?_); rintro e w1 ⟨rfl, F1, k1, k2⟩; have K1 := Lib.hid k1; have K2 := Lib.hid k2; clear k1 k2))
      go_end0
      exact DWrote.of ⟨rfl, F1, K1.out, K2.out⟩ E1.out
  · have hb' : ¬ (lim : Int) < (n : Int) := by omega
    have E1 : Hid (dCount n lim ⟨A, e⟩ = dNum (n : Int) ⟨A, e⟩) := Lib.hid (by unfold dCount; rw [if_neg (fun c => hb c.2)])
    have C : Hid (Calls Try.prog 30 #[.pointer (some ⟨bw, 0, none⟩), .int .i64 (n : Int)] W (DWrote B bw F W (dNum (n : Int) ⟨A, e⟩))) := Lib.hid (dnumber_any (n : Int) hI h hA h0)
    clear h hI hb
    go_enter Try.func29, Try.ntmps29
    go_wp2_with (go_at_call 30; ((with_reducible refine (C.out).mono ?_); rintro e w1 ⟨rfl, F1, k1, k2⟩; have K1 := Lib.hid k1; have K2 := Lib.hid k2; clear k1 k2))
    go_end0
    exact DWrote.of ⟨rfl, F1, K1.out, K2.out⟩ E1.out
end
end Go.Proofs.Ytpdjbhnpahkbpaa
