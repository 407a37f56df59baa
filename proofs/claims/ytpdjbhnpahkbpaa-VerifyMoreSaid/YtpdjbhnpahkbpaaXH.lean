/- VerifyMore: the walk. -/
import Derived.Test.YtpdjbhnpahkbpaaXHA
import Derived.Test.YtpdjbhnpahkbpaaXHB
namespace Go.Proofs.Ytpdjbhnpahkbpaa
set_option linter.unusedVariables false
open Go.ChangeShapes Go.WideShapes Go.ChangeAt Go.RowKit
set_option maxRecDepth 100000 in
set_option maxHeartbeats 8000000 in
theorem vmore_walk {W : World} {a0 a1 a2 : Option Addr} {n0 n1 n2 c0 c1 c2 : Nat} {p : PZ} (hp : HasP W (.agg #[.slice a0 n0 c0, .slice a1 n1 c1, .slice a2 n2 c2]) p) (hc : CapP W a2 n2) (bad : Bool) :
    Calls Try.prog 13 #[.agg #[.slice a0 n0 c0, .slice a1 n1 c1, .slice a2 n2 c2], .bool bad] W fun e w' => e = .returned (.bool true) ∧ Cha (fun _ => False) W w' := by
  obtain ⟨e0, e1, e2⟩ := hp.lens
  have HP := Lib.hid hp
  have HC := Lib.hid hc
  have E2 := Lib.hid e2
  have C0 : Hid (Cha (fun _ => False) W (W.alloc (.cells #[.slice a0 n0 c0, .slice a1 n1 c1, .slice a2 n2 c2] 26))) := Lib.hid ((Cha.refl _ W).alloc _)
  have X0 := Lib.hid (heap_alloc_new W (.cells #[.slice a0 n0 c0, .slice a1 n1 c1, .slice a2 n2 c2] 26))
  have CK : Hid (∀ w, Cha (fun _ => False) W w → Calls Try.prog 24 #[.agg #[.slice a0 n0 c0, .slice a1 n1 c1, .slice a2 n2 c2]] w (SaysF w (chkZ p))) := Lib.hid fun w h => check_c (HP.out.cha h) (HC.out.cha h)
  have HN : Hid (n2 = 0 ∨ 32 < n2 → (chkZ p).e = 16) := Lib.hid fun h => chk_count (by rw [← e2]; exact h)
  have HM : Hid (0 < n2 ∧ n2 < 32 → (chkZ p).e ≠ 13 → chkZ (more p (extraZ bad)) = if (chkZ p).e = 0 then (if bad then ⟨11, n2, 1⟩ else ⟨0, 0, 0⟩) else chkZ p) := Lib.hid fun h g => by rw [e2]; exact chk_more bad (by rw [← e2]; exact h) g
  obtain ⟨z, hz⟩ : ∃ z, z = chkZ p := ⟨_, rfl⟩
  rw [← hz] at CK HN HM
  obtain ⟨ZE, ZF, ZA⟩ := z
  unfold SaysF at CK
  dsimp only at CK HN HM
  have hl2 := hp.parts.2.2.len
  rw [← e2] at hl2
  clear hp hc e0 e1 e2
  have AW := Lib.hid (fun w => vawake_any w)
  have HZ := Lib.hid hz
  clear hz
  by_cases hA : n2 = 0 ∨ 32 < n2
  · have e := HN.out hA
    subst e
    clear HN HM
    rcases hA with rfl | hA
    all_goals
      first
        | (have d1 : ((n2 : Int) == 0) = false := by
             rw [beq_eq_false_iff_ne]; omega
           have d2 : (32 : Int) < (n2 : Int) := by omega)
        | skip
      go_enter Try.func13, Try.ntmps13
      go_wp2_with (first
        | (go_at_call 24; ((with_reducible refine (CK.out _ C0.out).mono ?_); rintro e w1 ⟨rfl, k1⟩; have C1 := Lib.hid ((C0.out.trans k1).alloc (.cells #[.int .i64 16, .int .i64 ZF, .int .i64 ZA] 37)); have X1 := Lib.hid ((k1.old _ (Array.getElem?_eq_some_iff.1 X0.out).1 (fun f => f)).trans X0.out); have Y1 := Lib.hid (heap_alloc_new w1 (.cells #[.int .i64 16, .int .i64 ZF, .int .i64 ZA] 37)); clear k1))
        | (go_at_call 26; ((with_reducible refine (AW.out _).mono ?_); rintro e w2 ⟨rfl, k2⟩; have C2 := Lib.hid (C1.out.trans k2); have z0 := cell_of_row w2 _ 0 _ 37 (0, 0) ((k2.old _ (Array.getElem?_eq_some_iff.1 Y1.out).1 (fun f => f)).trans Y1.out); have x1 := (((((Cha.refl (fun _ => False) w1).alloc (.cells #[.int .i64 16, .int .i64 ZF, .int .i64 ZA] 37)).trans k2).old _ (Array.getElem?_eq_some_iff.1 X1.out).1 (fun f => f)).trans X1.out); have b2 := cell_of_row w2 W.heap.size 2 _ 26 (0, 0) x1; clear x1 k2)))
      go_ret
      exact ⟨rfl, C2.out⟩
  · have d1 : ((n2 : Int) == 0) = false := by
      rw [beq_eq_false_iff_ne]; omega
    have d2 : ¬ (32 : Int) < (n2 : Int) := by omega
    clear HN
    by_cases hB : n2 = 32 ∨ ZE = 13
    · clear HM
      by_cases hB1 : n2 = 32
      · have d3 : ((n2 : Int) == 32) = true := by rw [hB1]; rfl
        clear hB hA hB1
        go_enter Try.func13, Try.ntmps13
        go_wp2_with (first
          | (go_at_call 24; ((with_reducible refine (CK.out _ C0.out).mono ?_); rintro e w1 ⟨rfl, k1⟩; have C1 := Lib.hid ((C0.out.trans k1).alloc (.cells #[.int .i64 ZE, .int .i64 ZF, .int .i64 ZA] 37)); have X1 := Lib.hid ((k1.old _ (Array.getElem?_eq_some_iff.1 X0.out).1 (fun f => f)).trans X0.out); clear k1))
          | (go_at_call 26; ((with_reducible refine (AW.out _).mono ?_); rintro e w2 ⟨rfl, k2⟩; have C2 := Lib.hid (C1.out.trans k2); have x1 := (((((Cha.refl (fun _ => False) w1).alloc (.cells #[.int .i64 ZE, .int .i64 ZF, .int .i64 ZA] 37)).trans k2).old _ (Array.getElem?_eq_some_iff.1 X1.out).1 (fun f => f)).trans X1.out); have b2 := cell_of_row w2 W.heap.size 2 _ 26 (0, 0) x1; clear x1 k2)))
        go_ret
        exact ⟨rfl, C2.out⟩
      · have hB2 : ZE = 13 := by omega
        have d3 : ((n2 : Int) == 32) = false := by
          rw [beq_eq_false_iff_ne]; omega
        subst hB2
        clear hB hA hB1
        go_enter Try.func13, Try.ntmps13
        go_wp2_with (first
          | (go_at_call 24; ((with_reducible refine (CK.out _ C0.out).mono ?_); rintro e w1 ⟨rfl, k1⟩; have C1 := Lib.hid ((C0.out.trans k1).alloc (.cells #[.int .i64 13, .int .i64 ZF, .int .i64 ZA] 37)); have X1 := Lib.hid ((k1.old _ (Array.getElem?_eq_some_iff.1 X0.out).1 (fun f => f)).trans X0.out); have Y1 := Lib.hid (heap_alloc_new w1 (.cells #[.int .i64 13, .int .i64 ZF, .int .i64 ZA] 37)); clear k1))
          | (go_at_call 26; ((with_reducible refine (AW.out _).mono ?_); rintro e w2 ⟨rfl, k2⟩; have C2 := Lib.hid (C1.out.trans k2); have z0 := cell_of_row w2 _ 0 _ 37 (0, 0) ((k2.old _ (Array.getElem?_eq_some_iff.1 Y1.out).1 (fun f => f)).trans Y1.out); have x1 := (((((Cha.refl (fun _ => False) w1).alloc (.cells #[.int .i64 13, .int .i64 ZF, .int .i64 ZA] 37)).trans k2).old _ (Array.getElem?_eq_some_iff.1 X1.out).1 (fun f => f)).trans X1.out); have b2 := cell_of_row w2 W.heap.size 2 _ 26 (0, 0) x1; clear x1 k2)))
        go_ret
        exact ⟨rfl, C2.out⟩
    · have d3 : ((n2 : Int) == 32) = false := by
        rw [beq_eq_false_iff_ne]; omega
      have h0 : 0 < n2 := by omega
      have h32 : n2 < 32 := by omega
      have h13 : ZE ≠ 13 := by omega
      have HM2 := HM.out ⟨h0, h32⟩ h13
      by_cases hE : ZE = 0
      · subst hE
        rw [if_pos rfl] at HM2
        cases bad with
        | false => exact vmore_ok0 HP.out HC.out HZ.out.symm h0 h32 HM2
        | true => exact vmore_bad0 HP.out HC.out HZ.out.symm h0 h32 HM2
      · rw [if_neg hE] at HM2
        cases bad with
        | false => exact vmore_ok1 HP.out HC.out HZ.out.symm h13 hE h0 h32 HM2
        | true => exact vmore_bad1 HP.out HC.out HZ.out.symm h13 hE h0 h32 HM2
end Go.Proofs.Ytpdjbhnpahkbpaa
