/- VerifyMore: the walk, where the function more has a fault. -/
import Derived.Test.YtpdjbhnpahkbpaaXE
namespace Go.Proofs.Ytpdjbhnpahkbpaa
set_option linter.unusedVariables false
open Go.ChangeShapes Go.WideShapes Go.ChangeAt Go.RowKit
set_option maxRecDepth 100000 in
set_option maxHeartbeats 8000000 in
theorem vmore_bad0 {W : World} {a0 a1 a2 : Option Addr} {n0 n1 n2 c0 c1 c2 : Nat} {p : PZ} {ZF ZA : Int} (hp : HasP W (.agg #[.slice a0 n0 c0, .slice a1 n1 c1, .slice a2 n2 c2]) p) (hc : CapP W a2 n2) (hz : chkZ p = ⟨0, ZF, ZA⟩) (h0 : 0 < n2) (h32 : n2 < 32) (HM : chkZ (more p (extraZ true)) = ⟨11, n2, 1⟩) :
    Calls Try.prog 13 #[.agg #[.slice a0 n0 c0, .slice a1 n1 c1, .slice a2 n2 c2], .bool true] W fun e w' => e = .returned (.bool true) ∧ Cha (fun _ => False) W w' := by
  obtain ⟨e0, e1, e2⟩ := hp.lens
  have HP := Lib.hid hp
  have HC := Lib.hid hc
  have C0 : Hid (Cha (fun _ => False) W (W.alloc (.cells #[.slice a0 n0 c0, .slice a1 n1 c1, .slice a2 n2 c2] 26))) := Lib.hid ((Cha.refl _ W).alloc _)
  have X0 := Lib.hid (heap_alloc_new W (.cells #[.slice a0 n0 c0, .slice a1 n1 c1, .slice a2 n2 c2] 26))
  have CK : Hid (∀ w, Cha (fun _ => False) W w → Calls Try.prog 24 #[.agg #[.slice a0 n0 c0, .slice a1 n1 c1, .slice a2 n2 c2]] w (SaysF w (chkZ p))) := Lib.hid fun w h => check_c (HP.out.cha h) (HC.out.cha h)
  have CV : Hid (∀ w v, Calls Try.prog 24 #[v] w (SaysF w (chkZ (more p (extraZ true)))) → Calls Try.prog 24 #[v] w fun e w' => e = .returned (.agg #[.int .i64 11, .int .i64 (n2 : Int), .int .i64 1]) ∧ Cha (fun _ => False) w w') := Lib.hid fun w v h => by rw [HM] at h; exact h
  rw [hz] at CK
  unfold SaysF at CK
  dsimp only at CK
  have HN0 := Lib.hid h0
  have HN32 := Lib.hid (Nat.le_of_lt h32)
  have hl2 := hp.parts.2.2.len
  rw [← e2] at hl2
  have d1 : ((n2 : Int) == 0) = false := by
    rw [beq_eq_false_iff_ne]; omega
  have d2 : ¬ (32 : Int) < (n2 : Int) := by omega
  have d3 : ((n2 : Int) == 32) = false := by
    rw [beq_eq_false_iff_ne]; omega
  have hnn : ((n2 : Int) == (n2 : Int)) = true := by simp
  clear hp hc hz e0 e1 e2 h0 h32 HM
  have AW := Lib.hid (fun w => vawake_any w)
  go_enter Try.func13, Try.ntmps13
  go_wp2_with (first
    | (go_at_call 24; ((with_reducible refine (CK.out _ C0.out).mono ?_); rintro e w1 ⟨rfl, k1⟩; have C1 := Lib.hid ((C0.out.trans k1).alloc (.cells #[.int .i64 0, .int .i64 ZF, .int .i64 ZA] 37)); have X1 := Lib.hid ((k1.old _ (Array.getElem?_eq_some_iff.1 X0.out).1 (fun f => f)).trans X0.out); have Y1 := Lib.hid (heap_alloc_new w1 (.cells #[.int .i64 0, .int .i64 ZF, .int .i64 ZA] 37)); have B1 := Lib.hid (Array.getElem?_eq_some_iff.1 X1.out).1; clear k1))
    | (go_at_call 26; ((with_reducible refine (AW.out _).mono ?_); rintro e w2 ⟨rfl, k2⟩; (have C2 := Lib.hid (C1.out.trans k2); have Y2 := Lib.hid ((k2.old _ (Array.getElem?_eq_some_iff.1 Y1.out).1 (fun f => f)).trans Y1.out); have X2 := Lib.hid (((((Cha.refl (fun _ => False) w1).alloc (.cells #[.int .i64 0, .int .i64 ZF, .int .i64 ZA] 37)).trans k2).old _ (Array.getElem?_eq_some_iff.1 X1.out).1 (fun f => f)).trans X1.out); have z0 := cell_of_row w2 _ 0 _ 37 (0, 0) Y2.out; have z1 := cell_of_row w2 _ 1 _ 37 (0, 0) Y2.out; have z2 := cell_of_row w2 _ 2 _ 37 (0, 0) Y2.out; have b0 := cell_of_row w2 W.heap.size 0 _ 26 (0, 0) X2.out; have b1 := cell_of_row w2 W.heap.size 1 _ 26 (0, 0) X2.out; have b2 := cell_of_row w2 W.heap.size 2 _ 26 (0, 0) X2.out; have s0 := block_lt_of_cell b0; have s1 := block_lt_of_cell z0; have s01 := Nat.lt_succ_of_lt s0; have s02 := Nat.lt_succ_of_lt s01; have s03 := Nat.lt_succ_of_lt s02; have s04 := Nat.lt_succ_of_lt s03; have HP2 := HP.out.cha C2.out; have HC2 := HC.out.cha C2.out; obtain ⟨a6, c6, w6, a9, c9, w9, hr6, hr9, hx6, hq6, hq9, c10, p10, q10⟩ := more_pack true HP2 HC2 HN0.out HN32.out; have HR6 := Lib.hid hr6; have HR9 := Lib.hid hr9; have CQ := Lib.hid (CV.out _ _ (check_c p10 q10)); have C10 := Lib.hid c10; have Z10 := Lib.hid ((c10.old _ (Array.getElem?_eq_some_iff.1 Y2.out).1 (fun f => f)).trans Y2.out); have x60 : w6.cell? ⟨w2.heap.size + 1 + 1, 0, none⟩ = some (.int .i64 0) := cell_of_row w6 _ 0 _ 55 (0, 0) hx6; have x61 : w6.cell? ⟨w2.heap.size + 1 + 1, 1, none⟩ = some (.slice (some ⟨w2.heap.size, 0, none⟩) 1 1) := cell_of_row w6 _ 1 _ 55 (0, 0) hx6; have x62 : w6.cell? ⟨w2.heap.size + 1 + 1, 2, none⟩ = some (.slice none 0 0) := cell_of_row w6 _ 2 _ 55 (0, 0) hx6; have x63 : w6.cell? ⟨w2.heap.size + 1 + 1, 3, none⟩ = some (.slice (some ⟨w2.heap.size + 1 + 1 + 1, 0, none⟩) 3 3) := cell_of_row w6 _ 3 _ 55 (0, 0) hx6; have x6s : w2.heap.size + 1 + 1 < w6.heap.size := (Array.getElem?_eq_some_iff.1 hx6).1; have q62 : w6.cell? ⟨w2.heap.size + 1 + 1 + 1 + 1, 2, none⟩ = some (.slice none 0 0) := cell_of_row w6 _ 2 _ 26 (0, 0) hq6; have q6f : w6.frozen? ⟨w2.heap.size + 1 + 1 + 1 + 1, 2, none⟩ = false := frozen_of_row w6 _ 2 _ 26 hq6; have q6s : w2.heap.size + 1 + 1 + 1 + 1 < w6.heap.size := (Array.getElem?_eq_some_iff.1 hq6).1; have q90 : w9.cell? ⟨w2.heap.size + 1 + 1 + 1 + 1, 0, none⟩ = some (.slice a0 n0 c0) := cell_of_row w9 _ 0 _ 26 (0, 0) hq9; have q91 : w9.cell? ⟨w2.heap.size + 1 + 1 + 1 + 1, 1, none⟩ = some (.slice a1 n1 c1) := cell_of_row w9 _ 1 _ 26 (0, 0) hq9; have q92 : w9.cell? ⟨w2.heap.size + 1 + 1 + 1 + 1, 2, none⟩ = some (.slice a6 n2 c6) := cell_of_row w9 _ 2 _ 26 (0, 0) hq9; have q9f : w9.frozen? ⟨w2.heap.size + 1 + 1 + 1 + 1, 2, none⟩ = false := frozen_of_row w9 _ 2 _ 26 hq9; have q9s : w2.heap.size + 1 + 1 + 1 + 1 < w9.heap.size := (Array.getElem?_eq_some_iff.1 hq9).1; have hxq : w2.heap.size + 1 + 1 ≠ w2.heap.size + 1 + 1 + 1 + 1 := Nat.ne_of_lt (Nat.lt_succ_of_lt (Nat.lt_succ_self _)); clear hr6 hr9 hx6 hq6 hq9 c10 p10 q10 HP2 HC2 k2 C1 X1 Y1)))
    | (at_builtin; refine Lib.wpList_append_run _ rfl _ _ _ _ rfl _ _ rfl rfl _ _ HR6.out ?_)
    | (at_builtin; refine Lib.wpList_append_run _ rfl _ _ _ _ rfl _ _ rfl rfl _ _ HR9.out ?_)
    | (go_at_call 24; ((refine (CQ.out).mono ?_); rintro e w11 ⟨rfl, k11⟩; go_loud (have C11 := Lib.hid ((C2.out.trans C10.out).trans k11); have hz := (k11.old _ (Array.getElem?_eq_some_iff.1 Z10.out).1 (fun f => f)).trans Z10.out; clear z0 z1 z2 b0 b1 b2 x60 x61 x62 x63 x6s q62 q6f q6s q90 q91 q92 q9f q9s hxq s0 s1 s01 s02 s03 s04 HR6 HR9; have z0 := cell_of_row w11 _ 0 _ 37 (0, 0) hz; have z1 := cell_of_row w11 _ 1 _ 37 (0, 0) hz; have z2 := cell_of_row w11 _ 2 _ 37 (0, 0) hz; have s1 := block_lt_of_cell z0; clear hz k11 CQ))))
  go_ret
  exact ⟨rfl, C11.out.alloc _⟩
set_option maxRecDepth 100000 in
set_option maxHeartbeats 8000000 in
theorem vmore_bad1 {W : World} {a0 a1 a2 : Option Addr} {n0 n1 n2 c0 c1 c2 : Nat} {p : PZ} {ZE ZF ZA : Int} (hp : HasP W (.agg #[.slice a0 n0 c0, .slice a1 n1 c1, .slice a2 n2 c2]) p) (hc : CapP W a2 n2) (hz : chkZ p = ⟨ZE, ZF, ZA⟩) (h13 : ZE ≠ 13) (hE : ZE ≠ 0) (h0 : 0 < n2) (h32 : n2 < 32) (HM : chkZ (more p (extraZ true)) = ⟨ZE, ZF, ZA⟩) :
    Calls Try.prog 13 #[.agg #[.slice a0 n0 c0, .slice a1 n1 c1, .slice a2 n2 c2], .bool true] W fun e w' => e = .returned (.bool true) ∧ Cha (fun _ => False) W w' := by
  obtain ⟨e0, e1, e2⟩ := hp.lens
  have HP := Lib.hid hp
  have HC := Lib.hid hc
  have C0 : Hid (Cha (fun _ => False) W (W.alloc (.cells #[.slice a0 n0 c0, .slice a1 n1 c1, .slice a2 n2 c2] 26))) := Lib.hid ((Cha.refl _ W).alloc _)
  have X0 := Lib.hid (heap_alloc_new W (.cells #[.slice a0 n0 c0, .slice a1 n1 c1, .slice a2 n2 c2] 26))
  have CK : Hid (∀ w, Cha (fun _ => False) W w → Calls Try.prog 24 #[.agg #[.slice a0 n0 c0, .slice a1 n1 c1, .slice a2 n2 c2]] w (SaysF w (chkZ p))) := Lib.hid fun w h => check_c (HP.out.cha h) (HC.out.cha h)
  have CV : Hid (∀ w v, Calls Try.prog 24 #[v] w (SaysF w (chkZ (more p (extraZ true)))) → Calls Try.prog 24 #[v] w fun e w' => e = .returned (.agg #[.int .i64 ZE, .int .i64 ZF, .int .i64 ZA]) ∧ Cha (fun _ => False) w w') := Lib.hid fun w v h => by rw [HM] at h; exact h
  rw [hz] at CK
  unfold SaysF at CK
  dsimp only at CK
  have HN0 := Lib.hid h0
  have HN32 := Lib.hid (Nat.le_of_lt h32)
  have hl2 := hp.parts.2.2.len
  rw [← e2] at hl2
  have d1 : ((n2 : Int) == 0) = false := by
    rw [beq_eq_false_iff_ne]; omega
  have d2 : ¬ (32 : Int) < (n2 : Int) := by omega
  have d3 : ((n2 : Int) == 32) = false := by
    rw [beq_eq_false_iff_ne]; omega
  have d4 : (ZE == 13) = false := by
    rw [beq_eq_false_iff_ne]; exact h13
  have d5 : (ZE != 0) = true := by simpa using hE
  have hze : (ZE == ZE) = true := by simp
  have hzf : (ZF == ZF) = true := by simp
  have hza : (ZA == ZA) = true := by simp
  clear hE h13
  clear hp hc hz e0 e1 e2 h0 h32 HM
  have AW := Lib.hid (fun w => vawake_any w)
  go_enter Try.func13, Try.ntmps13
  go_wp2_with (first
    | (go_at_call 24; ((with_reducible refine (CK.out _ C0.out).mono ?_); rintro e w1 ⟨rfl, k1⟩; have C1 := Lib.hid ((C0.out.trans k1).alloc (.cells #[.int .i64 ZE, .int .i64 ZF, .int .i64 ZA] 37)); have X1 := Lib.hid ((k1.old _ (Array.getElem?_eq_some_iff.1 X0.out).1 (fun f => f)).trans X0.out); have Y1 := Lib.hid (heap_alloc_new w1 (.cells #[.int .i64 ZE, .int .i64 ZF, .int .i64 ZA] 37)); have B1 := Lib.hid (Array.getElem?_eq_some_iff.1 X1.out).1; clear k1))
    | (go_at_call 26; ((with_reducible refine (AW.out _).mono ?_); rintro e w2 ⟨rfl, k2⟩; (have C2 := Lib.hid (C1.out.trans k2); have Y2 := Lib.hid ((k2.old _ (Array.getElem?_eq_some_iff.1 Y1.out).1 (fun f => f)).trans Y1.out); have X2 := Lib.hid (((((Cha.refl (fun _ => False) w1).alloc (.cells #[.int .i64 ZE, .int .i64 ZF, .int .i64 ZA] 37)).trans k2).old _ (Array.getElem?_eq_some_iff.1 X1.out).1 (fun f => f)).trans X1.out); have z0 := cell_of_row w2 _ 0 _ 37 (0, 0) Y2.out; have z1 := cell_of_row w2 _ 1 _ 37 (0, 0) Y2.out; have z2 := cell_of_row w2 _ 2 _ 37 (0, 0) Y2.out; have b0 := cell_of_row w2 W.heap.size 0 _ 26 (0, 0) X2.out; have b1 := cell_of_row w2 W.heap.size 1 _ 26 (0, 0) X2.out; have b2 := cell_of_row w2 W.heap.size 2 _ 26 (0, 0) X2.out; have s0 := block_lt_of_cell b0; have s1 := block_lt_of_cell z0; have s01 := Nat.lt_succ_of_lt s0; have s02 := Nat.lt_succ_of_lt s01; have s03 := Nat.lt_succ_of_lt s02; have s04 := Nat.lt_succ_of_lt s03; have HP2 := HP.out.cha C2.out; have HC2 := HC.out.cha C2.out; obtain ⟨a6, c6, w6, a9, c9, w9, hr6, hr9, hx6, hq6, hq9, c10, p10, q10⟩ := more_pack true HP2 HC2 HN0.out HN32.out; have HR6 := Lib.hid hr6; have HR9 := Lib.hid hr9; have CQ := Lib.hid (CV.out _ _ (check_c p10 q10)); have C10 := Lib.hid c10; have Z10 := Lib.hid ((c10.old _ (Array.getElem?_eq_some_iff.1 Y2.out).1 (fun f => f)).trans Y2.out); have x60 : w6.cell? ⟨w2.heap.size + 1 + 1, 0, none⟩ = some (.int .i64 0) := cell_of_row w6 _ 0 _ 55 (0, 0) hx6; have x61 : w6.cell? ⟨w2.heap.size + 1 + 1, 1, none⟩ = some (.slice (some ⟨w2.heap.size, 0, none⟩) 1 1) := cell_of_row w6 _ 1 _ 55 (0, 0) hx6; have x62 : w6.cell? ⟨w2.heap.size + 1 + 1, 2, none⟩ = some (.slice none 0 0) := cell_of_row w6 _ 2 _ 55 (0, 0) hx6; have x63 : w6.cell? ⟨w2.heap.size + 1 + 1, 3, none⟩ = some (.slice (some ⟨w2.heap.size + 1 + 1 + 1, 0, none⟩) 3 3) := cell_of_row w6 _ 3 _ 55 (0, 0) hx6; have x6s : w2.heap.size + 1 + 1 < w6.heap.size := (Array.getElem?_eq_some_iff.1 hx6).1; have q62 : w6.cell? ⟨w2.heap.size + 1 + 1 + 1 + 1, 2, none⟩ = some (.slice none 0 0) := cell_of_row w6 _ 2 _ 26 (0, 0) hq6; have q6f : w6.frozen? ⟨w2.heap.size + 1 + 1 + 1 + 1, 2, none⟩ = false := frozen_of_row w6 _ 2 _ 26 hq6; have q6s : w2.heap.size + 1 + 1 + 1 + 1 < w6.heap.size := (Array.getElem?_eq_some_iff.1 hq6).1; have q90 : w9.cell? ⟨w2.heap.size + 1 + 1 + 1 + 1, 0, none⟩ = some (.slice a0 n0 c0) := cell_of_row w9 _ 0 _ 26 (0, 0) hq9; have q91 : w9.cell? ⟨w2.heap.size + 1 + 1 + 1 + 1, 1, none⟩ = some (.slice a1 n1 c1) := cell_of_row w9 _ 1 _ 26 (0, 0) hq9; have q92 : w9.cell? ⟨w2.heap.size + 1 + 1 + 1 + 1, 2, none⟩ = some (.slice a6 n2 c6) := cell_of_row w9 _ 2 _ 26 (0, 0) hq9; have q9f : w9.frozen? ⟨w2.heap.size + 1 + 1 + 1 + 1, 2, none⟩ = false := frozen_of_row w9 _ 2 _ 26 hq9; have q9s : w2.heap.size + 1 + 1 + 1 + 1 < w9.heap.size := (Array.getElem?_eq_some_iff.1 hq9).1; have hxq : w2.heap.size + 1 + 1 ≠ w2.heap.size + 1 + 1 + 1 + 1 := Nat.ne_of_lt (Nat.lt_succ_of_lt (Nat.lt_succ_self _)); clear hr6 hr9 hx6 hq6 hq9 c10 p10 q10 HP2 HC2 k2 C1 X1 Y1)))
    | (at_builtin; refine Lib.wpList_append_run _ rfl _ _ _ _ rfl _ _ rfl rfl _ _ HR6.out ?_)
    | (at_builtin; refine Lib.wpList_append_run _ rfl _ _ _ _ rfl _ _ rfl rfl _ _ HR9.out ?_)
    | (go_at_call 24; ((refine (CQ.out).mono ?_); rintro e w11 ⟨rfl, k11⟩; go_loud (have C11 := Lib.hid ((C2.out.trans C10.out).trans k11); have hz := (k11.old _ (Array.getElem?_eq_some_iff.1 Z10.out).1 (fun f => f)).trans Z10.out; clear z0 z1 z2 b0 b1 b2 x60 x61 x62 x63 x6s q62 q6f q6s q90 q91 q92 q9f q9s hxq s0 s1 s01 s02 s03 s04 HR6 HR9; have z0 := cell_of_row w11 _ 0 _ 37 (0, 0) hz; have z1 := cell_of_row w11 _ 1 _ 37 (0, 0) hz; have z2 := cell_of_row w11 _ 2 _ 37 (0, 0) hz; have s1 := block_lt_of_cell z0; clear hz k11 CQ))))
  go_ret
  exact ⟨rfl, C11.out.alloc _⟩
end Go.Proofs.Ytpdjbhnpahkbpaa
