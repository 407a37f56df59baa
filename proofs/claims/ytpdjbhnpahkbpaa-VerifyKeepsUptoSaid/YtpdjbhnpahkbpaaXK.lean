/- VerifyKeeps: the walk. -/
import Derived.Test.YtpdjbhnpahkbpaaXC
namespace Go.Proofs.Ytpdjbhnpahkbpaa
set_option linter.unusedVariables false
open Go.ChangeShapes Go.WideShapes Go.ChangeAt Go.RowKit
set_option maxRecDepth 100000 in
set_option maxHeartbeats 4000000 in
theorem vkeeps_walk {W : World} {a0 a1 a2 : Option Addr} {n0 n1 n2 c0 c1 c2 : Nat} {p : PZ} (hp : HasP W (.agg #[.slice a0 n0 c0, .slice a1 n1 c1, .slice a2 n2 c2]) p) (hc : CapP W a2 n2) (hs : szP p ≤ 1000000000) :
    Calls Try.prog 12 #[.agg #[.slice a0 n0 c0, .slice a1 n1 c1, .slice a2 n2 c2]] W fun e w' => e = .returned (.bool true) ∧ Cha (fun _ => False) W w' := by
  have HP := Lib.hid hp
  have HC := Lib.hid hc
  have C0 : Hid (Cha (fun _ => False) W (W.alloc (.cells #[.slice a0 n0 c0, .slice a1 n1 c1, .slice a2 n2 c2] 26))) := Lib.hid ((Cha.refl _ W).alloc _)
  have X0 := Lib.hid (heap_alloc_new W (.cells #[.slice a0 n0 c0, .slice a1 n1 c1, .slice a2 n2 c2] 26))
  obtain ⟨s, hs'⟩ : ∃ s, s = enc8 p := ⟨_, rfl⟩
  obtain ⟨T1, E1⟩ := s
  obtain ⟨n, hn⟩ : ∃ n, n = T1.length := ⟨_, rfl⟩
  have CD : Hid (∀ w, Cha (fun _ => False) W w → Calls Try.prog 16 #[.agg #[.slice a0 n0 c0, .slice a1 n1 c1, .slice a2 n2 c2]] w fun e w' => ∃ a c, e = .returned (.tuple #[.slice a n c, .int .i64 E1]) ∧ HasT w' a n c T1 ∧ Cha (fun _ => False) w w') := Lib.hid fun w h => (docenc_c (HP.out.cha h) hs).mono fun e w' ⟨a, c, q1, q2, q3⟩ => by
    rw [← hs'] at q1 q2
    rw [hn]
    exact ⟨a, c, q1, q2, q3⟩
  have CK : Hid (∀ w, Cha (fun _ => False) W w → Calls Try.prog 24 #[.agg #[.slice a0 n0 c0, .slice a1 n1 c1, .slice a2 n2 c2]] w (SaysF w (chkZ p))) := Lib.hid fun w h => check_c (HP.out.cha h) (HC.out.cha h)
  obtain ⟨z, hz⟩ : ∃ z, z = chkZ p := ⟨_, rfl⟩
  rw [← hz] at CK
  clear hp hs' hs hc hz HP HC hn
  obtain ⟨ZE, ZF, ZA⟩ := z
  unfold SaysF at CK
  dsimp only at CK
  have hee : (E1 == E1) = true := by simp
  have hze : (ZE == ZE) = true := by simp
  have hzf : (ZF == ZF) = true := by simp
  have hza : (ZA == ZA) = true := by simp
  have CV : Hid (∀ (w : World) (a : Option Addr) (c : Nat), HasT w a n c T1 → (convert 27 9 (.slice a n c)).run Try.prog w = .ok (.string (strz T1)) w) := Lib.hid fun w a c h => conv_any h.1
  obtain ⟨S, hS⟩ : ∃ S, S = strz T1 := ⟨_, rfl⟩
  rw [← hS] at CV
  clear hS
  go_enter Try.func12, Try.ntmps12
  go_wp2_with (first
    | (go_at_call 26; ((with_reducible refine (vawake_any _).mono ?_); rintro e w1 ⟨rfl, k1⟩; have C1 := Lib.hid (C0.out.trans k1); have X1 := Lib.hid ((k1.old _ (Array.getElem?_eq_some_iff.1 X0.out).1 (fun f => f)).trans X0.out); clear k1; have b0 := cell_of_row w1 W.heap.size 0 _ 26 (0, 0) X1.out; have b1 := cell_of_row w1 W.heap.size 1 _ 26 (0, 0) X1.out; have b2 := cell_of_row w1 W.heap.size 2 _ 26 (0, 0) X1.out))
    | (go_at_call 16; ((with_reducible refine (CD.out _ C1.out).mono ?_); rintro e w2 ⟨x2, y2, rfl, k1, k2⟩; have K2 := Lib.hid k1; have C2 := Lib.hid (C1.out.trans k2); have X2 := Lib.hid ((k2.old _ (Array.getElem?_eq_some_iff.1 X1.out).1 (fun f => f)).trans X1.out); clear k1 k2 b0 b1 b2; have b0 := cell_of_row w2 W.heap.size 0 _ 26 (0, 0) X2.out; have b1 := cell_of_row w2 W.heap.size 1 _ 26 (0, 0) X2.out; have b2 := cell_of_row w2 W.heap.size 2 _ 26 (0, 0) X2.out))
    | (go_at_call 24; go_loud (((with_reducible refine (CK.out _ C2.out).mono ?_); rintro e w3 ⟨rfl, k3⟩; have C3 := Lib.hid (C2.out.trans k3); have K3 := Lib.hid (K2.out.cha k3); have X3 := Lib.hid ((k3.old _ (Array.getElem?_eq_some_iff.1 X2.out).1 (fun f => f)).trans X2.out); clear k3 b0 b1 b2; have b0 := cell_of_row w3 W.heap.size 0 _ 26 (0, 0) X3.out; have b1 := cell_of_row w3 W.heap.size 1 _ 26 (0, 0) X3.out; have b2 := cell_of_row w3 W.heap.size 2 _ 26 (0, 0) X3.out; have s0 := block_lt_of_cell b0; have C4 := Lib.hid (C3.out.alloc (.cells #[.int .i64 ZE, .int .i64 ZF, .int .i64 ZA] 37)); have K4 := Lib.hid (K3.out.cha ((Cha.refl (fun _ => False) w3).alloc (.cells #[.int .i64 ZE, .int .i64 ZF, .int .i64 ZA] 37))); have X4 := Lib.hid ((((Cha.refl (fun _ => False) w3).alloc (.cells #[.int .i64 ZE, .int .i64 ZF, .int .i64 ZA] 37)).old _ (Array.getElem?_eq_some_iff.1 X3.out).1 (fun f => f)).trans X3.out); have Y4 := Lib.hid (heap_alloc_new w3 (.cells #[.int .i64 ZE, .int .i64 ZF, .int .i64 ZA] 37)))))
    | (go_at_call 16; ((with_reducible refine (CD.out _ C4.out).mono ?_); rintro e w5 ⟨x5, y5, rfl, k1, k2⟩; have L5 := Lib.hid k1; have C5 := Lib.hid (C4.out.trans k2); have K5 := Lib.hid (K4.out.cha k2); have X5 := Lib.hid ((k2.old _ (Array.getElem?_eq_some_iff.1 X4.out).1 (fun f => f)).trans X4.out); have Y5 := Lib.hid ((k2.old _ (Array.getElem?_eq_some_iff.1 Y4.out).1 (fun f => f)).trans Y4.out); clear k1 k2 b0 b1 b2 s0)))
  clear CD C0 C1 C2 C3 C4 K2 K3 K4 X0 X1 X2 X3 X4 Y4
  generalize w3.heap.size = B1 at *
  have KX : Hid (∀ W', Cha (fun _ => False) w5 W' → W'.cell? ⟨W.heap.size, 0, none⟩ = some (.slice a0 n0 c0) ∧ W'.cell? ⟨W.heap.size, 1, none⟩ = some (.slice a1 n1 c1) ∧ W'.cell? ⟨W.heap.size, 2, none⟩ = some (.slice a2 n2 c2) ∧ W'.cell? ⟨B1, 0, none⟩ = some (.int .i64 ZE) ∧ W'.cell? ⟨B1, 1, none⟩ = some (.int .i64 ZF) ∧ W'.cell? ⟨B1, 2, none⟩ = some (.int .i64 ZA)) := Lib.hid fun W' hc => by
    have e1 := (hc.old _ (Array.getElem?_eq_some_iff.1 X5.out).1 (fun f => f)).trans X5.out
    have e2 := (hc.old _ (Array.getElem?_eq_some_iff.1 Y5.out).1 (fun f => f)).trans Y5.out
    exact ⟨cell_of_row W' _ 0 _ 26 _ e1, cell_of_row W' _ 1 _ 26 _ e1, cell_of_row W' _ 2 _ 26 _ e1, cell_of_row W' _ 0 _ 37 _ e2, cell_of_row W' _ 1 _ 37 _ e2, cell_of_row W' _ 2 _ 37 _ e2⟩
  clear X5 Y5
  have e1 := CV.out w5.drew x2 y2 (K5.out.cha (Cha.refl _ _).drew)
  have e2 := CV.out w5.drew x5 y5 (L5.out.cha (Cha.refl _ _).drew)
  obtain ⟨k1, k2, k3, k4, k5, k6⟩ := KX.out w5.drew (Cha.refl _ _).drew
  clear K5 L5 CV
  go_region_law (first
    | (go_simp; go_at_call 24; refine (CK.out w5.drew C5.out.drew).mono ?_; rintro e w6 ⟨rfl, m1⟩; have m2 : Cha (fun _ => False) w5 w6 := ((Cha.refl _ w5).drew).trans m1; obtain ⟨k1, k2, k3, k4, k5, k6⟩ := KX.out w6 m2))
  all_goals
    go_wp2
    go_ret
    exact ⟨rfl, C5.out.trans m2⟩
end Go.Proofs.Ytpdjbhnpahkbpaa
