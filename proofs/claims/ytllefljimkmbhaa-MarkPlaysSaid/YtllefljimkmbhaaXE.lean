/- The law's changes: Drop, walked. -/
import Derived.Test.YtllefljimkmbhaaXD
namespace Go.Proofs.Ytllefljimkmbhaa
open Go.ChangeShapes Go.WideShapes Go.ChangeAt Go.RowKit
variable {W : World} {F : Nat → Prop} {bg bd : Nat} {g : Gr}
theorem dec0 {x y : Int} (h : x ≠ y) : (x == y) = false := beq_eq_false_iff_ne.2 h
set_option maxRecDepth 100000 in
set_option maxHeartbeats 4000000 in
theorem change_drop (h : Duo bg bd g W F) (hr : 0 < g.roots.length) (z0 z1 z2 z3 : Int) (hc : Int.tmod z0 5 = 1 ∨ Int.tmod z0 5 = -1) :
    Calls Try.prog 32 #[.pointer (some ⟨bg, 0, none⟩), .pointer (some ⟨bd, 0, none⟩), opV z0 z1 z2 z3] W fun e W' => e = .returned (.bool true) ∧ Goes (Duo bg bd (g.drop (rem0 z1 g.roots.length))) W W' F := by
  obtain ⟨e4, e5⟩ := rem0_eq z1 hr
  obtain ⟨t0, t1⟩ := tmod_bound z1 hr
  obtain ⟨K, hi⟩ := duo_inv h
  have hr8 := hi.r8
  have hn4 := hi.n4
  have e3 : IntKind.i64.wrap (Int.tmod z1 (g.roots.length : Int) + (g.roots.length : Int)) = Int.tmod z1 (g.roots.length : Int) + (g.roots.length : Int) := IntWalk.i64_in _ (by omega)
  obtain ⟨X1, X2, X3⟩ := hi.kroot _ (px_mem hr z1)
  obtain ⟨nn, hnn⟩ : ∃ nn, nn = rem0 z1 g.roots.length := ⟨_, rfl⟩
  rw [← hnn] at e4 e5 ⊢
  obtain ⟨bv, ov, cv, f2, br, or, cr, c0, c1, hbd, hbv, hbr, m1, m2, m3, m4, hfl, hpk, -, hkit⟩ := drop_kit h nn e5
  obtain ⟨y, yb, -⟩ := hfl _ X2 X3
  have h16 := hi.f16 (g.px z1)
  have CP : Hid (∀ (n : Nat) (z : Int) (o : Obj), Calls Try.prog 45 #[.pointer (some ⟨bd, 0, none⟩), .int .i64 z] ((W.alloc o).drewN n) fun e w => e = .returned (.int .i64 (g.px z : Int)) ∧ ∃ m, w = ((W.alloc o).drewN n).drewN m) := Lib.hid fun n z o => hpk _ z (((Cha.refl _ W).alloc o).drewN n)
  have HK := Lib.hid hkit
  have B1 : Hid (([] : List Nat).length + (g.roots.take nn).length ≤ maxLen) := Lib.hid (by unfold maxLen; simp only [List.length_nil, List.length_take]; omega)
  have B2 : Hid ((([] : List Nat).length + (g.roots.take nn).length) * inE.b ≤ 140737488355328) := Lib.hid (by show _ * 8 ≤ _; simp only [List.length_nil, List.length_take]; omega)
  have B3 : Hid (([] ++ g.roots.take nn).length + (g.roots.drop (nn + 1)).length ≤ maxLen) := Lib.hid (by unfold maxLen; simp only [List.nil_append, List.length_take, List.length_drop]; omega)
  have B4 : Hid ((([] ++ g.roots.take nn).length + (g.roots.drop (nn + 1)).length) * inE.b ≤ 140737488355328) := Lib.hid (by show _ * 8 ≤ _; simp only [List.nil_append, List.length_take, List.length_drop]; omega)
  have l0 : ((g.roots.length : Int) == 0) = false := dec0 (by omega)
  have l1 : ¬ (g.roots.length = 0) := by omega
  have l2 : nn ≤ cr := by omega
  have l3 : (nn : Int) ≤ (cr : Int) := by omega
  have l4 : IntKind.i64.wrap ((nn : Int) + 1) = (nn : Int) + 1 := IntWalk.i64_in _ (by omega)
  have l5 : (nn : Int) + 1 ≤ (g.roots.length : Int) := by omega
  have l6 : 0 ≤ (nn : Int) + 1 := by omega
  have l7 : nn + 1 ≤ g.roots.length := by omega
  have l8 : nn < g.roots.length := by omega
  unfold maxLen at m1 m3
  have q1 : (g.px z1 : Int) < (g.n : Int) + 1 := by omega
  have q2 : g.px z1 < g.n + 1 := by omega
  obtain ⟨k, hk⟩ : ∃ k, k = (g.fs (g.px z1)).length := ⟨_, rfl⟩
  rw [← hk] at y h16
  clear X3
  generalize f2 (g.px z1) = fx at *
  clear h hi hfl hpk hkit X1 X2 hnn hr hk
  unfold opV
  rcases hc with d0 | d0
  · by_cases hk0 : k = 0
    · subst hk0
      by_cases kc : cr = nn + 1
      · simp only [if_pos kc] at HK
        subst kc
        simp only [Nat.sub_self, show g.roots.length - (nn + 1) = 0 by omega] at HK
        go_enter Try.func32, Try.ntmps32
        go_wp2
        go_quiet ((go_at_call 45; exact Calls.quiet_of (CP.out _ _ _)))
        go_wp2
        go_quiet (fail)
        go_wp2_with (first
          | (at_builtin; refine wpList_any inE_ok rfl (.tmp 124) (.tmp 130) rfl (v := .slice none 0 0) (A := []) rfl rfl (Lies.nil _ _) (HK.out _ (((Cha.refl (fun _ => False) W).alloc _).drewN _)).1 B1.out B2.out ?_; intro va wa hA; obtain ⟨a1, n1, c1', rfl, s1, s2, s3, hB⟩ := (HK.out _ (((Cha.refl (fun _ => False) W).alloc _).drewN _)).2 _ _ hA; have S2 := Lib.hid s2; have S3 := Lib.hid s3; have HB := Lib.hid hB; clear hA s2 s3 hB)
          | (at_builtin; refine wpList_any inE_ok rfl (.tmp 132) (.tmp 139) rfl rfl rfl S2.out S3.out B3.out B4.out ?_; intro vb wb hA; obtain ⟨a2, n2, c2', rfl, s4, s5, hC⟩ := HB.out _ _ hA; have CC := Lib.hid hC; clear hA hC)
          | (go_at_call 14; ((with_reducible refine (CC.out).mono ?_); rintro e w2 ⟨rfl, hG⟩; have HG := Lib.hid hG; clear hG)))
        go_returns
        exact ⟨rfl, HG.out⟩
      · have kc2 : ¬ (cr = nn + 1) := kc
        simp only [if_neg kc] at HK
        go_enter Try.func32, Try.ntmps32
        go_wp2
        go_quiet ((go_at_call 45; exact Calls.quiet_of (CP.out _ _ _)))
        go_wp2
        go_quiet (fail)
        go_wp2_with (first
          | (at_builtin; refine wpList_any inE_ok rfl (.tmp 124) (.tmp 130) rfl (v := .slice none 0 0) (A := []) rfl rfl (Lies.nil _ _) (HK.out _ (((Cha.refl (fun _ => False) W).alloc _).drewN _)).1 B1.out B2.out ?_; intro va wa hA; obtain ⟨a1, n1, c1', rfl, s1, s2, s3, hB⟩ := (HK.out _ (((Cha.refl (fun _ => False) W).alloc _).drewN _)).2 _ _ hA; have S2 := Lib.hid s2; have S3 := Lib.hid s3; have HB := Lib.hid hB; clear hA s2 s3 hB)
          | (at_builtin; refine wpList_any inE_ok rfl (.tmp 132) (.tmp 139) rfl rfl rfl S2.out S3.out B3.out B4.out ?_; intro vb wb hA; obtain ⟨a2, n2, c2', rfl, s4, s5, hC⟩ := HB.out _ _ hA; have CC := Lib.hid hC; clear hA hC)
          | (go_at_call 14; ((with_reducible refine (CC.out).mono ?_); rintro e w2 ⟨rfl, hG⟩; have HG := Lib.hid hG; clear hG)))
        go_returns
        exact ⟨rfl, HG.out⟩
    · obtain ⟨e6, e7⟩ := rem0_eq z2 (Nat.pos_of_ne_zero hk0)
      obtain ⟨t2, t3⟩ := tmod_bound z2 (Nat.pos_of_ne_zero hk0)
      have e8 : IntKind.i64.wrap (Int.tmod z2 (k : Int) + (k : Int)) = Int.tmod z2 (k : Int) + (k : Int) := IntWalk.i64_in _ (by omega)
      generalize rem0 z2 k = ff at *
      have k1 : (0 : Int) < (k : Int) := by omega
      have k2 : 0 < k := by omega
      have k3 : ((k : Int) == 0) = false := dec0 (by omega)
      by_cases kc : cr = nn + 1
      · simp only [if_pos kc] at HK
        subst kc
        simp only [Nat.sub_self, show g.roots.length - (nn + 1) = 0 by omega] at HK
        go_enter Try.func32, Try.ntmps32
        go_wp2
        go_quiet ((go_at_call 45; exact Calls.quiet_of (CP.out _ _ _)))
        go_wp2
        go_quiet (fail)
        go_wp2_with (first
          | (at_builtin; refine wpList_any inE_ok rfl (.tmp 124) (.tmp 130) rfl (v := .slice none 0 0) (A := []) rfl rfl (Lies.nil _ _) (HK.out _ (((Cha.refl (fun _ => False) W).alloc _).drewN _)).1 B1.out B2.out ?_; intro va wa hA; obtain ⟨a1, n1, c1', rfl, s1, s2, s3, hB⟩ := (HK.out _ (((Cha.refl (fun _ => False) W).alloc _).drewN _)).2 _ _ hA; have S2 := Lib.hid s2; have S3 := Lib.hid s3; have HB := Lib.hid hB; clear hA s2 s3 hB)
          | (at_builtin; refine wpList_any inE_ok rfl (.tmp 132) (.tmp 139) rfl rfl rfl S2.out S3.out B3.out B4.out ?_; intro vb wb hA; obtain ⟨a2, n2, c2', rfl, s4, s5, hC⟩ := HB.out _ _ hA; have CC := Lib.hid hC; clear hA hC)
          | (go_at_call 14; ((with_reducible refine (CC.out).mono ?_); rintro e w2 ⟨rfl, hG⟩; have HG := Lib.hid hG; clear hG)))
        go_returns
        exact ⟨rfl, HG.out⟩
      · have kc2 : ¬ (cr = nn + 1) := kc
        simp only [if_neg kc] at HK
        go_enter Try.func32, Try.ntmps32
        go_wp2
        go_quiet ((go_at_call 45; exact Calls.quiet_of (CP.out _ _ _)))
        go_wp2
        go_quiet (fail)
        go_wp2_with (first
          | (at_builtin; refine wpList_any inE_ok rfl (.tmp 124) (.tmp 130) rfl (v := .slice none 0 0) (A := []) rfl rfl (Lies.nil _ _) (HK.out _ (((Cha.refl (fun _ => False) W).alloc _).drewN _)).1 B1.out B2.out ?_; intro va wa hA; obtain ⟨a1, n1, c1', rfl, s1, s2, s3, hB⟩ := (HK.out _ (((Cha.refl (fun _ => False) W).alloc _).drewN _)).2 _ _ hA; have S2 := Lib.hid s2; have S3 := Lib.hid s3; have HB := Lib.hid hB; clear hA s2 s3 hB)
          | (at_builtin; refine wpList_any inE_ok rfl (.tmp 132) (.tmp 139) rfl rfl rfl S2.out S3.out B3.out B4.out ?_; intro vb wb hA; obtain ⟨a2, n2, c2', rfl, s4, s5, hC⟩ := HB.out _ _ hA; have CC := Lib.hid hC; clear hA hC)
          | (go_at_call 14; ((with_reducible refine (CC.out).mono ?_); rintro e w2 ⟨rfl, hG⟩; have HG := Lib.hid hG; clear hG)))
        go_returns
        exact ⟨rfl, HG.out⟩
  · by_cases hk0 : k = 0
    · subst hk0
      by_cases kc : cr = nn + 1
      · simp only [if_pos kc] at HK
        subst kc
        simp only [Nat.sub_self, show g.roots.length - (nn + 1) = 0 by omega] at HK
        go_enter Try.func32, Try.ntmps32
        go_wp2
        go_quiet ((go_at_call 45; exact Calls.quiet_of (CP.out _ _ _)))
        go_wp2
        go_quiet (fail)
        go_wp2_with (first
          | (at_builtin; refine wpList_any inE_ok rfl (.tmp 124) (.tmp 130) rfl (v := .slice none 0 0) (A := []) rfl rfl (Lies.nil _ _) (HK.out _ (((Cha.refl (fun _ => False) W).alloc _).drewN _)).1 B1.out B2.out ?_; intro va wa hA; obtain ⟨a1, n1, c1', rfl, s1, s2, s3, hB⟩ := (HK.out _ (((Cha.refl (fun _ => False) W).alloc _).drewN _)).2 _ _ hA; have S2 := Lib.hid s2; have S3 := Lib.hid s3; have HB := Lib.hid hB; clear hA s2 s3 hB)
          | (at_builtin; refine wpList_any inE_ok rfl (.tmp 132) (.tmp 139) rfl rfl rfl S2.out S3.out B3.out B4.out ?_; intro vb wb hA; obtain ⟨a2, n2, c2', rfl, s4, s5, hC⟩ := HB.out _ _ hA; have CC := Lib.hid hC; clear hA hC)
          | (go_at_call 14; ((with_reducible refine (CC.out).mono ?_); rintro e w2 ⟨rfl, hG⟩; have HG := Lib.hid hG; clear hG)))
        go_returns
        exact ⟨rfl, HG.out⟩
      · have kc2 : ¬ (cr = nn + 1) := kc
        simp only [if_neg kc] at HK
        go_enter Try.func32, Try.ntmps32
        go_wp2
        go_quiet ((go_at_call 45; exact Calls.quiet_of (CP.out _ _ _)))
        go_wp2
        go_quiet (fail)
        go_wp2_with (first
          | (at_builtin; refine wpList_any inE_ok rfl (.tmp 124) (.tmp 130) rfl (v := .slice none 0 0) (A := []) rfl rfl (Lies.nil _ _) (HK.out _ (((Cha.refl (fun _ => False) W).alloc _).drewN _)).1 B1.out B2.out ?_; intro va wa hA; obtain ⟨a1, n1, c1', rfl, s1, s2, s3, hB⟩ := (HK.out _ (((Cha.refl (fun _ => False) W).alloc _).drewN _)).2 _ _ hA; have S2 := Lib.hid s2; have S3 := Lib.hid s3; have HB := Lib.hid hB; clear hA s2 s3 hB)
          | (at_builtin; refine wpList_any inE_ok rfl (.tmp 132) (.tmp 139) rfl rfl rfl S2.out S3.out B3.out B4.out ?_; intro vb wb hA; obtain ⟨a2, n2, c2', rfl, s4, s5, hC⟩ := HB.out _ _ hA; have CC := Lib.hid hC; clear hA hC)
          | (go_at_call 14; ((with_reducible refine (CC.out).mono ?_); rintro e w2 ⟨rfl, hG⟩; have HG := Lib.hid hG; clear hG)))
        go_returns
        exact ⟨rfl, HG.out⟩
    · obtain ⟨e6, e7⟩ := rem0_eq z2 (Nat.pos_of_ne_zero hk0)
      obtain ⟨t2, t3⟩ := tmod_bound z2 (Nat.pos_of_ne_zero hk0)
      have e8 : IntKind.i64.wrap (Int.tmod z2 (k : Int) + (k : Int)) = Int.tmod z2 (k : Int) + (k : Int) := IntWalk.i64_in _ (by omega)
      generalize rem0 z2 k = ff at *
      have k1 : (0 : Int) < (k : Int) := by omega
      have k2 : 0 < k := by omega
      have k3 : ((k : Int) == 0) = false := dec0 (by omega)
      by_cases kc : cr = nn + 1
      · simp only [if_pos kc] at HK
        subst kc
        simp only [Nat.sub_self, show g.roots.length - (nn + 1) = 0 by omega] at HK
        go_enter Try.func32, Try.ntmps32
        go_wp2
        go_quiet ((go_at_call 45; exact Calls.quiet_of (CP.out _ _ _)))
        go_wp2
        go_quiet (fail)
        go_wp2_with (first
          | (at_builtin; refine wpList_any inE_ok rfl (.tmp 124) (.tmp 130) rfl (v := .slice none 0 0) (A := []) rfl rfl (Lies.nil _ _) (HK.out _ (((Cha.refl (fun _ => False) W).alloc _).drewN _)).1 B1.out B2.out ?_; intro va wa hA; obtain ⟨a1, n1, c1', rfl, s1, s2, s3, hB⟩ := (HK.out _ (((Cha.refl (fun _ => False) W).alloc _).drewN _)).2 _ _ hA; have S2 := Lib.hid s2; have S3 := Lib.hid s3; have HB := Lib.hid hB; clear hA s2 s3 hB)
          | (at_builtin; refine wpList_any inE_ok rfl (.tmp 132) (.tmp 139) rfl rfl rfl S2.out S3.out B3.out B4.out ?_; intro vb wb hA; obtain ⟨a2, n2, c2', rfl, s4, s5, hC⟩ := HB.out _ _ hA; have CC := Lib.hid hC; clear hA hC)
          | (go_at_call 14; ((with_reducible refine (CC.out).mono ?_); rintro e w2 ⟨rfl, hG⟩; have HG := Lib.hid hG; clear hG)))
        go_returns
        exact ⟨rfl, HG.out⟩
      · have kc2 : ¬ (cr = nn + 1) := kc
        simp only [if_neg kc] at HK
        go_enter Try.func32, Try.ntmps32
        go_wp2
        go_quiet ((go_at_call 45; exact Calls.quiet_of (CP.out _ _ _)))
        go_wp2
        go_quiet (fail)
        go_wp2_with (first
          | (at_builtin; refine wpList_any inE_ok rfl (.tmp 124) (.tmp 130) rfl (v := .slice none 0 0) (A := []) rfl rfl (Lies.nil _ _) (HK.out _ (((Cha.refl (fun _ => False) W).alloc _).drewN _)).1 B1.out B2.out ?_; intro va wa hA; obtain ⟨a1, n1, c1', rfl, s1, s2, s3, hB⟩ := (HK.out _ (((Cha.refl (fun _ => False) W).alloc _).drewN _)).2 _ _ hA; have S2 := Lib.hid s2; have S3 := Lib.hid s3; have HB := Lib.hid hB; clear hA s2 s3 hB)
          | (at_builtin; refine wpList_any inE_ok rfl (.tmp 132) (.tmp 139) rfl rfl rfl S2.out S3.out B3.out B4.out ?_; intro vb wb hA; obtain ⟨a2, n2, c2', rfl, s4, s5, hC⟩ := HB.out _ _ hA; have CC := Lib.hid hC; clear hA hC)
          | (go_at_call 14; ((with_reducible refine (CC.out).mono ?_); rintro e w2 ⟨rfl, hG⟩; have HG := Lib.hid hG; clear hG)))
        go_returns
        exact ⟨rfl, HG.out⟩
end Go.Proofs.Ytllefljimkmbhaa
