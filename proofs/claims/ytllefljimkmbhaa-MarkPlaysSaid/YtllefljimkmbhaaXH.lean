/- The law's changes: Root, walked. -/
import Derived.Test.YtllefljimkmbhaaXG
namespace Go.Proofs.Ytllefljimkmbhaa
open Go.ChangeShapes Go.WideShapes Go.ChangeAt Go.RowKit
variable {W : World} {F : Nat → Prop} {bg bd : Nat} {g : Gr}
theorem new_drawn (W : World) (o : Obj) (k t : Nat) : ∀ j u, (inE.cs [t])[j]? = some u → (((W.alloc o).drewN k).alloc (.cells #[.int .i64 (t : Int)] 3)).cell? ((⟨W.heap.size + 1, 0, none⟩ : Addr).add j) = some u := by
  have r := just_new inE ((W.alloc o).drewN k) t 3
  have e : ((W.alloc o).drewN k).heap.size = W.heap.size + 1 := World.size_alloc ..
  rw [e] at r
  exact r
set_option maxRecDepth 100000 in
set_option maxHeartbeats 4000000 in
theorem change_root (h : Duo bg bd g W F) (hr : 0 < g.roots.length) (z0 z1 z2 z3 : Int) (hk : 0 < (g.fs (g.px z1)).length) (ht : (g.fs (g.px z1)).getD (rem0 z2 (g.fs (g.px z1)).length) 0 ≠ 0) (hrm : g.roots.length ≤ 4000) (hc : Int.tmod z0 5 = 2 ∨ Int.tmod z0 5 = -2) :
    Calls Try.prog 32 #[.pointer (some ⟨bg, 0, none⟩), .pointer (some ⟨bd, 0, none⟩), opV z0 z1 z2 z3] W fun e W' => e = .returned (.bool true) ∧ Goes (Duo bg bd ((g.lay ((g.fs (g.px z1)).getD (rem0 z2 (g.fs (g.px z1)).length) 0)).shade ((g.fs (g.px z1)).getD (rem0 z2 (g.fs (g.px z1)).length) 0))) W W' F := by
  obtain ⟨K, hi⟩ := duo_inv h
  have hr8 := hi.r8
  have hn4 := hi.n4
  have hXm := px_mem hr z1
  have hYm := px_mem hr z3
  obtain ⟨X1, X2, X3⟩ := hi.kroot _ hXm
  obtain ⟨t, hte⟩ : ∃ t, t = (g.fs (g.px z1)).getD (rem0 z2 (g.fs (g.px z1)).length) 0 := ⟨_, rfl⟩
  rw [← hte] at ht ⊢
  obtain ⟨e6, e7⟩ := rem0_eq z2 hk
  obtain ⟨t2, t3⟩ := tmod_bound z2 hk
  obtain ⟨bv, ov, cv, br, or, cr, f2, see, hkit⟩ := lay_kit h hr _ _ hXm e7 t hte ht (by omega)
  obtain ⟨y, yb, yf⟩ := see.fl _ X2 X3
  have h16 := hi.f16 (g.px z1)
  obtain ⟨c0, c1, hbd, hbv, hbr, m1, m2, m3, m4, -, hpk⟩ := see
  have CP : Hid (∀ (n : Nat) (z : Int) (o : Obj), Calls Try.prog 45 #[.pointer (some ⟨bd, 0, none⟩), .int .i64 z] ((W.alloc o).drewN n) fun e w => e = .returned (.int .i64 (g.px z : Int)) ∧ ∃ m, w = ((W.alloc o).drewN n).drewN m) := Lib.hid fun n z o => hpk _ z (((Cha.refl _ W).alloc o).drewN n)
  have l0 : ((g.roots.length : Int) == 0) = false := dec1 (by omega)
  have l1 : ¬ (g.roots.length = 0) := by omega
  unfold maxLen at m1 m3
  have q1 : (g.px z1 : Int) < (g.n : Int) + 1 := by omega
  have q2 : g.px z1 < g.n + 1 := by omega
  have yz := yf _ e7
  obtain ⟨k, hke⟩ : ∃ k, k = (g.fs (g.px z1)).length := ⟨_, rfl⟩
  obtain ⟨ff, hff⟩ : ∃ ff, ff = rem0 z2 (g.fs (g.px z1)).length := ⟨_, rfl⟩
  rw [← hff] at e6 e7 hkit hte yz
  rw [← hke] at e6 e7 hff y h16 t2 t3 hk
  have e8 : IntKind.i64.wrap (Int.tmod z2 (k : Int) + (k : Int)) = Int.tmod z2 (k : Int) + (k : Int) := IntWalk.i64_in _ (by omega)
  have k1 : (0 : Int) < (k : Int) := by omega
  have k2 : 0 < k := by omega
  have k3 : ((k : Int) == 0) = false := dec1 (by omega)
  have k4 : ¬ (k = 0) := by omega
  have HK := Lib.hid hkit
  have B1 : Hid (g.roots.length + [t].length ≤ maxLen) := Lib.hid (by unfold maxLen; simp only [List.length_singleton]; omega)
  have B2 : Hid ((g.roots.length + [t].length) * inE.b ≤ 140737488355328) := Lib.hid (by show _ * 8 ≤ _; simp only [List.length_singleton]; omega)
  obtain ⟨yz, -⟩ := yz
  rw [← hte] at yz
  have h4 : ¬ ((4000 : Int) < (g.roots.length : Int)) := by omega
  have h5 : ¬ (4000 < g.roots.length) := by omega
  have h6 : ((t : Int) == 0) = false := dec1 (by omega)
  generalize f2 (g.px z1) = fx at *
  clear h hi hkit X1 X2 X3 hXm hYm hr h16 yf hpk hk hke hff ht hte hrm
  unfold opV
  rcases hc with d0 | d0
  · go_enter Try.func32, Try.ntmps32
    go_wp2
    go_quiet ((go_at_call 45; exact Calls.quiet_of (CP.out _ _ _)))
    go_wp2
    go_region_law (refine step_app inE_ok rfl (.tmp 179) (.tmp 190) rfl rfl (HK.out _ ((((Cha.refl (fun _ => False) W).alloc _).drewN _).alloc _)).1 ⟨W.heap.size + 1, 0, none⟩ 1 1 [t] rfl rfl (new_drawn W _ _ t) Nat.zero_lt_one B1.out B2.out ?_; intro g3 o3 cap3 wb hA; obtain ⟨s4, s5, hC⟩ := (HK.out _ ((((Cha.refl (fun _ => False) W).alloc _).drewN _).alloc _)).2 _ _ _ _ hA; have CC := Lib.hid hC; clear hA hC)
    all_goals
      go_wp2_with (go_at_call 16; ((with_reducible refine (CC.out).mono ?_); rintro e w2 ⟨rfl, hG⟩; have HG := Lib.hid hG; clear hG))
      go_returns
      exact ⟨rfl, HG.out⟩
  · go_enter Try.func32, Try.ntmps32
    go_wp2
    go_quiet ((go_at_call 45; exact Calls.quiet_of (CP.out _ _ _)))
    go_wp2
    go_region_law (refine step_app inE_ok rfl (.tmp 179) (.tmp 190) rfl rfl (HK.out _ ((((Cha.refl (fun _ => False) W).alloc _).drewN _).alloc _)).1 ⟨W.heap.size + 1, 0, none⟩ 1 1 [t] rfl rfl (new_drawn W _ _ t) Nat.zero_lt_one B1.out B2.out ?_; intro g3 o3 cap3 wb hA; obtain ⟨s4, s5, hC⟩ := (HK.out _ ((((Cha.refl (fun _ => False) W).alloc _).drewN _).alloc _)).2 _ _ _ _ hA; have CC := Lib.hid hC; clear hA hC)
    all_goals
      go_wp2_with (go_at_call 16; ((with_reducible refine (CC.out).mono ?_); rintro e w2 ⟨rfl, hG⟩; have HG := Lib.hid hG; clear hG))
      go_returns
      exact ⟨rfl, HG.out⟩
end Go.Proofs.Ytllefljimkmbhaa
