/- The law's changes: Root and Set, walked. -/
import Derived.Test.YtllefljimkmbhaaXF
namespace Go.Proofs.Ytllefljimkmbhaa
open Go.ChangeShapes Go.WideShapes Go.ChangeAt Go.RowKit
variable {W : World} {F : Nat → Prop} {bg bd : Nat} {g : Gr}
theorem dec1 {x y : Int} (h : x ≠ y) : (x == y) = false := beq_eq_false_iff_ne.2 h
set_option maxRecDepth 100000 in
set_option maxHeartbeats 4000000 in
theorem change_no2 (h : Duo bg bd g W F) (hr : 0 < g.roots.length) (z0 z1 z2 z3 : Int) (hk : (g.fs (g.px z1)).length = 0) (hc : Int.tmod z0 5 = 2 ∨ Int.tmod z0 5 = -2) :
    Calls Try.prog 32 #[.pointer (some ⟨bg, 0, none⟩), .pointer (some ⟨bd, 0, none⟩), opV z0 z1 z2 z3] W fun e W' => e = .returned (.bool true) ∧ Goes (Duo bg bd (g)) W W' F := by
  obtain ⟨K, hi⟩ := duo_inv h
  have hr8 := hi.r8
  have hn4 := hi.n4
  have hXm := px_mem hr z1
  have hYm := px_mem hr z3
  obtain ⟨X1, X2, X3⟩ := hi.kroot _ hXm
  obtain ⟨bv, ov, cv, br, or, cr, f2, see, hkit⟩ := no_kit h hr
  obtain ⟨y, yb, yf⟩ := see.fl _ X2 X3
  have h16 := hi.f16 (g.px z1)
  obtain ⟨c0, c1, hbd, hbv, hbr, m1, m2, m3, m4, -, hpk⟩ := see
  have CP : Hid (∀ (n : Nat) (z : Int) (o : Obj), Calls Try.prog 45 #[.pointer (some ⟨bd, 0, none⟩), .int .i64 z] ((W.alloc o).drewN n) fun e w => e = .returned (.int .i64 (g.px z : Int)) ∧ ∃ m, w = ((W.alloc o).drewN n).drewN m) := Lib.hid fun n z o => hpk _ z (((Cha.refl _ W).alloc o).drewN n)
  have l0 : ((g.roots.length : Int) == 0) = false := dec1 (by omega)
  have l1 : ¬ (g.roots.length = 0) := by omega
  unfold maxLen at m1 m3
  have q1 : (g.px z1 : Int) < (g.n : Int) + 1 := by omega
  have q2 : g.px z1 < g.n + 1 := by omega
  have HK := Lib.hid (hkit _ _ hXm hYm hk)
  have HG : Hid (∀ k o, Goes (Duo bg bd g) W ((W.alloc o).drewN k) F) := Lib.hid fun k o => Goes.same (fit_duo bg bd g) h (((Cha.refl _ W).alloc o).drewN k)
  rw [hk] at y
  generalize f2 (g.px z1) = fx at *
  clear h hi hkit X1 X2 X3 hXm hYm hr h16 yf hpk hk
  unfold opV
  rcases hc with d0 | d0
  · go_enter Try.func32, Try.ntmps32
    go_wp2
    go_quiet ((go_at_call 45; exact Calls.quiet_of (CP.out _ _ _)))
    go_wp2
    go_returns
    exact ⟨rfl, HG.out _ _⟩
  · go_enter Try.func32, Try.ntmps32
    go_wp2
    go_quiet ((go_at_call 45; exact Calls.quiet_of (CP.out _ _ _)))
    go_wp2
    go_returns
    exact ⟨rfl, HG.out _ _⟩
set_option maxRecDepth 100000 in
set_option maxHeartbeats 4000000 in
theorem change_no3 (h : Duo bg bd g W F) (hr : 0 < g.roots.length) (z0 z1 z2 z3 : Int) (hk : (g.fs (g.px z1)).length = 0) (hc : Int.tmod z0 5 ≠ 0 ∧ Int.tmod z0 5 ≠ 1 ∧ Int.tmod z0 5 ≠ -1 ∧ Int.tmod z0 5 ≠ 2 ∧ Int.tmod z0 5 ≠ -2) :
    Calls Try.prog 32 #[.pointer (some ⟨bg, 0, none⟩), .pointer (some ⟨bd, 0, none⟩), opV z0 z1 z2 z3] W fun e W' => e = .returned (.bool true) ∧ Goes (Duo bg bd (g)) W W' F := by
  obtain ⟨K, hi⟩ := duo_inv h
  have hr8 := hi.r8
  have hn4 := hi.n4
  have hXm := px_mem hr z1
  have hYm := px_mem hr z3
  obtain ⟨X1, X2, X3⟩ := hi.kroot _ hXm
  obtain ⟨bv, ov, cv, br, or, cr, f2, see, hkit⟩ := no_kit h hr
  obtain ⟨y, yb, yf⟩ := see.fl _ X2 X3
  have h16 := hi.f16 (g.px z1)
  obtain ⟨c0, c1, hbd, hbv, hbr, m1, m2, m3, m4, -, hpk⟩ := see
  have CP : Hid (∀ (n : Nat) (z : Int) (o : Obj), Calls Try.prog 45 #[.pointer (some ⟨bd, 0, none⟩), .int .i64 z] ((W.alloc o).drewN n) fun e w => e = .returned (.int .i64 (g.px z : Int)) ∧ ∃ m, w = ((W.alloc o).drewN n).drewN m) := Lib.hid fun n z o => hpk _ z (((Cha.refl _ W).alloc o).drewN n)
  have l0 : ((g.roots.length : Int) == 0) = false := dec1 (by omega)
  have l1 : ¬ (g.roots.length = 0) := by omega
  unfold maxLen at m1 m3
  have q1 : (g.px z1 : Int) < (g.n : Int) + 1 := by omega
  have q2 : g.px z1 < g.n + 1 := by omega
  have HK := Lib.hid (hkit _ _ hXm hYm hk)
  have HG : Hid (∀ k o, Goes (Duo bg bd g) W ((W.alloc o).drewN k) F) := Lib.hid fun k o => Goes.same (fit_duo bg bd g) h (((Cha.refl _ W).alloc o).drewN k)
  rw [hk] at y
  generalize f2 (g.px z1) = fx at *
  clear h hi hkit X1 X2 X3 hXm hYm hr h16 yf hpk hk
  unfold opV
  obtain ⟨r, hrr⟩ : ∃ r, Int.tmod z0 5 = r := ⟨_, rfl⟩
  rw [hrr] at hc
  have r1 := dec1 hc.1
  have r2 := dec1 hc.2.1
  have r3 := dec1 hc.2.2.1
  have r4 := dec1 hc.2.2.2.1
  have r5 := dec1 hc.2.2.2.2
  clear hc
  go_enter Try.func32, Try.ntmps32
  go_wp2
  go_quiet ((go_at_call 45; exact Calls.quiet_of (CP.out _ _ _)))
  go_wp2_with (go_at_call 18; ((with_reducible refine (HK.out _ (((Cha.refl (fun _ => False) W).alloc _).drewN _)).mono ?_); rintro e w2 ⟨rfl, hG⟩; have HG2 := Lib.hid hG; clear hG))
  go_returns
  exact ⟨rfl, HG2.out⟩
set_option maxRecDepth 100000 in
set_option maxHeartbeats 4000000 in
theorem change_root0 (h : Duo bg bd g W F) (hr : 0 < g.roots.length) (z0 z1 z2 z3 : Int) (hk : 0 < (g.fs (g.px z1)).length) (ht : (g.fs (g.px z1)).getD (rem0 z2 (g.fs (g.px z1)).length) 0 = 0 ∨ 4000 < g.roots.length) (hc : Int.tmod z0 5 = 2 ∨ Int.tmod z0 5 = -2) :
    Calls Try.prog 32 #[.pointer (some ⟨bg, 0, none⟩), .pointer (some ⟨bd, 0, none⟩), opV z0 z1 z2 z3] W fun e W' => e = .returned (.bool true) ∧ Goes (Duo bg bd (g)) W W' F := by
  obtain ⟨K, hi⟩ := duo_inv h
  have hr8 := hi.r8
  have hn4 := hi.n4
  have hXm := px_mem hr z1
  have hYm := px_mem hr z3
  obtain ⟨X1, X2, X3⟩ := hi.kroot _ hXm
  obtain ⟨bv, ov, cv, br, or, cr, f2, see, -⟩ := no_kit h hr
  obtain ⟨e6, e7⟩ := rem0_eq z2 hk
  obtain ⟨t2, t3⟩ := tmod_bound z2 hk
  obtain ⟨y, yb, yf⟩ := see.fl _ X2 X3
  have h16 := hi.f16 (g.px z1)
  obtain ⟨c0, c1, hbd, hbv, hbr, m1, m2, m3, m4, -, hpk⟩ := see
  have CP : Hid (∀ (n : Nat) (z : Int) (o : Obj), Calls Try.prog 45 #[.pointer (some ⟨bd, 0, none⟩), .int .i64 z] ((W.alloc o).drewN n) fun e w => e = .returned (.int .i64 (g.px z : Int)) ∧ ∃ m, w = ((W.alloc o).drewN n).drewN m) := Lib.hid fun n z o => hpk _ z (((Cha.refl _ W).alloc o).drewN n)
  have l0 : ((g.roots.length : Int) == 0) = false := dec1 (by omega)
  have l1 : ¬ (g.roots.length = 0) := by omega
  unfold maxLen at m1 m3
  have q1 : (g.px z1 : Int) < (g.n : Int) + 1 := by omega
  have q2 : g.px z1 < g.n + 1 := by omega
  have yz := yf _ e7
  obtain ⟨k, hke⟩ : ∃ k, k = (g.fs (g.px z1)).length := ⟨_, rfl⟩
  obtain ⟨ff, hff⟩ : ∃ ff, ff = rem0 z2 (g.fs (g.px z1)).length := ⟨_, rfl⟩
  rw [← hff] at e6 e7 ht yz
  rw [← hke] at e6 e7 hff y h16 t2 t3 hk
  have e8 : IntKind.i64.wrap (Int.tmod z2 (k : Int) + (k : Int)) = Int.tmod z2 (k : Int) + (k : Int) := IntWalk.i64_in _ (by omega)
  have k1 : (0 : Int) < (k : Int) := by omega
  have k2 : 0 < k := by omega
  have k3 : ((k : Int) == 0) = false := dec1 (by omega)
  have k4 : ¬ (k = 0) := by omega
  have HG : Hid (∀ k o, Goes (Duo bg bd g) W ((W.alloc o).drewN k) F) := Lib.hid fun k o => Goes.same (fit_duo bg bd g) h (((Cha.refl _ W).alloc o).drewN k)
  generalize f2 (g.px z1) = fx at *
  obtain ⟨yz, -⟩ := yz
  generalize (g.fs (g.px z1)).getD ff 0 = t at *
  clear h hi X1 X2 X3 hXm hYm hr h16 yf hpk hk hke hff
  unfold opV
  by_cases h0 : t = 0
  · subst h0
    clear ht
    rcases hc with d0 | d0
    · go_enter Try.func32, Try.ntmps32
      go_wp2
      go_quiet ((go_at_call 45; exact Calls.quiet_of (CP.out _ _ _)))
      go_wp2
      go_returns
      exact ⟨rfl, HG.out _ _⟩
    · go_enter Try.func32, Try.ntmps32
      go_wp2
      go_quiet ((go_at_call 45; exact Calls.quiet_of (CP.out _ _ _)))
      go_wp2
      go_returns
      exact ⟨rfl, HG.out _ _⟩
  · have h4 : (4000 : Int) < (g.roots.length : Int) := by omega
    have h5 : 4000 < g.roots.length := by omega
    have h6 : ((t : Int) == 0) = false := dec1 (by omega)
    clear ht h0
    rcases hc with d0 | d0
    · go_enter Try.func32, Try.ntmps32
      go_wp2
      go_quiet ((go_at_call 45; exact Calls.quiet_of (CP.out _ _ _)))
      go_wp2
      go_returns
      exact ⟨rfl, HG.out _ _⟩
    · go_enter Try.func32, Try.ntmps32
      go_wp2
      go_quiet ((go_at_call 45; exact Calls.quiet_of (CP.out _ _ _)))
      go_wp2
      go_returns
      exact ⟨rfl, HG.out _ _⟩
set_option maxRecDepth 100000 in
set_option maxHeartbeats 4000000 in
theorem change_set (h : Duo bg bd g W F) (hr : 0 < g.roots.length) (z0 z1 z2 z3 : Int) (hk : 0 < (g.fs (g.px z1)).length) (hc : Int.tmod z0 5 ≠ 0 ∧ Int.tmod z0 5 ≠ 1 ∧ Int.tmod z0 5 ≠ -1 ∧ Int.tmod z0 5 ≠ 2 ∧ Int.tmod z0 5 ≠ -2) :
    Calls Try.prog 32 #[.pointer (some ⟨bg, 0, none⟩), .pointer (some ⟨bd, 0, none⟩), opV z0 z1 z2 z3] W fun e W' => e = .returned (.bool true) ∧ Goes (Duo bg bd (g.set (g.px z1) (rem0 z2 (g.fs (g.px z1)).length) (g.px z3))) W W' F := by
  obtain ⟨K, hi⟩ := duo_inv h
  have hr8 := hi.r8
  have hn4 := hi.n4
  have hXm := px_mem hr z1
  have hYm := px_mem hr z3
  obtain ⟨X1, X2, X3⟩ := hi.kroot _ hXm
  obtain ⟨e6, e7⟩ := rem0_eq z2 hk
  obtain ⟨t2, t3⟩ := tmod_bound z2 hk
  obtain ⟨bv, ov, cv, br, or, cr, f2, see, hkit⟩ := set_kit h hr _ _ (g.px z3) hXm e7 hYm
  obtain ⟨y, yb, yf⟩ := see.fl _ X2 X3
  have h16 := hi.f16 (g.px z1)
  obtain ⟨c0, c1, hbd, hbv, hbr, m1, m2, m3, m4, -, hpk⟩ := see
  have CP : Hid (∀ (n : Nat) (z : Int) (o : Obj), Calls Try.prog 45 #[.pointer (some ⟨bd, 0, none⟩), .int .i64 z] ((W.alloc o).drewN n) fun e w => e = .returned (.int .i64 (g.px z : Int)) ∧ ∃ m, w = ((W.alloc o).drewN n).drewN m) := Lib.hid fun n z o => hpk _ z (((Cha.refl _ W).alloc o).drewN n)
  have l0 : ((g.roots.length : Int) == 0) = false := dec1 (by omega)
  have l1 : ¬ (g.roots.length = 0) := by omega
  unfold maxLen at m1 m3
  have q1 : (g.px z1 : Int) < (g.n : Int) + 1 := by omega
  have q2 : g.px z1 < g.n + 1 := by omega
  have yz := yf _ e7
  obtain ⟨k, hke⟩ : ∃ k, k = (g.fs (g.px z1)).length := ⟨_, rfl⟩
  obtain ⟨ff, hff⟩ : ∃ ff, ff = rem0 z2 (g.fs (g.px z1)).length := ⟨_, rfl⟩
  rw [← hff] at e6 e7 hkit yz ⊢
  rw [← hke] at e6 e7 hff y h16 t2 t3 hk
  have e8 : IntKind.i64.wrap (Int.tmod z2 (k : Int) + (k : Int)) = Int.tmod z2 (k : Int) + (k : Int) := IntWalk.i64_in _ (by omega)
  have k1 : (0 : Int) < (k : Int) := by omega
  have k2 : 0 < k := by omega
  have k3 : ((k : Int) == 0) = false := dec1 (by omega)
  have k4 : ¬ (k = 0) := by omega
  have HK := Lib.hid hkit
  obtain ⟨yz, yzf⟩ := yz
  generalize (g.fs (g.px z1)).getD ff 0 = t at *
  generalize f2 (g.px z1) = fx at *
  clear h hi hkit X1 X2 X3 hXm hYm hr h16 yf hpk hk hke hff
  unfold opV
  obtain ⟨r, hrr⟩ : ∃ r, Int.tmod z0 5 = r := ⟨_, rfl⟩
  rw [hrr] at hc
  have r1 := dec1 hc.1
  have r2 := dec1 hc.2.1
  have r3 := dec1 hc.2.2.1
  have r4 := dec1 hc.2.2.2.1
  have r5 := dec1 hc.2.2.2.2
  clear hc
  go_enter Try.func32, Try.ntmps32
  go_wp2
  go_quiet ((go_at_call 45; exact Calls.quiet_of (CP.out _ _ _)))
  go_wp2_with (go_at_call 18; ((with_reducible refine (HK.out _ (((Cha.refl (fun _ => False) W).alloc _).drewN _)).mono ?_); rintro e w2 ⟨rfl, hG⟩; have HG := Lib.hid hG; clear hG))
  go_returns
  exact ⟨rfl, HG.out⟩
end Go.Proofs.Ytllefljimkmbhaa
