/- The scheduler: who is there. -/
import Derived.Test.YtaloafihbdamiaaSC
import Derived.Handy
namespace Go.Proofs.Ytaloafihbdamiaa
open Go.ChangeShapes Go.WideShapes Go.ChangeAt Go.RowKit
section
variable {w w' : World} {F : Nat → Prop} {bs bq bt b3 : Nat} {X : Sx}
theorem sproc_none (p : Int) (w : World) : Calls Try.prog 26 #[.pointer none, .int .i64 p] w fun e w' => e = .returned (.tuple #[.pointer none, .int .i64 5]) ∧ w = w' := by
  go_enter Try.func26, Try.ntmps26
  go_wp2
  go_returns
  exact ⟨rfl, rfl⟩
theorem sproc_any (h : ScA bs bq bt b3 X w F) (p : Nat) (hp : p < X.pr.length) : Calls Try.prog 26 #[.pointer (some ⟨bs, 0, none⟩), .int .i64 (p : Int)] w fun e w' => e = .returned (.tuple #[.pointer (some ⟨b3, p * 2, none⟩), .int .i64 0]) ∧ w = w' := by
  obtain ⟨F2, gv, o, -, -⟩ := Sc.own h
  obtain ⟨c0, c1, c2, c3, c4, cf⟩ := o.facts
  have h8 := o.n8
  clear h o c0 c1 c3 c4
  generalize X.pr.length = n at *
  have h1 : decide ((p : Int) < 0) = false := by simp
  have h2 : decide ((n : Int) ≤ (p : Int)) = false := by simp; omega
  go_enter Try.func26, Try.ntmps26
  go_wp2
  go_returns
  exact ⟨rfl, rfl⟩
theorem sproc_bad (h : ScA bs bq bt b3 X w F) (p : Int) (hp : p < 0 ∨ (X.pr.length : Int) ≤ p) : Calls Try.prog 26 #[.pointer (some ⟨bs, 0, none⟩), .int .i64 p] w fun e w' => e = .returned (.tuple #[.pointer none, .int .i64 1]) ∧ w = w' := by
  obtain ⟨F2, gv, o, -, -⟩ := Sc.own h
  obtain ⟨c0, c1, c2, c3, c4, cf⟩ := o.facts
  have h8 := o.n8
  clear h o c0 c1 c3 c4
  generalize X.pr.length = n at *
  by_cases h0 : p < 0
  · clear hp
    go_enter Try.func26, Try.ntmps26
    go_wp2
    go_returns
    exact ⟨rfl, rfl⟩
  · have h1 : decide (p < 0) = false := by simpa using h0
    have h2 : (n : Int) ≤ p := by omega
    clear hp h0
    go_enter Try.func26, Try.ntmps26
    go_wp2
    go_returns
    exact ⟨rfl, rfl⟩
theorem isgo_any (h : ScA bs bq bt b3 X w F) (g : Nat) (hg : g < X.gs.length) : Calls Try.prog 30 #[.pointer (some ⟨bs, 0, none⟩), .int .i64 (g : Int)] w fun e w' => e = .returned (.bool true) ∧ w = w' := by
  obtain ⟨F2, gv, o, -, -⟩ := Sc.own h
  obtain ⟨c0, c1, c2, c3, c4, cf⟩ := o.facts
  have h8 := o.g64
  obtain ⟨a, cap, rfl, -, -⟩ := o.gls.form
  clear h o c0 c1 c2 c4
  generalize X.gs.length = n at *
  have h1 : (0 : Int) ≤ (g : Int) := by omega
  have h2 : (g : Int) < (n : Int) := by omega
  go_enter Try.func30, Try.ntmps30
  go_wp2
  go_returns
  exact ⟨rfl, rfl⟩
theorem isgo_bad (h : ScA bs bq bt b3 X w F) (g : Int) (hg : g < 0 ∨ (X.gs.length : Int) ≤ g) : Calls Try.prog 30 #[.pointer (some ⟨bs, 0, none⟩), .int .i64 g] w fun e w' => e = .returned (.bool false) ∧ w = w' := by
  obtain ⟨F2, gv, o, -, -⟩ := Sc.own h
  obtain ⟨c0, c1, c2, c3, c4, cf⟩ := o.facts
  have h8 := o.g64
  obtain ⟨a, cap, rfl, -, -⟩ := o.gls.form
  clear h o c0 c1 c2 c4
  generalize X.gs.length = n at *
  by_cases h0 : g < 0
  · have h1 : decide (0 ≤ g) = false := by simpa using h0
    clear hg
    go_enter Try.func30, Try.ntmps30
    go_wp2
    go_returns
    exact ⟨rfl, rfl⟩
  · have h1 : 0 ≤ g := by omega
    have h2 : decide (g < (n : Int)) = false := by simp; omega
    clear hg h0
    go_enter Try.func30, Try.ntmps30
    go_wp2
    go_returns
    exact ⟨rfl, rfl⟩
theorem state_none (g : Int) (w : World) : Calls Try.prog 14 #[.pointer none, .int .i64 g] w fun e w' => e = .returned (.int .i64 0) ∧ w = w' := by
  go_enter Try.func14, Try.ntmps14
  go_wp2
  go_returns
  exact ⟨rfl, rfl⟩
theorem state_any (h : ScA bs bq bt b3 X w F) (g : Nat) (hg : g < X.gs.length) : Calls Try.prog 14 #[.pointer (some ⟨bs, 0, none⟩), .int .i64 (g : Int)] w fun e w' => e = .returned (.int .i64 (X.gs.getD g (0, false)).1) ∧ w = w' := by
  have C := Lib.hid (isgo_any h g hg)
  obtain ⟨F2, gv, o, -, -⟩ := Sc.own h
  obtain ⟨c0, c1, c2, c3, c4, cf⟩ := o.facts
  have h8 := o.g64
  obtain ⟨b, off, cap, rfl, hc1, hc2, d0, d1, df, -⟩ := o.gc hg
  clear h o c0 c1 c2 c4
  generalize X.gs.getD g (0, false) = y at *
  generalize X.gs.length = n at *
  go_enter Try.func14, Try.ntmps14
  go_wp2_with (go_at_call 30; ((with_reducible refine (C.out).mono ?_); rintro e w1 ⟨rfl, rfl⟩))
  go_returns
  exact ⟨rfl, rfl⟩
theorem state_bad (h : ScA bs bq bt b3 X w F) (g : Int) (hg : g < 0 ∨ (X.gs.length : Int) ≤ g) : Calls Try.prog 14 #[.pointer (some ⟨bs, 0, none⟩), .int .i64 g] w fun e w' => e = .returned (.int .i64 0) ∧ w = w' := by
  have C := Lib.hid (isgo_bad h g hg)
  clear h hg
  go_enter Try.func14, Try.ntmps14
  go_wp2_with (go_at_call 30; ((with_reducible refine (C.out).mono ?_); rintro e w1 ⟨rfl, rfl⟩))
  go_returns
  exact ⟨rfl, rfl⟩
theorem current_none (p : Int) (w : World) : Calls Try.prog 15 #[.pointer none, .int .i64 p] w fun e w' => e = .returned (.int .i64 (-1)) ∧ w = w' := by
  have C := Lib.hid (sproc_none p w)
  go_enter Try.func15, Try.ntmps15
  go_wp2_with (go_at_call 26; ((with_reducible refine (C.out).mono ?_); rintro e w1 ⟨rfl, rfl⟩))
  go_returns
  exact ⟨rfl, rfl⟩
theorem current_any (h : ScA bs bq bt b3 X w F) (p : Nat) (hp : p < X.pr.length) : Calls Try.prog 15 #[.pointer (some ⟨bs, 0, none⟩), .int .i64 (p : Int)] w fun e w' => e = .returned (.int .i64 (X.pr.getD p (-1, 0)).1) ∧ w = w' := by
  have C := Lib.hid (sproc_any h p hp)
  obtain ⟨F2, gv, o, -, -⟩ := Sc.own h
  obtain ⟨d0, d1, df⟩ := o.pc hp
  clear h o
  generalize X.pr.getD p (-1, 0) = y at *
  go_enter Try.func15, Try.ntmps15
  go_wp2_with (go_at_call 26; ((with_reducible refine (C.out).mono ?_); rintro e w1 ⟨rfl, rfl⟩))
  go_returns
  exact ⟨rfl, rfl⟩
theorem current_bad (h : ScA bs bq bt b3 X w F) (p : Int) (hp : p < 0 ∨ (X.pr.length : Int) ≤ p) : Calls Try.prog 15 #[.pointer (some ⟨bs, 0, none⟩), .int .i64 p] w fun e w' => e = .returned (.int .i64 (-1)) ∧ w = w' := by
  have C := Lib.hid (sproc_bad h p hp)
  clear h hp
  go_enter Try.func15, Try.ntmps15
  go_wp2_with (go_at_call 26; ((with_reducible refine (C.out).mono ?_); rintro e w1 ⟨rfl, rfl⟩))
  go_returns
  exact ⟨rfl, rfl⟩
theorem busy_none (p : Int) (w : World) : Calls Try.prog 31 #[.pointer none, .int .i64 p] w fun e w' => e = .returned (.tuple #[.pointer none, .int .i64 5]) ∧ w = w' := by
  have C := Lib.hid (sproc_none p w)
  go_enter Try.func31, Try.ntmps31
  go_wp2_with (go_at_call 26; ((with_reducible refine (C.out).mono ?_); rintro e w1 ⟨rfl, rfl⟩))
  go_returns
  exact ⟨rfl, rfl⟩
theorem busy_bad (h : ScA bs bq bt b3 X w F) (p : Int) (hp : p < 0 ∨ (X.pr.length : Int) ≤ p) : Calls Try.prog 31 #[.pointer (some ⟨bs, 0, none⟩), .int .i64 p] w fun e w' => e = .returned (.tuple #[.pointer none, .int .i64 1]) ∧ w = w' := by
  have C := Lib.hid (sproc_bad h p hp)
  clear h hp
  go_enter Try.func31, Try.ntmps31
  go_wp2_with (go_at_call 26; ((with_reducible refine (C.out).mono ?_); rintro e w1 ⟨rfl, rfl⟩))
  go_returns
  exact ⟨rfl, rfl⟩
theorem busy_idle (h : ScA bs bq bt b3 X w F) (p : Nat) (hp : p < X.pr.length) (hn : (X.pr.getD p (-1, 0)).1 = -1) : Calls Try.prog 31 #[.pointer (some ⟨bs, 0, none⟩), .int .i64 (p : Int)] w fun e w' => e = .returned (.tuple #[.pointer none, .int .i64 4]) ∧ w = w' := by
  have C := Lib.hid (sproc_any h p hp)
  obtain ⟨F2, gv, o, -, -⟩ := Sc.own h
  obtain ⟨d0, d1, df⟩ := o.pc hp
  rw [hn] at d0
  clear h o d1 hn
  go_enter Try.func31, Try.ntmps31
  go_wp2_with (go_at_call 26; ((with_reducible refine (C.out).mono ?_); rintro e w1 ⟨rfl, rfl⟩))
  go_returns
  exact ⟨rfl, rfl⟩
theorem busy_any (h : ScA bs bq bt b3 X w F) (p : Nat) (hp : p < X.pr.length) (hn : (X.pr.getD p (-1, 0)).1 ≠ -1) : Calls Try.prog 31 #[.pointer (some ⟨bs, 0, none⟩), .int .i64 (p : Int)] w fun e w' => e = .returned (.tuple #[.pointer (some ⟨b3, p * 2, none⟩), .int .i64 0]) ∧ w = w' := by
  have C := Lib.hid (sproc_any h p hp)
  obtain ⟨F2, gv, o, -, -⟩ := Sc.own h
  obtain ⟨d0, d1, df⟩ := o.pc hp
  clear h o d1
  generalize (X.pr.getD p (-1, 0)).1 = y at *
  go_enter Try.func31, Try.ntmps31
  go_wp2_with (go_at_call 26; ((with_reducible refine (C.out).mono ?_); rintro e w1 ⟨rfl, rfl⟩))
  go_returns
  exact ⟨rfl, rfl⟩
end
end Go.Proofs.Ytaloafihbdamiaa
