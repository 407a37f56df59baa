/- The scheduler: Tick, Ready, Counts. -/
import Derived.Test.YtaloafihbdamiaaSG
namespace Go.Proofs.Ytaloafihbdamiaa
open Go.ChangeShapes Go.WideShapes Go.ChangeAt Go.RowKit
section
variable {w w' : World} {F : Nat → Prop} {bs bq bt b3 : Nat} {X : Sx}
def Sx.tick (X : Sx) (n : Int) : Sx := { X with clk := X.clk + min n (1099511627776 - X.clk) }
theorem tick_none (n : Int) (w : World) : Calls Try.prog 21 #[.pointer none, .int .u64 n] w fun e w' => e = .returned (.tuple #[]) ∧ w = w' := by
  go_enter Try.func21, Try.ntmps21
  go_wp2
  go_returns
  exact ⟨rfl, rfl⟩
theorem tick_any (h : ScA bs bq bt b3 X w F) (n : Int) (hn : 0 ≤ n) (hn2 : n ≤ 18446744073709551615) :
    Calls Try.prog 21 #[.pointer (some ⟨bs, 0, none⟩), .int .u64 n] w fun e w' => e = .returned (.tuple #[]) ∧ Goes (ScA bs bq bt b3 (X.tick n)) w w' F := by
  obtain ⟨F2, gv, o, -, k⟩ := Sc.own h
  obtain ⟨c0, c1, c2, c3, c4, cf⟩ := o.facts
  have k0 := o.c0
  have k1 := o.c1
  have HG : Hid (∀ W, Cha (fun _ => False) w W → Goes (ScA bs bq bt b3 (X.tick n)) w (W.setCell ⟨bs, 4, none⟩ (.int .u64 (X.clk + min n (1099511627776 - X.clk)))) F) := Lib.hid fun W c =>
    k _ _ _ _ ⟨F2, ⟨gv, (o.same c).clock _ (by omega) (by omega)⟩, c.wide.setCell (p := ⟨bs, 4, none⟩) (fun _ => o.fs) _, fun _ x => .inl x⟩
  have e1 : IntKind.u64.wrap (1099511627776 - X.clk) = 1099511627776 - X.clk := IntWalk.u64_in _ (by omega)
  have e2 : IntKind.u64.wrap (X.clk + min n (1099511627776 - X.clk)) = X.clk + min n (1099511627776 - X.clk) := IntWalk.u64_in _ (by omega)
  clear h o k c0 c1 c2 c3
  go_enter Try.func21, Try.ntmps21
  go_wp2
  go_region
  all_goals
    go_wp2
    go_returns
    exact ⟨rfl, HG.out _ ((Cha.refl _ w).drewN _)⟩
theorem ready_none (p g : Int) (w : World) : Calls Try.prog 20 #[.pointer none, .int .i64 p, .int .i64 g] w fun e w' => e = .returned (.int .i64 5) ∧ w = w' := by
  have C := Lib.hid (sproc_none p w)
  go_enter Try.func20, Try.ntmps20
  go_wp2_with (go_at_call 26; ((with_reducible refine (C.out).mono ?_); rintro e w1 ⟨rfl, rfl⟩))
  go_ret
  exact ⟨rfl, rfl⟩
theorem ready_bad (h : ScA bs bq bt b3 X w F) (p g : Int) (hp : p < 0 ∨ (X.pr.length : Int) ≤ p) : Calls Try.prog 20 #[.pointer (some ⟨bs, 0, none⟩), .int .i64 p, .int .i64 g] w fun e w' => e = .returned (.int .i64 1) ∧ w = w' := by
  have C := Lib.hid (sproc_bad h p hp)
  clear h hp
  go_enter Try.func20, Try.ntmps20
  go_wp2_with (go_at_call 26; ((with_reducible refine (C.out).mono ?_); rintro e w1 ⟨rfl, rfl⟩))
  go_ret
  exact ⟨rfl, rfl⟩
theorem ready_not (h : ScA bs bq bt b3 X w F) (p : Nat) (g : Int) (hp : p < X.pr.length) (hg : g < 0 ∨ (X.gs.length : Int) ≤ g) : Calls Try.prog 20 #[.pointer (some ⟨bs, 0, none⟩), .int .i64 (p : Int), .int .i64 g] w fun e w' => e = .returned (.int .i64 4) ∧ w = w' := by
  have C := Lib.hid (sproc_any h p hp)
  have D := Lib.hid (isgo_bad h g hg)
  clear h hp hg
  go_enter Try.func20, Try.ntmps20
  go_wp2_with (first
    | (go_at_call 26; ((with_reducible refine (C.out).mono ?_); rintro e w1 ⟨rfl, rfl⟩))
    | (go_at_call 30; ((with_reducible refine (D.out).mono ?_); rintro e w1 ⟨rfl, rfl⟩)))
  go_ret
  exact ⟨rfl, rfl⟩
theorem ready_busy (h : ScA bs bq bt b3 X w F) (p g : Nat) (hp : p < X.pr.length) (hg : g < X.gs.length) (hs : X.gs.getD g (0, false) ≠ (2, false)) : Calls Try.prog 20 #[.pointer (some ⟨bs, 0, none⟩), .int .i64 (p : Int), .int .i64 (g : Int)] w fun e w' => e = .returned (.int .i64 4) ∧ w = w' := by
  have C := Lib.hid (sproc_any h p hp)
  have D := Lib.hid (isgo_any h g hg)
  obtain ⟨F2, gv, o, -, -⟩ := Sc.own h
  obtain ⟨-, -, -, c3, -, cf⟩ := o.facts
  have h8 := o.g64
  obtain ⟨b, off, cap, rfl, hc1, hc2, d0, d1, df, -⟩ := o.gc hg
  have e : (X.gs.getD g (0, false)).2 = true ∨ ((X.gs.getD g (0, false)).2 = false ∧ ¬ (X.gs.getD g (0, false)).1 = 2) := by
    rcases hx : X.gs.getD g (0, false) with ⟨a, b⟩
    rw [hx] at hs
    cases b
    · exact .inr ⟨rfl, fun e => hs (by rw [show a = 2 from e])⟩
    · exact .inl rfl
  clear h o hs
  generalize (X.gs.getD g (0, false)).1 = y1 at *
  generalize (X.gs.getD g (0, false)).2 = y2 at *
  generalize X.gs.length = n at *
  rcases e with rfl | ⟨rfl, e⟩
  · go_enter Try.func20, Try.ntmps20
    go_wp2_with (first
      | (go_at_call 26; ((with_reducible refine (C.out).mono ?_); rintro e w1 ⟨rfl, rfl⟩))
      | (go_at_call 30; ((with_reducible refine (D.out).mono ?_); rintro e w1 ⟨rfl, rfl⟩)))
    all_goals
      go_ret
      exact ⟨rfl, rfl⟩
  · go_enter Try.func20, Try.ntmps20
    go_wp2_with (first
      | (go_at_call 26; ((with_reducible refine (C.out).mono ?_); rintro e w1 ⟨rfl, rfl⟩))
      | (go_at_call 30; ((with_reducible refine (D.out).mono ?_); rintro e w1 ⟨rfl, rfl⟩)))
    all_goals
      go_ret
      exact ⟨rfl, rfl⟩
theorem ready_any (h : ScA bs bq bt b3 X w F) (p g : Nat) (hp : p < X.pr.length) (hq : p < X.Q.1.length) (hg : g < X.gs.length) (hs : X.gs.getD g (0, false) = (2, false)) (hA : X.Q.2.length + 5 ≤ 17592186044416) :
    Calls Try.prog 20 #[.pointer (some ⟨bs, 0, none⟩), .int .i64 (p : Int), .int .i64 (g : Int)] w fun e w' => e = .returned (.int .i64 0) ∧ Goes (ScA bs bq bt b3 (X.rdy p g)) w w' F := by
  have C := Lib.hid (sproc_any h p hp)
  have D := Lib.hid (isgo_any h g hg)
  have M := Lib.hid (makeready_any h p g hq hg hA)
  obtain ⟨F2, gv, o, -, -⟩ := Sc.own h
  obtain ⟨-, -, -, c3, -, cf⟩ := o.facts
  have h8 := o.g64
  obtain ⟨b, off, cap, rfl, hc1, hc2, d0, d1, df, -⟩ := o.gc hg
  rw [hs] at d0 d1
  clear h o hs
  generalize X.gs.length = n at *
  go_enter Try.func20, Try.ntmps20
  go_wp2_with (first
    | (go_at_call 26; ((with_reducible refine (C.out).mono ?_); rintro e w1 ⟨rfl, rfl⟩))
    | (go_at_call 30; ((with_reducible refine (D.out).mono ?_); rintro e w1 ⟨rfl, rfl⟩))
    | (go_at_call 27; ((with_reducible refine (M.out).mono ?_); rintro e w1 ⟨rfl, hG⟩; have HG := Lib.hid hG; clear hG)))
  go_ret
  exact ⟨rfl, HG.out⟩
end
end Go.Proofs.Ytaloafihbdamiaa
