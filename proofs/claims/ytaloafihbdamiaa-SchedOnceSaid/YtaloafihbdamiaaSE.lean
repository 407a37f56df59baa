/- The scheduler: makeReady, Begin, Tick, letGo. -/
import Derived.Test.YtaloafihbdamiaaSD
import Derived.Deep.RegionLaw
import Derived.Deep.RegionHeld3
namespace Go.Proofs.Ytaloafihbdamiaa
open Go.ChangeShapes Go.WideShapes Go.ChangeAt Go.RowKit
def Sx.rdy (X : Sx) (p g : Nat) : Sx := { X with gs := X.gs.set g (1, false), Q := putP X.Q p (g : Int) }
section
variable {w w' : World} {F : Nat → Prop} {bs bq bt b3 : Nat} {X : Sx}
theorem makeready_any (h : ScA bs bq bt b3 X w F) (p g : Nat) (hp : p < X.Q.1.length) (hg : g < X.gs.length) (hA : X.Q.2.length + 5 ≤ 17592186044416) :
    Calls Try.prog 27 #[.pointer (some ⟨bs, 0, none⟩), .int .i64 (p : Int), .int .i64 (g : Int)] w fun e w' => e = .returned (.tuple #[]) ∧ Goes (ScA bs bq bt b3 (X.rdy p g)) w w' F := by
  obtain ⟨F2, gv, o, -, k⟩ := Sc.own h
  obtain ⟨c0, c1, c2, c3, c4, cf⟩ := o.facts
  obtain ⟨b, off, cap, rfl, hc1, hc2, d0, d1, df, fb, nb, nb3, up⟩ := o.gc hg
  have G := k _ _ _ _ ⟨F2, ⟨_, (up w (Cha.refl _ w) 1 false).1⟩, (up w (Cha.refl _ w) 1 false).2, fun _ x => .inl x⟩
  have C := Lib.hid (G.next fun F1 h1 => sc_put h1 p (g : Int) hp (by omega) hA)
  have g64 := o.g64
  clear h o up k G c1 c2 c4 fb nb3
  generalize X.gs.length = n at *
  go_enter Try.func27, Try.ntmps27
  go_wp2_with (go_at_call 36; ((with_reducible refine (C.out).mono ?_); rintro e w1 ⟨rfl, hG⟩; have HG := Lib.hid hG; clear hG))
  go_returns
  exact ⟨rfl, HG.out⟩
theorem begin_none (p : Int) (w : World) : Calls Try.prog 12 #[.pointer none, .int .i64 p] w fun e w' => e = .returned (.tuple #[.int .i64 0, .int .i64 5]) ∧ w = w' := by
  have C := Lib.hid (sproc_none p w)
  go_enter Try.func12, Try.ntmps12
  go_wp2_with (go_at_call 26; ((with_reducible refine (C.out).mono ?_); rintro e w1 ⟨rfl, rfl⟩))
  go_returns
  exact ⟨rfl, rfl⟩
theorem begin_bad (h : ScA bs bq bt b3 X w F) (p : Int) (hp : p < 0 ∨ (X.pr.length : Int) ≤ p) : Calls Try.prog 12 #[.pointer (some ⟨bs, 0, none⟩), .int .i64 p] w fun e w' => e = .returned (.tuple #[.int .i64 0, .int .i64 1]) ∧ w = w' := by
  have C := Lib.hid (sproc_bad h p hp)
  clear h hp
  go_enter Try.func12, Try.ntmps12
  go_wp2_with (go_at_call 26; ((with_reducible refine (C.out).mono ?_); rintro e w1 ⟨rfl, rfl⟩))
  go_returns
  exact ⟨rfl, rfl⟩
theorem begin_full (h : ScA bs bq bt b3 X w F) (p : Nat) (hp : p < X.pr.length) (hg : X.gs.length = 64) : Calls Try.prog 12 #[.pointer (some ⟨bs, 0, none⟩), .int .i64 (p : Int)] w fun e w' => e = .returned (.tuple #[.int .i64 0, .int .i64 3]) ∧ w = w' := by
  have C := Lib.hid (sproc_any h p hp)
  obtain ⟨F2, gv, o, -, -⟩ := Sc.own h
  obtain ⟨c0, c1, c2, c3, c4, cf⟩ := o.facts
  obtain ⟨a, cap, rfl, -, -⟩ := o.gls.form
  rw [hg] at c3
  clear h o c0 c1 c2 c4 hg
  go_enter Try.func12, Try.ntmps12
  go_wp2_with (go_at_call 26; ((with_reducible refine (C.out).mono ?_); rintro e w1 ⟨rfl, rfl⟩))
  go_returns
  exact ⟨rfl, rfl⟩
theorem append_v {α : Type} {E : En.Enc α} {w w1 w' : World} {v : Value} {A N : List α} {g o cap : Nat} (c : Cha (fun _ => False) w w1) (hA : En.App E w1 w' v A N g o cap) : En.AppV E w w' v (A ++ N) (.slice (some ⟨g, o, none⟩) (A.length + N.length) cap) :=
  ⟨hA.lies, c.wide.trans hA.cha, fun g' hg => by cases hg; exact hA.at'.imp id (Nat.le_trans c.size)⟩
/-- One goroutine more, ready, next on a processor. -/
def Sx.beg (X : Sx) (p : Nat) : Sx := { X with gs := X.gs ++ [(1, false)], Q := putP X.Q p (X.gs.length : Int) }
theorem set_last {α : Type} (l : List α) (x y : α) : (l ++ [x]).set l.length y = l ++ [y] := by simp
theorem begin_any (h : ScA bs bq bt b3 X w F) (p : Nat) (hp : p < X.pr.length) (hq : p < X.Q.1.length) (hg : X.gs.length < 64) (hA : X.Q.2.length + 5 ≤ 17592186044416) :
    Calls Try.prog 12 #[.pointer (some ⟨bs, 0, none⟩), .int .i64 (p : Int)] w fun e w' => e = .returned (.tuple #[.int .i64 (X.gs.length : Nat), .int .i64 0]) ∧ Goes (ScA bs bq bt b3 (X.beg p)) w w' F := by
  have C := Lib.hid (sproc_any h p hp)
  obtain ⟨F2, gv, o, -, k⟩ := Sc.own h
  obtain ⟨c0, c1, c2, c3, c4, cf⟩ := o.facts
  obtain ⟨a, cap, e, hc1, hc2⟩ := o.gls.form
  have HG : Hid (∀ w3 g3 o3 cap3, En.App goE (w.alloc (.cells #[.int .i64 0, .bool false] 68)) w3 gv X.gs [(0, false)] g3 o3 cap3 → (w3.cell? ⟨bs, 3, none⟩ = some gv ∧ ∀ i, w3.frozen? ⟨bs, i, none⟩ = false) ∧
      Goes (ScA bs bq bt b3 { X with gs := X.gs ++ [(0, false)] }) w (w3.setCell ⟨bs, 3, none⟩ (.slice (some ⟨g3, o3, none⟩) (X.gs.length + 1) cap3)) F) := Lib.hid fun w3 g3 o3 cap3 hA => by
    have a := append_v ((Cha.refl (fun _ => False) w).alloc _) hA
    obtain ⟨F', o', c', n'⟩ := o.grow a (by rw [List.length_append]; simp only [List.length_singleton]; omega)
    have hh := (a.cha.old bs (o.old _ o.fs) (fun e => (o.gb bs e).1 rfl)).trans o.head
    exact ⟨⟨cell_of_row w3 bs 3 _ 61 (0, 0) hh, fun i => frozen_of_row w3 bs i _ 61 hh⟩, k _ _ _ _ ⟨F', ⟨_, o'⟩, c', n'⟩⟩
  have HL := Lib.hid (o.gls.same ((Cha.refl (fun _ => False) w).alloc (.cells #[.int .i64 0, .bool false] 68)))
  have HN := Lib.hid (En.just_new goE w (0, false) 68)
  have B1 : Hid (X.gs.length + [(0, false)].length ≤ maxLen) := Lib.hid (by simp only [List.length_singleton]; unfold maxLen; omega)
  have B2 : Hid ((X.gs.length + [(0, false)].length) * goE.b ≤ 140737488355328) := Lib.hid (by simp only [List.length_singleton]; show _ * 16 ≤ _; omega)
  have CM : Hid (∀ W1, Goes (ScA bs bq bt b3 { X with gs := X.gs ++ [(0, false)] }) w W1 F → Calls Try.prog 27 #[.pointer (some ⟨bs, 0, none⟩), .int .i64 (p : Int), .int .i64 (X.gs.length : Nat)] W1 fun e w' => e = .returned (.tuple #[]) ∧ Goes (ScA bs bq bt b3 (X.beg p)) w w' F) := Lib.hid fun W1 G => by
    have := G.next fun F1 h1 => makeready_any h1 p X.gs.length hq (by show _ < (X.gs ++ [(0, false)]).length; simp) hA
    unfold Sx.rdy at this
    dsimp only at this
    rw [set_last] at this
    exact this
  have hne : ∀ b, gv.ownBlock = some b → b ≠ bs := fun b e => (o.gb b e).1
  clear h o k c0 c1 c2 c4 hq hA
  subst e
  go_enter Try.func12, Try.ntmps12
  go_wp2_with (first
    | (go_at_call 26; ((with_reducible refine (C.out).mono ?_); rintro e w1 ⟨rfl, rfl⟩))
    | (at_builtin; refine En.wpList_app goE_ok rfl (.tmp 29) (.tmp 31) rfl rfl HL.out ⟨w.heap.size, 0, none⟩ 1 1 [(0, false)] rfl rfl HN.out Nat.zero_lt_one B1.out B2.out ?_; intro g3 o3 cap3 w3 hA3; obtain ⟨⟨k5, k6⟩, kk⟩ := HG.out w3 _ _ _ hA3; have A3 := Lib.hid kk; clear kk hA3; dsimp only [List.length_singleton])
    | (go_at_call 27; ((with_reducible refine (CM.out _ A3.out).mono ?_); rintro e w4 ⟨rfl, hG⟩; have HG4 := Lib.hid hG; clear hG)))
  go_returns
  exact ⟨rfl, HG4.out⟩
end
end Go.Proofs.Ytaloafihbdamiaa
