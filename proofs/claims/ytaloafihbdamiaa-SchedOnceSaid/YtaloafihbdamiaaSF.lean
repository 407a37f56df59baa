/- The scheduler: what leaves a processor. -/
import Derived.Test.YtaloafihbdamiaaSE
namespace Go.Proofs.Ytaloafihbdamiaa
open Go.ChangeShapes Go.WideShapes Go.ChangeAt Go.RowKit
/-- A processor's goroutine. -/
def Sx.on (X : Sx) (p : Nat) : Int := (X.pr.getD p (-1, 0)).1
def Sx.runs (X : Sx) (p : Nat) : Int := (X.pr.getD p (-1, 0)).2
def Sx.stp (X : Sx) (p : Nat) (now : Int × Bool) : Sx := { X with gs := X.gs.set (X.on p).toNat now, pr := X.pr.set p (-1, X.runs p) }
section
variable {w w' : World} {F : Nat → Prop} {bs bq bt b3 : Nat} {X : Sx}
theorem stop_any (h : ScA bs bq bt b3 X w F) (p g : Nat) (a : Int) (b : Bool) (hp : p < X.pr.length) (hn : X.on p = (g : Int)) (hg : g < X.gs.length) :
    Calls Try.prog 33 #[.pointer (some ⟨bs, 0, none⟩), .int .i64 (p : Int), .agg #[.int .i64 a, .bool b]] w fun e w' => e = .returned (.int .i64 0) ∧ Goes (ScA bs bq bt b3 (X.stp p (a, b))) w w' F := by
  have c0 := (Cha.refl (fun _ => False) w).alloc (.cells #[.int .i64 a, .bool b] 68)
  have C := Lib.hid (busy_any (fit_sc.same h c0) p hp (by show X.on p ≠ -1; omega))
  obtain ⟨F2, gv, o, -, k⟩ := Sc.own h
  obtain ⟨-, -, -, k3, -, cf⟩ := (o.same c0).facts
  obtain ⟨dd, d1, df⟩ := (o.same c0).pc hp
  obtain ⟨bg, off, cap, rfl, hc1, hc2, g0, g1, gf, fb, nb, nb3, up⟩ := o.gc hg
  have gf0 : ∀ j, (w.alloc (.cells #[.int .i64 a, .bool b] 68)).frozen? ⟨bg, j, none⟩ = false := fun j => by rw [World.frozen?_alloc_old _ _ _ (by have := o.old _ fb; show bg ≠ _; omega)]; exact gf j
  have gg0 : (w.alloc (.cells #[.int .i64 a, .bool b] 68)).cell? ⟨bg, off + g * 2, none⟩ = some (.int .i64 (X.gs.getD g (0, false)).1) := by rw [World.cell?_alloc_old _ _ _ (by have := o.old _ fb; show bg ≠ _; omega)]; exact g0
  have gg1 : (w.alloc (.cells #[.int .i64 a, .bool b] 68)).cell? ⟨bg, off + g * 2 + 1, none⟩ = some (.bool (X.gs.getD g (0, false)).2) := by rw [World.cell?_alloc_old _ _ _ (by have := o.old _ fb; show bg ≠ _; omega)]; exact g1
  have d0 : (w.alloc (.cells #[.int .i64 a, .bool b] 68)).cell? ⟨b3, p * 2, none⟩ = some (.int .i64 (g : Int)) := by rw [dd]; exact congrArg _ (congrArg _ hn)
  have g64 := o.g64
  have HG : Hid (∀ W, Cha (fun _ => False) w W → Goes (ScA bs bq bt b3 (X.stp p (a, b))) w (((W.setCell ⟨bg, off + g * 2, none⟩ (.int .i64 a)).setCell ⟨bg, off + g * 2 + 1, none⟩ (.bool b)).setCell ⟨b3, p * 2, none⟩ (.int .i64 (-1))) F) := Lib.hid fun W c => by
    obtain ⟨u, uc⟩ := up W c a b
    have e : (X.on p).toNat = g := by omega
    unfold Sx.stp
    rw [e]
    exact k _ _ _ _ ⟨F2, ⟨_, u.setP hp (-1)⟩, uc.setCell (p := ⟨b3, p * 2, none⟩) (fun _ => o.f3) _, fun _ x => .inl x⟩
  have n1 : b3 ≠ bg := fun e => nb3 e.symm
  clear h o k up d1 g0 g1 fb c0 gf dd hn
  generalize X.gs.getD g (0, false) = y at *
  generalize X.gs.length = n at *
  go_enter Try.func33, Try.ntmps33
  go_wp2_with (go_at_call 31; ((with_reducible refine (C.out).mono ?_); rintro e w1 ⟨rfl, rfl⟩))
  go_region
  all_goals
    go_wp2
    go_returns
    exact ⟨rfl, HG.out _ (((Cha.refl (fun _ => False) w).alloc _).drewN _)⟩
theorem stop_none (p a : Int) (b : Bool) (w : World) : Calls Try.prog 33 #[.pointer none, .int .i64 p, .agg #[.int .i64 a, .bool b]] w fun e w' => e = .returned (.int .i64 5) ∧ Cha (fun _ => False) w w' := by
  have c0 := Lib.hid ((Cha.refl (fun _ => False) w).alloc (.cells #[.int .i64 a, .bool b] 68))
  have C := Lib.hid (busy_none p (w.alloc (.cells #[.int .i64 a, .bool b] 68)))
  go_enter Try.func33, Try.ntmps33
  go_wp2_with (go_at_call 31; ((with_reducible refine (C.out).mono ?_); rintro e w1 ⟨rfl, rfl⟩))
  go_returns
  exact ⟨rfl, c0.out⟩
theorem stop_bad (h : ScA bs bq bt b3 X w F) (p a : Int) (b : Bool) (hp : p < 0 ∨ (X.pr.length : Int) ≤ p) : Calls Try.prog 33 #[.pointer (some ⟨bs, 0, none⟩), .int .i64 p, .agg #[.int .i64 a, .bool b]] w fun e w' => e = .returned (.int .i64 1) ∧ Cha (fun _ => False) w w' := by
  have c0 := Lib.hid ((Cha.refl (fun _ => False) w).alloc (.cells #[.int .i64 a, .bool b] 68))
  have C := Lib.hid (busy_bad (fit_sc.same h c0.out) p hp)
  clear h hp
  go_enter Try.func33, Try.ntmps33
  go_wp2_with (go_at_call 31; ((with_reducible refine (C.out).mono ?_); rintro e w1 ⟨rfl, rfl⟩))
  go_returns
  exact ⟨rfl, c0.out⟩
theorem stop_idle (h : ScA bs bq bt b3 X w F) (p : Nat) (a : Int) (b : Bool) (hp : p < X.pr.length) (hn : X.on p = -1) : Calls Try.prog 33 #[.pointer (some ⟨bs, 0, none⟩), .int .i64 (p : Int), .agg #[.int .i64 a, .bool b]] w fun e w' => e = .returned (.int .i64 4) ∧ Cha (fun _ => False) w w' := by
  have c0 := Lib.hid ((Cha.refl (fun _ => False) w).alloc (.cells #[.int .i64 a, .bool b] 68))
  have C := Lib.hid (busy_idle (fit_sc.same h c0.out) p hp hn)
  clear h hp
  go_enter Try.func33, Try.ntmps33
  go_wp2_with (go_at_call 31; ((with_reducible refine (C.out).mono ?_); rintro e w1 ⟨rfl, rfl⟩))
  go_returns
  exact ⟨rfl, c0.out⟩
theorem block_of {v : Ending} {Q : World → Prop} (a b : Value) (C : Calls Try.prog 33 #[a, b, .agg #[.int .i64 2, .bool false]] w fun e w' => e = v ∧ Q w') (h : ∃ x, v = .returned x) :
    Calls Try.prog 17 #[a, b] w fun e w' => e = v ∧ Q w' := by
  obtain ⟨x, rfl⟩ := h
  have C := Lib.hid C
  go_enter Try.func17, Try.ntmps17
  go_wp2_with (go_at_call 33; ((with_reducible refine (C.out).mono ?_); rintro e w1 ⟨rfl, hq⟩; have HQ := Lib.hid hq; clear hq))
  go_ret
  exact ⟨rfl, HQ.out⟩
theorem end_of {v : Ending} {Q : World → Prop} (a b : Value) (C : Calls Try.prog 33 #[a, b, .agg #[.int .i64 3, .bool false]] w fun e w' => e = v ∧ Q w') (h : ∃ x, v = .returned x) :
    Calls Try.prog 19 #[a, b] w fun e w' => e = v ∧ Q w' := by
  obtain ⟨x, rfl⟩ := h
  have C := Lib.hid C
  go_enter Try.func19, Try.ntmps19
  go_wp2_with (go_at_call 33; ((with_reducible refine (C.out).mono ?_); rintro e w1 ⟨rfl, hq⟩; have HQ := Lib.hid hq; clear hq))
  go_ret
  exact ⟨rfl, HQ.out⟩
/-- The goroutine of a processor is laid behind all others. -/
def Sx.yld (X : Sx) (p : Nat) : Sx := { X with Q := (X.Q.1, X.Q.2 ++ [X.on p]), pr := X.pr.set p (-1, X.runs p) }
theorem Sc.pcs (h : ScA bs bq bt b3 X w F) {p : Nat} (hp : p < X.pr.length) : w.cell? ⟨b3, p * 2, none⟩ = some (.int .i64 (X.on p)) ∧ w.cell? ⟨b3, p * 2 + 1, none⟩ = some (.int .i64 (X.runs p)) ∧ ∀ i, w.frozen? ⟨b3, i, none⟩ = false := by
  obtain ⟨F2, gv, o, -, k⟩ := Sc.own h
  exact o.pc hp
theorem Sc.clearP (h : ScA bs bq bt b3 X w F) {p : Nat} (hp : p < X.pr.length) : w.cell? ⟨b3, p * 2, none⟩ = some (.int .i64 (X.on p)) ∧ (∀ i, w.frozen? ⟨b3, i, none⟩ = false) ∧ Goes (ScA bs bq bt b3 { X with pr := X.pr.set p (-1, X.runs p) }) w (w.setCell ⟨b3, p * 2, none⟩ (.int .i64 (-1))) F := by
  obtain ⟨F2, gv, o, -, k⟩ := Sc.own h
  obtain ⟨d0, d1, df⟩ := o.pc hp
  exact ⟨d0, df, k _ _ _ _ ⟨F2, ⟨_, o.setP hp (-1)⟩, (Cha.refl _ w).setCell (p := ⟨b3, p * 2, none⟩) (fun _ => o.f3) _, fun _ x => .inl x⟩⟩
theorem letgo_any (h : ScA bs bq bt b3 X w F) (p : Nat) (hp : p < X.pr.length) (hn : 0 ≤ X.on p) (hA : X.Q.2.length + 5 ≤ 17592186044416) :
    Calls Try.prog 32 #[.pointer (some ⟨bs, 0, none⟩), .pointer (some ⟨b3, p * 2, none⟩)] w fun e w' => e = .returned (.tuple #[]) ∧ Goes (ScA bs bq bt b3 (X.yld p)) w w' F := by
  obtain ⟨F2, gv, o, -, -⟩ := Sc.own h
  obtain ⟨c0, -⟩ := o.facts
  obtain ⟨d0, -, -⟩ := Sc.clearP h hp
  have C : Hid (∀ W, Cha (fun _ => False) w W → Calls Try.prog 42 #[.pointer (some ⟨bq, 0, none⟩), .int .i64 (X.on p)] W fun e w' => e = .returned (.int .i64 0) ∧ w'.cell? ⟨b3, p * 2, none⟩ = some (.int .i64 (X.on p)) ∧ w'.cell? ⟨bs, 0, none⟩ = some (.pointer (some ⟨bq, 0, none⟩)) ∧ (∀ i, w'.frozen? ⟨b3, i, none⟩ = false) ∧
      Goes (ScA bs bq bt b3 (X.yld p)) w (w'.setCell ⟨b3, p * 2, none⟩ (.int .i64 (-1))) F) := Lib.hid fun W c =>
    (sc_last (fit_sc.same h c) (X.on p) hn hA).mono fun e w' ⟨a, G⟩ => by
      obtain ⟨F1, h1, c1, n1⟩ := G.before c
      obtain ⟨e0, ef, G2⟩ := Sc.clearP h1 (p := p) hp
      obtain ⟨_, _, o1, -, -⟩ := Sc.own h1
      exact ⟨a, e0, o1.facts.1, ef, Goes.chain ⟨F1, h1, c1, n1⟩ fun F3 h3 => (Sc.clearP h3 (p := p) hp).2.2⟩
  clear h o hA hn
  generalize X.on p = y at *
  go_enter Try.func32, Try.ntmps32
  go_wp2
  go_region_held3 (fun w' => w'.cell? ⟨b3, p * 2, none⟩ = some (.int .i64 y) ∧ w'.cell? ⟨bs, 0, none⟩ = some (.pointer (some ⟨bq, 0, none⟩)))
    (first
      | exact ⟨d0, c0⟩
      | go_keep)
    (first | (go_at_call 42; (with_reducible refine (C.out _ (by first | exact (Cha.refl _ _).drew | exact (Cha.refl _ _).drewN _ | exact Cha.refl _ _)).mono ?_); rintro e w1 ⟨rfl, e0, e1, ef, hG⟩; have HG := Lib.hid hG; clear hG))
  all_goals
    go_wp2
    go_returns
    exact ⟨rfl, HG.out⟩
end
end Go.Proofs.Ytaloafihbdamiaa
