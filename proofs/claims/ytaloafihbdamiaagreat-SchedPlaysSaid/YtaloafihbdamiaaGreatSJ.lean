/- The scheduler: Yield, goOn, Tick, Ready, Counts. -/
import Derived.Test.YtaloafihbdamiaaGreatSF
import Derived.Deep.QuietTactic
namespace Go.Proofs.YtaloafihbdamiaaGreat
open Go.ChangeShapes Go.WideShapes Go.ChangeAt Go.RowKit
section
variable {w w' : World} {F : Nat → Prop} {bs bq bt b3 : Nat} {X : Sx}
theorem Sc.cnt9 (h : ScA bs bq bt b3 X w F) {p : Nat} (hq : p < X.Q.1.length) : cnt (X.Q.1.getD p (-1, [])) ≤ 9 := by
  obtain ⟨F2, bp, z, v, q, -⟩ := Sc.que h
  obtain ⟨-, f, r⟩ := q.prc p _ (D_get hq)
  have := r.n8
  unfold cnt
  split <;> omega
theorem yield_none (p : Int) (w : World) : Calls Tryz.prog 22 #[.pointer none, .int .i64 p] w fun e w' => e = .returned (.int .i64 5) ∧ w = w' := by
  have C := Lib.hid (busy_none p w)
  go_enter Tryz.func22, Tryz.ntmps22
  go_wp2_with (go_at_call 44; ((with_reducible refine (C.out).mono ?_); rintro e w1 ⟨rfl, rfl⟩))
  go_ret
  exact ⟨rfl, rfl⟩
theorem yield_bad (h : ScA bs bq bt b3 X w F) (p : Int) (hp : p < 0 ∨ (X.pr.length : Int) ≤ p) : Calls Tryz.prog 22 #[.pointer (some ⟨bs, 0, none⟩), .int .i64 p] w fun e w' => e = .returned (.int .i64 1) ∧ w = w' := by
  have C := Lib.hid (busy_bad h p hp)
  clear h hp
  go_enter Tryz.func22, Tryz.ntmps22
  go_wp2_with (go_at_call 44; ((with_reducible refine (C.out).mono ?_); rintro e w1 ⟨rfl, rfl⟩))
  go_ret
  exact ⟨rfl, rfl⟩
theorem yield_idle (h : ScA bs bq bt b3 X w F) (p : Nat) (hp : p < X.pr.length) (hn : X.on p = -1) : Calls Tryz.prog 22 #[.pointer (some ⟨bs, 0, none⟩), .int .i64 (p : Int)] w fun e w' => e = .returned (.int .i64 4) ∧ w = w' := by
  have C := Lib.hid (busy_idle h p hp hn)
  clear h hp hn
  go_enter Tryz.func22, Tryz.ntmps22
  go_wp2_with (go_at_call 44; ((with_reducible refine (C.out).mono ?_); rintro e w1 ⟨rfl, rfl⟩))
  go_ret
  exact ⟨rfl, rfl⟩
theorem yield_any (h : ScA bs bq bt b3 X w F) (p : Nat) (hp : p < X.pr.length) (hn : 0 ≤ X.on p) (hA : X.Q.2.length + 5 ≤ 17592186044416) :
    Calls Tryz.prog 22 #[.pointer (some ⟨bs, 0, none⟩), .int .i64 (p : Int)] w fun e w' => e = .returned (.int .i64 0) ∧ Goes (ScA bs bq bt b3 (X.yld p)) w w' F := by
  have C := Lib.hid (busy_any h p hp (by show X.on p ≠ -1; omega))
  have D := Lib.hid (letgo_any h p hp hn hA)
  clear h hp hn hA
  go_enter Tryz.func22, Tryz.ntmps22
  go_wp2_with (first
    | (go_at_call 44; ((with_reducible refine (C.out).mono ?_); rintro e w1 ⟨rfl, rfl⟩))
    | (go_at_call 45; ((with_reducible refine (D.out).mono ?_); rintro e w1 ⟨rfl, hG⟩; have HG := Lib.hid hG; clear hG)))
  go_ret
  exact ⟨rfl, HG.out⟩
/-- What a processor that has a goroutine does. -/
def Sx.goon (X : Sx) (p : Nat) : Int × Sx :=
  if X.runs p < 16 then (3, { X with pr := X.pr.set p (X.on p, X.runs p + 1) }) else if cnt (X.Q.1.getD p (-1, [])) + X.Q.2.length = 0 then (3, X) else (4, X.yld p)
theorem goon_any (h : ScA bs bq bt b3 X w F) (p : Nat) (hp : p < X.pr.length) (hq : p < X.Q.1.length) (hn : 0 ≤ X.on p) (hr : 0 ≤ X.runs p) (hA : X.Q.2.length + 5 ≤ 17592186044416) :
    Calls Tryz.prog 39 #[.pointer (some ⟨bs, 0, none⟩), .int .i64 (p : Int)] w fun e w' => e = .returned (.int .i64 (X.goon p).1) ∧ Goes (ScA bs bq bt b3 (X.goon p).2) w w' F := by
  have H := Lib.hid h
  have CW := Lib.hid (sc_waiting h p hq)
  obtain ⟨F2, gv, o, -, k⟩ := Sc.own h
  obtain ⟨c0, c1, c2, c3, c4, cf⟩ := o.facts
  obtain ⟨d0, d1, df⟩ := Sc.pcs h hp
  have h8 := o.n8
  have HR : Hid (X.runs p < 16 → Goes (ScA bs bq bt b3 (X.goon p).2) w (w.setCell ⟨b3, p * 2 + 1, none⟩ (.int .i64 (X.runs p + 1))) F ∧ (X.goon p).1 = 3) := Lib.hid fun hlt => by
    unfold Sx.goon
    rw [if_pos hlt]
    exact ⟨k _ _ _ _ ⟨F2, ⟨_, o.setR hp _⟩, (Cha.refl _ w).setCell (p := ⟨b3, p * 2 + 1, none⟩) (fun _ => o.f3) _, fun _ x => .inl x⟩, rfl⟩
  have HW : Hid (¬ X.runs p < 16 → cnt (X.Q.1.getD p (-1, [])) + X.Q.2.length = 0 → X.goon p = (3, X)) := Lib.hid fun a b => by unfold Sx.goon; rw [if_neg a, if_pos b]
  have HL : Hid (¬ X.runs p < 16 → cnt (X.Q.1.getD p (-1, [])) + X.Q.2.length ≠ 0 → X.goon p = (4, X.yld p)) := Lib.hid fun a b => by unfold Sx.goon; rw [if_neg a, if_neg b]
  have D : Hid (∀ W, Cha (fun _ => False) w W → Calls Tryz.prog 45 #[.pointer (some ⟨bs, 0, none⟩), .pointer (some ⟨b3, p * 2, none⟩)] W fun e w' => e = .returned (.tuple #[]) ∧ Goes (ScA bs bq bt b3 (X.yld p)) w w' F) := Lib.hid fun W c =>
    (letgo_any (fit_sc.same h c) p hp hn hA).mono fun e w' ⟨a, G⟩ => ⟨a, G.before c⟩
  have kp : (p : Int) < X.pr.length := by omega
  have kc := Sc.cnt9 h hq
  generalize hcnt : cnt (X.Q.1.getD p (-1, [])) = c at *
  generalize hall : X.Q.2.length = m at *
  generalize X.runs p = r at *
  generalize X.pr.length = n at *
  generalize X.goon p = y at *
  clear h o k c1 c3 c4 d0 hp hn hq hcnt hall
  by_cases hlt : r < 16
  · obtain ⟨HG, he⟩ := HR.out hlt
    have HG := Lib.hid HG
    have e2 : IntKind.i64.wrap (r + 1) = r + 1 := IntWalk.i64_in _ (by omega)
    go_enter Tryz.func39, Tryz.ntmps39
    go_wp2
    go_ret
    exact ⟨rfl, HG.out⟩
  · by_cases hz : c + m = 0
    · have hy := HW.out hlt hz
      have e2 : IntKind.i64.wrap ((c : Int) + (m : Int)) = 0 := by rw [IntWalk.i64_in _ (by omega)]; omega
      have hlt2 : decide (r < 16) = false := by simpa using hlt
      clear hlt hz
      go_enter Tryz.func39, Tryz.ntmps39
      go_wp2_with (go_at_call 52; ((with_reducible refine (CW.out).mono ?_); rintro e w1 ⟨rfl, hc⟩; have HC := Lib.hid hc; clear hc))
      go_ret
      rw [hy]
      exact ⟨rfl, .same fit_sc H.out HC.out⟩
    · have hy := HL.out hlt hz
      have e2 : IntKind.i64.wrap ((c : Int) + (m : Int)) = ((c + m : Nat) : Int) := by rw [IntWalk.i64_in _ (by omega)]; omega
      have e3 : (((c + m : Nat) : Int) == 0) = false := by simp; omega
      have hlt2 : decide (r < 16) = false := by simpa using hlt
      clear hlt hz
      go_enter Tryz.func39, Tryz.ntmps39
      go_wp2_with (first
        | (go_at_call 52; ((with_reducible refine (CW.out).mono ?_); rintro e w1 ⟨rfl, hc⟩; have HC := Lib.hid hc; clear hc))
        | (go_at_call 45; ((with_reducible refine (D.out _ HC.out).mono ?_); rintro e w2 ⟨rfl, hG⟩; have HG := Lib.hid hG; clear hG)))
      go_ret
      rw [hy]
      exact ⟨rfl, HG.out⟩
end
end Go.Proofs.YtaloafihbdamiaaGreat

namespace Go.Proofs.YtaloafihbdamiaaGreat
open Go.ChangeShapes Go.WideShapes Go.ChangeAt Go.RowKit
section
variable {w w' : World} {F : Nat → Prop} {bs bq bt b3 : Nat} {X : Sx}
def Sx.tick (X : Sx) (n : Int) : Sx := { X with clk := X.clk + min n (1099511627776 - X.clk) }
theorem tick_none (n : Int) (w : World) : Calls Tryz.prog 32 #[.pointer none, .int .u64 n] w fun e w' => e = .returned (.tuple #[]) ∧ w = w' := by
  go_enter Tryz.func32, Tryz.ntmps32
  go_wp2
  go_returns
  exact ⟨rfl, rfl⟩
theorem tick_any (h : ScA bs bq bt b3 X w F) (n : Int) (hn : 0 ≤ n) (hn2 : n ≤ 18446744073709551615) :
    Calls Tryz.prog 32 #[.pointer (some ⟨bs, 0, none⟩), .int .u64 n] w fun e w' => e = .returned (.tuple #[]) ∧ Goes (ScA bs bq bt b3 (X.tick n)) w w' F := by
  obtain ⟨F2, gv, o, -, k⟩ := Sc.own h
  obtain ⟨c0, c1, c2, c3, c4, cf⟩ := o.facts
  have k0 := o.c0
  have k1 := o.c1
  have HG : Hid (∀ W, Cha (fun _ => False) w W → Goes (ScA bs bq bt b3 (X.tick n)) w (W.setCell ⟨bs, 4, none⟩ (.int .u64 (X.clk + min n (1099511627776 - X.clk)))) F) := Lib.hid fun W c =>
    k _ _ _ _ ⟨F2, ⟨gv, (o.same c).clock _ (by omega) (by omega)⟩, c.wide.setCell (p := ⟨bs, 4, none⟩) (fun _ => o.fs) _, fun _ x => .inl x⟩
  have e1 : IntKind.u64.wrap (1099511627776 - X.clk) = 1099511627776 - X.clk := IntWalk.u64_in _ (by omega)
  have e2 : IntKind.u64.wrap (X.clk + min n (1099511627776 - X.clk)) = X.clk + min n (1099511627776 - X.clk) := IntWalk.u64_in _ (by omega)
  clear h o k c0 c1 c2 c3
  go_enter Tryz.func32, Tryz.ntmps32
  go_wp2
  go_region
  all_goals
    go_wp2
    go_returns
    exact ⟨rfl, HG.out _ ((Cha.refl _ w).drewN _)⟩
theorem ready_none (p g : Int) (w : World) : Calls Tryz.prog 30 #[.pointer none, .int .i64 p, .int .i64 g] w fun e w' => e = .returned (.int .i64 5) ∧ w = w' := by
  have C := Lib.hid (sproc_none p w)
  go_enter Tryz.func30, Tryz.ntmps30
  go_wp2_with (go_at_call 35; ((with_reducible refine (C.out).mono ?_); rintro e w1 ⟨rfl, rfl⟩))
  go_ret
  exact ⟨rfl, rfl⟩
theorem ready_bad (h : ScA bs bq bt b3 X w F) (p g : Int) (hp : p < 0 ∨ (X.pr.length : Int) ≤ p) : Calls Tryz.prog 30 #[.pointer (some ⟨bs, 0, none⟩), .int .i64 p, .int .i64 g] w fun e w' => e = .returned (.int .i64 1) ∧ w = w' := by
  have C := Lib.hid (sproc_bad h p hp)
  clear h hp
  go_enter Tryz.func30, Tryz.ntmps30
  go_wp2_with (go_at_call 35; ((with_reducible refine (C.out).mono ?_); rintro e w1 ⟨rfl, rfl⟩))
  go_ret
  exact ⟨rfl, rfl⟩
theorem ready_not (h : ScA bs bq bt b3 X w F) (p : Nat) (g : Int) (hp : p < X.pr.length) (hg : g < 0 ∨ (X.gs.length : Int) ≤ g) : Calls Tryz.prog 30 #[.pointer (some ⟨bs, 0, none⟩), .int .i64 (p : Int), .int .i64 g] w fun e w' => e = .returned (.int .i64 4) ∧ w = w' := by
  have C := Lib.hid (sproc_any h p hp)
  have D := Lib.hid (isgo_bad h g hg)
  clear h hp hg
  go_enter Tryz.func30, Tryz.ntmps30
  go_wp2_with (first
    | (go_at_call 35; ((with_reducible refine (C.out).mono ?_); rintro e w1 ⟨rfl, rfl⟩))
    | (go_at_call 37; ((with_reducible refine (D.out).mono ?_); rintro e w1 ⟨rfl, rfl⟩)))
  go_ret
  exact ⟨rfl, rfl⟩
theorem ready_busy (h : ScA bs bq bt b3 X w F) (p g : Nat) (hp : p < X.pr.length) (hg : g < X.gs.length) (hs : X.gs.getD g (0, false) ≠ (2, false)) : Calls Tryz.prog 30 #[.pointer (some ⟨bs, 0, none⟩), .int .i64 (p : Int), .int .i64 (g : Int)] w fun e w' => e = .returned (.int .i64 4) ∧ w = w' := by
  have C := Lib.hid (sproc_any h p hp)
  have D := Lib.hid (isgo_any h g hg)
  obtain ⟨F2, gv, o, -, -⟩ := Sc.own h
  obtain ⟨-, -, -, c3, -, cf⟩ := o.facts
  have h8 := o.g64
  obtain ⟨b, off, cap, rfl, hc1, hc2, d0, d1, df, -⟩ := o.gc hg
  have e : (X.gs.getD g (0, false)).2 = true ∨ ((X.gs.getD g (0, false)).2 = false ∧ ¬ (X.gs.getD g (0, false)).1 = 2) := by
    rcases hx : X.gs.getD g (0, false) with ⟨a, b⟩
    rw [hx] at hs
    cases b
    · exact .inr ⟨rfl, fun e => hs (by rw [show a = 2 from e])⟩
    · exact .inl rfl
  clear h o hs
  generalize (X.gs.getD g (0, false)).1 = y1 at *
  generalize (X.gs.getD g (0, false)).2 = y2 at *
  generalize X.gs.length = n at *
  rcases e with rfl | ⟨rfl, e⟩
  · go_enter Tryz.func30, Tryz.ntmps30
    go_wp2_with (first
      | (go_at_call 35; ((with_reducible refine (C.out).mono ?_); rintro e w1 ⟨rfl, rfl⟩))
      | (go_at_call 37; ((with_reducible refine (D.out).mono ?_); rintro e w1 ⟨rfl, rfl⟩)))
    all_goals
      go_ret
      exact ⟨rfl, rfl⟩
  · go_enter Tryz.func30, Tryz.ntmps30
    go_wp2_with (first
      | (go_at_call 35; ((with_reducible refine (C.out).mono ?_); rintro e w1 ⟨rfl, rfl⟩))
      | (go_at_call 37; ((with_reducible refine (D.out).mono ?_); rintro e w1 ⟨rfl, rfl⟩)))
    all_goals
      go_ret
      exact ⟨rfl, rfl⟩
theorem ready_any (h : ScA bs bq bt b3 X w F) (p g : Nat) (hp : p < X.pr.length) (hq : p < X.Q.1.length) (hg : g < X.gs.length) (hs : X.gs.getD g (0, false) = (2, false)) (hA : X.Q.2.length + 5 ≤ 17592186044416) :
    Calls Tryz.prog 30 #[.pointer (some ⟨bs, 0, none⟩), .int .i64 (p : Int), .int .i64 (g : Int)] w fun e w' => e = .returned (.int .i64 0) ∧ Goes (ScA bs bq bt b3 (X.rdy p g)) w w' F := by
  have C := Lib.hid (sproc_any h p hp)
  have D := Lib.hid (isgo_any h g hg)
  have M := Lib.hid (makeready_any h p g hq hg hA)
  obtain ⟨F2, gv, o, -, -⟩ := Sc.own h
  obtain ⟨-, -, -, c3, -, cf⟩ := o.facts
  have h8 := o.g64
  obtain ⟨b, off, cap, rfl, hc1, hc2, d0, d1, df, -⟩ := o.gc hg
  rw [hs] at d0 d1
  clear h o hs
  generalize X.gs.length = n at *
  go_enter Tryz.func30, Tryz.ntmps30
  go_wp2_with (first
    | (go_at_call 35; ((with_reducible refine (C.out).mono ?_); rintro e w1 ⟨rfl, rfl⟩))
    | (go_at_call 37; ((with_reducible refine (D.out).mono ?_); rintro e w1 ⟨rfl, rfl⟩))
    | (go_at_call 38; ((with_reducible refine (M.out).mono ?_); rintro e w1 ⟨rfl, hG⟩; have HG := Lib.hid hG; clear hG)))
  go_ret
  exact ⟨rfl, HG.out⟩
end
end Go.Proofs.YtaloafihbdamiaaGreat

namespace Go.Proofs.YtaloafihbdamiaaGreat
open Go.ChangeShapes Go.WideShapes Go.ChangeAt Go.RowKit
section
variable {w w' : World} {F : Nat → Prop} {bs bq bt b3 : Nat} {X : Sx}
/-- How many can go on. -/
def able (G : List (Int × Bool)) : Nat := G.countP fun s => s.1 == 1
theorem able_take (G : List (Int × Bool)) {j : Nat} (hj : j < G.length) : able (G.take (j + 1)) = able (G.take j) + if (G.getD j (0, false)).1 = 1 then 1 else 0 := by
  unfold able
  rw [List.take_add_one, List.getElem?_eq_getElem hj, List.countP_append]
  congr 1
  simp [List.getD, hj, List.countP_cons]
theorem counts_none (w : World) : Calls Tryz.prog 8 #[.pointer none] w fun e w' => e = .returned (.tuple #[.int .u64 0, .int .i64 0, .int .i64 0]) ∧ w = w' := by
  go_enter Tryz.func8, Tryz.ntmps8
  go_wp2
  go_returns
  exact ⟨rfl, rfl⟩
theorem counts_any (h : ScA bs bq bt b3 X w F) (hm : many X.P ≤ 1024) :
    Calls Tryz.prog 8 #[.pointer (some ⟨bs, 0, none⟩)] w fun e w' => e = .returned (.tuple #[.int .u64 X.clk, .int .i64 (able X.gs : Nat), .int .i64 (many X.P : Nat)]) ∧ Cha (fun _ => False) w w' := by
  have HS : Hid (∀ W, Cha (fun _ => False) w W → W.cell? ⟨bs, 1, none⟩ = some (.pointer (some ⟨bt, 0, none⟩)) ∧ W.cell? ⟨bs, 4, none⟩ = some (.int .u64 X.clk) ∧
      Calls Tryz.prog 34 #[.pointer (some ⟨bt, 0, none⟩)] W fun e w' => e = .returned (.int .i64 (many X.P : Nat)) ∧ w'.cell? ⟨bs, 1, none⟩ = some (.pointer (some ⟨bt, 0, none⟩)) ∧ w'.cell? ⟨bs, 4, none⟩ = some (.int .u64 X.clk) ∧ Cha (fun _ => False) w w') := Lib.hid fun W c => by
    obtain ⟨F2, gv, o, -, -⟩ := Sc.own (fit_sc.same h c)
    obtain ⟨c0, c1, c2, c3, c4, cf⟩ := o.facts
    refine ⟨c1, c4, (sc_count (fit_sc.same h c) hm).mono fun e w' ⟨a, d⟩ => ?_⟩
    obtain ⟨-, d1, -, -, d4, -⟩ := (o.same d).facts
    exact ⟨a, d1, d4, c.trans d⟩
  obtain ⟨F2, gv, o, -, -⟩ := Sc.own h
  obtain ⟨c0, c1, c2, c3, c4, cf⟩ := o.facts
  have h8 := o.g64
  obtain ⟨b, off, cap, hgv, hc1, hc2⟩ : ∃ b off cap, gv = .slice b X.gs.length cap ∧ X.gs.length ≤ cap ∧ off = 0 := by
    obtain ⟨a, cap, e, h1, h2⟩ := o.gls.form
    exact ⟨a, 0, cap, e, h1, rfl⟩
  clear hc2
  have HE : Hid (∀ j, j < X.gs.length → ∃ g o', b = some ⟨g, o', none⟩ ∧ ∀ W, Cha (fun _ => False) w W → W.cell? ⟨g, o' + j * 2, none⟩ = some (.int .i64 (X.gs.getD j (0, false)).1) ∧ W.cell? ⟨g, o' + j * 2 + 1, none⟩ = some (.bool (X.gs.getD j (0, false)).2)) := Lib.hid fun j hj => by
    obtain ⟨g, o', cap', e, -, -, hh⟩ := o.gls.cells goE_ok (by omega)
    rw [hgv] at e
    injection e with e1 e2 e3
    refine ⟨g, o', e1, fun W c => ?_⟩
    obtain ⟨k1, -⟩ := hh W (c.mono fun _ _ f => f.elim)
    have e : X.gs[j] = X.gs.getD j (0, false) := by simp [List.getD, hj]
    rw [← e]
    exact ⟨k1 j 0 hj (by decide), k1 j 1 hj (by decide)⟩
  subst hgv
  have HT := Lib.hid fun j (hj : j < X.gs.length) => able_take X.gs hj
  have HB := Lib.hid fun j => (show able (X.gs.take j) ≤ 64 by unfold able; have := List.countP_le_length (p := fun s : Int × Bool => s.1 == 1) (l := X.gs.take j); have := List.length_take (i := j) (l := X.gs); omega)
  have HF : Hid (able (X.gs.take X.gs.length) = able X.gs) := Lib.hid (by rw [List.take_length])
  have HK : Hid (∀ W, Cha (fun _ => False) w W → Cha (fun _ => False) w W) := Lib.hid fun _ c => c
  clear o h c0 c1 c2 c4 cf
  generalize hG : X.gs = G at *
  go_enter Tryz.func8, Tryz.ntmps8
  go_wp2
  go_loopw [5, 15] (fun r i wr => ∃ j : Nat, j ≤ G.length ∧ i = .int .i64 (j : Int) ∧ r = .int .i64 (able (G.take j) : Nat) ∧ Cha (fun _ => False) w wr) (fun _ i _ => G.length - (intOf i).toNat)
  case atStart => exact ⟨0, Nat.zero_le _, rfl, rfl, Cha.refl _ _⟩
  case round =>
    obtain ⟨j, hj, rfl, rfl, hC⟩ := hrel
    have HC := Lib.hid hC
    have hb := HB.out j
    clear hC
    by_cases hlt : j < G.length
    · obtain ⟨g, o', rfl, hz⟩ := HE.out j hlt
      obtain ⟨z0, z1⟩ := hz wr HC.out
      have ht := HT.out j hlt
      have hb2 := HB.out (j + 1)
      have k1 : (j : Int) < G.length := by omega
      have k2 : (0 : Int) ≤ (j : Int) := by omega
      generalize (G.getD j (0, false)).2 = y2 at *
      generalize (G.getD j (0, false)).1 = y at *
      clear hz
      by_cases hy : y = 1
      · subst hy
        rw [if_pos rfl] at ht
        have e2 : IntKind.i64.wrap ((able (G.take j) : Int) + 1) = ((able (G.take (j + 1)) : Nat) : Int) := by rw [IntWalk.i64_in _ (by omega)]; omega
        go_wp2
        go_roundw
        case rel => exact ⟨j + 1, by omega, by go_num, by congr 1; omega, HC.out.trans ((Cha.refl (fun _ => False) wr).alloc _)⟩
        case measure => simp [intOf]; omega
      · have hy2 : (y == 1) = false := by simpa using hy
        rw [if_neg hy, Nat.add_zero] at ht
        go_wp2
        go_roundw
        case rel => exact ⟨j + 1, by omega, by go_num, by congr 1; omega, HC.out.trans ((Cha.refl (fun _ => False) wr).alloc _)⟩
        case measure => simp [intOf]; omega
    · obtain rfl : j = G.length := by omega
      rw [HF.out]
      go_wp2
      obtain ⟨q1, q2, -⟩ := HS.out wr HC.out
      go_region_held3 (fun w' => w'.cell? ⟨bs, 1, none⟩ = some (.pointer (some ⟨bt, 0, none⟩)) ∧ w'.cell? ⟨bs, 4, none⟩ = some (.int .u64 X.clk))
        (first
          | exact ⟨q1, q2⟩
          | go_keep)
        (first | (go_at_call 34; (with_reducible refine ((HS.out _ (HC.out.trans (by first | exact (Cha.refl _ _).drew | exact (Cha.refl _ _).drewN _ | exact Cha.refl _ _))).2.2).mono ?_); rintro e w1 ⟨rfl, e1, e4, hc⟩; have HCC := Lib.hid hc; clear hc))
      all_goals
        go_wp2
        go_returns
        exact ⟨rfl, by first | exact HCC.out | exact HCC.out.drew⟩
end
end Go.Proofs.YtaloafihbdamiaaGreat

namespace Go.Proofs.YtaloafihbdamiaaGreat
open Go.ChangeShapes Go.WideShapes Go.ChangeAt Go.RowKit
theorem info63 : (Tryz.prog.info? 60).map (fun i => (i.zero, i.size, i.bytes)) = some (some (.agg #[.int .i64 0, .int .i64 0]), 2, 16) := by kernel_rfl
theorem made_two (m : Nat) : madeCells (Value.agg #[.int .i64 0, .int .i64 0]).cells (m * 2) = fcells (m * 2) (fun _ => .int .i64 0) := by
  unfold madeCells fcells
  congr 1
  funext x
  show (#[Value.int .i64 0, .int .i64 0])[x % 2]! = _
  have : x % 2 = 0 ∨ x % 2 = 1 := by omega
  rcases this with e | e <;> rw [e] <;> rfl
theorem mk_two (m : Nat) (hm : m ≤ 1000000) (W : World) : (Instr.makeSlice 55 (.int .i64 (m : Int)) (.int .i64 (m : Int))).run Tryz.prog W = .ok (.slice (some ⟨W.heap.size, 0, none⟩) m m) (W.alloc (.cells (fcells (m * 2) (fun _ => .int .i64 0)) 60)) := by
  obtain ⟨i, hi, hz, hs, hb⟩ := info_parts info63
  have h := run_make (P := Tryz.prog) W 55 60 i _ Tryz.underlying55 hi hz .i64 .i64 (m : Int) (m : Int) (by omega) (by omega) (by rw [hb]; omega) (by omega)
  rw [hs, Int.toNat_natCast, made_two] at h
  exact h
/-- Of so many processors the first ones have been told that they have none. -/
def prN (n j : Nat) : List (Int × Int) := (List.range n).map fun i => if i < j then (-1, 0) else (0, 0)
theorem prN_len (n j : Nat) : (prN n j).length = n := by simp [prN]
theorem prN_at (n j i : Nat) : (prN n j)[i]? = if i < n then some (if i < j then (-1, 0) else (0, 0)) else none := by
  by_cases c : i < n
  · rw [if_pos c]; simp [prN, c]
  · rw [if_neg c]; simp [prN]; omega
theorem prN_get (n j i : Nat) (h : i < n) : (prN n j).getD i (-1, 0) = if i < j then (-1, 0) else (0, 0) := by
  rw [List.getD, prN_at, if_pos h]; rfl
theorem prN_set (n j : Nat) (h : j < n) : (prN n j).set j (-1, 0) = prN n (j + 1) := by
  apply List.ext_getElem?
  intro i
  rw [List.getElem?_set, prN_at, prN_at, prN_len]
  by_cases e : j = i
  · subst e; rw [if_pos rfl, if_pos h, if_pos h, if_pos (by omega)]
  · rw [if_neg e]
    by_cases c : i < j
    · rw [if_pos c, if_pos (show i < j + 1 by omega)]
    · rw [if_neg c, if_neg (show ¬ i < j + 1 by omega)]
theorem prN_all (n : Nat) : prN n n = List.replicate n (-1, 0) := by
  apply List.ext_getElem?
  intro i
  rw [prN_at, List.getElem?_replicate]
  by_cases c : i < n
  · rw [if_pos c, if_pos c, if_pos c]
  · rw [if_neg c, if_neg c]
def Sx.ini (n : Nat) : Sx := ⟨Go.Proofs.YtaloafihbdamiaaGreat.ini n, List.replicate n [], 0, List.replicate n (-1, 0), [], 0⟩
theorem schnew_bad (n : Int) (w : World) (h : n < 1 ∨ 8 < n) : Calls Tryz.prog 4 #[.int .i64 n] w fun e w' => e = .returned (.tuple #[.pointer none, .int .i64 1]) ∧ w = w' := by
  have C := Lib.hid (new_bad n w h)
  clear h
  go_enter Tryz.func4, Tryz.ntmps4
  go_wp2_with (go_at_call 14; ((with_reducible refine (C.out).mono ?_); rintro e w1 ⟨rfl, rfl⟩))
  go_returns
  exact ⟨rfl, rfl⟩
set_option maxHeartbeats 1000000 in
theorem schnew_ok (n : Nat) (w : World) (h1 : 1 ≤ n) (h2 : n ≤ 8) : Calls Tryz.prog 4 #[.int .i64 (n : Int)] w fun e w' => ∃ bs bq bt b3, e = .returned (.tuple #[.pointer (some ⟨bs, 0, none⟩), .int .i64 0]) ∧ Mine w (ScA bs bq bt b3 (Sx.ini n)) w' := by
  have C1 : Hid (Calls Tryz.prog 14 #[.int .i64 (n : Int)] w fun e w' => e = .returned (.tuple #[.pointer (some ⟨w.heap.size + 1, 0, none⟩), .int .i64 0]) ∧ Mine w (QuA (w.heap.size + 1) (Go.Proofs.YtaloafihbdamiaaGreat.ini n)) w') := Lib.hid
    ((new_ok n w h1 h2).mono fun e w' ⟨a, q, c⟩ => ⟨a, _, ⟨_, _, _, q⟩, c, fun i hi => by omega⟩)
  have C2 : Hid (∀ w1, Calls Tryz.prog 15 #[.int .i64 (n : Int)] w1 fun e w' => e = .returned (.tuple #[.pointer (some ⟨w1.heap.size + 1, 0, none⟩), .int .i64 0]) ∧ Mine w1 (TiA (w1.heap.size + 1) (List.replicate n []) 0) w') := Lib.hid fun w1 =>
    ((tnew_ok n w1 h1 h2).mono fun e w' ⟨a, q, c⟩ => ⟨a, _, ⟨_, _, q⟩, c, fun i hi => by omega⟩)
  have HM := Lib.hid fun W => mk_two n (by omega) W
  have HO : Hid (∀ (w2 : World) (bq bt : Nat), Mine w2 (OwA (w2.heap.size + 1) bq bt w2.heap.size (prN n 0) [] 0) ((w2.alloc (.cells (fcells (n * 2) fun _ => .int .i64 0) 60)).alloc (.cells #[.pointer (some ⟨bq, 0, none⟩), .pointer (some ⟨bt, 0, none⟩), .slice (some ⟨w2.heap.size, 0, none⟩) n n, .slice none 0 0, .int .u64 0] 58))) := Lib.hid fun w2 bq bt => by
    have hd := heap_alloc2_new w2 (.cells (fcells (n * 2) fun _ => .int .i64 0) 60) (.cells #[.pointer (some ⟨bq, 0, none⟩), .pointer (some ⟨bt, 0, none⟩), .slice (some ⟨w2.heap.size, 0, none⟩) n n, .slice none 0 0, .int .u64 0] 58)
    refine ⟨fun i => i = w2.heap.size ∨ i = w2.heap.size + 1, ⟨.slice none 0 0, { head := by rw [prN_len]; exact hd, prs := ?_, gls := En.Lies.nil _ _, ne := by omega, gb := fun b e => (by cases e), fs := .inr rfl, f3 := .inl rfl, n8 := by rw [prN_len]; exact h2, g64 := by decide, c0 := by decide, c1 := by decide, old := fun i hi => ?_ }⟩, ((Cha.refl _ w2).alloc _).alloc _, fun i hi => by omega⟩
    · rw [prN_len]
      refine (show FRow 60 _ w2.heap.size (n * 2) (fun _ => .int .i64 0) from heap_alloc2_old w2 _ _).congr fun i hi => ?_
      unfold prV
      rw [prN_get n 0 (i / 2) (by omega), if_neg (Nat.not_lt_zero _)]
      split <;> rfl
    · have := (Array.getElem?_eq_some_iff.1 hd).1; omega
  have HF : Hid (∀ (bs bq bt b3 : Nat) (W : World), Mine w (ScA bs bq bt b3 { Sx.ini n with pr := prN n n }) W → Mine w (ScA bs bq bt b3 (Sx.ini n)) W) := Lib.hid fun bs bq bt b3 W h => by rw [prN_all] at h; exact h
  go_enter Tryz.func4, Tryz.ntmps4
  go_wp2_with (first
    | (go_at_call 14; ((with_reducible refine (C1.out).mono ?_); rintro e w1 ⟨rfl, hM⟩; have M1 := Lib.hid hM; clear hM))
    | (go_at_call 15; ((with_reducible refine (C2.out w1).mono ?_); rintro e w2 ⟨rfl, hM⟩; have M2 := Lib.hid ((M1.out.star fit_qu fit_ti hM).star (fit_qu.star fit_ti) fit_ow (HO.out w2 (w.heap.size + 1) (w1.heap.size + 1))); clear hM))
    | (rw [HM.out]))
  generalize w.heap.size + 1 = bq at *
  generalize w1.heap.size + 1 = bt at *
  generalize hbs : w2.heap.size + 1 = bs at *
  generalize hb3 : w2.heap.size = b3 at *
  have M3 : Hid (Mine w (ScA bs bq bt b3 { Sx.ini n with pr := prN n 0 }) _) := M2
  clear M1 M2 HO C1 C2 HM hbs
  go_loopw [8, 36] (fun _ i wr => ∃ j : Nat, j ≤ n ∧ i = .int .i64 (j : Int) ∧ Mine w (ScA bs bq bt b3 { Sx.ini n with pr := prN n j }) wr) (fun _ i _ => n - (intOf i).toNat)
  case atStart => exact ⟨0, Nat.zero_le _, rfl, M3.out⟩
  case round =>
    clear M3
    obtain ⟨j, hj, rfl, hM⟩ := hrel
    have HM := Lib.hid hM
    obtain ⟨F, q, -, -⟩ := hM
    obtain ⟨F2, gv, o, -, -⟩ := Sc.own q
    obtain ⟨-, -, c2', -, -, -⟩ := o.facts
    have c2 : wr.cell? ⟨bs, 2, none⟩ = some (.slice (some ⟨b3, 0, none⟩) n n) := by rw [c2']; show some (Value.slice _ (prN n j).length (prN n j).length) = _; rw [prN_len]
    by_cases hlt : j < n
    · have hl : j < (prN n j).length := by rw [prN_len]; exact hlt
      obtain ⟨d0, -, df⟩ := Sc.pcs (p := j) q hl
      have HN : Hid (Mine w (ScA bs bq bt b3 { Sx.ini n with pr := prN n (j + 1) }) (wr.setCell ⟨b3, j * 2, none⟩ (.int .i64 (-1)))) := Lib.hid (HM.out.goes fun F q => by
        have := (Sc.clearP (p := j) q hl).2.2
        have e : Sx.runs { Sx.ini n with pr := prN n j } j = 0 := by
          show ((prN n j).getD j (-1, 0)).2 = 0
          rw [prN_get n j j hlt]; split <;> rfl
        rw [e] at this
        dsimp only at this
        rw [prN_set n j hlt] at this
        exact this)
      clear o q HM hl c2'
      go_wp2
      go_roundw
      case rel => exact ⟨j + 1, by omega, by go_num, HN.out⟩
      case measure => simp [intOf]; omega
    · obtain rfl : j = n := by omega
      have HQ := Lib.hid (HF.out _ _ _ _ _ HM.out)
      clear o q HM c2'
      go_wp2
      go_returns
      first | exact ⟨bs, bq, bt, b3, rfl, HQ.out⟩ | exact ⟨bs, rfl, bq, bt, b3, HQ.out⟩
end Go.Proofs.YtaloafihbdamiaaGreat
