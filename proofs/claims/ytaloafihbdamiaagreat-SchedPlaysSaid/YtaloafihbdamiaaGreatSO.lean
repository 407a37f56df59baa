/- The scheduler: Act. -/
import Derived.Test.YtaloafihbdamiaaGreatSN
namespace Go.Proofs.YtaloafihbdamiaaGreat
open Go.ChangeShapes Go.WideShapes Go.ChangeAt Go.RowKit
/-- A processor takes a goroutine. -/
def Sx.take (X : Sx) (p : Nat) (g : Int) : Sx := { X with pr := X.pr.set p (g, 0) }
def Sx.act (X : Sx) (p : Nat) (s : Int) : (Int × Int) × Sx :=
  if X.on p = -1 then (if (X.find p s).1.2 then ((2, (X.find p s).1.1), (X.find p s).2.take p (X.find p s).1.1) else ((1, 0), (X.find p s).2))
  else (((X.goon p).1, X.on p), (X.goon p).2)
section
variable {w w' : World} {F : Nat → Prop} {bs bq bt b3 : Nat} {X : Sx}
theorem find_pr (X : Sx) (p : Nat) (s : Int) : (X.find p s).2.pr = X.pr := by
  unfold Sx.find
  split
  · exact wake_pr X p
  · split
    · exact wake_pr X p
    · exact (wake_pr _ p).trans (wake_pr X p)
theorem act_none (p s : Int) (w : World) : Calls Tryz.prog 19 #[.pointer none, .int .i64 p, .int .i64 s] w fun e w' => e = .returned (.tuple #[.int .i64 0, .int .i64 0, .int .i64 5]) ∧ w = w' := by
  have C := Lib.hid (sproc_none p w)
  go_enter Tryz.func19, Tryz.ntmps19
  go_wp2_with (go_at_call 35; ((with_reducible refine (C.out).mono ?_); rintro e w1 ⟨rfl, rfl⟩))
  go_returns
  exact ⟨rfl, rfl⟩
theorem act_bad (h : ScA bs bq bt b3 X w F) (p s : Int) (hp : p < 0 ∨ (X.pr.length : Int) ≤ p) : Calls Tryz.prog 19 #[.pointer (some ⟨bs, 0, none⟩), .int .i64 p, .int .i64 s] w fun e w' => e = .returned (.tuple #[.int .i64 0, .int .i64 0, .int .i64 1]) ∧ w = w' := by
  have C := Lib.hid (sproc_bad h p hp)
  clear h hp
  go_enter Tryz.func19, Tryz.ntmps19
  go_wp2_with (go_at_call 35; ((with_reducible refine (C.out).mono ?_); rintro e w1 ⟨rfl, rfl⟩))
  go_returns
  exact ⟨rfl, rfl⟩
theorem Sc.putP (h : ScA bs bq bt b3 X w F) {p : Nat} (hp : p < X.pr.length) (g : Int) : Goes (ScA bs bq bt b3 (X.take p g)) w ((w.setCell ⟨b3, p * 2, none⟩ (.int .i64 g)).setCell ⟨b3, p * 2 + 1, none⟩ (.int .i64 0)) F := by
  obtain ⟨F2, gv, o, -, k⟩ := Sc.own h
  exact k _ _ _ _ ⟨F2, ⟨_, o.setPR hp g 0⟩, ((Cha.refl _ w).setCell (p := ⟨b3, p * 2, none⟩) (fun _ => o.f3) _).setCell (p := ⟨b3, p * 2 + 1, none⟩) (fun _ => o.f3) _, fun _ x => .inl x⟩
theorem act_any (h : ScA bs bq bt b3 X w F) (f : Fine 1000 X) (p : Nat) (s : Int) (hp : p < X.pr.length) (hn : X.on p = -1 ∨ 0 ≤ X.on p) (hr : 0 ≤ X.runs p) :
    Calls Tryz.prog 19 #[.pointer (some ⟨bs, 0, none⟩), .int .i64 (p : Int), .int .i64 s] w fun e w' => e = .returned (.tuple #[.int .i64 (X.act p s).1.1, .int .i64 (X.act p s).1.2, .int .i64 0]) ∧ Goes (ScA bs bq bt b3 (X.act p s).2) w w' F := by
  have C := Lib.hid (sproc_any h p hp)
  obtain ⟨d0, -, df⟩ := Sc.pcs h hp
  by_cases hi : X.on p = -1
  · have D := Lib.hid (find_any h f p s hp)
    have hx : X.act p s = (if (X.find p s).1.2 then ((2, (X.find p s).1.1), (X.find p s).2.take p (X.find p s).1.1) else ((1, 0), (X.find p s).2)) := by unfold Sx.act; rw [if_pos hi]
    have hpr := find_pr X p s
    obtain ⟨⟨⟨g, b⟩, Y⟩, hY⟩ : ∃ r, r = X.find p s := ⟨_, rfl⟩
    rw [← hY] at D hx hpr
    have D : Hid (Calls Tryz.prog 40 #[.pointer (some ⟨bs, 0, none⟩), .int .i64 (p : Int), .int .i64 s] w fun e w' => e = .returned (.tuple #[.int .i64 g, .bool b]) ∧ Goes (ScA bs bq bt b3 Y) w w' F) := D
    have hpr : Y.pr = X.pr := hpr
    have HP : Hid (∀ w1, Goes (ScA bs bq bt b3 Y) w w1 F → (w1.cell? ⟨b3, p * 2, none⟩ = some (.int .i64 (Y.on p)) ∧ w1.cell? ⟨b3, p * 2 + 1, none⟩ = some (.int .i64 (Y.runs p)) ∧ ∀ i, w1.frozen? ⟨b3, i, none⟩ = false) ∧ Goes (ScA bs bq bt b3 (Y.take p g)) w ((w1.setCell ⟨b3, p * 2, none⟩ (.int .i64 g)).setCell ⟨b3, p * 2 + 1, none⟩ (.int .i64 0)) F) := Lib.hid fun w1 G => by
      have G0 := G
      obtain ⟨F1, h1, c1, n1⟩ := G
      exact ⟨Sc.pcs h1 (p := p) (by rw [hpr]; exact hp), G0.chain fun F3 h3 => Sc.putP h3 (by rw [hpr]; exact hp) g⟩
    rw [hi] at d0
    clear h f hY hi hn hr hpr
    cases b with
    | true =>
      have hx : X.act p s = ((2, g), Y.take p g) := hx
      go_enter Tryz.func19, Tryz.ntmps19
      go_wp2_with (first
        | (go_at_call 35; ((with_reducible refine (C.out).mono ?_); rintro e w1 ⟨rfl, rfl⟩))
        | (go_at_call 40; ((with_reducible refine (D.out).mono ?_); rintro e w2 ⟨rfl, hG⟩; obtain ⟨⟨q0, q1, qf⟩, hG2⟩ := HP.out _ hG; have G2 := Lib.hid hG2; clear hG hG2)))
      go_returns
      rw [hx]
      exact ⟨rfl, G2.out⟩
    | false =>
      have hx : X.act p s = ((1, 0), Y) := hx
      go_enter Tryz.func19, Tryz.ntmps19
      go_wp2_with (first
        | (go_at_call 35; ((with_reducible refine (C.out).mono ?_); rintro e w1 ⟨rfl, rfl⟩))
        | (go_at_call 40; ((with_reducible refine (D.out).mono ?_); rintro e w2 ⟨rfl, hG⟩; have G2 := Lib.hid hG; clear hG)))
      go_returns
      rw [hx]
      exact ⟨rfl, G2.out⟩
  · have D := Lib.hid (goon_any h p hp (by rw [f.lq]; exact hp) (by omega) hr (by have := f.qa; omega))
    have hx : X.act p s = (((X.goon p).1, X.on p), (X.goon p).2) := by unfold Sx.act; rw [if_neg hi]
    rw [hx]
    clear h f hn hr hx
    generalize X.goon p = y at *
    generalize X.on p = z at *
    go_enter Tryz.func19, Tryz.ntmps19
    go_wp2_with (first
      | (go_at_call 35; ((with_reducible refine (C.out).mono ?_); rintro e w1 ⟨rfl, rfl⟩))
      | (go_at_call 39; ((with_reducible refine (D.out).mono ?_); rintro e w2 ⟨rfl, hG⟩; have G2 := Lib.hid hG; clear hG)))
    go_returns
    exact ⟨rfl, G2.out⟩
end
end Go.Proofs.YtaloafihbdamiaaGreat
