/- The scheduler: Yield, goOn, Tick, Ready, Counts. -/
import Derived.Test.YtaloafihbdamiaaSF
import Derived.Deep.QuietTactic
namespace Go.Proofs.Ytaloafihbdamiaa
open Go.ChangeShapes Go.WideShapes Go.ChangeAt Go.RowKit
section
variable {w w' : World} {F : Nat → Prop} {bs bq bt b3 : Nat} {X : Sx}
theorem Sc.cnt9 (h : ScA bs bq bt b3 X w F) {p : Nat} (hq : p < X.Q.1.length) : cnt (X.Q.1.getD p (-1, [])) ≤ 9 := by
  obtain ⟨F2, bp, z, v, q, -⟩ := Sc.que h
  obtain ⟨-, f, r⟩ := q.prc p _ (D_get hq)
  have := r.n8
  unfold cnt
  split <;> omega
theorem yield_none (p : Int) (w : World) : Calls Try.prog 16 #[.pointer none, .int .i64 p] w fun e w' => e = .returned (.int .i64 5) ∧ w = w' := by
  have C := Lib.hid (busy_none p w)
  go_enter Try.func16, Try.ntmps16
  go_wp2_with (go_at_call 31; ((with_reducible refine (C.out).mono ?_); rintro e w1 ⟨rfl, rfl⟩))
  go_ret
  exact ⟨rfl, rfl⟩
theorem yield_bad (h : ScA bs bq bt b3 X w F) (p : Int) (hp : p < 0 ∨ (X.pr.length : Int) ≤ p) : Calls Try.prog 16 #[.pointer (some ⟨bs, 0, none⟩), .int .i64 p] w fun e w' => e = .returned (.int .i64 1) ∧ w = w' := by
  have C := Lib.hid (busy_bad h p hp)
  clear h hp
  go_enter Try.func16, Try.ntmps16
  go_wp2_with (go_at_call 31; ((with_reducible refine (C.out).mono ?_); rintro e w1 ⟨rfl, rfl⟩))
  go_ret
  exact ⟨rfl, rfl⟩
theorem yield_idle (h : ScA bs bq bt b3 X w F) (p : Nat) (hp : p < X.pr.length) (hn : X.on p = -1) : Calls Try.prog 16 #[.pointer (some ⟨bs, 0, none⟩), .int .i64 (p : Int)] w fun e w' => e = .returned (.int .i64 4) ∧ w = w' := by
  have C := Lib.hid (busy_idle h p hp hn)
  clear h hp hn
  go_enter Try.func16, Try.ntmps16
  go_wp2_with (go_at_call 31; ((with_reducible refine (C.out).mono ?_); rintro e w1 ⟨rfl, rfl⟩))
  go_ret
  exact ⟨rfl, rfl⟩
theorem yield_any (h : ScA bs bq bt b3 X w F) (p : Nat) (hp : p < X.pr.length) (hn : 0 ≤ X.on p) (hA : X.Q.2.length + 5 ≤ 17592186044416) :
    Calls Try.prog 16 #[.pointer (some ⟨bs, 0, none⟩), .int .i64 (p : Int)] w fun e w' => e = .returned (.int .i64 0) ∧ Goes (ScA bs bq bt b3 (X.yld p)) w w' F := by
  have C := Lib.hid (busy_any h p hp (by show X.on p ≠ -1; omega))
  have D := Lib.hid (letgo_any h p hp hn hA)
  clear h hp hn hA
  go_enter Try.func16, Try.ntmps16
  go_wp2_with (first
    | (go_at_call 31; ((with_reducible refine (C.out).mono ?_); rintro e w1 ⟨rfl, rfl⟩))
    | (go_at_call 32; ((with_reducible refine (D.out).mono ?_); rintro e w1 ⟨rfl, hG⟩; have HG := Lib.hid hG; clear hG)))
  go_ret
  exact ⟨rfl, HG.out⟩
/-- What a processor that has a goroutine does. -/
def Sx.goon (X : Sx) (p : Nat) : Int × Sx :=
  if X.runs p < 16 then (3, { X with pr := X.pr.set p (X.on p, X.runs p + 1) }) else if cnt (X.Q.1.getD p (-1, [])) + X.Q.2.length = 0 then (3, X) else (4, X.yld p)
theorem goon_any (h : ScA bs bq bt b3 X w F) (p : Nat) (hp : p < X.pr.length) (hq : p < X.Q.1.length) (hn : 0 ≤ X.on p) (hr : 0 ≤ X.runs p) (hA : X.Q.2.length + 5 ≤ 17592186044416) :
    Calls Try.prog 28 #[.pointer (some ⟨bs, 0, none⟩), .int .i64 (p : Int)] w fun e w' => e = .returned (.int .i64 (X.goon p).1) ∧ Goes (ScA bs bq bt b3 (X.goon p).2) w w' F := by
  have H := Lib.hid h
  have CW := Lib.hid (sc_waiting h p hq)
  obtain ⟨F2, gv, o, -, k⟩ := Sc.own h
  obtain ⟨c0, c1, c2, c3, c4, cf⟩ := o.facts
  obtain ⟨d0, d1, df⟩ := Sc.pcs h hp
  have h8 := o.n8
  have HR : Hid (X.runs p < 16 → Goes (ScA bs bq bt b3 (X.goon p).2) w (w.setCell ⟨b3, p * 2 + 1, none⟩ (.int .i64 (X.runs p + 1))) F ∧ (X.goon p).1 = 3) := Lib.hid fun hlt => by
    unfold Sx.goon
    rw [if_pos hlt]
    exact ⟨k _ _ _ _ ⟨F2, ⟨_, o.setR hp _⟩, (Cha.refl _ w).setCell (p := ⟨b3, p * 2 + 1, none⟩) (fun _ => o.f3) _, fun _ x => .inl x⟩, rfl⟩
  have HW : Hid (¬ X.runs p < 16 → cnt (X.Q.1.getD p (-1, [])) + X.Q.2.length = 0 → X.goon p = (3, X)) := Lib.hid fun a b => by unfold Sx.goon; rw [if_neg a, if_pos b]
  have HL : Hid (¬ X.runs p < 16 → cnt (X.Q.1.getD p (-1, [])) + X.Q.2.length ≠ 0 → X.goon p = (4, X.yld p)) := Lib.hid fun a b => by unfold Sx.goon; rw [if_neg a, if_neg b]
  have D : Hid (∀ W, Cha (fun _ => False) w W → Calls Try.prog 32 #[.pointer (some ⟨bs, 0, none⟩), .pointer (some ⟨b3, p * 2, none⟩)] W fun e w' => e = .returned (.tuple #[]) ∧ Goes (ScA bs bq bt b3 (X.yld p)) w w' F) := Lib.hid fun W c =>
    (letgo_any (fit_sc.same h c) p hp hn hA).mono fun e w' ⟨a, G⟩ => ⟨a, G.before c⟩
  have kp : (p : Int) < X.pr.length := by omega
  have kc := Sc.cnt9 h hq
  generalize hcnt : cnt (X.Q.1.getD p (-1, [])) = c at *
  generalize hall : X.Q.2.length = m at *
  generalize X.runs p = r at *
  generalize X.pr.length = n at *
  generalize X.goon p = y at *
  clear h o k c1 c3 c4 d0 hp hn hq hcnt hall
  by_cases hlt : r < 16
  · obtain ⟨HG, he⟩ := HR.out hlt
    have HG := Lib.hid HG
    have e2 : IntKind.i64.wrap (r + 1) = r + 1 := IntWalk.i64_in _ (by omega)
    go_enter Try.func28, Try.ntmps28
    go_wp2
    go_ret
    exact ⟨rfl, HG.out⟩
  · by_cases hz : c + m = 0
    · have hy := HW.out hlt hz
      have e2 : IntKind.i64.wrap ((c : Int) + (m : Int)) = 0 := by rw [IntWalk.i64_in _ (by omega)]; omega
      have hlt2 : decide (r < 16) = false := by simpa using hlt
      clear hlt hz
      go_enter Try.func28, Try.ntmps28
      go_wp2_with (go_at_call 37; ((with_reducible refine (CW.out).mono ?_); rintro e w1 ⟨rfl, hc⟩; have HC := Lib.hid hc; clear hc))
      go_ret
      rw [hy]
      exact ⟨rfl, .same fit_sc H.out HC.out⟩
    · have hy := HL.out hlt hz
      have e2 : IntKind.i64.wrap ((c : Int) + (m : Int)) = ((c + m : Nat) : Int) := by rw [IntWalk.i64_in _ (by omega)]; omega
      have e3 : (((c + m : Nat) : Int) == 0) = false := by simp; omega
      have hlt2 : decide (r < 16) = false := by simpa using hlt
      clear hlt hz
      go_enter Try.func28, Try.ntmps28
      go_wp2_with (first
        | (go_at_call 37; ((with_reducible refine (CW.out).mono ?_); rintro e w1 ⟨rfl, hc⟩; have HC := Lib.hid hc; clear hc))
        | (go_at_call 32; ((with_reducible refine (D.out _ HC.out).mono ?_); rintro e w2 ⟨rfl, hG⟩; have HG := Lib.hid hG; clear hG)))
      go_ret
      rw [hy]
      exact ⟨rfl, HG.out⟩
end
end Go.Proofs.Ytaloafihbdamiaa
