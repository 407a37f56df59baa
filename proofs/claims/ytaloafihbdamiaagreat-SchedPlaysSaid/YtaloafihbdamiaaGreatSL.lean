/- The scheduler: dueElsewhere, wake. -/
import Derived.Test.YtaloafihbdamiaaGreatSK
namespace Go.Proofs.YtaloafihbdamiaaGreat
open Go.ChangeShapes Go.WideShapes Go.ChangeAt Go.RowKit
/-- Is a timer of another processor due? -/
def Sx.vic (X : Sx) (p v : Nat) : Bool := v != p && X.due v
/-- The first processor whose first timer is due, from f on. -/
def Sx.els (X : Sx) (p f : Nat) : Option Nat := ((List.range X.pr.length).find? fun i => X.vic p ((f + i) % X.pr.length)).map fun i => (f + i) % X.pr.length
theorem els_none {X : Sx} {p f : Nat} (h : ∀ m, m < X.pr.length → X.vic p ((f + m) % X.pr.length) = false) : X.els p f = none := by
  unfold Sx.els
  rw [List.find?_eq_none.2 fun m hm => by rw [h m (List.mem_range.1 hm)]; exact Bool.false_ne_true]
  rfl
theorem els_some {X : Sx} {p f i : Nat} (hi : i < X.pr.length) (h : ∀ m, m < i → X.vic p ((f + m) % X.pr.length) = false) (hv : X.vic p ((f + i) % X.pr.length) = true) : X.els p f = some ((f + i) % X.pr.length) := by
  unfold Sx.els
  have e : (List.range X.pr.length).find? (fun i => X.vic p ((f + i) % X.pr.length)) = some i := by
    rw [List.find?_range_eq_some]
    exact ⟨hv, List.mem_range.2 hi, fun j hj => by rw [h j hj]; rfl⟩
  rw [e]
  rfl
section
variable {w w' : World} {F : Nat → Prop} {bs bq bt b3 : Nat} {X : Sx}
set_option maxRecDepth 100000 in
set_option maxHeartbeats 1000000 in
theorem els_any (h : ScA bs bq bt b3 X w F) (p : Nat) (s : Int) (hp : p < X.pr.length) (hP : X.P.length = X.pr.length) :
    Calls Tryz.prog 55 #[.pointer (some ⟨bs, 0, none⟩), .int .i64 (p : Int), .int .i64 s] w fun e w' => e = .returned (.tuple #[.int .i64 ((X.els p (s % (X.pr.length : Int)).toNat).getD 0 : Nat), .bool (X.els p (s % (X.pr.length : Int)).toNat).isSome]) ∧ Cha (fun _ => False) w w' := by
  have CD : Hid (∀ v : Nat, v < X.pr.length → Calls Tryz.prog 76 #[.pointer (some ⟨bs, 0, none⟩), .int .i64 (v : Int)] w fun e w' => e = .returned (.bool (X.due v)) ∧ w = w') := Lib.hid fun v hv => isdue_any h v (by rw [hP]; exact hv)
  obtain ⟨F2, gv, o, -, -⟩ := Sc.own h
  obtain ⟨-, -, c2, -, -, -⟩ := o.facts
  obtain ⟨k, hk⟩ : ∃ k, k = X.pr.length := ⟨_, rfl⟩
  have h8 := o.n8
  rw [← hk] at c2 h8 hp ⊢
  have h1 : 1 ≤ k := by omega
  obtain ⟨r, hr⟩ : ∃ r, s.tmod (k : Int) = r := ⟨_, rfl⟩
  obtain ⟨hr1, hr2, e3⟩ := rest_of s k h1 h8
  rw [hr] at hr1 hr2 e3
  obtain ⟨f, hf⟩ : ∃ f, f = (s % (k : Int)).toNat := ⟨_, rfl⟩
  rw [← hf] at e3
  have hfk : f < k := by
    have := Int.emod_lt_of_pos s (show (0 : Int) < k by omega)
    have := Int.emod_nonneg s (show (k : Int) ≠ 0 by omega)
    omega
  have e4 : (r + (k : Int)).tmod (k : Int) = (f : Int) := by rw [Int.tmod_eq_emod_of_nonneg (by omega)]; exact e3
  rw [← hf]
  have HK := Lib.hid hk
  have E0 := Lib.hid hr
  have k4 : (0 : Int) ≤ (p : Int) := by omega
  have k5 : (0 : Int) < (k : Int) := by omega
  clear hk h hf o hP
  go_enter Tryz.func55, Tryz.ntmps55
  go_wp2
  clear e3 e4 hr1 hr2
  go_loop [25] (fun ix => ∃ i : Nat, i ≤ k ∧ ix = .int .i64 (i : Int) ∧ ∀ m, m < i → X.vic p ((f + m) % k) = false) (fun ix => k - (intOf ix).toNat)
  case atStart => exact ⟨0, Nat.zero_le _, rfl, fun m hm => absurd hm (by omega)⟩
  case round =>
    obtain ⟨i, hi, rfl, hno⟩ := hrel
    have HNO := Lib.hid hno
    clear hno
    by_cases hlt : i < k
    · obtain ⟨v, hv⟩ : ∃ v, v = (f + i) % k := ⟨_, rfl⟩
      have hvk : v < k := by rw [hv]; exact Nat.mod_lt _ (by omega)
      have ev : ((f : Int) + (i : Int)) % (k : Int) = (v : Int) := by rw [hv]; simp
      have HV := Lib.hid hv
      clear hv
      have k6 : (v : Int) < k := by omega
      have k7 : (0 : Int) ≤ (v : Int) := by omega
      by_cases hvp : v = p
      · have HN : Hid (∀ m, m < i + 1 → X.vic p ((f + m) % k) = false) := Lib.hid fun m hm => by
          by_cases e : m = i
          · rw [e, ← HV.out, hvp]; unfold Sx.vic; simp
          · exact HNO.out m (by omega)
        subst hvp
        go_wp2
        go_round
        case rel => exact ⟨i + 1, by omega, by go_num, HN.out⟩
        case measure => simp [intOf]; omega
      · have hvp1 : (v == p) = false := by simpa using hvp
        have C := CD.out v (by rw [← HK.out]; exact hvk)
        have HC : Hid (X.vic p v = X.due v) := Lib.hid (by unfold Sx.vic; simp [hvp])
        generalize X.due v = d at *
        have C := Lib.hid C
        cases d with
        | false =>
          have HN : Hid (∀ m, m < i + 1 → X.vic p ((f + m) % k) = false) := Lib.hid fun m hm => by
            by_cases e : m = i
            · rw [e, ← HV.out, HC.out]
            · exact HNO.out m (by omega)
          go_wp2_with (go_at_call 76; ((with_reducible refine (C.out).mono ?_); rintro e w1 ⟨rfl, rfl⟩))
          go_round
          case rel => exact ⟨i + 1, by omega, by go_num, HN.out⟩
          case measure => simp [intOf]; omega
        | true =>
          have HR := Lib.hid (els_some (X := X) (p := p) (f := f) (i := i) (by rw [← HK.out]; exact hlt) (by rw [← HK.out]; exact HNO.out) (by rw [← HK.out, ← HV.out, HC.out]))
          rw [← HK.out, ← HV.out] at HR
          go_wp2_with (go_at_call 76; ((with_reducible refine (C.out).mono ?_); rintro e w1 ⟨rfl, rfl⟩))
          first | rw [Exit.noGoto_ret] | skip
          go_returns
          rw [HR.out]
          exact ⟨rfl, Cha.refl _ _⟩
    · obtain rfl : i = k := by omega
      have HR := Lib.hid (els_none (X := X) (p := p) (f := f) (by rw [← HK.out]; exact HNO.out))
      go_wp2
      go_returns
      rw [HR.out]
      exact ⟨rfl, Cha.refl _ _⟩
end
end Go.Proofs.YtaloafihbdamiaaGreat
