/- Check: kinds, types. -/
import Derived.Test.YtpdjbhnpahkbpaaI
namespace Go.Proofs.Ytpdjbhnpahkbpaa
set_option linter.unusedVariables false
open Go.ChangeShapes Go.WideShapes Go.ChangeAt Go.RowKit
/-! ### Plainly -/
def carriedZ (k n : Int) : Bool := if 16 ≤ k then decide (k - 16 < n) else (k == 0 || k == 1)
def kindZ (k n : Int) : Bool := if 64 ≤ k then carriedZ (k - 64) n else carriedZ k n
def lastZ (op : Int) : Bool := op == 36 || op == 24 || op == 52 || op == 39
/-- What a call leaves that changes nothing. -/
def Says (W : World) (v : Value) : Ending → World → Prop := fun e w' => e = .returned v ∧ Cha (fun _ => False) W w'
theorem Says.of {W w' : World} {e : Ending} {v v' : Value} (h : Says W v e w') (he : v = v') : Says W v' e w' := he ▸ h
variable {W : World}
theorem isref_any (k : Int) : Calls Try.prog 27 #[.int .i64 k] W fun e w' => e = .returned (.bool (decide (16 ≤ k))) ∧ w' = W := by
  by_cases h : 16 ≤ k
  · go_enter Try.func27, Try.ntmps27
    go_wp2
    go_ret
    exact ⟨by simp [h], rfl⟩
  · go_enter Try.func27, Try.ntmps27
    go_wp2
    go_ret
    exact ⟨by simp [h], rfl⟩
theorem ischan_any (k : Int) : Calls Try.prog 81 #[.int .i64 k] W fun e w' => e = .returned (.bool (decide (64 ≤ k))) ∧ w' = W := by
  by_cases h : 64 ≤ k
  · go_enter Try.func81, Try.ntmps81
    go_wp2
    go_ret
    exact ⟨by simp [h], rfl⟩
  · go_enter Try.func81, Try.ntmps81
    go_wp2
    go_ret
    exact ⟨by simp [h], rfl⟩
theorem carried_any (k n : Int) (hk : I64 k) : Calls Try.prog 82 #[.int .i64 k, .int .i64 n] W fun e w' => e = .returned (.bool (carriedZ k n)) ∧ w' = W := by
  have C := Lib.hid (isref_any (W := W) k)
  obtain ⟨hk1, hk2⟩ := hk
  by_cases h : 16 ≤ k
  · have hw : IntKind.i64.wrap (k - 16) = k - 16 := by rw [IntKind.wrap_i64]; omega
    have e1 : decide (16 ≤ k) = true := by simpa using h
    by_cases h2 : k - 16 < n
    · have E : Hid (carriedZ k n = true) := Lib.hid (by unfold carriedZ; rw [if_pos h]; simpa using h2)
      go_enter Try.func82, Try.ntmps82
      go_wp2_with (go_at_call 27; ((with_reducible refine (C.out).mono ?_); rintro e w1 ⟨rfl, rfl⟩; rw [e1]))
      go_ret
      exact ⟨by first | (rw [E.out]; done) | (rw [E.out]; rfl), rfl⟩
    · have E : Hid (carriedZ k n = false) := Lib.hid (by unfold carriedZ; rw [if_pos h]; simpa using h2)
      have e2 : Hid (decide (k - 16 < n) = false) := Lib.hid (decide_eq_false h2)
      go_enter Try.func82, Try.ntmps82
      go_wp2_with (go_at_call 27; ((with_reducible refine (C.out).mono ?_); rintro e w1 ⟨rfl, rfl⟩; rw [e1]))
      go_ret
      exact ⟨by rw [E.out]; show Ending.returned (.bool (decide (k - 16 < n))) = _; rw [e2.out], rfl⟩
  · have e1 : decide (16 ≤ k) = false := by simpa using h
    by_cases h0 : k = 0
    · subst h0
      have E : Hid (carriedZ 0 n = true) := Lib.hid rfl
      go_enter Try.func82, Try.ntmps82
      go_wp2_with (go_at_call 27; ((with_reducible refine (C.out).mono ?_); rintro e w1 ⟨rfl, rfl⟩; rw [e1]))
      go_ret
      exact ⟨by first | (rw [E.out]; done) | (rw [E.out]; rfl), rfl⟩
    · have h0' : (k == 0) = false := by simpa using h0
      by_cases h1 : k = 1
      · subst h1
        have E : Hid (carriedZ 1 n = true) := Lib.hid rfl
        go_enter Try.func82, Try.ntmps82
        go_wp2_with (go_at_call 27; ((with_reducible refine (C.out).mono ?_); rintro e w1 ⟨rfl, rfl⟩; rw [e1]))
        go_ret
        exact ⟨by first | (rw [E.out]; done) | (rw [E.out]; rfl), rfl⟩
      · have h1' : (k == 1) = false := by simpa using h1
        have E : Hid (carriedZ k n = false) := Lib.hid (by unfold carriedZ; rw [if_neg h, h0', h1']; rfl)
        go_enter Try.func82, Try.ntmps82
        go_wp2_with (go_at_call 27; ((with_reducible refine (C.out).mono ?_); rintro e w1 ⟨rfl, rfl⟩; rw [e1]))
        go_ret
        exact ⟨by first | (rw [E.out]; done) | (rw [E.out]; rfl), rfl⟩
theorem kind_is (k n : Int) (hk : I64 k) : Calls Try.prog 63 #[.int .i64 k, .int .i64 n] W fun e w' => e = .returned (.bool (kindZ k n)) ∧ w' = W := by
  have C := Lib.hid (ischan_any (W := W) k)
  have hk' := hk
  obtain ⟨hk1, hk2⟩ := hk'
  by_cases h : 64 ≤ k
  · have hw : IntKind.i64.wrap (k - 64) = k - 64 := by rw [IntKind.wrap_i64]; omega
    have e1 : decide (64 ≤ k) = true := by simpa using h
    have D := Lib.hid (carried_any (W := W) (k - 64) n ⟨by omega, by omega⟩)
    have E : Hid (kindZ k n = carriedZ (k - 64) n) := Lib.hid (if_pos h)
    go_enter Try.func63, Try.ntmps63
    go_wp2_with (first
      | (go_at_call 81; ((with_reducible refine (C.out).mono ?_); rintro e w1 ⟨rfl, rfl⟩; rw [e1]))
      | (go_at_call 82; ((with_reducible refine (D.out).mono ?_); rintro e w1 ⟨rfl, rfl⟩)))
    go_ret
    exact ⟨by first | (rw [E.out]; done) | (rw [E.out]; rfl), rfl⟩
  · have e1 : decide (64 ≤ k) = false := by simpa using h
    have D := Lib.hid (carried_any (W := W) k n hk)
    have E : Hid (kindZ k n = carriedZ k n) := Lib.hid (if_neg h)
    go_enter Try.func63, Try.ntmps63
    go_wp2_with (first
      | (go_at_call 81; ((with_reducible refine (C.out).mono ?_); rintro e w1 ⟨rfl, rfl⟩; rw [e1]))
      | (go_at_call 82; ((with_reducible refine (D.out).mono ?_); rintro e w1 ⟨rfl, rfl⟩)))
    go_ret
    exact ⟨by first | (rw [E.out]; done) | (rw [E.out]; rfl), rfl⟩
theorem last_is (k : Int) : Calls Try.prog 64 #[.int .i64 k] W fun e w' => e = .returned (.bool (lastZ k)) ∧ w' = W := by
  rcases Bool.eq_false_or_eq_true (k == 36) with h1 | h1
  all_goals rcases Bool.eq_false_or_eq_true (k == 24) with h2 | h2
  all_goals rcases Bool.eq_false_or_eq_true (k == 52) with h3 | h3
  all_goals rcases Bool.eq_false_or_eq_true (k == 39) with h4 | h4
  all_goals
    go_enter Try.func64, Try.ntmps64
    go_wp2
    go_ret
    exact ⟨by unfold lastZ; rw [h1, h2, h3, h4]; rfl, rfl⟩
end Go.Proofs.Ytpdjbhnpahkbpaa

namespace Go.Proofs.Ytpdjbhnpahkbpaa
set_option linter.unusedVariables false
open Go.ChangeShapes Go.WideShapes Go.ChangeAt Go.RowKit
/-- A type's error, where there are n types. -/
def tyZ (t : TZ) (n : Int) : Int := if t.fi.length = 0 ∨ (if t.ar then 1 else 16) < t.fi.length then 16 else if ∀ k ∈ t.fi, kindZ k n = true then 0 else 10
variable {W : World}
theorem cha_box {w : World} {o : Obj} : Cha (fun _ => False) w (w.alloc o) := (Cha.refl _ w).alloc o
set_option maxRecDepth 100000 in
set_option maxHeartbeats 2000000 in
theorem type_any (ar : Bool) {lv : Value} {fi : List Int} (n : Int) (hv : RdS 1 RdI (· < W.heap.size) W lv fi) : Calls Try.prog 62 #[.agg #[.bool ar, lv], .int .i64 n] W (Says W (.int .i64 (tyZ ⟨ar, fi⟩ n))) := by
  have HV := Lib.hid hv
  have hlen := hv.len
  obtain ⟨a, c, rfl, _, _⟩ := hv
  obtain ⟨m, hm⟩ : ∃ m, m = fi.length := ⟨_, rfl⟩
  rw [← hm] at hlen ⊢
  have HM := Lib.hid hm
  clear hm
  obtain ⟨most, hmost⟩ : ∃ k : Nat, k = if ar then 1 else 16 := ⟨_, rfl⟩
  have CK : Hid (∀ w k, I64 k → Calls Try.prog 63 #[.int .i64 k, .int .i64 n] w fun e w' => e = .returned (.bool (kindZ k n)) ∧ w' = w) := Lib.hid fun w k h => kind_is k n h
  have E1 : Hid (m = 0 ∨ most < m → tyZ ⟨ar, fi⟩ n = 16) := Lib.hid fun h => by unfold tyZ; exact if_pos (by rw [← HM.out, ← hmost]; exact h)
  have E2 : Hid (¬ (m = 0 ∨ most < m) → (∀ k ∈ fi, kindZ k n = true) → tyZ ⟨ar, fi⟩ n = 0) := Lib.hid fun h h2 => by unfold tyZ; rw [if_neg (by rw [← HM.out, ← hmost]; exact h)]; exact if_pos h2
  have E3 : Hid (¬ (m = 0 ∨ most < m) → ∀ k ∈ fi, kindZ k n = false → tyZ ⟨ar, fi⟩ n = 10) := Lib.hid fun h k hk h2 => by unfold tyZ; rw [if_neg (by rw [← HM.out, ← hmost]; exact h)]; exact if_neg (fun c => by have := c k hk; rw [h2] at this; cases this)
  by_cases h0 : m = 0
  · have e := E1.out (.inl h0)
    subst h0
    rw [e]
    clear E1 E2 E3 e
    cases ar
    all_goals
      go_enter Try.func62, Try.ntmps62
      go_wp2
      go_ret
      exact ⟨rfl, cha_box⟩
  · have h0' : ¬ (m : Int) = 0 := by omega
    have h0b : ((m : Int) == 0) = false := by simpa using h0'
    by_cases h1 : most < m
    · have e := E1.out (.inr h1)
      rw [e]
      clear E1 E2 E3 e
      cases ar
      · have hm1 : (16 : Int) < (m : Int) := by simp at hmost; omega
        go_enter Try.func62, Try.ntmps62
        go_wp2
        go_ret
        exact ⟨rfl, cha_box⟩
      · have hm1 : (1 : Int) < (m : Int) := by simp at hmost; omega
        go_enter Try.func62, Try.ntmps62
        go_wp2
        go_ret
        exact ⟨rfl, cha_box⟩
    · have E2' := Lib.hid (E2.out (by omega))
      have E3' := Lib.hid (E3.out (by omega))
      clear E1 E2 E3
      cases ar
      · have hm1 : ¬ (16 : Int) < (m : Int) := by simp at hmost; omega
        go_enter Try.func62, Try.ntmps62
        go_wp2
        go_loopw [24] (fun i wr => ∃ k : Nat, k ≤ m ∧ i = .int .i64 (k : Int) ∧ Cha (fun _ => False) W wr ∧ ∀ j, j < k → ∀ z, fi[j]? = some z → kindZ z n = true) (fun i _ => m - (intOf i).toNat)
        case atStart => exact ⟨0, Nat.zero_le _, rfl, cha_box, fun j hj => by omega⟩
        case round =>
          obtain ⟨k, hk, rfl, hC, hA⟩ := hrel
          have C := Lib.hid hC
          have A := Lib.hid hA
          clear hC hA
          by_cases hlt : k < m
          · obtain ⟨z, hz⟩ : ∃ z, fi[k]? = some z := ⟨_, List.getElem?_eq_getElem (by have := HM.out; omega)⟩
            obtain ⟨b, o, _, he, hb, hbs, hx⟩ := (HV.out.ints C.out (fun _ f => f.elim) (fun _ h => h) (B' := (· < W.heap.size))).at hz
            obtain rfl : a = some ⟨b, o, none⟩ := by injection he
            have hc2 := hx.1
            rw [Nat.mul_one] at hc2
            have CZ := Lib.hid (CK.out wr z hx.2)
            have HK := Lib.hid hz
            clear he hx hz hb
            rcases Bool.eq_false_or_eq_true (kindZ z n) with hz1 | hz1
            · rw [hz1] at CZ
              have HZ := Lib.hid hz1
              clear hz1
              go_wp2_with (go_at_call 63; ((with_reducible refine (CZ.out).mono ?_); rintro e w2 ⟨rfl, rfl⟩))
              go_roundw
              case rel => exact ⟨k + 1, by omega, by go_num, C.out, fun j hj y hy => by
                by_cases c : j = k
                · subst c
                  have e1 := HK.out
                  rw [hy] at e1
                  cases e1
                  exact HZ.out
                · exact A.out j (by omega) y hy⟩
              case measure => simp [intOf]; omega
            · rw [hz1] at CZ
              have e := Lib.hid (E3'.out z (List.mem_of_getElem? HK.out) hz1)
              clear hz1
              go_wp2_with (go_at_call 63; ((with_reducible refine (CZ.out).mono ?_); rintro e w2 ⟨rfl, rfl⟩))
              go_ret
              exact ⟨by first | (rw [e.out]; done) | (rw [e.out]; rfl), C.out⟩
          · have e := Lib.hid (E2'.out (fun z hz => by
              obtain ⟨j, hj⟩ := List.getElem?_of_mem hz
              exact A.out j (by have := (List.getElem?_eq_some_iff.1 hj).1; have := HM.out; omega) z hj))
            go_wp2
            go_ret
            exact ⟨by first | (rw [e.out]; done) | (rw [e.out]; rfl), C.out⟩
      · have hm1 : ¬ (1 : Int) < (m : Int) := by simp at hmost; omega
        go_enter Try.func62, Try.ntmps62
        go_wp2
        go_loopw [24] (fun i wr => ∃ k : Nat, k ≤ m ∧ i = .int .i64 (k : Int) ∧ Cha (fun _ => False) W wr ∧ ∀ j, j < k → ∀ z, fi[j]? = some z → kindZ z n = true) (fun i _ => m - (intOf i).toNat)
        case atStart => exact ⟨0, Nat.zero_le _, rfl, cha_box, fun j hj => by omega⟩
        case round =>
          obtain ⟨k, hk, rfl, hC, hA⟩ := hrel
          have C := Lib.hid hC
          have A := Lib.hid hA
          clear hC hA
          by_cases hlt : k < m
          · obtain ⟨z, hz⟩ : ∃ z, fi[k]? = some z := ⟨_, List.getElem?_eq_getElem (by have := HM.out; omega)⟩
            obtain ⟨b, o, _, he, hb, hbs, hx⟩ := (HV.out.ints C.out (fun _ f => f.elim) (fun _ h => h) (B' := (· < W.heap.size))).at hz
            obtain rfl : a = some ⟨b, o, none⟩ := by injection he
            have hc2 := hx.1
            rw [Nat.mul_one] at hc2
            have CZ := Lib.hid (CK.out wr z hx.2)
            have HK := Lib.hid hz
            clear he hx hz hb
            rcases Bool.eq_false_or_eq_true (kindZ z n) with hz1 | hz1
            · rw [hz1] at CZ
              have HZ := Lib.hid hz1
              clear hz1
              go_wp2_with (go_at_call 63; ((with_reducible refine (CZ.out).mono ?_); rintro e w2 ⟨rfl, rfl⟩))
              go_roundw
              case rel => exact ⟨k + 1, by omega, by go_num, C.out, fun j hj y hy => by
                by_cases c : j = k
                · subst c
                  have e1 := HK.out
                  rw [hy] at e1
                  cases e1
                  exact HZ.out
                · exact A.out j (by omega) y hy⟩
              case measure => simp [intOf]; omega
            · rw [hz1] at CZ
              have e := Lib.hid (E3'.out z (List.mem_of_getElem? HK.out) hz1)
              clear hz1
              go_wp2_with (go_at_call 63; ((with_reducible refine (CZ.out).mono ?_); rintro e w2 ⟨rfl, rfl⟩))
              go_ret
              exact ⟨by first | (rw [e.out]; done) | (rw [e.out]; rfl), C.out⟩
          · have e := Lib.hid (E2'.out (fun z hz => by
              obtain ⟨j, hj⟩ := List.getElem?_of_mem hz
              exact A.out j (by have := (List.getElem?_eq_some_iff.1 hj).1; have := HM.out; omega) z hj))
            go_wp2
            go_ret
            exact ⟨by first | (rw [e.out]; done) | (rw [e.out]; rfl), C.out⟩
end Go.Proofs.Ytpdjbhnpahkbpaa
