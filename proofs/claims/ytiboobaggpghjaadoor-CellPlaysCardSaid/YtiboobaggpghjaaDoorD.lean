/- Contracts of layer 4's Take and Free. -/
import Derived.Test.YtiboobaggpghjaaDoorC
namespace Go.Proofs.YtiboobaggpghjaaDoor
open Go.ChangeShapes Go.WideShapes Go.ChangeAt Go.RowKit

variable {w : World} {bm bp n : Nat} {us : Nat → Bool}

def SomeNat (k : Nat) (w : World) (e : Ending) (w' : World) : Prop := ∃ j : Nat, j < k ∧ e = .returned (.int .i64 (j : Int)) ∧ w = w'
theorem index_no (b k c : Nat) (v : Bool) (h : Pg 113 w bm bp n us) (hb : b + k ≤ n) (hall : ∀ i, i < k → us (b + i) = !v) :
    Calls Tryd.prog 68 #[.slice (some ⟨bp, b, none⟩) k c, .bool v] w fun e w' => e = .returned (.int .i64 (-1)) ∧ w = w' := by
  have hl := h.le
  have H := Lib.hid h
  have HA := Lib.hid hall
  clear h hall
  go_enter Tryd.func68, Tryd.ntmps68
  go_wp2
  go_loop [8] (fun i => ∃ j : Nat, j ≤ k ∧ i = .int .i64 (j : Int)) (fun i => k - (intOf i).toNat)
  case atStart => exact ⟨0, Nat.zero_le _, rfl⟩
  case round =>
    obtain ⟨j, hj, rfl⟩ := hrel
    by_cases hlt : j < k
    · have hm := H.out.mark (i := b + j) (by omega)
      rw [HA.out j hlt] at hm
      have hv : (v == !v) = false := by cases v <;> rfl
      go_wp2
      go_round
      case rel => exact ⟨j + 1, by omega, by go_num⟩
      case measure => simp [intOf]; omega
    · obtain rfl : j = k := by omega
      go_wp2
      go_ret
      exact ⟨rfl, rfl⟩
theorem index_yes (b k c : Nat) (v : Bool) (h : Pg 113 w bm bp n us) (hb : b + k ≤ n) (x : Nat) (hx : x < k) (hu : us (b + x) = v) :
    Calls Tryd.prog 68 #[.slice (some ⟨bp, b, none⟩) k c, .bool v] w (SomeNat k w) := by
  have hl := h.le
  have H := Lib.hid h
  have HU := Lib.hid hu
  clear h hu
  go_enter Tryd.func68, Tryd.ntmps68
  go_wp2
  go_loop [8] (fun i => ∃ j : Nat, j ≤ x ∧ i = .int .i64 (j : Int)) (fun i => k - (intOf i).toNat)
  case atStart => exact ⟨0, Nat.zero_le _, rfl⟩
  case round =>
    obtain ⟨j, hj, rfl⟩ := hrel
    have hlt : j < k := by omega
    have hm := H.out.mark (i := b + j) (by omega)
    by_cases hv : us (b + j) = v
    · rw [hv] at hm
      have hv2 : (v == v) = true := by cases v <;> rfl
      go_wp2
      go_ret
      exact ⟨j, hlt, rfl, rfl⟩
    · have hne : ¬ j = x := fun e => hv (by rw [e]; exact HU.out)
      have hv2 : (v == us (b + j)) = false := by
        cases h1 : us (b + j) <;> cases v <;> simp_all
      have HV := Lib.hid hv
      clear hv
      go_wp2
      go_round
      case rel => exact ⟨j + 1, by omega, by go_num⟩
      case measure => simp [intOf]; omega
theorem contains_no (b k c : Nat) (v : Bool) (h : Pg 113 w bm bp n us) (hb : b + k ≤ n) (hall : ∀ i, i < k → us (b + i) = !v) :
    Calls Tryd.prog 85 #[.slice (some ⟨bp, b, none⟩) k c, .bool v] w fun e w' => e = .returned (.bool false) ∧ w = w' := by
  have C := Lib.hid (index_no b k c v h hb hall)
  clear h hall
  go_enter Tryd.func85, Tryd.ntmps85
  go_wp2_with (go_at_call 68; ((with_reducible refine (C.out).mono ?_); rintro e w1 ⟨rfl, rfl⟩))
  go_ret
  exact ⟨rfl, rfl⟩
theorem contains_yes (b k c : Nat) (v : Bool) (h : Pg 113 w bm bp n us) (hb : b + k ≤ n) (x : Nat) (hx : x < k) (hu : us (b + x) = v) :
    Calls Tryd.prog 85 #[.slice (some ⟨bp, b, none⟩) k c, .bool v] w fun e w' => e = .returned (.bool true) ∧ w = w' := by
  have C := Lib.hid (index_yes b k c v h hb x hx hu)
  clear h hu
  go_enter Tryd.func85, Tryd.ntmps85
  go_wp2_with (go_at_call 68; ((with_reducible refine (C.out).mono ?_); rintro e w1 ⟨j, hj, rfl, rfl⟩))
  go_ret
  exact ⟨ret_bool (by simp), rfl⟩

set_option maxHeartbeats 1000000 in
theorem change_arg (b k : Int) (v : Bool) (h : Pg 113 w bm bp n us) (hk : k ≤ 9223372036854775807) (hx : k < 1 ∨ b < 0 ∨ (n : Int) - k < b) :
    Calls Tryd.prog 79 #[.pointer (some ⟨bm, 0, none⟩), .int .i64 b, .int .i64 k, .bool v] w fun e w' => e = .returned (.int .i64 1) ∧ w = w' := by
  have hp := h.ptr
  have hl := h.le
  clear h
  by_cases h1 : k < 1
  · clear hx
    go_enter Tryd.func79, Tryd.ntmps79
    go_wp2
    go_ret
    exact ⟨rfl, rfl⟩
  · by_cases h2 : b < 0
    · clear hx
      go_enter Tryd.func79, Tryd.ntmps79
      go_wp2
      go_ret
      exact ⟨rfl, rfl⟩
    · have h3 : (n : Int) - k < b := by omega
      have h4 : 1 ≤ k := by omega
      have h5 : 0 ≤ b := by omega
      clear hx h1 h2
      go_enter Tryd.func79, Tryd.ntmps79
      go_wp2
      go_ret
      exact ⟨rfl, rfl⟩
set_option maxHeartbeats 1000000 in
theorem change_state (b k : Nat) (v : Bool) (h : Pg 113 w bm bp n us) (hb : b + k ≤ n) (x : Nat) (hx : x < k) (hu : us (b + x) = v) :
    Calls Tryd.prog 79 #[.pointer (some ⟨bm, 0, none⟩), .int .i64 (b : Int), .int .i64 (k : Int), .bool v] w fun e w' => e = .returned (.int .i64 5) ∧ w = w' := by
  have hp := h.ptr
  have hl := h.le
  have hk : 1 ≤ k := by omega
  have C := Lib.hid fun c => contains_yes b k c v h hb x hx hu
  clear h hu hx
  go_enter Tryd.func79, Tryd.ntmps79
  go_wp2_with (go_at_call 85; ((with_reducible refine (C.out _).mono ?_); rintro e w1 ⟨rfl, rfl⟩))
  go_ret
  exact ⟨rfl, rfl⟩
set_option maxHeartbeats 1000000 in
theorem change_ok (b k : Nat) (v : Bool) (h : Pg 113 w bm bp n us) (hk : 1 ≤ k) (hb : b + k ≤ n) (hall : ∀ i, i < k → us (b + i) = !v) :
    Calls Tryd.prog 79 #[.pointer (some ⟨bm, 0, none⟩), .int .i64 (b : Int), .int .i64 (k : Int), .bool v] w fun e w' =>
      e = .returned (.int .i64 0) ∧ Pg 113 w' bm bp n (fil us b k v) ∧ Cha (· = bp) w w' := by
  have hp := h.ptr
  have hl := h.le
  have C := Lib.hid fun c => contains_no b k c v h hb hall
  have F := Lib.hid (fill_any b k v h hb)
  clear h hall
  go_enter Tryd.func79, Tryd.ntmps79
  go_wp2_with (first
    | (go_at_call 85; ((with_reducible refine (C.out _).mono ?_); rintro e w1 ⟨rfl, rfl⟩))
    | (go_at_call 78; ((with_reducible refine (F.out).mono ?_); rintro e w1 ⟨rfl, hm, hc⟩; have HM := Lib.hid hm; have HC := Lib.hid hc; clear hm hc)))
  go_ret
  exact ⟨rfl, HM.out, HC.out⟩

/-- What Take (v: true) and Free (v: false) answer. -/
inductive Chn (n : Nat) (us : Nat → Bool) (b k : Int) (v : Bool) : Int → (Nat → Bool) → Prop where
  | arg : k < 1 ∨ b < 0 ∨ (n : Int) - k < b → Chn n us b k v 1 us
  | state (b' k' x : Nat) : b = (b' : Int) → k = (k' : Int) → b' + k' ≤ n → x < k' → us (b' + x) = v → Chn n us b k v 5 us
  | ok (b' k' : Nat) : b = (b' : Int) → k = (k' : Int) → 1 ≤ k' → b' + k' ≤ n → (∀ i, i < k' → us (b' + i) = !v) → Chn n us b k v 0 (fil us b' k' v)
theorem Chn.ex (n : Nat) (us : Nat → Bool) (b k : Int) (v : Bool) : ∃ r us', Chn n us b k v r us' := by
  by_cases hx : k < 1 ∨ b < 0 ∨ (n : Int) - k < b
  · exact ⟨_, _, .arg hx⟩
  · obtain ⟨b', rfl⟩ : ∃ x : Nat, b = (x : Int) := ⟨b.toNat, by omega⟩
    obtain ⟨k', rfl⟩ : ∃ x : Nat, k = (x : Int) := ⟨k.toNat, by omega⟩
    by_cases ha : ∃ x, x < k' ∧ us (b' + x) = v
    · obtain ⟨x, h1, h2⟩ := ha
      exact ⟨_, _, .state b' k' x rfl rfl (by omega) h1 h2⟩
    · refine ⟨_, _, .ok b' k' rfl rfl (by omega) (by omega) fun i hi => ?_⟩
      have := fun h => ha ⟨i, hi, h⟩
      cases h1 : us (b' + i) <;> cases v <;> simp_all
theorem change_any {b k r : Int} {v : Bool} {us' : Nat → Bool} (c : Chn n us b k v r us') (hk : k ≤ 9223372036854775807) (h : Pg 113 w bm bp n us) :
    Calls Tryd.prog 79 #[.pointer (some ⟨bm, 0, none⟩), .int .i64 b, .int .i64 k, .bool v] w fun e w' =>
      e = .returned (.int .i64 r) ∧ Pg 113 w' bm bp n us' ∧ Cha (· = bp) w w' := by
  cases c with
  | arg hx => exact (change_arg b k v h hk hx).mono fun _ _ ⟨he, hw⟩ => ⟨he, hw ▸ h, hw ▸ Cha.refl _ _⟩
  | state b' k' x h1 h2 h3 h4 h5 =>
    subst h1; subst h2
    exact (change_state b' k' v h h3 x h4 h5).mono fun _ _ ⟨he, hw⟩ => ⟨he, hw ▸ h, hw ▸ Cha.refl _ _⟩
  | ok b' k' h1 h2 h3 h4 h5 =>
    subst h1; subst h2
    exact change_ok b' k' v h h3 h4 h5
theorem free_any {b k r : Int} {us' : Nat → Bool} (c : Chn n us b k false r us') (hk : k ≤ 9223372036854775807) (h : Pg 113 w bm bp n us) :
    Calls Tryd.prog 72 #[.pointer (some ⟨bm, 0, none⟩), .int .i64 b, .int .i64 k] w fun e w' =>
      e = .returned (.int .i64 r) ∧ Pg 113 w' bm bp n us' ∧ Cha (· = bp) w w' := by
  have C := Lib.hid (change_any c hk h)
  clear c h
  go_enter Tryd.func72, Tryd.ntmps72
  go_wp2_with (go_at_call 79; ((with_reducible refine (C.out).mono ?_); rintro e w1 ⟨rfl, hm, hc⟩; have HM := Lib.hid hm; have HC := Lib.hid hc; clear hm hc))
  go_ret
  exact ⟨rfl, HM.out, HC.out⟩
end Go.Proofs.YtiboobaggpghjaaDoor
