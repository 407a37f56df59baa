/- The walk of the statement on edges. -/
import Derived.Test.YtmdcdicmlnlenaaI
namespace Go.Proofs.Ytmdcdicmlnlenaa
open Go.ChangeShapes Go.WideShapes Go.ChangeAt Go.RowKit
set_option linter.unusedVariables false

theorem sum_comm (x y : Ieee.Datum) : x.sum y = y.sum x := by
  cases x with
  | number s m i =>
    cases y with
    | number t n j =>
      simp only [Ieee.Datum.sum]
      rw [Int.min_comm, Int.add_comm, Bool.and_comm]
    | infinity t => rfl
    | nan t g => rfl
  | infinity s =>
    cases y with
    | number t n j => rfl
    | infinity t =>
      simp only [Ieee.Datum.sum]
      by_cases h : s = t
      · subst h; rfl
      · rw [if_neg h, if_neg (fun e => h e.symm)]
    | nan t g => rfl
  | nan s f => cases y <;> rfl
theorem product_comm (x y : Ieee.Datum) : x.product y = y.product x := by
  cases x with
  | number s m i =>
    cases y with
    | number t n j =>
      simp only [Ieee.Datum.product]
      rw [Int.add_comm, Nat.mul_comm, Bool.xor_comm]
    | infinity t => rfl
    | nan t g => rfl
  | infinity s =>
    cases y with
    | number t n j => rfl
    | infinity t => simp only [Ieee.Datum.product]; rw [Bool.xor_comm]
    | nan t g => rfl
  | nan s f => cases y <;> rfl
theorem add_comm' (a b : Nat) : fop .add b a = fop .add a b := by
  show (match Ieee.double.add b a with | some r => r | none => NaN) = (match Ieee.double.add a b with | some r => r | none => NaN)
  unfold Ieee.Format.add
  rw [sum_comm]
theorem mul_comm' (a b : Nat) : fop .mul b a = fop .mul a b := by
  show (match Ieee.double.mul b a with | some r => r | none => NaN) = (match Ieee.double.mul a b with | some r => r | none => NaN)
  unfold Ieee.Format.mul
  rw [product_comm]
theorem ford_swap (a b : Nat) : ford b a = -ford a b := by unfold ford cmpN; (repeat' split) <;> omega
theorem ford_trans (a b c : Nat) (h1 : ford a b ≤ 0) (h2 : ford b c ≤ 0) : ford a c ≤ 0 := by
  unfold ford cmpN at *
  (repeat' split at h1) <;> (repeat' split at h2) <;> (repeat' split) <;> omega
theorem flip_flip (a : Nat) (h : a < 18446744073709551616) : flip (flip a) = a := by unfold flip; (repeat' split) <;> omega
theorem neg_neg' (a : Nat) (h : a < 18446744073709551616) (hn : isn a = false) : fneg (fneg a) = a := by
  have e : fneg a = flip a := by unfold fneg; rw [hn]; simp
  rw [e]
  unfold fneg
  rw [isn_flip a h, hn, flip_flip a h]
  simp
theorem sub_self' (a : Nat) (hf : fin a) : fop .sub a a = 0 := by
  rw [fop_sub a a hf hf, Int.sub_self]
  unfold addW
  rw [if_pos rfl, word_eq]
  cases sg a <;> rfl
theorem sub_self_inf (a : Nat) (h : rg a = 9218868437227405312) : fop .sub a a = NaN := by
  show (match Ieee.double.sub a a with | some r => r | none => NaN) = _
  unfold Ieee.Format.sub
  rw [read_inf' a h]
  simp only [Ieee.Datum.opposite, Ieee.Datum.sum]
  rw [if_neg (by cases sg a <;> simp)]
  rfl
theorem less_ford (a b : Nat) (ha : a < 18446744073709551616) (hb : b < 18446744073709551616) (h : fless a b = true) : ford a b = -1 := by
  rw [fless_rless a b ha hb] at h
  unfold rless at h
  simp only [Bool.and_eq_true, decide_eq_true_eq] at h
  have h2 := h.2
  rw [rord_ford a b ha hb] at h2
  have := ford_bd a b
  omega

set_option maxHeartbeats 8000000 in
theorem edges_nan (a b c : Int) (s m d t mn : Int) (k o o2 o3 : Int) (l q : Bool) (w : World) (a0 : 0 ≤ a) (a1 : a ≤ 18446744073709551615)
    (S1 : Hid (∀ w, Calls Try.prog 13 #[.int .u64 a, .int .u64 b] w fun e w' => e = .returned (.int .u64 s) ∧ Grown w w'))
    (S2 : Hid (∀ w, Calls Try.prog 13 #[.int .u64 b, .int .u64 a] w fun e w' => e = .returned (.int .u64 s) ∧ Grown w w'))
    (M1 : Hid (∀ w, Calls Try.prog 17 #[.int .u64 a, .int .u64 b] w fun e w' => e = .returned (.int .u64 m) ∧ Grown w w'))
    (M2 : Hid (∀ w, Calls Try.prog 17 #[.int .u64 b, .int .u64 a] w fun e w' => e = .returned (.int .u64 m) ∧ Grown w w'))
    (D : Hid (∀ w, Calls Try.prog 15 #[.int .u64 a, .int .u64 a] w fun e w' => e = .returned (.int .u64 d) ∧ Grown w w'))
    (O1 : Hid (∀ w, Calls Try.prog 25 #[.int .u64 a, .int .u64 b] w fun e w' => e = .returned (.int .i64 o) ∧ w = w'))
    (O2 : Hid (∀ w, Calls Try.prog 25 #[.int .u64 b, .int .u64 a] w fun e w' => e = .returned (.int .i64 (-o)) ∧ w = w'))
    (O3 : Hid (∀ w, Calls Try.prog 25 #[.int .u64 b, .int .u64 c] w fun e w' => e = .returned (.int .i64 o2) ∧ w = w'))
    (O4 : Hid (∀ w, Calls Try.prog 25 #[.int .u64 a, .int .u64 c] w fun e w' => e = .returned (.int .i64 o3) ∧ w = w'))
    (O5 : Hid (∀ w, Calls Try.prog 25 #[.int .u64 9223372036854775808, .int .u64 0] w fun e w' => e = .returned (.int .i64 (-1)) ∧ w = w'))
    (L : Hid (∀ w, Calls Try.prog 23 #[.int .u64 a, .int .u64 b] w fun e w' => e = .returned (.bool l) ∧ w = w'))
    (E : Hid (∀ w, Calls Try.prog 21 #[.int .u64 a, .int .u64 a] w fun e w' => e = .returned (.bool q) ∧ w = w'))
    (E0 : Hid (∀ w, Calls Try.prog 21 #[.int .u64 0, .int .u64 9223372036854775808] w fun e w' => e = .returned (.bool true) ∧ w = w'))
    (MN : Hid (∀ w, Calls Try.prog 27 #[.int .u64 a, .int .u64 b] w fun e w' => e = .returned (.int .u64 mn) ∧ w = w'))
    (T : Hid (∀ w, Calls Try.prog 37 #[.int .u64 a] w fun e w' => e = .returned (.int .i64 t) ∧ w = w'))
    (K : Hid (∀ w, Calls Try.prog 39 #[.int .u64 a] w fun e w' => e = .returned (.int .i64 k) ∧ w = w'))
    (ho : (o = 1 ∧ l = false) ∨ (o = 0 ∧ l = false) ∨ o = -1)
    (ho2 : o ≤ 0 → o2 ≤ 0 → o3 ≤ 0)
    (hs : s = 9221120237041090561) (hm : m = 9221120237041090561) (hl : l = false) (hq : q = false) (hmn : mn = 9221120237041090561) (ht : t = 0) (hk : k = 4) :
    Calls Try.prog 7 #[.int .u64 a, .int .u64 b, .int .u64 c] w fun e w' => e = .returned (.bool true) ∧ Grown w w' := by
  subst hs hm hq hmn ht hk
  rcases ho with ⟨rfl, rfl⟩ | ⟨rfl, rfl⟩ | rfl
  all_goals
    rcases (by omega : 0 < o2 ∨ o2 ≤ 0) with h2 | h2
  all_goals try have h3 := ho2 (by omega) h2
  all_goals clear ho2
  all_goals try subst hl
  all_goals
    go_enter Try.func7, Try.ntmps7
    go_wp2_with (first
      | (go_at_call 12; refine (awake _).mono ?_; rintro e w9 ⟨rfl, hg⟩)
      | (go_at_call 13; ((with_reducible refine (S1.out _).mono ?_); rintro e w3 ⟨rfl, hg⟩))
      | (go_at_call 13; ((with_reducible refine (S2.out _).mono ?_); rintro e w3 ⟨rfl, hg⟩))
      | (go_at_call 17; ((with_reducible refine (M1.out _).mono ?_); rintro e w3 ⟨rfl, hg⟩))
      | (go_at_call 17; ((with_reducible refine (M2.out _).mono ?_); rintro e w3 ⟨rfl, hg⟩))
      | (go_at_call 15; ((with_reducible refine (D.out _).mono ?_); rintro e w3 ⟨rfl, hg⟩))
      | (go_at_call 25; ((with_reducible refine (O1.out _).mono ?_); rintro e w3 ⟨rfl, rfl⟩))
      | (go_at_call 25; ((with_reducible refine (O2.out _).mono ?_); rintro e w3 ⟨rfl, rfl⟩))
      | (go_at_call 25; ((with_reducible refine (O3.out _).mono ?_); rintro e w3 ⟨rfl, rfl⟩))
      | (go_at_call 25; ((with_reducible refine (O4.out _).mono ?_); rintro e w3 ⟨rfl, rfl⟩))
      | (go_at_call 25; ((with_reducible refine (O5.out _).mono ?_); rintro e w3 ⟨rfl, rfl⟩))
      | (go_at_call 23; ((with_reducible refine (L.out _).mono ?_); rintro e w3 ⟨rfl, rfl⟩))
      | (go_at_call 21; ((with_reducible refine (E.out _).mono ?_); rintro e w3 ⟨rfl, rfl⟩))
      | (go_at_call 21; ((with_reducible refine (E0.out _).mono ?_); rintro e w3 ⟨rfl, rfl⟩))
      | (go_at_call 27; ((with_reducible refine (MN.out _).mono ?_); rintro e w3 ⟨rfl, rfl⟩))
      | (go_at_call 37; ((with_reducible refine (T.out _).mono ?_); rintro e w3 ⟨rfl, rfl⟩))
      | (go_at_call 39; ((with_reducible refine (K.out _).mono ?_); rintro e w3 ⟨rfl, rfl⟩)))
    go_ret
    exact ⟨rfl, by repeat (first | exact Grown.refl _ | assumption | refine Grown.trans ?_ (by assumption))⟩

set_option maxHeartbeats 8000000 in
theorem edges_inf (a b c : Int) (s m d n1 t mn : Int) (k o o2 o3 : Int) (l q : Bool) (w : World) (a0 : 0 ≤ a) (a1 : a ≤ 18446744073709551615)
    (S1 : Hid (∀ w, Calls Try.prog 13 #[.int .u64 a, .int .u64 b] w fun e w' => e = .returned (.int .u64 s) ∧ Grown w w'))
    (S2 : Hid (∀ w, Calls Try.prog 13 #[.int .u64 b, .int .u64 a] w fun e w' => e = .returned (.int .u64 s) ∧ Grown w w'))
    (M1 : Hid (∀ w, Calls Try.prog 17 #[.int .u64 a, .int .u64 b] w fun e w' => e = .returned (.int .u64 m) ∧ Grown w w'))
    (M2 : Hid (∀ w, Calls Try.prog 17 #[.int .u64 b, .int .u64 a] w fun e w' => e = .returned (.int .u64 m) ∧ Grown w w'))
    (D : Hid (∀ w, Calls Try.prog 15 #[.int .u64 a, .int .u64 a] w fun e w' => e = .returned (.int .u64 d) ∧ Grown w w'))
    (O1 : Hid (∀ w, Calls Try.prog 25 #[.int .u64 a, .int .u64 b] w fun e w' => e = .returned (.int .i64 o) ∧ w = w'))
    (O2 : Hid (∀ w, Calls Try.prog 25 #[.int .u64 b, .int .u64 a] w fun e w' => e = .returned (.int .i64 (-o)) ∧ w = w'))
    (O3 : Hid (∀ w, Calls Try.prog 25 #[.int .u64 b, .int .u64 c] w fun e w' => e = .returned (.int .i64 o2) ∧ w = w'))
    (O4 : Hid (∀ w, Calls Try.prog 25 #[.int .u64 a, .int .u64 c] w fun e w' => e = .returned (.int .i64 o3) ∧ w = w'))
    (O5 : Hid (∀ w, Calls Try.prog 25 #[.int .u64 9223372036854775808, .int .u64 0] w fun e w' => e = .returned (.int .i64 (-1)) ∧ w = w'))
    (L : Hid (∀ w, Calls Try.prog 23 #[.int .u64 a, .int .u64 b] w fun e w' => e = .returned (.bool l) ∧ w = w'))
    (E : Hid (∀ w, Calls Try.prog 21 #[.int .u64 a, .int .u64 a] w fun e w' => e = .returned (.bool q) ∧ w = w'))
    (E0 : Hid (∀ w, Calls Try.prog 21 #[.int .u64 0, .int .u64 9223372036854775808] w fun e w' => e = .returned (.bool true) ∧ w = w'))
    (MN : Hid (∀ w, Calls Try.prog 27 #[.int .u64 a, .int .u64 b] w fun e w' => e = .returned (.int .u64 mn) ∧ w = w'))
    (T : Hid (∀ w, Calls Try.prog 37 #[.int .u64 a] w fun e w' => e = .returned (.int .i64 t) ∧ w = w'))
    (K : Hid (∀ w, Calls Try.prog 39 #[.int .u64 a] w fun e w' => e = .returned (.int .i64 k) ∧ w = w'))
    (N1 : Hid (∀ w, Calls Try.prog 33 #[.int .u64 a] w fun e w' => e = .returned (.int .u64 n1) ∧ w = w'))
    (N2 : Hid (∀ w, Calls Try.prog 33 #[.int .u64 n1] w fun e w' => e = .returned (.int .u64 a) ∧ w = w'))
    (ho : (o = 1 ∧ l = false) ∨ (o = 0 ∧ l = false) ∨ o = -1)
    (ho2 : o ≤ 0 → o2 ≤ 0 → o3 ≤ 0)
    (hk : k = 3) (hd : d = 9221120237041090561) :
    Calls Try.prog 7 #[.int .u64 a, .int .u64 b, .int .u64 c] w fun e w' => e = .returned (.bool true) ∧ Grown w w' := by
  subst hk hd
  rcases ho with ⟨rfl, rfl⟩ | ⟨rfl, rfl⟩ | rfl
  all_goals
    rcases (by omega : 0 < o2 ∨ o2 ≤ 0) with h2 | h2
  all_goals try have h3 := ho2 (by omega) h2
  all_goals clear ho2
  all_goals try cases l
  all_goals
    go_enter Try.func7, Try.ntmps7
    go_wp2_with (first
      | (go_at_call 12; refine (awake _).mono ?_; rintro e w9 ⟨rfl, hg⟩)
      | (go_at_call 13; ((with_reducible refine (S1.out _).mono ?_); rintro e w3 ⟨rfl, hg⟩))
      | (go_at_call 13; ((with_reducible refine (S2.out _).mono ?_); rintro e w3 ⟨rfl, hg⟩))
      | (go_at_call 17; ((with_reducible refine (M1.out _).mono ?_); rintro e w3 ⟨rfl, hg⟩))
      | (go_at_call 17; ((with_reducible refine (M2.out _).mono ?_); rintro e w3 ⟨rfl, hg⟩))
      | (go_at_call 15; ((with_reducible refine (D.out _).mono ?_); rintro e w3 ⟨rfl, hg⟩))
      | (go_at_call 25; ((with_reducible refine (O1.out _).mono ?_); rintro e w3 ⟨rfl, rfl⟩))
      | (go_at_call 25; ((with_reducible refine (O2.out _).mono ?_); rintro e w3 ⟨rfl, rfl⟩))
      | (go_at_call 25; ((with_reducible refine (O3.out _).mono ?_); rintro e w3 ⟨rfl, rfl⟩))
      | (go_at_call 25; ((with_reducible refine (O4.out _).mono ?_); rintro e w3 ⟨rfl, rfl⟩))
      | (go_at_call 25; ((with_reducible refine (O5.out _).mono ?_); rintro e w3 ⟨rfl, rfl⟩))
      | (go_at_call 23; ((with_reducible refine (L.out _).mono ?_); rintro e w3 ⟨rfl, rfl⟩))
      | (go_at_call 21; ((with_reducible refine (E.out _).mono ?_); rintro e w3 ⟨rfl, rfl⟩))
      | (go_at_call 21; ((with_reducible refine (E0.out _).mono ?_); rintro e w3 ⟨rfl, rfl⟩))
      | (go_at_call 27; ((with_reducible refine (MN.out _).mono ?_); rintro e w3 ⟨rfl, rfl⟩))
      | (go_at_call 37; ((with_reducible refine (T.out _).mono ?_); rintro e w3 ⟨rfl, rfl⟩))
      | (go_at_call 39; ((with_reducible refine (K.out _).mono ?_); rintro e w3 ⟨rfl, rfl⟩))
      | (go_at_call 33; ((with_reducible refine (N1.out _).mono ?_); rintro e w3 ⟨rfl, rfl⟩))
      | (go_at_call 33; ((with_reducible refine (N2.out _).mono ?_); rintro e w3 ⟨rfl, rfl⟩)))
    go_ret
    exact ⟨rfl, by repeat (first | exact Grown.refl _ | assumption | refine Grown.trans ?_ (by assumption))⟩

set_option maxHeartbeats 8000000 in
theorem edges_fin (a b c : Int) (s m d n1 t mn : Int) (k o o2 o3 : Int) (l q : Bool) (w : World) (a0 : 0 ≤ a) (a1 : a ≤ 18446744073709551615)
    (S1 : Hid (∀ w, Calls Try.prog 13 #[.int .u64 a, .int .u64 b] w fun e w' => e = .returned (.int .u64 s) ∧ Grown w w'))
    (S2 : Hid (∀ w, Calls Try.prog 13 #[.int .u64 b, .int .u64 a] w fun e w' => e = .returned (.int .u64 s) ∧ Grown w w'))
    (M1 : Hid (∀ w, Calls Try.prog 17 #[.int .u64 a, .int .u64 b] w fun e w' => e = .returned (.int .u64 m) ∧ Grown w w'))
    (M2 : Hid (∀ w, Calls Try.prog 17 #[.int .u64 b, .int .u64 a] w fun e w' => e = .returned (.int .u64 m) ∧ Grown w w'))
    (D : Hid (∀ w, Calls Try.prog 15 #[.int .u64 a, .int .u64 a] w fun e w' => e = .returned (.int .u64 d) ∧ Grown w w'))
    (O1 : Hid (∀ w, Calls Try.prog 25 #[.int .u64 a, .int .u64 b] w fun e w' => e = .returned (.int .i64 o) ∧ w = w'))
    (O2 : Hid (∀ w, Calls Try.prog 25 #[.int .u64 b, .int .u64 a] w fun e w' => e = .returned (.int .i64 (-o)) ∧ w = w'))
    (O3 : Hid (∀ w, Calls Try.prog 25 #[.int .u64 b, .int .u64 c] w fun e w' => e = .returned (.int .i64 o2) ∧ w = w'))
    (O4 : Hid (∀ w, Calls Try.prog 25 #[.int .u64 a, .int .u64 c] w fun e w' => e = .returned (.int .i64 o3) ∧ w = w'))
    (O5 : Hid (∀ w, Calls Try.prog 25 #[.int .u64 9223372036854775808, .int .u64 0] w fun e w' => e = .returned (.int .i64 (-1)) ∧ w = w'))
    (L : Hid (∀ w, Calls Try.prog 23 #[.int .u64 a, .int .u64 b] w fun e w' => e = .returned (.bool l) ∧ w = w'))
    (E : Hid (∀ w, Calls Try.prog 21 #[.int .u64 a, .int .u64 a] w fun e w' => e = .returned (.bool q) ∧ w = w'))
    (E0 : Hid (∀ w, Calls Try.prog 21 #[.int .u64 0, .int .u64 9223372036854775808] w fun e w' => e = .returned (.bool true) ∧ w = w'))
    (MN : Hid (∀ w, Calls Try.prog 27 #[.int .u64 a, .int .u64 b] w fun e w' => e = .returned (.int .u64 mn) ∧ w = w'))
    (T : Hid (∀ w, Calls Try.prog 37 #[.int .u64 a] w fun e w' => e = .returned (.int .i64 t) ∧ w = w'))
    (K : Hid (∀ w, Calls Try.prog 39 #[.int .u64 a] w fun e w' => e = .returned (.int .i64 k) ∧ w = w'))
    (N1 : Hid (∀ w, Calls Try.prog 33 #[.int .u64 a] w fun e w' => e = .returned (.int .u64 n1) ∧ w = w'))
    (N2 : Hid (∀ w, Calls Try.prog 33 #[.int .u64 n1] w fun e w' => e = .returned (.int .u64 a) ∧ w = w'))
    (ho : (o = 1 ∧ l = false) ∨ (o = 0 ∧ l = false) ∨ o = -1)
    (ho2 : o ≤ 0 → o2 ≤ 0 → o3 ≤ 0)
    (k4 : (k == 4) = false) (k3 : (k == 3) = false) (kl : k < 3) (hd : d = 0) :
    Calls Try.prog 7 #[.int .u64 a, .int .u64 b, .int .u64 c] w fun e w' => e = .returned (.bool true) ∧ Grown w w' := by
  subst hd
  rcases ho with ⟨rfl, rfl⟩ | ⟨rfl, rfl⟩ | rfl
  all_goals
    rcases (by omega : 0 < o2 ∨ o2 ≤ 0) with h2 | h2
  all_goals try have h3 := ho2 (by omega) h2
  all_goals clear ho2
  all_goals try cases l
  all_goals
    go_enter Try.func7, Try.ntmps7
    go_wp2_with (first
      | (go_at_call 12; refine (awake _).mono ?_; rintro e w9 ⟨rfl, hg⟩)
      | (go_at_call 13; ((with_reducible refine (S1.out _).mono ?_); rintro e w3 ⟨rfl, hg⟩))
      | (go_at_call 13; ((with_reducible refine (S2.out _).mono ?_); rintro e w3 ⟨rfl, hg⟩))
      | (go_at_call 17; ((with_reducible refine (M1.out _).mono ?_); rintro e w3 ⟨rfl, hg⟩))
      | (go_at_call 17; ((with_reducible refine (M2.out _).mono ?_); rintro e w3 ⟨rfl, hg⟩))
      | (go_at_call 15; ((with_reducible refine (D.out _).mono ?_); rintro e w3 ⟨rfl, hg⟩))
      | (go_at_call 25; ((with_reducible refine (O1.out _).mono ?_); rintro e w3 ⟨rfl, rfl⟩))
      | (go_at_call 25; ((with_reducible refine (O2.out _).mono ?_); rintro e w3 ⟨rfl, rfl⟩))
      | (go_at_call 25; ((with_reducible refine (O3.out _).mono ?_); rintro e w3 ⟨rfl, rfl⟩))
      | (go_at_call 25; ((with_reducible refine (O4.out _).mono ?_); rintro e w3 ⟨rfl, rfl⟩))
      | (go_at_call 25; ((with_reducible refine (O5.out _).mono ?_); rintro e w3 ⟨rfl, rfl⟩))
      | (go_at_call 23; ((with_reducible refine (L.out _).mono ?_); rintro e w3 ⟨rfl, rfl⟩))
      | (go_at_call 21; ((with_reducible refine (E.out _).mono ?_); rintro e w3 ⟨rfl, rfl⟩))
      | (go_at_call 21; ((with_reducible refine (E0.out _).mono ?_); rintro e w3 ⟨rfl, rfl⟩))
      | (go_at_call 27; ((with_reducible refine (MN.out _).mono ?_); rintro e w3 ⟨rfl, rfl⟩))
      | (go_at_call 37; ((with_reducible refine (T.out _).mono ?_); rintro e w3 ⟨rfl, rfl⟩))
      | (go_at_call 39; ((with_reducible refine (K.out _).mono ?_); rintro e w3 ⟨rfl, rfl⟩))
      | (go_at_call 33; ((with_reducible refine (N1.out _).mono ?_); rintro e w3 ⟨rfl, rfl⟩))
      | (go_at_call 33; ((with_reducible refine (N2.out _).mono ?_); rintro e w3 ⟨rfl, rfl⟩)))
    go_ret
    exact ⟨rfl, by repeat (first | exact Grown.refl _ | assumption | refine Grown.trans ?_ (by assumption))⟩

end Go.Proofs.Ytmdcdicmlnlenaa
