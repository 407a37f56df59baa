/- SchedLet. -/
import Derived.Test.YtaloafihbdamiaaSP
import Derived.Test.YtaloafihbdamiaaSS
namespace Go.Proofs.Ytaloafihbdamiaa
open Go.ChangeShapes Go.WideShapes Go.ChangeAt Go.RowKit
/-- One processor: so many are begun; then it acts so often. -/
def lB : Nat → Sx
  | 0 => Sx.ini 1
  | k + 1 => (lB k).beg 0
def lA (n : Nat) : Nat → Sx
  | 0 => ((lB (n + 1)).act 0 0).2
  | i + 1 => ((lA n i).act 0 0).2
def okLB (k : Nat) : Bool := (lB k).gs.length == k && (lB k).Q.2.length ≤ 64
def okLA (n i : Nat) : Bool := (lA n i).on 0 == (n : Int) && ((lA n i).act 0 0).1 == (3, (n : Int))
def okLL (n : Nat) : Bool := (lA n 16).on 0 == (n : Int) && ((lA n 16).act 0 0).1 == (4, (n : Int)) && ((lA n 16).act 0 0).2.on 0 == -1 && n < ((lA n 16).act 0 0).2.gs.length && (((lA n 16).act 0 0).2.gs.getD n (0, false)).1 == 1
def okL : Bool := (List.range 6).all okLB && (List.range 5).all (fun n => (lB (n + 1)).on 0 == -1 && ((lB (n + 1)).act 0 0).1 == (2, (n : Int)) && (List.range 16).all (okLA n) && (n == 0 || okLL n)) && okLA 0 16
theorem ok_l : okL = true := by kernel_rfl
theorem l_same : lA 0 17 = lA 0 16 := by kernel_rfl
theorem lA_stays (i : Nat) (h : 16 ≤ i) : lA 0 i = lA 0 16 := by
  induction i with
  | zero => omega
  | succ i ih =>
    by_cases e : i = 15
    · subst e; rfl
    · show ((lA 0 i).act 0 0).2 = _
      rw [ih (by omega)]
      exact l_same
theorem ok_lB {k : Nat} (h : k < 6) : (lB k).gs.length = k ∧ (lB k).Q.2.length ≤ 64 := by
  have o := ok_l
  unfold okL at o
  simp only [Bool.and_eq_true] at o
  have := List.all_eq_true.1 o.1.1 k (List.mem_range.2 h)
  unfold okLB at this
  simpa using this
theorem ok_l0 {n : Nat} (h : n < 5) : ((lB (n + 1)).on 0 = -1 ∧ ((lB (n + 1)).act 0 0).1 = (2, (n : Int))) ∧ (∀ i, i < 16 ∨ n = 0 → (lA n i).on 0 = (n : Int) ∧ ((lA n i).act 0 0).1 = (3, (n : Int))) ∧ (n = 0 ∨ okLL n = true) := by
  have o := ok_l
  unfold okL at o
  simp only [Bool.and_eq_true] at o
  have k := List.all_eq_true.1 o.1.2 n (List.mem_range.2 h)
  simp only [Bool.and_eq_true, beq_iff_eq, Bool.or_eq_true] at k
  refine ⟨k.1.1, fun i hi => ?_, k.2⟩
  by_cases c : i < 16
  · have := List.all_eq_true.1 k.1.2 i (List.mem_range.2 c)
    unfold okLA at this
    simpa using this
  · have e : n = 0 := by omega
    subst e
    have := o.2
    unfold okLA at this
    rw [lA_stays i (by omega)]
    simpa using this
theorem wf_lB : ∀ k, k < 6 → Wf 1 (lB k)
  | 0, _ => wf_ini (by decide) (by decide)
  | k + 1, h => (wf_lB k (by omega)).beg (by decide) (by have := (ok_lB (k := k) (by omega)).1; omega)
theorem wf_lA {n : Nat} (h : n < 5) : ∀ i, Wf 1 (lA n i)
  | 0 => (wf_lB (n + 1) (by omega)).act (by decide) 0
  | i + 1 => (wf_lA h i).act (by decide) 0
set_option maxHeartbeats 2000000 in
theorem let_walk (m a : Nat) (ha : a ≤ 255) (w : World) : Calls Try.prog 8 #[.int .u8 (m : Int), .int .u8 (a : Int)] w fun e w' => e = .returned (.bool true) ∧ Cha (fun _ => False) w w' := by
  have C0 : Hid (Calls Try.prog 10 #[.int .i64 1] w fun e w' => ∃ bs, e = .returned (.tuple #[.pointer (some ⟨bs, 0, none⟩), .int .i64 0]) ∧ Sd w w' bs (lB 0)) := Lib.hid (sd_new 1 (Cha.refl _ w) (by decide) (by decide))
  have CW : Hid (∀ w1 bs X, Sd w w1 bs X → Calls Try.prog 11 #[] w1 fun e w' => e = .returned (.bool true) ∧ Sd w w' bs X) := Lib.hid fun w1 bs X h => (schawake_any w1).mono fun _ _ ⟨a, c⟩ => ⟨a, h.same c⟩
  obtain ⟨n, hk⟩ : ∃ n, n = m % 5 := ⟨_, rfl⟩
  have hn : n < 5 := by omega
  have e0 : (m : Int) % 5 = (n : Int) := by omega
  have C1 : Hid (∀ w1 bs (j : Nat), j < n + 1 → Sd w w1 bs (lB j) → Calls Try.prog 12 #[.pointer (some ⟨bs, 0, none⟩), .int .i64 0] w1 fun e w' => e = .returned (.tuple #[.int .i64 (j : Int), .int .i64 0]) ∧ Sd w w' bs (lB (j + 1))) := Lib.hid fun w1 bs j hj h => by
    have o := ok_lB (k := j) (by omega)
    have f := wf_lB j (by omega)
    have := sd_begin h 0 (by rw [f.lpr]; decide) (by rw [f.lq]; decide) (by omega) (by omega)
    rw [o.1] at this
    exact this
  have C2 : Hid (∀ w1 bs, Sd w w1 bs (lB (n + 1)) → Calls Try.prog 13 #[.pointer (some ⟨bs, 0, none⟩), .int .i64 0, .int .i64 0] w1 fun e w' => e = .returned (.tuple #[.int .i64 2, .int .i64 (n : Int), .int .i64 0]) ∧ Sd w w' bs (lA n 0)) := Lib.hid fun w1 bs h => by
    obtain ⟨o1, o2⟩ := (ok_l0 hn).1
    have f := wf_lB (n + 1) (by omega)
    have := sd_act h f.fine 0 0 (by rw [f.lpr]; decide) (.inl o1) (f.rn 0)
    rw [o2] at this
    exact this
  have C3 : Hid (∀ w1 bs (i : Nat), i < 16 ∨ n = 0 → Sd w w1 bs (lA n i) → Calls Try.prog 13 #[.pointer (some ⟨bs, 0, none⟩), .int .i64 0, .int .i64 0] w1 fun e w' => e = .returned (.tuple #[.int .i64 3, .int .i64 (n : Int), .int .i64 0]) ∧ Sd w w' bs (lA n (i + 1))) := Lib.hid fun w1 bs i hi h => by
    obtain ⟨o1, o2⟩ := (ok_l0 hn).2.1 i hi
    have f := wf_lA hn i
    have := sd_act h f.fine 0 0 (by rw [f.lpr]; decide) (.inr (by omega)) (f.rn 0)
    rw [o2] at this
    exact this
  have C4 : Hid (n ≠ 0 → ∀ w1 bs, Sd w w1 bs (lA n 16) → Calls Try.prog 13 #[.pointer (some ⟨bs, 0, none⟩), .int .i64 0, .int .i64 0] w1 fun e w' => e = .returned (.tuple #[.int .i64 4, .int .i64 (n : Int), .int .i64 0]) ∧ Sd w w' bs (lA n 17) ∧
      (Calls Try.prog 15 #[.pointer (some ⟨bs, 0, none⟩), .int .i64 0] w' fun e w'' => e = .returned (.int .i64 (-1)) ∧ w' = w'') ∧ Calls Try.prog 14 #[.pointer (some ⟨bs, 0, none⟩), .int .i64 (n : Int)] w' fun e w'' => e = .returned (.int .i64 1) ∧ w' = w'') := Lib.hid fun h0 w1 bs h => by
    rcases (ok_l0 hn).2.2 with o | o
    · exact absurd o h0
    · unfold okLL at o
      simp only [Bool.and_eq_true, beq_iff_eq, decide_eq_true_eq] at o
      obtain ⟨⟨⟨⟨o1, o2⟩, o3⟩, o4⟩, o5⟩ := o
      have f := wf_lA hn 16
      have := sd_act h f.fine 0 0 (by rw [f.lpr]; decide) (.inr (by omega)) (f.rn 0)
      rw [o2] at this
      refine this.mono fun e w' ⟨a, b⟩ => ⟨a, b, ?_, ?_⟩
      · have c := sd_current b 0 (by rw [(f.act (p := 0) (by decide) 0).lpr]; decide)
        rw [o3] at c; exact c
      · have c := sd_state b n o4
        rw [o5] at c; exact c
  have HC : Hid (∀ w1 bs X, Sd w w1 bs X → Cha (fun _ => False) w w1) := Lib.hid fun _ _ _ h => h.cha
  have e1 : IntKind.i64.wrap ((n : Int) + 1) = ((n + 1 : Nat) : Int) := by rw [IntWalk.i64_in _ (by omega)]; omega
  clear hk
  go_enter Try.func8, Try.ntmps8
  go_wp2_with (first
    | (go_at_call 10; ((with_reducible refine (C0.out).mono ?_); rintro e w1 ⟨bs, rfl, hS⟩; have S1 := Lib.hid hS; clear hS))
    | (go_at_call 11; ((with_reducible refine (CW.out _ _ _ S1.out).mono ?_); rintro e w2 ⟨rfl, hS⟩; have S2 := Lib.hid hS; clear hS)))
  clear C0 CW S1
  rw [e0]
  clear e0
  go_loopw [34] (fun i wr => ∃ j : Nat, j ≤ n + 1 ∧ i = .int .i64 (j : Int) ∧ Sd w wr bs (lB j)) (fun i _ => n + 1 - (intOf i).toNat)
  case atStart => exact ⟨0, Nat.zero_le _, rfl, S2.out⟩
  case round =>
    clear S2
    obtain ⟨j, hj, rfl, hS⟩ := hrel
    by_cases hlt : j < n + 1
    · have C := Lib.hid (C1.out _ _ j hlt hS)
      clear hS
      go_wp2_with (go_at_call 12; ((with_reducible refine (C.out).mono ?_); rintro e w3 ⟨rfl, hS⟩; have S3 := Lib.hid hS; clear hS))
      go_roundw
      case rel => exact ⟨j + 1, by omega, by go_num, S3.out⟩
      case measure => simp [intOf]; omega
    · obtain rfl : j = n + 1 := by omega
      have C := Lib.hid (C2.out _ _ hS)
      clear hS hlt hj
      go_wp2_with (go_at_call 13; ((with_reducible refine (C.out).mono ?_); rintro e w3 ⟨rfl, hS⟩; have S3 := Lib.hid hS; clear hS))
      go_loopw [11, 12, 13, 14, 54] (fun _ _ _ _ i wr => ∃ b : Nat, b ≤ a ∧ (b ≤ 16 ∨ n = 0) ∧ i = .int .i64 (b : Int) ∧ Sd w wr bs (lA n b)) (fun _ _ _ _ i _ => a - (intOf i).toNat)
      case atStart => exact ⟨0, Nat.zero_le _, .inl (Nat.zero_le _), rfl, S3.out⟩
      case round =>
        clear S3
        obtain ⟨b, hb, hb2, rfl, hS⟩ := hrel
        by_cases hlt : b < a
        · by_cases hc : n = 0
          · have D := Lib.hid (C3.out _ _ b (.inr hc) hS)
            have hc1 : ((n : Int) == 0) = true := by simp; omega
            have HC0 := Lib.hid hc
            clear hS hc
            go_wp2_with (go_at_call 13; ((with_reducible refine (D.out).mono ?_); rintro e w5 ⟨rfl, hS⟩; have S5 := Lib.hid hS; clear hS))
            go_roundw
            case rel => exact ⟨b + 1, by omega, .inr HC0.out, by go_num, S5.out⟩
            case measure => simp [intOf]; omega
          · have hc1 : ((n : Int) == 0) = false := by simp; omega
            by_cases h16 : b < 16
            · have D := Lib.hid (C3.out _ _ b (.inl h16) hS)
              have h17 : (b : Int) < 16 := by omega
              clear hS
              go_wp2_with (go_at_call 13; ((with_reducible refine (D.out).mono ?_); rintro e w5 ⟨rfl, hS⟩; have S5 := Lib.hid hS; clear hS))
              go_roundw
              case rel => exact ⟨b + 1, by omega, .inl (by omega), by go_num, S5.out⟩
              case measure => simp [intOf]; omega
            · obtain rfl : b = 16 := by omega
              have D := Lib.hid (C4.out hc _ _ hS)
              clear hS h16
              go_wp2_with (first
                | (go_at_call 13; ((with_reducible refine (D.out).mono ?_); rintro e w5 ⟨rfl, hS, c1, c2⟩; have S5 := Lib.hid hS; have D1 := Lib.hid c1; have D2 := Lib.hid c2; clear hS c1 c2))
                | (go_at_call 15; ((with_reducible refine (D1.out).mono ?_); rintro e w6 ⟨rfl, rfl⟩))
                | (go_at_call 14; ((with_reducible refine (D2.out).mono ?_); rintro e w6 ⟨rfl, rfl⟩)))
              go_returns
              exact ⟨rfl, HC.out _ _ _ S5.out⟩
        · go_wp2
          go_returns
          exact ⟨rfl, HC.out _ _ _ hS⟩
end Go.Proofs.Ytaloafihbdamiaa
