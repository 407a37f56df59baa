/- SchedWakes: its walk. -/
import Derived.Test.YtaloafihbdamiaaSU
namespace Go.Proofs.Ytaloafihbdamiaa
open Go.ChangeShapes Go.WideShapes Go.ChangeAt Go.RowKit
set_option maxHeartbeats 2000000 in
theorem wakes_walk (n : Nat) (w : World) : Calls Try.prog 7 #[.int .u8 (n : Int)] w fun e w' => e = .returned (.bool true) ∧ Cha (fun _ => False) w w' := by
  have C0 : Hid (Calls Try.prog 10 #[.int .i64 2] w fun e w' => ∃ bs, e = .returned (.tuple #[.pointer (some ⟨bs, 0, none⟩), .int .i64 0]) ∧ Sd w w' bs (wB 0)) := Lib.hid (sd_new 2 (Cha.refl _ w) (by decide) (by decide))
  have CW : Hid (∀ w1 bs X, Sd w w1 bs X → Calls Try.prog 11 #[] w1 fun e w' => e = .returned (.bool true) ∧ Sd w w' bs X) := Lib.hid fun w1 bs X h => (schawake_any w1).mono fun _ _ ⟨a, c⟩ => ⟨a, h.same c⟩
  obtain ⟨k, hk⟩ : ∃ k, k = n % 12 + 1 := ⟨_, rfl⟩
  have hk12 : k ≤ 12 := by omega
  have hk1 : 1 ≤ k := by omega
  have e0 : (n : Int) % 12 = ((k - 1 : Nat) : Int) := by omega
  have e1 : IntKind.i64.wrap (((k - 1 : Nat) : Int) + 1) = (k : Int) := by rw [IntWalk.i64_in _ (by omega)]; omega
  have C1 : Hid (∀ w1 bs (j : Nat), j < k → Sd w w1 bs (wB j) → Calls Try.prog 12 #[.pointer (some ⟨bs, 0, none⟩), .int .i64 0] w1 fun e w' => e = .returned (.tuple #[.int .i64 (j : Int), .int .i64 0]) ∧ Sd w w' bs (wB (j + 1))) := Lib.hid fun w1 bs j hj h => by
    have o := (ok_at (k := j) (by omega)).1
    unfold okB at o
    simp only [Bool.and_eq_true, beq_iff_eq, decide_eq_true_eq] at o
    have f := wf_wB j (by omega)
    have := sd_begin h 0 (by rw [f.lpr]; decide) (by rw [f.lq]; decide) (by omega) (by omega)
    rw [o.1] at this
    exact this
  have C2 : Hid (∀ w1 bs (j : Nat), j < k → Sd w w1 bs (wA k j) → Calls Try.prog 13 #[.pointer (some ⟨bs, 0, none⟩), .int .i64 0, .int .i64 0] w1 fun e w' => ∃ g : Int, e = .returned (.tuple #[.int .i64 2, .int .i64 g, .int .i64 0]) ∧ Sd w w' bs ((wA k j).act 0 0).2) := Lib.hid fun w1 bs j hj h => by
    have o := (ok_at hk12).2.1 j hj
    unfold okA at o
    simp only [Bool.and_eq_true, beq_iff_eq, decide_eq_true_eq] at o
    have f := wf_wA hk12 j (by omega)
    have := sd_act h f.fine 0 0 (by rw [f.lpr]; decide) (.inl o.1.1.1) (f.rn 0)
    rw [o.1.1.2] at this
    exact this.mono fun e w' ⟨a, b⟩ => ⟨_, a, b⟩
  have C3 : Hid (∀ w1 bs (j : Nat), j < k → Sd w w1 bs ((wA k j).act 0 0).2 → Calls Try.prog 17 #[.pointer (some ⟨bs, 0, none⟩), .int .i64 0] w1 fun e w' => e = .returned (.int .i64 0) ∧ Sd w w' bs (wA k (j + 1))) := Lib.hid fun w1 bs j hj h => by
    have o := (ok_at hk12).2.1 j hj
    unfold okA at o
    simp only [Bool.and_eq_true, beq_iff_eq, decide_eq_true_eq] at o
    have f := (wf_wA hk12 j (by omega)).act (p := 0) (by decide) 0
    exact sd_block h 0 (((wA k j).act 0 0).2.on 0).toNat (by rw [f.lpr]; decide) (by omega) (by omega)
  have C4 : Hid (∀ w1 bs, Sd w w1 bs (wA k k) → Calls Try.prog 13 #[.pointer (some ⟨bs, 0, none⟩), .int .i64 0, .int .i64 0] w1 fun e w' => ∃ g : Int, e = .returned (.tuple #[.int .i64 1, .int .i64 g, .int .i64 0]) ∧ Sd w w' bs (wR k 0)) := Lib.hid fun w1 bs h => by
    have o := (ok_at hk12).2.2.1
    unfold okI at o
    simp only [Bool.and_eq_true, beq_iff_eq] at o
    have f := wf_wA hk12 k (Nat.le_refl _)
    have := sd_act h f.fine 0 0 (by rw [f.lpr]; decide) (.inl o.1) (f.rn 0)
    rw [o.2] at this
    exact this.mono fun e w' ⟨a, b⟩ => ⟨_, a, b⟩
  have CR : Hid (∀ w1 bs (j : Nat), j < k → Sd w w1 bs (wR k j) → (Calls Try.prog 14 #[.pointer (some ⟨bs, 0, none⟩), .int .i64 (j : Int)] w1 fun e w' => e = .returned (.int .i64 2) ∧ w1 = w') ∧
      Calls Try.prog 20 #[.pointer (some ⟨bs, 0, none⟩), .int .i64 1, .int .i64 (j : Int)] w1 fun e w' => e = .returned (.int .i64 0) ∧ Sd w w' bs ((wR k j).rdy 1 j)) := Lib.hid fun w1 bs j hj h => by
    have o := (ok_at hk12).2.2.2 j hj
    unfold okR at o
    simp only [Bool.and_eq_true, beq_iff_eq, decide_eq_true_eq] at o
    obtain ⟨⟨⟨⟨⟨⟨⟨⟨⟨o1, o2⟩, o3⟩, o4⟩, o5⟩, o6⟩, o7⟩, o8⟩, o9⟩, o10⟩ := o
    have f := (wf_wR hk12 j (by omega)).1
    have s := sd_state h j o2
    rw [o3] at s
    exact ⟨s, sd_ready h 1 j (by rw [f.lpr]; decide) (by rw [f.lq]; decide) o2 o3 (by have := f.qle; omega)⟩
  have CS : Hid (∀ w1 bs (j : Nat), j < k → Sd w w1 bs ((wR k j).rdy 1 j) → (Calls Try.prog 20 #[.pointer (some ⟨bs, 0, none⟩), .int .i64 1, .int .i64 (j : Int)] w1 fun e w' => e = .returned (.int .i64 4) ∧ w1 = w') ∧
      Calls Try.prog 13 #[.pointer (some ⟨bs, 0, none⟩), .int .i64 1, .int .i64 0] w1 fun e w' => e = .returned (.tuple #[.int .i64 2, .int .i64 (j : Int), .int .i64 0]) ∧ Sd w w' bs (((wR k j).rdy 1 j).act 1 0).2) := Lib.hid fun w1 bs j hj h => by
    have o := (ok_at hk12).2.2.2 j hj
    unfold okR at o
    simp only [Bool.and_eq_true, beq_iff_eq, decide_eq_true_eq] at o
    obtain ⟨⟨⟨⟨⟨⟨⟨⟨⟨o1, o2⟩, o3⟩, o4⟩, o5⟩, o6⟩, o7⟩, o8⟩, o9⟩, o10⟩ := o
    have f := (wf_wR hk12 j (by omega)).2 hj
    have := sd_act h f.fine 1 0 (by rw [f.lpr]; decide) (.inl o5) (f.rn 1)
    rw [o6] at this
    exact ⟨sd_ready_busy h 1 j (by rw [f.lpr]; decide) (by show j < (List.set _ _ _).length; rw [List.length_set]; exact o2) (by simpa using o4), this⟩
  have CT : Hid (∀ w1 bs (j : Nat), j < k → Sd w w1 bs (((wR k j).rdy 1 j).act 1 0).2 → (Calls Try.prog 15 #[.pointer (some ⟨bs, 0, none⟩), .int .i64 1] w1 fun e w' => e = .returned (.int .i64 (j : Int)) ∧ w1 = w') ∧
      Calls Try.prog 19 #[.pointer (some ⟨bs, 0, none⟩), .int .i64 1] w1 fun e w' => e = .returned (.int .i64 0) ∧ Sd w w' bs (wR k (j + 1)) ∧ Calls Try.prog 14 #[.pointer (some ⟨bs, 0, none⟩), .int .i64 (j : Int)] w' fun e w'' => e = .returned (.int .i64 3) ∧ w' = w'') := Lib.hid fun w1 bs j hj h => by
    have o := (ok_at hk12).2.2.2 j hj
    unfold okR at o
    simp only [Bool.and_eq_true, beq_iff_eq, decide_eq_true_eq] at o
    obtain ⟨⟨⟨⟨⟨⟨⟨⟨⟨o1, o2⟩, o3⟩, o4⟩, o5⟩, o6⟩, o7⟩, o8⟩, o9⟩, o10⟩ := o
    have f := ((wf_wR hk12 j (by omega)).2 hj).act (p := 1) (by decide) 0
    have c := sd_current h 1 (by rw [f.lpr]; decide)
    rw [o7] at c
    refine ⟨c, (sd_end h 1 j (by rw [f.lpr]; decide) o7 o8).mono fun e w' ⟨a, b⟩ => ⟨a, b, ?_⟩⟩
    have s := sd_state b j o10
    rw [o9] at s
    exact s
  have HC : Hid (∀ w1 bs X, Sd w w1 bs X → Cha (fun _ => False) w w1) := Lib.hid fun _ _ _ h => h.cha
  clear hk
  go_enter Try.func7, Try.ntmps7
  go_wp2_with (first
    | (go_at_call 10; ((with_reducible refine (C0.out).mono ?_); rintro e w1 ⟨bs, rfl, hS⟩; have S1 := Lib.hid hS; clear hS))
    | (go_at_call 11; ((with_reducible refine (CW.out _ _ _ S1.out).mono ?_); rintro e w2 ⟨rfl, hS⟩; have S2 := Lib.hid hS; clear hS)))
  clear C0 CW S1
  rw [e0]
  clear e0
  go_loopw [35] (fun i wr => ∃ j : Nat, j ≤ k ∧ i = .int .i64 (j : Int) ∧ Sd w wr bs (wB j)) (fun i _ => k - (intOf i).toNat)
  case atStart => exact ⟨0, Nat.zero_le _, rfl, S2.out⟩
  case round =>
    clear S2
    obtain ⟨j, hj, rfl, hS⟩ := hrel
    by_cases hlt : j < k
    · have C := Lib.hid (C1.out _ _ j hlt hS)
      clear hS
      go_wp2_with (go_at_call 12; ((with_reducible refine (C.out).mono ?_); rintro e w3 ⟨rfl, hS⟩; have S3 := Lib.hid hS; clear hS))
      go_roundw
      case rel => exact ⟨j + 1, by omega, by go_num, S3.out⟩
      case measure => simp [intOf]; omega
    · obtain rfl : j = k := by omega
      have S3 : Hid (Sd w wr bs (wA j 0)) := Lib.hid hS
      clear hS hlt hj
      go_wp2
      go_loopw [6, 7, 8, 41] (fun _ _ _ i wr => ∃ a : Nat, a ≤ j ∧ i = .int .i64 (a : Int) ∧ Sd w wr bs (wA j a)) (fun _ _ _ i _ => j - (intOf i).toNat)
      case atStart => exact ⟨0, Nat.zero_le _, rfl, S3.out⟩
      case round =>
        clear S3
        obtain ⟨a, ha, rfl, hS⟩ := hrel
        by_cases hlt : a < j
        · have C := Lib.hid (C2.out _ _ a hlt hS)
          have D := Lib.hid fun w1 => C3.out w1 bs a hlt
          clear hS
          go_wp2_with (first
            | (go_at_call 13; ((with_reducible refine (C.out).mono ?_); rintro e w4 ⟨g, rfl, hS⟩; have S4 := Lib.hid hS; clear hS))
            | (go_at_call 17; ((with_reducible refine (D.out _ S4.out).mono ?_); rintro e w5 ⟨rfl, hS⟩; have S5 := Lib.hid hS; clear hS)))
          go_roundw
          case rel => exact ⟨a + 1, by omega, by go_num, S5.out⟩
          case measure => simp [intOf]; omega
        · obtain rfl : a = j := by omega
          have C := Lib.hid (C4.out _ _ hS)
          clear hS hlt ha
          go_wp2_with (go_at_call 13; ((with_reducible refine (C.out).mono ?_); rintro e w4 ⟨g, rfl, hS⟩; have S4 := Lib.hid hS; clear hS))
          go_loopw [12, 13, 14, 15, 66] (fun _ _ _ _ i wr => ∃ b : Nat, b ≤ a ∧ i = .int .i64 (b : Int) ∧ Sd w wr bs (wR a b)) (fun _ _ _ _ i _ => a - (intOf i).toNat)
          case atStart => exact ⟨0, Nat.zero_le _, rfl, S4.out⟩
          case round =>
            clear S4
            obtain ⟨b, hb, rfl, hS⟩ := hrel
            by_cases hlt : b < a
            · obtain ⟨c1, c2⟩ := CR.out _ _ b hlt hS
              have D1 := Lib.hid c1
              have D2 := Lib.hid c2
              have D3 := Lib.hid fun w1 h => (CS.out w1 bs b hlt h).1
              have D4 := Lib.hid fun w1 h => (CS.out w1 bs b hlt h).2
              have D5 := Lib.hid fun w1 h => (CT.out w1 bs b hlt h).1
              have D6 := Lib.hid fun w1 h => (CT.out w1 bs b hlt h).2
              clear hS c1 c2
              go_wp2_with (first
                | (go_at_call 14; ((with_reducible refine (D1.out).mono ?_); rintro e w5 ⟨rfl, rfl⟩))
                | (go_at_call 20; ((with_reducible refine (D2.out).mono ?_); rintro e w5 ⟨rfl, hS⟩; have S5 := Lib.hid hS; clear hS))
                | (go_at_call 20; ((with_reducible refine (D3.out _ S5.out).mono ?_); rintro e w6 ⟨rfl, rfl⟩))
                | (go_at_call 13; ((with_reducible refine (D4.out _ S5.out).mono ?_); rintro e w6 ⟨rfl, hS⟩; have S6 := Lib.hid hS; clear hS))
                | (go_at_call 15; ((with_reducible refine (D5.out _ S6.out).mono ?_); rintro e w7 ⟨rfl, rfl⟩))
                | (go_at_call 19; ((with_reducible refine (D6.out _ S6.out).mono ?_); rintro e w7 ⟨rfl, hS, c7⟩; have S7 := Lib.hid hS; have D7 := Lib.hid c7; clear hS c7))
                | (go_at_call 14; ((with_reducible refine (D7.out).mono ?_); rintro e w8 ⟨rfl, rfl⟩)))
              go_roundw
              case rel => exact ⟨b + 1, by omega, by go_num, S7.out⟩
              case measure => simp [intOf]; omega
            · go_wp2
              go_returns
              exact ⟨rfl, HC.out _ _ _ hS⟩
end Go.Proofs.Ytaloafihbdamiaa
