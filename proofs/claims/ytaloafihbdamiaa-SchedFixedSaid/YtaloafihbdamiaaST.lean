/- SchedFixed. -/
import Derived.Test.YtaloafihbdamiaaSP
import Derived.Test.YtaloafihbdamiaaSS
namespace Go.Proofs.Ytaloafihbdamiaa
open Go.ChangeShapes Go.WideShapes Go.ChangeAt Go.RowKit
def f4 : Sx := (a3.act 0 0).2
def f5 : Sx := (f4.act 1 0).2
def f6 : Sx := f5.slp 0 3
def f7 : Sx := (f6.act 0 0).2
def f8 : Sx := f7.tick 3
def f9 : Sx := (f8.act 0 0).2
theorem wf_a2 : Wf 2 a2 := ((wf_ini (by decide) (by decide)).beg (by decide) (by decide)).beg (by decide) (by decide)
theorem wf_a3 : Wf 2 a3 := wf_a2.act (by decide) 0
theorem wf_f4 : Wf 2 f4 := wf_a3.act (by decide) 0
theorem wf_f5 : Wf 2 f5 := wf_f4.act (by decide) 0
theorem wf_f6 : Wf 2 f6 := wf_f5.slp (by decide) (by decide) 3
theorem wf_f7 : Wf 2 f7 := wf_f6.act (by decide) 0
theorem wf_f8 : Wf 2 f8 := wf_f7.tick 3
theorem wf_f9 : Wf 2 f9 := wf_f8.act (by decide) 0
set_option maxHeartbeats 1000000 in
theorem schedfixed_walk (w : World) : Calls Try.prog 9 #[] w fun e w' => e = .returned (.bool true) ∧ Cha (fun _ => False) w w' := by
  have C0 : Hid (Calls Try.prog 10 #[.int .i64 2] w fun e w' => ∃ bs, e = .returned (.tuple #[.pointer (some ⟨bs, 0, none⟩), .int .i64 0]) ∧ Sd w w' bs a0) := Lib.hid (sd_new 2 (Cha.refl _ w) (by decide) (by decide))
  have C1 : Hid (∀ w1 bs, Sd w w1 bs a0 → Calls Try.prog 12 #[.pointer (some ⟨bs, 0, none⟩), .int .i64 0] w1 fun e w' => e = .returned (.tuple #[.int .i64 0, .int .i64 0]) ∧ Sd w w' bs a1) := Lib.hid fun w1 bs h => sd_begin h 0 (by decide) (by decide) (by decide) (by decide)
  have C2 : Hid (∀ w1 bs, Sd w w1 bs a1 → Calls Try.prog 12 #[.pointer (some ⟨bs, 0, none⟩), .int .i64 0] w1 fun e w' => e = .returned (.tuple #[.int .i64 1, .int .i64 0]) ∧ Sd w w' bs a2) := Lib.hid fun w1 bs h => sd_begin h 0 (by decide) (by decide) (by decide) (by decide)
  have C3 : Hid (∀ w1 bs, Sd w w1 bs a2 → Calls Try.prog 13 #[.pointer (some ⟨bs, 0, none⟩), .int .i64 0, .int .i64 0] w1 fun e w' => e = .returned (.tuple #[.int .i64 2, .int .i64 1, .int .i64 0]) ∧ Sd w w' bs a3) := Lib.hid fun w1 bs h =>
    sd_act h wf_a2.fine 0 0 (by decide) (.inl rfl) (by decide)
  have C4 : Hid (∀ w1 bs, Sd w w1 bs a3 → Calls Try.prog 13 #[.pointer (some ⟨bs, 0, none⟩), .int .i64 0, .int .i64 0] w1 fun e w' => e = .returned (.tuple #[.int .i64 3, .int .i64 1, .int .i64 0]) ∧ Sd w w' bs f4) := Lib.hid fun w1 bs h =>
    sd_act h wf_a3.fine 0 0 (by decide) (.inr (by decide)) (by decide)
  have C5 : Hid (∀ w1 bs, Sd w w1 bs f4 → Calls Try.prog 13 #[.pointer (some ⟨bs, 0, none⟩), .int .i64 1, .int .i64 0] w1 fun e w' => e = .returned (.tuple #[.int .i64 2, .int .i64 0, .int .i64 0]) ∧ Sd w w' bs f5) := Lib.hid fun w1 bs h =>
    sd_act h wf_f4.fine 1 0 (by decide) (.inl rfl) (by decide)
  have C6 : Hid (∀ w1 bs, Sd w w1 bs f5 → Calls Try.prog 18 #[.pointer (some ⟨bs, 0, none⟩), .int .i64 0, .int .u64 3] w1 fun e w' => e = .returned (.int .i64 0) ∧ Sd w w' bs f6) := Lib.hid fun w1 bs h =>
    sd_sleep h wf_f5.fine 0 1 3 (by decide) rfl (by decide) (by decide) (by decide)
  have C7 : Hid (∀ w1 bs, Sd w w1 bs f6 → Calls Try.prog 13 #[.pointer (some ⟨bs, 0, none⟩), .int .i64 0, .int .i64 0] w1 fun e w' => e = .returned (.tuple #[.int .i64 1, .int .i64 0, .int .i64 0]) ∧ Sd w w' bs f7) := Lib.hid fun w1 bs h =>
    sd_act h wf_f6.fine 0 0 (by decide) (.inl rfl) (by decide)
  have C8 : Hid (∀ w1 bs, Sd w w1 bs f7 → Calls Try.prog 21 #[.pointer (some ⟨bs, 0, none⟩), .int .u64 3] w1 fun e w' => e = .returned (.tuple #[]) ∧ Sd w w' bs f8) := Lib.hid fun w1 bs h => sd_tick h 3 (by decide) (by decide)
  have C9 : Hid (∀ w1 bs, Sd w w1 bs f8 → Calls Try.prog 13 #[.pointer (some ⟨bs, 0, none⟩), .int .i64 0, .int .i64 0] w1 fun e w' => e = .returned (.tuple #[.int .i64 2, .int .i64 1, .int .i64 0]) ∧ Sd w w' bs f9) := Lib.hid fun w1 bs h =>
    sd_act h wf_f8.fine 0 0 (by decide) (.inl rfl) (by decide)
  have CA : Hid (∀ w1 bs, Sd w w1 bs f9 → Calls Try.prog 23 #[.pointer (some ⟨bs, 0, none⟩)] w1 fun e w' => e = .returned (.tuple #[.int .u64 3, .int .i64 2, .int .i64 0]) ∧ Sd w w' bs f9) := Lib.hid fun w1 bs h => sd_counts h (by decide)
  have CB := Lib.hid fun w1 => schnew_bad 9 w1 (.inr (by decide))
  have CC : Hid (∀ w1 bs, Sd w w1 bs f9 → Calls Try.prog 11 #[] w1 fun e w' => e = .returned (.bool true) ∧ Sd w w' bs f9) := Lib.hid fun w1 bs h => (schawake_any w1).mono fun _ _ ⟨a, c⟩ => ⟨a, h.same c⟩
  have CD : Hid (∀ w1 bs, Sd w w1 bs f9 → Calls Try.prog 17 #[.pointer (some ⟨bs, 0, none⟩), .int .i64 2] w1 fun e w' => e = .returned (.int .i64 1) ∧ Sd w w' bs f9) := Lib.hid fun w1 bs h => sd_block_bad h 2 (.inr (by decide))
  have CE : Hid (∀ w1 bs, Sd w w1 bs f9 → Calls Try.prog 20 #[.pointer (some ⟨bs, 0, none⟩), .int .i64 0, .int .i64 0] w1 fun e w' => e = .returned (.int .i64 4) ∧ w1 = w') := Lib.hid fun w1 bs h => sd_ready_busy h 0 0 (by decide) (by decide) (by decide)
  have CF : Hid (∀ w1 bs, Sd w w1 bs f9 → Calls Try.prog 14 #[.pointer (some ⟨bs, 0, none⟩), .int .i64 2] w1 fun e w' => e = .returned (.int .i64 0) ∧ w1 = w') := Lib.hid fun w1 bs h => h.see fun _ _ _ _ q => state_bad q 2 (.inr (by decide))
  have CG : Hid (∀ w1 bs, Sd w w1 bs f9 → Calls Try.prog 15 #[.pointer (some ⟨bs, 0, none⟩), .int .i64 2] w1 fun e w' => e = .returned (.int .i64 (-1)) ∧ w1 = w') := Lib.hid fun w1 bs h => h.see fun _ _ _ _ q => current_bad q 2 (.inr (by decide))
  have HC : Hid (∀ w1 bs X, Sd w w1 bs X → Cha (fun _ => False) w w1) := Lib.hid fun _ _ _ h => h.cha
  go_enter Try.func9, Try.ntmps9
  go_wp2_with (first
    | (go_at_call 10; ((with_reducible refine (C0.out).mono ?_); rintro e w1 ⟨bs, rfl, hS⟩; have S1 := Lib.hid hS; clear hS))
    | (go_at_call 12; ((with_reducible refine (C1.out _ _ S1.out).mono ?_); rintro e w2 ⟨rfl, hS⟩; have S2 := Lib.hid hS; clear hS))
    | (go_at_call 12; ((with_reducible refine (C2.out _ _ S2.out).mono ?_); rintro e w3 ⟨rfl, hS⟩; have S3 := Lib.hid hS; clear hS))
    | (go_at_call 13; ((with_reducible refine (C3.out _ _ S3.out).mono ?_); rintro e w4 ⟨rfl, hS⟩; have S4 := Lib.hid hS; clear hS))
    | (go_at_call 13; ((with_reducible refine (C4.out _ _ S4.out).mono ?_); rintro e w5 ⟨rfl, hS⟩; have S5 := Lib.hid hS; clear hS))
    | (go_at_call 13; ((with_reducible refine (C5.out _ _ S5.out).mono ?_); rintro e w6 ⟨rfl, hS⟩; have S6 := Lib.hid hS; clear hS))
    | (go_at_call 18; ((with_reducible refine (C6.out _ _ S6.out).mono ?_); rintro e w7 ⟨rfl, hS⟩; have S7 := Lib.hid hS; clear hS))
    | (go_at_call 13; ((with_reducible refine (C7.out _ _ S7.out).mono ?_); rintro e w8 ⟨rfl, hS⟩; have S8 := Lib.hid hS; clear hS))
    | (go_at_call 21; ((with_reducible refine (C8.out _ _ S8.out).mono ?_); rintro e w9 ⟨rfl, hS⟩; have S9 := Lib.hid hS; clear hS))
    | (go_at_call 13; ((with_reducible refine (C9.out _ _ S9.out).mono ?_); rintro e w10 ⟨rfl, hS⟩; have S10 := Lib.hid hS; clear hS))
    | (go_at_call 23; ((with_reducible refine (CA.out _ _ S10.out).mono ?_); rintro e w11 ⟨rfl, hS⟩; have S11 := Lib.hid hS; clear hS))
    | (go_at_call 10; ((with_reducible refine (CB.out _).mono ?_); rintro e w12 ⟨rfl, rfl⟩))
    | (go_at_call 11; ((with_reducible refine (CC.out _ _ S11.out).mono ?_); rintro e w13 ⟨rfl, hS⟩; have S12 := Lib.hid hS; clear hS))
    | (go_at_call 17; ((with_reducible refine (CD.out _ _ S12.out).mono ?_); rintro e w14 ⟨rfl, hS⟩; have S13 := Lib.hid hS; clear hS))
    | (go_at_call 20; ((with_reducible refine (CE.out _ _ S13.out).mono ?_); rintro e w15 ⟨rfl, rfl⟩))
    | (go_at_call 14; ((with_reducible refine (CF.out _ _ S13.out).mono ?_); rintro e w15 ⟨rfl, rfl⟩))
    | (go_at_call 15; ((with_reducible refine (CG.out _ _ S13.out).mono ?_); rintro e w15 ⟨rfl, rfl⟩)))
  go_returns
  exact ⟨rfl, HC.out _ _ _ S13.out⟩
end Go.Proofs.Ytaloafihbdamiaa
