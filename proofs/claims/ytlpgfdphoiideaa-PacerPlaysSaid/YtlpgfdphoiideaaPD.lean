/- The program's pacer: nil, the law's awake, PacerNone. -/
import Derived.Test.YtlpgfdphoiideaaPC
namespace Go.Proofs.Ytlpgfdphoiideaa
open Go.ChangeShapes Go.WideShapes Go.ChangeAt Go.RowKit
section
variable {w : World} {b : Nat} {s : PS}
abbrev s1 : PS := (PS.new 100 0).alloc 200
theorem ok_s0 : (PS.new 100 0).Ok := PS.ok_new (by omega) isW_0
theorem ok_s1 : s1.Ok := ok_s0.alloc (by unfold isW; omega)
theorem ok_s2 : s1.begin.Ok := ok_s1.begin
theorem aw_due (h : PP w b s1) : Calls Try.prog 26 #[.pointer (some ⟨b, 0, none⟩)] w fun e w' => e = .returned (.bool true) ∧ Cha (fun _ => False) w w' := by
  have k := due_any h
  rwa [show s1.due = true from rfl] at k
theorem aw_counts (h : PP w b s1.begin) : Calls Try.prog 24 #[.pointer (some ⟨b, 0, none⟩)] w fun e w' => e = .returned (.tuple #[.int .u64 200, .int .u64 256, .int .u64 192, .int .u64 235228]) ∧ Cha (fun _ => False) w w' := by
  have k := counts_any h
  rwa [show s1.begin.heap = 200 from rfl, show s1.begin.goal = 256 from rfl, show s1.begin.trig = 192 from rfl, show s1.begin.ratio = 235228 from rfl] at k
theorem aw_owes (h : PP w b s1.begin) : Calls Try.prog 28 #[.pointer (some ⟨b, 0, none⟩), .int .u64 10] w fun e w' => e = .returned (.int .u64 36) ∧ Cha (fun _ => False) w w' := by
  have k := owes_any h ok_s2 10 (by unfold isW; omega)
  rwa [show s1.begin.owes 10 = 36 from rfl] at k
theorem awake (w : World) : Calls Try.prog 15 #[] w fun e w' => e = .returned (.bool true) ∧ Cha (fun _ => False) w w' := by
  have N := Lib.hid (new_any w 100 0 (by omega) isW_0)
  go_enter Try.func15, Try.ntmps15
  go_wp2_with (first
    | (go_at_call 13; (with_reducible refine (N.out).mono ?_); rintro e w1 ⟨rfl, hp1, hc1⟩; have HP1 := Lib.hid hp1; have HC1 := Lib.hid hc1; clear hp1 hc1)
    | (go_at_call 16; (with_reducible refine (alloc_any HP1.out ok_s0 200 (by unfold isW; omega)).mono ?_); rintro e w2 ⟨rfl, hp2, hc2⟩; have HP2 := Lib.hid hp2; have HC2 := Lib.hid hc2; clear hp2 hc2)
    | (go_at_call 26; (with_reducible refine (aw_due HP2.out).mono ?_); rintro e w3 ⟨rfl, hc3⟩; have HC3 := Lib.hid hc3; have HP3 := Lib.hid (PP.same HP2.out hc3); clear hc3)
    | (go_at_call 20; (with_reducible refine (begin_any HP3.out ok_s1).mono ?_); rintro e w4 ⟨rfl, hp4, hc4⟩; have HP4 := Lib.hid hp4; have HC4 := Lib.hid hc4; clear hp4 hc4)
    | (go_at_call 24; (with_reducible refine (aw_counts HP4.out).mono ?_); rintro e w5 ⟨rfl, hc5⟩; have HC5 := Lib.hid hc5; have HP5 := Lib.hid (PP.same HP4.out hc5); clear hc5)
    | (go_at_call 28; (with_reducible refine (aw_owes HP5.out).mono ?_); rintro e w6 ⟨rfl, hc6⟩; have HC6 := Lib.hid hc6; clear hc6))
  go_returns
  have k2 := HC1.out.over HC2.out fun i hi => .inr (by omega)
  have k4 := (k2.trans HC3.out).over HC4.out fun i hi => .inr (by omega)
  exact ⟨rfl, (k4.trans HC5.out).trans HC6.out⟩
theorem none_walk (n : Int) (w : World) : Calls Try.prog 6 #[.int .u64 n] w fun e w' => e = .returned (.bool true) ∧ Cha (fun _ => False) w w' := by
  have n16 : Hid (∀ w, Calls Try.prog 16 #[.pointer none, .int .u64 n] w fun e w' => e = .returned (.tuple #[]) ∧ w = w') := Lib.hid fun w => by
    go_enter Try.func16, Try.ntmps16
    go_wp2
    go_returns
    exact ⟨rfl, rfl⟩
  have n18 : Hid (∀ w, Calls Try.prog 18 #[.pointer none, .int .u64 n] w fun e w' => e = .returned (.tuple #[]) ∧ w = w') := Lib.hid fun w => by
    go_enter Try.func18, Try.ntmps18
    go_wp2
    go_returns
    exact ⟨rfl, rfl⟩
  have n20 : Hid (∀ w, Calls Try.prog 20 #[.pointer none] w fun e w' => e = .returned (.tuple #[]) ∧ w = w') := Lib.hid fun w => by
    go_enter Try.func20, Try.ntmps20
    go_wp2
    go_returns
    exact ⟨rfl, rfl⟩
  have n22 : Hid (∀ w, Calls Try.prog 22 #[.pointer none, .int .u64 n, .int .u64 n] w fun e w' => e = .returned (.tuple #[]) ∧ w = w') := Lib.hid fun w => by
    go_enter Try.func22, Try.ntmps22
    go_wp2
    go_returns
    exact ⟨rfl, rfl⟩
  have n24 : Hid (∀ w, Calls Try.prog 24 #[.pointer none] w fun e w' => e = .returned (.tuple #[.int .u64 0, .int .u64 0, .int .u64 0, .int .u64 0]) ∧ w = w') := Lib.hid fun w => by
    go_enter Try.func24, Try.ntmps24
    go_wp2
    go_returns
    exact ⟨rfl, rfl⟩
  have n25 : Hid (∀ w, Calls Try.prog 25 #[.pointer none] w fun e w' => e = .returned (.tuple #[.int .u64 0, .int .i64 5]) ∧ w = w') := Lib.hid fun w => by
    go_enter Try.func25, Try.ntmps25
    go_wp2
    go_returns
    exact ⟨rfl, rfl⟩
  have n26 : Hid (∀ w, Calls Try.prog 26 #[.pointer none] w fun e w' => e = .returned (.bool false) ∧ Cha (fun _ => False) w w') := Lib.hid fun w => by
    go_enter Try.func26, Try.ntmps26
    go_wp2
    go_quiet (fail)
    go_wp2
    go_returns
    exact ⟨rfl, (Cha.refl _ _).drewN _⟩
  have n28 : Hid (∀ w, Calls Try.prog 28 #[.pointer none, .int .u64 n] w fun e w' => e = .returned (.int .u64 0) ∧ w = w') := Lib.hid fun w => by
    go_enter Try.func28, Try.ntmps28
    go_wp2
    go_returns
    exact ⟨rfl, rfl⟩
  have AW := Lib.hid awake
  go_enter Try.func6, Try.ntmps6
  go_wp2_with (first
    | (go_at_call 16; (with_reducible refine (n16.out _).mono ?_); rintro e w1 ⟨rfl, rfl⟩)
    | (go_at_call 18; (with_reducible refine (n18.out _).mono ?_); rintro e w1 ⟨rfl, rfl⟩)
    | (go_at_call 20; (with_reducible refine (n20.out _).mono ?_); rintro e w1 ⟨rfl, rfl⟩)
    | (go_at_call 22; (with_reducible refine (n22.out _).mono ?_); rintro e w1 ⟨rfl, rfl⟩)
    | (go_at_call 24; (with_reducible refine (n24.out _).mono ?_); rintro e w1 ⟨rfl, rfl⟩)
    | (go_at_call 25; (with_reducible refine (n25.out _).mono ?_); rintro e w1 ⟨rfl, rfl⟩)
    | (go_at_call 28; (with_reducible refine (n28.out _).mono ?_); rintro e w1 ⟨rfl, rfl⟩)
    | (go_at_call 15; (with_reducible refine (AW.out _).mono ?_); rintro e w1 ⟨rfl, hc1⟩; have HC1 := Lib.hid hc1; clear hc1)
    | (go_at_call 26; (with_reducible refine (n26.out _).mono ?_); rintro e w2 ⟨rfl, hc2⟩; have HC2 := Lib.hid hc2; clear hc2))
  go_returns
  exact ⟨rfl, HC1.out.trans HC2.out⟩
end
end Go.Proofs.Ytlpgfdphoiideaa
