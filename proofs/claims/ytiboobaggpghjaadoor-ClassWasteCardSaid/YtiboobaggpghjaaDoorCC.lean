/- Layer 6's statements, walked. -/
import Derived.Test.YtiboobaggpghjaaDoorCB
namespace Go.Proofs.YtiboobaggpghjaaDoor
open Go.ChangeShapes Go.WideShapes Go.ChangeAt Go.RowKit

set_option maxRecDepth 100000 in
set_option maxHeartbeats 1000000 in
theorem awake6_any {w : World} (hs : Siz w) : Calls Tryd.prog 13 #[] w fun e w' => e = .returned (.bool true) ∧ w = w' := by
  have A11 : Hid (Calls Tryd.prog 11 #[.int .i64 7] w fun e w' => e = .returned (.tuple #[.int .i64 6, .int .i64 0]) ∧ w = w') := Lib.hid (of_any 7 (by omega) hs)
  have A14 : Hid (Calls Tryd.prog 14 #[.int .i64 6] w fun e w' => e = .returned (.int .i64 8) ∧ w = w') := Lib.hid (words_in 6 (by omega) hs)
  have A16 : Hid (Calls Tryd.prog 16 #[.int .i64 13] w fun e w' => e = .returned (.int .i64 2) ∧ w = w') := Lib.hid (pages_in 13 (by omega) hs)
  have A18 : Hid (Calls Tryd.prog 18 #[.int .i64 13] w fun e w' => e = .returned (.int .i64 3) ∧ w = w') := Lib.hid (cells_in 13 (by omega) hs)
  have A20 := Lib.hid (count6 w)
  clear hs
  go_enter Tryd.func13, Tryd.ntmps13
  go_wp2_with (first
    | (go_at_call 11; ((with_reducible refine (A11.out).mono ?_); rintro e w1 ⟨rfl, rfl⟩))
    | (go_at_call 14; ((with_reducible refine (A14.out).mono ?_); rintro e w1 ⟨rfl, rfl⟩))
    | (go_at_call 16; ((with_reducible refine (A16.out).mono ?_); rintro e w1 ⟨rfl, rfl⟩))
    | (go_at_call 18; ((with_reducible refine (A18.out).mono ?_); rintro e w1 ⟨rfl, rfl⟩))
    | (go_at_call 20; ((with_reducible refine (A20.out).mono ?_); rintro e w1 ⟨rfl, rfl⟩)))
  go_ret
  exact ⟨rfl, rfl⟩

/-- The program's and the document's answers on one class. -/
structure Cls (c : Int) (s p q : Int) : Prop where
  pw : ∀ {w : World}, Siz w → Calls Tryd.prog 14 #[.int .i64 c] w fun e w' => e = .returned (.int .i64 s) ∧ w = w'
  dw : ∀ w, Calls Tryd.prog 15 #[.int .i64 c] w (Ints s w)
  pp : ∀ {w : World}, Siz w → Calls Tryd.prog 16 #[.int .i64 c] w fun e w' => e = .returned (.int .i64 p) ∧ w = w'
  dp : ∀ w, Calls Tryd.prog 17 #[.int .i64 c] w (Ints p w)
  pc : ∀ {w : World}, Siz w → Calls Tryd.prog 18 #[.int .i64 c] w fun e w' => e = .returned (.int .i64 q) ∧ w = w'
  dc : ∀ w, Calls Tryd.prog 19 #[.int .i64 c] w (Ints q w)
theorem Cls.ex (c : Int) : ∃ s p q, Cls c s p q := by
  by_cases h : 0 ≤ c ∧ c < 16
  · obtain ⟨c, rfl⟩ : ∃ x : Nat, c = (x : Int) := ⟨c.toNat, by omega⟩
    have hc : c < 16 := by omega
    exact ⟨_, _, _, words_in c hc, dwords_in c hc, pages_in c hc, dpages_in c hc, cells_in c hc, dcells_in c hc⟩
  · have hc : c < 0 ∨ 16 ≤ c := by omega
    exact ⟨_, _, _, fun {w} _ => words_out c hc w, dwords_out c hc, fun {w} _ => pages_out c hc w, dpages_out c hc, fun {w} _ => cells_out c hc w, dcells_out c hc⟩
theorem of_both (m : Int) : ∃ x y, (∀ {w : World}, Siz w → Calls Tryd.prog 11 #[.int .i64 m] w fun e w' => e = .returned (.tuple #[.int .i64 x, .int .i64 y]) ∧ w = w') ∧
    (∀ w, Calls Tryd.prog 12 #[.int .i64 m] w fun e w' => e = .returned (.tuple #[.int .i64 x, .int .i64 y]) ∧ Cha (fun _ => False) w w') := by
  by_cases h : m < 1
  · exact ⟨_, _, fun {w} _ => of_low m h w, dof_low m h⟩
  · exact ⟨_, _, of_any m (by omega), dof_any m (by omega)⟩
set_option maxRecDepth 100000 in
set_option maxHeartbeats 2000000 in
theorem tells_walk (m c : Int) (w : World) (hs : Siz w) : Calls Tryd.prog 3 #[.int .i64 m, .int .i64 c] w fun e w' => e = .returned (.bool true) ∧ Cha (fun _ => False) w w' := by
  obtain ⟨x, y, P, D⟩ := of_both m
  obtain ⟨s, p, q, hc⟩ := Cls.ex c
  have HP := Lib.hid (P hs)
  have HD := Lib.hid (D w)
  have HC := Lib.hid hc
  have HS := Lib.hid hs
  have A13 := Lib.hid fun (w : World) (h : Siz w) => awake6_any h
  clear P D hc hs
  go_enter Tryd.func3, Tryd.ntmps3
  go_wp2_with (first
    | (go_at_call 11; ((with_reducible refine (HP.out).mono ?_); rintro e w1 ⟨rfl, rfl⟩))
    | (go_at_call 12; ((with_reducible refine (HD.out).mono ?_); rintro e w1 ⟨rfl, h⟩; have H1 := Lib.hid h; have S1 := Lib.hid (HS.out.same h); clear h))
    | (go_at_call 13; ((with_reducible refine (A13.out _ S1.out).mono ?_); rintro e w1 ⟨rfl, rfl⟩))
    | (go_at_call 14; ((with_reducible refine (HC.out.pw S1.out).mono ?_); rintro e w1 ⟨rfl, rfl⟩))
    | (go_at_call 15; ((with_reducible refine (HC.out.dw _).mono ?_); rintro e w2 ⟨rfl, h⟩; have H2 := Lib.hid h; have S2 := Lib.hid (S1.out.same h); clear h))
    | (go_at_call 16; ((with_reducible refine (HC.out.pp S2.out).mono ?_); rintro e w1 ⟨rfl, rfl⟩))
    | (go_at_call 17; ((with_reducible refine (HC.out.dp _).mono ?_); rintro e w3 ⟨rfl, h⟩; have H3 := Lib.hid h; have S3 := Lib.hid (S2.out.same h); clear h))
    | (go_at_call 18; ((with_reducible refine (HC.out.pc S3.out).mono ?_); rintro e w1 ⟨rfl, rfl⟩))
    | (go_at_call 19; ((with_reducible refine (HC.out.dc _).mono ?_); rintro e w4 ⟨rfl, h⟩; have H4 := Lib.hid h; clear h)))
  go_ret
  exact ⟨ret_bool (by simp), ((H1.out.trans H2.out).trans H3.out).trans H4.out⟩

theorem waste_nums : ∀ n, n < 65 → 1 ≤ n → cof n < 16 ∧ n ≤ cw (cof n) ∧ (0 < cof n → cw (cof n - 1) < n) ∧ 2 * cw (cof n) ≤ 3 * n + 2 ∧ ccl (cof n) * cw (cof n) ≤ cpg (cof n) * 64 ∧ cpg (cof n) * 64 < ccl (cof n) * cw (cof n) + cw (cof n) ∧ (cpg (cof n) * 64 - ccl (cof n) * cw (cof n)) * 8 ≤ cpg (cof n) * 64 ∧ ccl (cof n) ≤ 64 ∧ cpg (cof n) ≤ 3 ∧ cw (cof n) ≤ 64 := by decide
set_option maxRecDepth 100000 in
set_option maxHeartbeats 4000000 in
theorem waste_walk (w : World) (hs : Siz w) : Calls Tryd.prog 4 #[] w fun e w' => e = .returned (.bool true) ∧ w = w' := by
  have HS := Lib.hid hs
  have A13 := Lib.hid (awake6_any hs)
  clear hs
  go_enter Tryd.func4, Tryd.ntmps4
  go_wp2
  go_loop [1] (fun i => ∃ n : Nat, 1 ≤ n ∧ n ≤ 65 ∧ i = .int .i64 (n : Int)) (fun i => 65 - (intOf i).toNat)
  case atStart => exact ⟨1, by omega, by omega, rfl⟩
  case round =>
    obtain ⟨n, h1, h2, rfl⟩ := hrel
    by_cases hlt : n < 65
    · obtain ⟨q1, q2, q3, q4, q5, q6, q7, q8, q9, q10⟩ := waste_nums n hlt h1
      have C11 := of_any (n : Int) (by omega) HS.out
      rw [if_pos (by omega), if_pos (by omega), Int.toNat_natCast] at C11
      have C11 := Lib.hid C11
      have C14 := Lib.hid (words_in _ q1 HS.out)
      have C16 := Lib.hid (pages_in _ q1 HS.out)
      have C18 := Lib.hid (cells_in _ q1 HS.out)
      have hm : ((ccl (cof n) * cw (cof n) : Nat) : Int) = (ccl (cof n) : Int) * (cw (cof n) : Int) := Int.natCast_mul _ _
      obtain ⟨a, ha⟩ : ∃ a : Int, a = (ccl (cof n) : Int) * (cw (cof n) : Int) := ⟨_, rfl⟩
      have hb1 : a ≤ (cpg (cof n) : Int) * 64 := by omega
      have hb2 : (cpg (cof n) : Int) * 64 - a < (cw (cof n) : Int) := by omega
      have hb3 : ((cpg (cof n) : Int) * 64 - a) * 8 ≤ (cpg (cof n) : Int) * 64 := by omega
      have hb0 : 0 ≤ a := by omega
      by_cases h0 : 0 < cof n
      · have C14b := words_in (cof n - 1) (by omega) HS.out
        have e : ((cof n - 1 : Nat) : Int) = (cof n : Int) - 1 := by omega
        rw [e] at C14b
        have C14b := Lib.hid C14b
        have q3 := q3 h0
        clear q5 q6 q7 hm e
        generalize cw (cof n - 1) = s' at *
        generalize cw (cof n) = s at *
        generalize cpg (cof n) = p at *
        generalize ccl (cof n) = k at *
        generalize cof n = c at *
        have HA := Lib.hid ha
        have ha' : (k : Int) * (s : Int) = a := ha.symm
        clear ha
        go_wp2_with (first
          | (go_at_call 11; ((with_reducible refine (C11.out).mono ?_); rintro e w1 ⟨rfl, rfl⟩))
          | (go_at_call 14; ((with_reducible refine (C14.out).mono ?_); rintro e w1 ⟨rfl, rfl⟩))
          | (go_at_call 14; ((with_reducible refine (C14b.out).mono ?_); rintro e w1 ⟨rfl, rfl⟩))
          | (go_at_call 16; ((with_reducible refine (C16.out).mono ?_); rintro e w1 ⟨rfl, rfl⟩))
          | (go_at_call 18; ((with_reducible refine (C18.out).mono ?_); rintro e w1 ⟨rfl, rfl⟩)))
        go_round
        case rel => exact ⟨n + 1, by omega, by omega, by go_num⟩
        case measure => simp [intOf]; omega
      · clear q3 q5 q6 q7 hm
        generalize cw (cof n) = s at *
        generalize cpg (cof n) = p at *
        generalize ccl (cof n) = k at *
        generalize cof n = c at *
        have h0' : ¬ (0 < (c : Int)) := by omega
        have HA := Lib.hid ha
        have ha' : (k : Int) * (s : Int) = a := ha.symm
        clear ha h0
        go_wp2_with (first
          | (go_at_call 11; ((with_reducible refine (C11.out).mono ?_); rintro e w1 ⟨rfl, rfl⟩))
          | (go_at_call 14; ((with_reducible refine (C14.out).mono ?_); rintro e w1 ⟨rfl, rfl⟩))
          | (go_at_call 16; ((with_reducible refine (C16.out).mono ?_); rintro e w1 ⟨rfl, rfl⟩))
          | (go_at_call 18; ((with_reducible refine (C18.out).mono ?_); rintro e w1 ⟨rfl, rfl⟩)))
        go_round
        case rel => exact ⟨n + 1, by omega, by omega, by go_num⟩
        case measure => simp [intOf]; omega
    · obtain rfl : n = 65 := by omega
      go_wp2_with (go_at_call 13; ((with_reducible refine (A13.out).mono ?_); rintro e w1 ⟨rfl, rfl⟩))
      go_ret
      exact ⟨rfl, rfl⟩
end Go.Proofs.YtiboobaggpghjaaDoor
