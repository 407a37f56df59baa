/- Layer 6: the document's functions. -/
import Derived.Test.YtiboobaggpghjaaDoorCA
namespace Go.Proofs.YtiboobaggpghjaaDoor
open Go.ChangeShapes Go.WideShapes Go.ChangeAt Go.RowKit

/-- An integer is answered; nothing that was there is changed. -/
def Ints (n : Int) (w : World) (e : Ending) (w' : World) : Prop := e = .returned (.int .i64 n) ∧ Cha (fun _ => False) w w'
set_option maxRecDepth 100000 in
theorem dwords_in (c : Nat) (hc : c < 16) (w : World) : Calls Tryd.prog 15 #[.int .i64 (c : Int)] w (Ints (cw c) w) := by
  have h0 : ¬ ((c : Int) < 0) := by omega
  obtain ⟨sz, hsz⟩ : ∃ sz, sz = sizC := ⟨_, rfl⟩
  have HC := Lib.hid ((Cha.refl (fun _ => False) w).alloc (.cells sizC 3))
  have hcell : (w.alloc (.cells sizC 3)).cell? ⟨w.heap.size, c, none⟩ = some (.int .i64 (cw c : Int)) := by
    rw [cell_of_row _ w.heap.size c _ 3 (0, 0) (heap_alloc_new w _), sizC_get c hc]
  generalize cw c = s at *
  clear hsz
  unfold sizC at hcell HC
  go_enter Tryd.func15, Tryd.ntmps15
  go_wp2
  go_ret
  exact ⟨rfl, HC.out⟩
set_option maxRecDepth 100000 in
theorem dwords_out (c : Int) (hc : c < 0 ∨ 16 ≤ c) (w : World) : Calls Tryd.prog 15 #[.int .i64 c] w (Ints 0 w) := by
  have HC := Lib.hid ((Cha.refl (fun _ => False) w).alloc (.cells sizC 3))
  unfold sizC at HC
  rcases hc with hc | hc
  · have h1 : decide (c < 0) = true := by simpa using hc
    go_enter Tryd.func15, Tryd.ntmps15
    go_wp2
    go_ret
    exact ⟨rfl, HC.out⟩
  · have h1 : decide (c < 0) = false := by simp; omega
    have h2 : decide (16 ≤ c) = true := by simpa using hc
    go_enter Tryd.func15, Tryd.ntmps15
    go_wp2
    go_ret
    exact ⟨rfl, HC.out⟩
theorem dpages_in (c : Nat) (hc : c < 16) (w : World) : Calls Tryd.prog 17 #[.int .i64 (c : Int)] w (Ints (cpg c) w) := by
  have C := Lib.hid (dwords_in c hc w)
  obtain ⟨k1, k2, k3, k4, _⟩ := cw_ok c hc
  obtain ⟨t1, t2⟩ := cpg_test c hc
  have T1 := Lib.hid t1
  have T2 := Lib.hid t2
  clear t1 t2
  generalize cw c = s at *
  generalize cpg c = m at *
  have hz : ((s : Int) == 0) = false := by rw [beq_eq_false_iff_ne]; omega
  have hs0 : 0 < (s : Int) := by omega
  go_enter Tryd.func17, Tryd.ntmps17
  go_wp2_with (go_at_call 15; ((with_reducible refine (C.out).mono ?_); rintro e w1 ⟨rfl, hc⟩; have HC := Lib.hid hc; clear hc))
  go_loop [4] (fun p => ∃ k : Nat, 1 ≤ k ∧ k ≤ m ∧ p = .int .i64 (k : Int)) (fun p => m - (intOf p).toNat)
  case atStart => exact ⟨1, by omega, by omega, rfl⟩
  case round =>
    obtain ⟨k, h1, h2, rfl⟩ := hrel
    have hb := Int.emod_lt_of_pos ((k : Int) * 64) hs0
    have hb0 := Int.emod_nonneg ((k : Int) * 64) (show (s : Int) ≠ 0 by omega)
    by_cases hlt : k < m
    · have h3 : (k : Int) * 64 < (k : Int) * 64 % (s : Int) * 8 := by have := T1.out k hlt h1; have e := mod_int k s; omega
      go_wp2
      go_round
      case rel => exact ⟨k + 1, by omega, by omega, by go_num⟩
      case measure => simp [intOf]; omega
    · obtain rfl : k = m := by omega
      have h3 : ¬ ((k : Int) * 64 < (k : Int) * 64 % (s : Int) * 8) := by have := T2.out; have e := mod_int k s; omega
      go_wp2
      go_ret
      exact ⟨rfl, HC.out⟩
theorem dpages_out (c : Int) (hc : c < 0 ∨ 16 ≤ c) (w : World) : Calls Tryd.prog 17 #[.int .i64 c] w (Ints 0 w) := by
  have C := Lib.hid (dwords_out c hc w)
  go_enter Tryd.func17, Tryd.ntmps17
  go_wp2_with (go_at_call 15; ((with_reducible refine (C.out).mono ?_); rintro e w1 ⟨rfl, hc⟩; have HC := Lib.hid hc; clear hc))
  go_ret
  exact ⟨rfl, HC.out⟩
theorem dcells_in (c : Nat) (hc : c < 16) (w : World) : Calls Tryd.prog 19 #[.int .i64 (c : Int)] w (Ints (ccl c) w) := by
  have C := Lib.hid (dwords_in c hc w)
  have E := Lib.hid fun w => dwords_in c hc w
  have D := Lib.hid fun w => dpages_in c hc w
  obtain ⟨k1, k2, k3, k4, _⟩ := cw_ok c hc
  have e : (ccl c : Int) = (cpg c : Int) * 64 / (cw c : Int) := by unfold ccl; rw [Int.natCast_ediv, Int.natCast_mul]; rfl
  rw [e]
  clear e
  generalize cw c = s at *
  generalize cpg c = m at *
  have hz : ((s : Int) == 0) = false := by rw [beq_eq_false_iff_ne]; omega
  go_enter Tryd.func19, Tryd.ntmps19
  go_wp2_with (first
    | (go_at_call 15; ((with_reducible refine (C.out).mono ?_); rintro e w1 ⟨rfl, h1⟩; have H1 := Lib.hid h1; clear h1 C))
    | (go_at_call 17; ((with_reducible refine (D.out _).mono ?_); rintro e w2 ⟨rfl, h2⟩; have H2 := Lib.hid h2; clear h2))
    | (go_at_call 15; ((with_reducible refine (E.out _).mono ?_); rintro e w3 ⟨rfl, h3⟩; have H3 := Lib.hid h3; clear h3)))
  go_ret
  exact ⟨rfl, (H1.out.trans H2.out).trans H3.out⟩
theorem dcells_out (c : Int) (hc : c < 0 ∨ 16 ≤ c) (w : World) : Calls Tryd.prog 19 #[.int .i64 c] w (Ints 0 w) := by
  have C := Lib.hid (dwords_out c hc w)
  go_enter Tryd.func19, Tryd.ntmps19
  go_wp2_with (go_at_call 15; ((with_reducible refine (C.out).mono ?_); rintro e w1 ⟨rfl, hc⟩; have HC := Lib.hid hc; clear hc))
  go_ret
  exact ⟨rfl, HC.out⟩
theorem dof_low (m : Int) (hm : m < 1) (w : World) : Calls Tryd.prog 12 #[.int .i64 m] w fun e w' => e = .returned (.tuple #[.int .i64 0, .int .i64 1]) ∧ Cha (fun _ => False) w w' := by
  have HC := Lib.hid (Cha.refl (fun _ => False) w)
  go_enter Tryd.func12, Tryd.ntmps12
  go_wp2
  go_ret2
  exact ⟨rfl, HC.out⟩
set_option maxRecDepth 100000 in
theorem dof_any (m : Int) (hm : 1 ≤ m) (w : World) : Calls Tryd.prog 12 #[.int .i64 m] w fun e w' => e = .returned (.tuple #[.int .i64 (if m ≤ 64 then (cof m.toNat : Int) else 0), .int .i64 (if m ≤ 64 then 0 else 2)]) ∧ Cha (fun _ => False) w w' := by
  have C := Lib.hid dwords_in
  have h0 : ¬ m < 1 := by omega
  have HR := Lib.hid (Cha.refl (fun _ => False) w)
  go_enter Tryd.func12, Tryd.ntmps12
  go_wp2
  go_loopw [4] (fun i wr => ∃ k : Nat, k ≤ 16 ∧ i = .int .i64 (k : Int) ∧ (∀ j, j < k → (cw j : Int) < m) ∧ Cha (fun _ => False) w wr) (fun i _ => 16 - (intOf i).toNat)
  case atStart => exact ⟨0, by omega, rfl, fun j h => absurd h (by omega), HR.out⟩
  case round =>
    clear HR
    obtain ⟨k, h1, rfl, hj, hcw⟩ := hrel
    have HJ := Lib.hid hj
    have HW := Lib.hid hcw
    clear hj hcw
    by_cases hlt : k < 16
    · have D := Lib.hid (C.out k hlt wr)
      by_cases hc : m ≤ (cw k : Int)
      · have hle := cw_le k hlt
        obtain ⟨c1, c2, c3⟩ := cof_ok m.toNat (by omega) (by omega)
        have hk : cof m.toNat = k := by
          by_cases a : cof m.toNat < k
          · have := HJ.out _ a; omega
          · by_cases b : k < cof m.toNat
            · have := c3 k b; omega
            · omega
        have HK := Lib.hid hk
        clear hk c1 c2 c3
        generalize cw k = s at *
        go_wp2_with (go_at_call 15; ((with_reducible refine (D.out).mono ?_); rintro e w1 ⟨rfl, hx⟩; have HX := Lib.hid hx; clear hx))
        go_ret2
        exact ⟨by first | (rw [HK.out]; rfl) | (rw [if_pos (by omega), if_pos (by omega), HK.out]; rfl), HW.out.trans HX.out⟩
      · have HN : Hid (∀ j, j < k + 1 → (cw j : Int) < m) := Lib.hid fun j h => by
          by_cases e : j = k
          · subst e; omega
          · exact HJ.out j (by omega)
        generalize cw k = s at *
        go_wp2_with (go_at_call 15; ((with_reducible refine (D.out).mono ?_); rintro e w1 ⟨rfl, hx⟩; have HX := Lib.hid hx; clear hx))
        go_roundw
        case rel => exact ⟨k + 1, by omega, by go_num, HN.out, HW.out.trans HX.out⟩
        case measure => simp [intOf]; omega
    · obtain rfl : k = 16 := by omega
      have h64 : ¬ m ≤ 64 := by
        have := HJ.out 15 (by omega)
        have e : cw 15 = 64 := rfl
        omega
      go_wp2
      go_ret2
      exact ⟨by first | rfl | (rw [if_neg (by omega), if_neg (by omega)]; rfl), HW.out⟩
end Go.Proofs.YtiboobaggpghjaaDoor
