/- Layer 6: the classes, plainly; the program's functions. -/
import Derived.Test.YtiboobaggpghjaaDoorC
import Derived.Laws.Rows
namespace Go.Proofs.YtiboobaggpghjaaDoor
open Go.ChangeShapes Go.WideShapes Go.ChangeAt Go.RowKit

def cwL : List Nat := [1, 2, 3, 4, 5, 6, 8, 10, 12, 16, 20, 24, 32, 40, 48, 64]
def cw (c : Nat) : Nat := cwL.getD c 0
def cpg (c : Nat) : Nat := [1, 1, 1, 1, 1, 1, 1, 1, 1, 1, 1, 2, 1, 2, 3, 1].getD c 0
def ccl (c : Nat) : Nat := cpg c * 64 / cw c
theorem cw_ok : ∀ c, c < 16 → 1 ≤ cw c ∧ cw c ≤ 64 ∧ 1 ≤ cpg c ∧ cpg c ≤ 3 ∧ 1 ≤ ccl c ∧ ccl c ≤ 64 ∧ ccl c * cw c ≤ cpg c * 64 ∧ cpg c * 64 < ccl c * cw c + cw c ∧ (cpg c * 64 - ccl c * cw c) * 8 ≤ cpg c * 64 := by decide
theorem cpg_test : ∀ c, c < 16 → (∀ k, k < cpg c → 1 ≤ k → k * 64 / 8 < k * 64 % cw c) ∧ cpg c * 64 % cw c ≤ cpg c * 64 / 8 := by decide
theorem cw_mono : ∀ i, i < 16 → ∀ j, j < 16 → i < j → cw i < cw j := by decide
/-- The class of so many words. -/
def cof (m : Nat) : Nat := cwL.findIdx (fun x => decide (m ≤ x))
theorem cof_ok : ∀ m, m < 65 → 1 ≤ m → cof m < 16 ∧ m ≤ cw (cof m) ∧ ∀ i, i < cof m → cw i < m := by decide
theorem cw_le : ∀ c, c < 16 → cw c ≤ 64 := by decide

def sizC : Array Value := #[.int .i64 1, .int .i64 2, .int .i64 3, .int .i64 4, .int .i64 5, .int .i64 6, .int .i64 8, .int .i64 10, .int .i64 12, .int .i64 16, .int .i64 20, .int .i64 24, .int .i64 32, .int .i64 40, .int .i64 48, .int .i64 64]
/-- The program's table of sizes lies as its text lays it. -/
def Siz (W : World) : Prop := ∃ t fr, W.heap[0]? = some (.cells sizC t fr)
theorem sizC_get : ∀ c, c < 16 → sizC[c]? = some (.int .i64 (cw c : Int)) := by
  intro c hc
  have : c = 0 ∨ c = 1 ∨ c = 2 ∨ c = 3 ∨ c = 4 ∨ c = 5 ∨ c = 6 ∨ c = 7 ∨ c = 8 ∨ c = 9 ∨ c = 10 ∨ c = 11 ∨ c = 12 ∨ c = 13 ∨ c = 14 ∨ c = 15 := by omega
  rcases this with rfl | rfl | rfl | rfl | rfl | rfl | rfl | rfl | rfl | rfl | rfl | rfl | rfl | rfl | rfl | rfl <;> rfl
theorem Siz.cell {W : World} (h : Siz W) {c : Nat} (hc : c < 16) : W.cell? ⟨0, c, none⟩ = some (.int .i64 (cw c : Int)) := by
  obtain ⟨t, fr, h⟩ := h
  rw [cell_of_row W 0 c _ t fr h, sizC_get c hc]
theorem Siz.cha {W W' : World} {S : Nat → Prop} (h : Siz W) (c : Cha S W W') (hs : ¬ S 0) : Siz W' := by
  obtain ⟨t, fr, h⟩ := h
  exact ⟨t, fr, (c.old 0 (Array.getElem?_eq_some_iff.1 h).1 hs).trans h⟩
theorem Siz.same {W W' : World} (h : Siz W) (c : Cha (fun _ => False) W W') : Siz W' := h.cha c (fun x => x)

theorem mod_int (k s : Nat) : ((k * 64 % s : Nat) : Int) = (k : Int) * 64 % (s : Int) := by rw [Int.natCast_emod, Int.natCast_mul]; rfl
theorem words_in (c : Nat) (hc : c < 16) {w : World} (hs : Siz w) : Calls Tryd.prog 14 #[.int .i64 (c : Int)] w fun e w' => e = .returned (.int .i64 (cw c : Int)) ∧ w = w' := by
  have h := hs.cell hc
  have h0 : ¬ ((c : Int) < 0) := by omega
  clear hs
  generalize cw c = s at *
  go_enter Tryd.func14, Tryd.ntmps14
  go_wp2
  go_ret
  exact ⟨rfl, rfl⟩
theorem words_out (c : Int) (hc : c < 0 ∨ 16 ≤ c) (w : World) : Calls Tryd.prog 14 #[.int .i64 c] w fun e w' => e = .returned (.int .i64 0) ∧ w = w' := by
  rcases hc with hc | hc
  · have h1 : decide (c < 0) = true := by simpa using hc
    go_enter Tryd.func14, Tryd.ntmps14
    go_wp2
    go_ret
    exact ⟨rfl, rfl⟩
  · have h1 : decide (c < 0) = false := by simp; omega
    have h2 : decide (16 ≤ c) = true := by simpa using hc
    go_enter Tryd.func14, Tryd.ntmps14
    go_wp2
    go_ret
    exact ⟨rfl, rfl⟩
theorem pages_in (c : Nat) (hc : c < 16) {w : World} (hs : Siz w) : Calls Tryd.prog 16 #[.int .i64 (c : Int)] w fun e w' => e = .returned (.int .i64 (cpg c : Int)) ∧ w = w' := by
  have C := Lib.hid (words_in c hc hs)
  obtain ⟨k1, k2, k3, k4, _⟩ := cw_ok c hc
  obtain ⟨t1, t2⟩ := cpg_test c hc
  have T1 := Lib.hid t1
  have T2 := Lib.hid t2
  clear t1 t2 hs
  generalize cw c = s at *
  generalize cpg c = m at *
  have hz : ((s : Int) == 0) = false := by rw [beq_eq_false_iff_ne]; omega
  go_enter Tryd.func16, Tryd.ntmps16
  go_wp2_with (go_at_call 14; ((with_reducible refine (C.out).mono ?_); rintro e w1 ⟨rfl, rfl⟩))
  go_loop [4] (fun p => ∃ k : Nat, 1 ≤ k ∧ k ≤ m ∧ p = .int .i64 (k : Int)) (fun p => m - (intOf p).toNat)
  case atStart => exact ⟨1, by omega, by omega, rfl⟩
  case round =>
    obtain ⟨k, h1, h2, rfl⟩ := hrel
    by_cases hlt : k < m
    · have h3 : (k : Int) * 64 / 8 < (k : Int) * 64 % (s : Int) := by have := T1.out k hlt h1; have e := mod_int k s; omega
      go_wp2
      go_round
      case rel => exact ⟨k + 1, by omega, by omega, by go_num⟩
      case measure => simp [intOf]; omega
    · obtain rfl : k = m := by omega
      have h3 : ¬ ((k : Int) * 64 / 8 < (k : Int) * 64 % (s : Int)) := by have := T2.out; have e := mod_int k s; omega
      go_wp2
      go_ret
      exact ⟨rfl, rfl⟩
theorem pages_out (c : Int) (hc : c < 0 ∨ 16 ≤ c) (w : World) : Calls Tryd.prog 16 #[.int .i64 c] w fun e w' => e = .returned (.int .i64 0) ∧ w = w' := by
  have C := Lib.hid (words_out c hc w)
  go_enter Tryd.func16, Tryd.ntmps16
  go_wp2_with (go_at_call 14; ((with_reducible refine (C.out).mono ?_); rintro e w1 ⟨rfl, rfl⟩))
  go_ret
  exact ⟨rfl, rfl⟩
theorem cells_in (c : Nat) (hc : c < 16) {w : World} (hs : Siz w) : Calls Tryd.prog 18 #[.int .i64 (c : Int)] w fun e w' => e = .returned (.int .i64 (ccl c : Int)) ∧ w = w' := by
  have C := Lib.hid (words_in c hc hs)
  have D := Lib.hid (pages_in c hc hs)
  obtain ⟨k1, k2, k3, k4, _⟩ := cw_ok c hc
  have e : (ccl c : Int) = (cpg c : Int) * 64 / (cw c : Int) := by unfold ccl; rw [Int.natCast_ediv, Int.natCast_mul]; rfl
  rw [e]
  clear hs e
  generalize cw c = s at *
  generalize cpg c = m at *
  have hz : ((s : Int) == 0) = false := by rw [beq_eq_false_iff_ne]; omega
  go_enter Tryd.func18, Tryd.ntmps18
  go_wp2_with (first
    | (go_at_call 14; ((with_reducible refine (C.out).mono ?_); rintro e w1 ⟨rfl, rfl⟩))
    | (go_at_call 16; ((with_reducible refine (D.out).mono ?_); rintro e w1 ⟨rfl, rfl⟩)))
  go_ret
  exact ⟨rfl, rfl⟩
theorem cells_out (c : Int) (hc : c < 0 ∨ 16 ≤ c) (w : World) : Calls Tryd.prog 18 #[.int .i64 c] w fun e w' => e = .returned (.int .i64 0) ∧ w = w' := by
  have C := Lib.hid (words_out c hc w)
  go_enter Tryd.func18, Tryd.ntmps18
  go_wp2_with (go_at_call 14; ((with_reducible refine (C.out).mono ?_); rintro e w1 ⟨rfl, rfl⟩))
  go_ret
  exact ⟨rfl, rfl⟩
theorem count6 (w : World) : Calls Tryd.prog 20 #[] w fun e w' => e = .returned (.int .i64 16) ∧ w = w' := by
  go_enter Tryd.func20, Tryd.ntmps20
  go_wp2
  go_ret
  exact ⟨rfl, rfl⟩
set_option maxRecDepth 100000 in
theorem idx58 (k : Nat) (hk : k < 16) (W : World) : (Instr.index 58 (.agg sizC) (.int .i64 (k : Int))).run Tryd.prog W = .ok (.int .i64 (cw k : Int)) W := by
  have : k = 0 ∨ k = 1 ∨ k = 2 ∨ k = 3 ∨ k = 4 ∨ k = 5 ∨ k = 6 ∨ k = 7 ∨ k = 8 ∨ k = 9 ∨ k = 10 ∨ k = 11 ∨ k = 12 ∨ k = 13 ∨ k = 14 ∨ k = 15 := by omega
  rcases this with rfl | rfl | rfl | rfl | rfl | rfl | rfl | rfl | rfl | rfl | rfl | rfl | rfl | rfl | rfl | rfl <;> rfl
theorem of_low (m : Int) (hm : m < 1) (w : World) : Calls Tryd.prog 11 #[.int .i64 m] w fun e w' => e = .returned (.tuple #[.int .i64 0, .int .i64 1]) ∧ w = w' := by
  go_enter Tryd.func11, Tryd.ntmps11
  go_wp2
  go_ret2
  exact ⟨rfl, rfl⟩
set_option maxRecDepth 100000 in
theorem of_any (m : Int) (hm : 1 ≤ m) {w : World} (hs : Siz w) : Calls Tryd.prog 11 #[.int .i64 m] w fun e w' => e = .returned (.tuple #[.int .i64 (if m ≤ 64 then (cof m.toNat : Int) else 0), .int .i64 (if m ≤ 64 then 0 else 2)]) ∧ w = w' := by
  obtain ⟨t, fr, hs⟩ := hs
  have HI := Lib.hid idx58
  have h0 : ¬ m < 1 := by omega
  obtain ⟨sz, hsz⟩ : ∃ sz, sz = sizC := ⟨_, rfl⟩
  have HL := Lib.hid (show sz.size = 16 by rw [hsz]; rfl)
  rw [← hsz] at HI hs
  clear hsz
  have HS := Lib.hid hs
  clear hs
  go_enter Tryd.func11, Tryd.ntmps11
  go_wp2_with (refine wpList_load_row rfl 58 _ rfl 0 rfl t sz fr _ HS.out Tryd.underlying58 rfl (by rw [HL.out]; kernel_rfl) ?_)
  go_loop [9] (fun i => ∃ k : Nat, k ≤ 16 ∧ i = .int .i64 (k : Int) ∧ ∀ j, j < k → (cw j : Int) < m) (fun i => 16 - (intOf i).toNat)
  case atStart => exact ⟨0, by omega, rfl, fun j h => absurd h (by omega)⟩
  case round =>
    obtain ⟨k, h1, rfl, hj⟩ := hrel
    have HJ := Lib.hid hj
    clear hj
    by_cases hlt : k < 16
    · have hi := HI.out k hlt w
      by_cases hc : m ≤ (cw k : Int)
      · have hle := cw_le k hlt
        obtain ⟨c1, c2, c3⟩ := cof_ok m.toNat (by omega) (by omega)
        have hk : cof m.toNat = k := by
          by_cases a : cof m.toNat < k
          · have := HJ.out _ a; omega
          · by_cases b : k < cof m.toNat
            · have := c3 k b; omega
            · omega
        have H64 := Lib.hid (show m ≤ 64 by omega)
        have HK := Lib.hid hk
        clear hk c1 c2 c3
        generalize cw k = s at *
        go_wp2
        go_ret2
        exact ⟨by rw [HK.out]; rfl, rfl⟩
      · have HN : Hid (∀ j, j < k + 1 → (cw j : Int) < m) := Lib.hid fun j h => by
          by_cases e : j = k
          · subst e; omega
          · exact HJ.out j (by omega)
        generalize cw k = s at *
        go_wp2
        go_round
        case rel => exact ⟨k + 1, by omega, by go_num, HN.out⟩
        case measure => simp [intOf]; omega
    · obtain rfl : k = 16 := by omega
      have h64 : ¬ m ≤ 64 := by
        have := HJ.out 15 (by omega)
        have e : cw 15 = 64 := rfl
        omega
      go_wp2
      go_ret2
      exact ⟨by first | rfl | (rw [if_neg (by omega), if_neg (by omega)]; rfl), rfl⟩
end Go.Proofs.YtiboobaggpghjaaDoor
