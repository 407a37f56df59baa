/- Contracts of the document's whole numbers of any length: Cmp. -/
import Derived.Test.YtmdcdicmlnlenaaAB
import Derived.Deep.QuietTactic
import Derived.BigQuiet
namespace Go.Proofs.Ytmdcdicmlnlenaa
open Go.ChangeShapes Go.WideShapes Go.ChangeAt Go.RowKit

theorem div_step (A j : Nat) : A / 4294967296 ^ j = A / 4294967296 ^ (j + 1) * 4294967296 + dig A j := by
  unfold dig
  rw [bb_succ, ← Nat.div_div_eq_div_mul]
  generalize A / 4294967296 ^ j = x
  omega
theorem lt_of_div {A M p : Nat} (h : A / p < M / p) : A < M := by
  rcases Nat.lt_or_ge A M with h1 | h1
  · exact h1
  · have := Nat.div_le_div_right (c := p) h1; omega
theorem cmp_digs {A M : Nat} (h : digs A < digs M) : A < M := by
  rcases Nat.lt_or_ge A M with h1 | h1
  · exact h1
  · have h2 := lt_digs A
    have : digs M ≤ digs A := digs_le (by omega)
    omega
structure CmpRel (A M k : Nat) : Prop where
  e : A / 4294967296 ^ k = M / 4294967296 ^ k
theorem CmpRel.next {A M j : Nat} (r : CmpRel A M (j + 1)) (h : dig A j = dig M j) : CmpRel A M j := ⟨by rw [div_step A j, div_step M j, r.e, h]⟩
theorem CmpRel.lt {A M j : Nat} (r : CmpRel A M (j + 1)) (h : dig A j < dig M j) : A < M := lt_of_div (p := 4294967296 ^ j) (by rw [div_step A j, div_step M j, r.e]; omega)
theorem CmpRel.gt {A M j : Nat} (r : CmpRel A M (j + 1)) (h : dig M j < dig A j) : M < A := lt_of_div (p := 4294967296 ^ j) (by rw [div_step A j, div_step M j, r.e]; omega)
theorem CmpRel.fin {A M : Nat} (r : CmpRel A M 0) : A = M := by have := r.e; simpa using this

def RetCmp (A M : Nat) (w : World) (e : Ending) (w' : World) : Prop := e = .returned (.int .i64 (cmpN A M)) ∧ Grown w w'
theorem cmp_lt' {A M : Nat} (h : A < M) : cmpN A M = -1 := by unfold cmpN; rw [if_pos h]
theorem cmp_gt' {A M : Nat} (h : M < A) : cmpN A M = 1 := by unfold cmpN; rw [if_neg (by omega), if_pos h]
theorem cmp_eq' {A M : Nat} (h : A = M) : cmpN A M = 0 := by unfold cmpN; rw [if_neg (by omega), if_neg (by omega)]
theorem Grown.drewN' {W w' : World} (h : Grown W w') (n : Nat) : Grown W (w'.drewN n) := h

set_option maxHeartbeats 1000000 in
theorem cmp_any (va vb : Value) (A M : Nat) (w : World) (ha : Num w va A) (hb : Num w vb M) (h1 : digs A ≤ 100000) :
    Calls Try.prog 50 #[va, vb] w (RetCmp A M w) := by
  obtain ⟨Aa, ca, rfl, _, hA⟩ := ha
  obtain ⟨Ab, cb, rfl, _, hB⟩ := hb
  by_cases hne : digs A = digs M
  · have hrel0 : CmpRel A M (digs A) := ⟨by rw [Nat.div_eq_of_lt (lt_digs A), hne, Nat.div_eq_of_lt (lt_digs M)]⟩
    by_cases h0 : digs A = 0
    · have hz : A = M := by rw [h0] at hrel0; exact hrel0.fin
      have hz' := Lib.hid (cmp_eq' hz)
      rw [← hne, h0]
      clear hA hB hrel0 hz hne h0 h1
      go_enter Try.func50, Try.ntmps50
      go_wp2
      go_loopw [5] (fun i wr => i = .int .i64 (-1) ∧ Grown w wr) (fun _ _ => 0)
      case atStart => exact ⟨rfl, Grown.refl _⟩
      case round =>
        obtain ⟨rfl, hg⟩ := hrel
        go_wp2
        go_ret
        exact ⟨ret_int (by rw [hz'.out]), hg⟩
    · rcases hA with hA | ⟨ga, ma, rfl, hma, bA⟩
      · omega
      · rcases hB with hB | ⟨gb, mb, rfl, hmb, bB⟩
        · omega
        · rw [← hne] at hmb ⊢
          clear hne
          have hn0 : 0 < digs A := by omega
          generalize digs A = n at *
          clear h0
          go_enter Try.func50, Try.ntmps50
          go_wp2
          go_loopw [5] (fun i wr => ∃ k : Nat, k ≤ n ∧ i = .int .i64 ((k : Int) - 1) ∧ CmpRel A M k ∧ Grown w wr) (fun i _ => (intOf i + 1).toNat)
          case atStart => exact ⟨n, Nat.le_refl _, rfl, hrel0, Grown.refl _⟩
          case round =>
            obtain ⟨k, hk, rfl, hr, hg⟩ := hrel
            by_cases hk0 : k = 0
            · subst hk0
              have hz' := Lib.hid (cmp_eq' hr.fin)
              clear hr hrel0
              go_wp2
              go_ret
              exact ⟨ret_int (by rw [hz'.out]), hg⟩
            · obtain ⟨j, rfl⟩ : ∃ j, k = j + 1 := ⟨k - 1, by omega⟩
              have ej : ((j + 1 : Nat) : Int) - 1 = (j : Int) := by omega
              rw [ej]
              have cA := (Blk.grown bA hg).cell j (by omega)
              have cB := (Blk.grown bB hg).cell j (by omega)
              have i0 : 0 ≤ (j : Int) := by omega
              have i1 : (j : Int) < n := by omega
              clear ej hrel0
              rcases Nat.lt_trichotomy (dig A j) (dig M j) with hx | hx | hx
              · have hz' := Lib.hid (cmp_lt' (hr.lt hx))
                have hx1 : ((dig A j : Nat) : Int) < (dig M j : Nat) := by omega
                clear hr hx
                generalize dig A j = x at *
                generalize dig M j = y at *
                go_wp2
                go_quiet (fail)
                go_wp2
                go_ret
                exact ⟨ret_int (by rw [hz'.out]), hg⟩
              · have hnx := hr.next hx
                rw [hx] at cA
                clear hr hx
                generalize dig M j = y at *
                go_wp2
                go_quiet (fail)
                go_wp2
                go_quiet (fail)
                go_wp2
                go_roundw
                case rel => exact ⟨j, by omega, rfl, hnx, hg⟩
                case measure => simp [intOf]
              · have hz' := Lib.hid (cmp_gt' (hr.gt hx))
                have hx1 : ((dig M j : Nat) : Int) < (dig A j : Nat) := by omega
                clear hr hx
                generalize dig A j = x at *
                generalize dig M j = y at *
                go_wp2
                go_quiet (fail)
                go_wp2
                go_quiet (fail)
                go_wp2
                go_ret
                exact ⟨ret_int (by rw [hz'.out]), hg⟩
  · rcases Nat.lt_or_ge (digs A) (digs M) with h | h
    · have hz' := Lib.hid (cmp_lt' (cmp_digs h))
      have hn : ((digs A : Int) != (digs M : Int)) = true := by simp; omega
      clear hA hB hne
      generalize digs A = n at *
      generalize digs M = m at *
      go_enter Try.func50, Try.ntmps50
      go_wp2
      go_ret
      exact ⟨ret_int (by rw [hz'.out]), Grown.refl _⟩
    · have hz' := Lib.hid (cmp_gt' (cmp_digs (by omega : digs M < digs A)))
      have hn : ((digs A : Int) != (digs M : Int)) = true := by simp; omega
      have hn2 : ¬ digs A < digs M := by omega
      clear hA hB hne
      generalize digs A = n at *
      generalize digs M = m at *
      go_enter Try.func50, Try.ntmps50
      go_wp2
      go_ret
      exact ⟨ret_int (by rw [hz'.out]), Grown.refl _⟩
end Go.Proofs.Ytmdcdicmlnlenaa
