/- Contracts of layer 10: New. -/
import Derived.Test.YtaloafihbdamiaaH
namespace Go.Proofs.Ytaloafihbdamiaa
open Go.ChangeShapes Go.WideShapes Go.ChangeAt Go.RowKit

theorem info78 : (Try.prog.info? 85).map (fun i => (i.zero, i.size, i.bytes)) = some (some (.agg #[.int .i64 0, .int .i64 0, .int .i64 0, .int .i64 0, .int .i64 0, .int .i64 0, .int .i64 0, .int .i64 0, .int .i64 0, .int .i64 0, .int .i64 0]), 11, 88) := by kernel_rfl
theorem made_procs (m : Nat) : madeCells (Value.agg #[.int .i64 0, .int .i64 0, .int .i64 0, .int .i64 0, .int .i64 0, .int .i64 0, .int .i64 0, .int .i64 0, .int .i64 0, .int .i64 0, .int .i64 0]).cells (m * 11) = fcells (m * 11) (fun _ => .int .i64 0) := by
  unfold madeCells fcells
  congr 1
  funext x
  show (#[Value.int .i64 0, .int .i64 0, .int .i64 0, .int .i64 0, .int .i64 0, .int .i64 0, .int .i64 0, .int .i64 0, .int .i64 0, .int .i64 0, .int .i64 0])[x % 11]! = _
  have h : x % 11 < 11 := Nat.mod_lt _ (by decide)
  generalize x % 11 = y at *
  have : y = 0 ∨ y = 1 ∨ y = 2 ∨ y = 3 ∨ y = 4 ∨ y = 5 ∨ y = 6 ∨ y = 7 ∨ y = 8 ∨ y = 9 ∨ y = 10 := by omega
  rcases this with h | h | h | h | h | h | h | h | h | h | h <;> rw [h] <;> rfl
theorem mk_procs (m : Nat) (hm : m ≤ 1000000) (W : World) : (Instr.makeSlice 78 (.int .i64 (m : Int)) (.int .i64 (m : Int))).run Try.prog W = .ok (.slice (some ⟨W.heap.size, 0, none⟩) m m) (W.alloc (.cells (fcells (m * 11) (fun _ => .int .i64 0)) 85)) := by
  obtain ⟨i, hi, hz, hs, hb⟩ := info_parts info78
  have h := run_make (P := Try.prog) W 78 85 i _ Try.underlying78 hi hz .i64 .i64 (m : Int) (m : Int) (by omega) (by omega) (by rw [hb]; omega) (by omega)
  rw [hs, Int.toNat_natCast, made_procs] at h
  exact h

theorem new_bad (n : Int) (w : World) (h : n < 1 ∨ 8 < n) : Calls Try.prog 24 #[.int .i64 n] w fun e w' => e = .returned (.tuple #[.pointer none, .int .i64 1]) ∧ w = w' := by
  by_cases h1 : n < 1
  · go_enter Try.func24, Try.ntmps24
    go_wp2
    go_ret2
    exact ⟨rfl, rfl⟩
  · have h2 : 8 < n := by omega
    clear h
    go_enter Try.func24, Try.ntmps24
    go_wp2
    go_ret2
    exact ⟨rfl, rfl⟩
/-- So many processors have no next one. -/
def zN (j : Nat) : Nat → Int := fun i => if i % 11 = 0 ∧ i / 11 < j then -1 else 0
theorem zN_zero : zN 0 = fun _ => 0 := by funext i; unfold zN; rw [if_neg (by omega)]
theorem zN_up (j : Nat) : up (zN j) (j * 11) (-1) = zN (j + 1) := by
  funext i
  unfold up zN
  by_cases e : i = j * 11
  · rw [if_pos e, if_pos (by omega)]
  · rw [if_neg e]
    by_cases c : i % 11 = 0 ∧ i / 11 < j
    · rw [if_pos c, if_pos (by omega)]
    · rw [if_neg c, if_neg (by omega)]
/-- Queues that were just made. -/
def Fresh (n : Nat) (w w' : World) : Prop := Qs w' (fun i => i = w.heap.size + 1 ∨ i = w.heap.size) (w.heap.size + 1) w.heap.size (zN n) (List.replicate n (-1, [])) (.slice none 0 0) [] ∧ Cha (fun _ => False) w w'
theorem ring_zero (n o : Nat) (h : o % 11 = 1) : Ring (zN n) o 0 [] := by
  refine ⟨by omega, by simp, ?_, ?_, fun i hi => by simp at hi⟩
  · unfold zN; rw [if_neg (by omega)]; rfl
  · unfold zN; rw [if_neg (by omega)]; rfl
theorem new_ok (n : Nat) (w : World) (h1 : 1 ≤ n) (h2 : n ≤ 8) : Calls Try.prog 24 #[.int .i64 (n : Int)] w fun e w' => e = .returned (.tuple #[.pointer (some ⟨w.heap.size + 1, 0, none⟩), .int .i64 0]) ∧ Fresh n w w' := by
  have hmk := mk_procs n (by omega)
  have I0 : Hid (Ints 85 ((w.alloc (.cells (fcells (n * 11) (fun _ => .int .i64 0)) 85)).alloc (.cells #[.slice (some ⟨w.heap.size, 0, none⟩) n n, .slice none 0 0] 80)) w.heap.size (n * 11) (zN 0)) := Lib.hid (by rw [zN_zero]; exact heap_alloc2_old w _ _)
  have I1 : Hid (((w.alloc (.cells (fcells (n * 11) (fun _ => .int .i64 0)) 85)).alloc (.cells #[.slice (some ⟨w.heap.size, 0, none⟩) n n, .slice none 0 0] 80)).heap[w.heap.size + 1]? = some (.cells #[.slice (some ⟨w.heap.size, 0, none⟩) n n, .slice none 0 0] 80 (0, 0))) := Lib.hid (heap_alloc2_new w _ _)
  have I2 : Hid (Cha (fun _ => False) w ((w.alloc (.cells (fcells (n * 11) (fun _ => .int .i64 0)) 85)).alloc (.cells #[.slice (some ⟨w.heap.size, 0, none⟩) n n, .slice none 0 0] 80))) := Lib.hid (((Cha.refl _ w).alloc _).alloc _)
  obtain ⟨c, hc⟩ : ∃ c, c = fcells (n * 11) (fun _ => .int .i64 0) := ⟨_, rfl⟩
  rw [← hc] at I0 I1 I2 hmk
  clear hc
  obtain ⟨bp, hbp⟩ : ∃ bp, bp = w.heap.size := ⟨_, rfl⟩
  have HBP := Lib.hid hbp
  clear hbp
  go_enter Try.func24, Try.ntmps24
  go_wp2
  go_loopw [5, 21] (fun _ i wr => ∃ j : Nat, j ≤ n ∧ i = .int .i64 (j : Int) ∧ Ints 85 wr w.heap.size (n * 11) (zN j) ∧ wr.heap[w.heap.size + 1]? = some (.cells #[.slice (some ⟨w.heap.size, 0, none⟩) n n, .slice none 0 0] 80 (0, 0)) ∧ Cha (fun _ => False) w wr) (fun _ i _ => n - (intOf i).toNat)
  case atStart => exact ⟨0, Nat.zero_le _, rfl, I0.out, I1.out, I2.out⟩
  case round =>
    clear I0 I1 I2
    obtain ⟨j, hj, rfl, k1, k2, k3⟩ := hrel
    have c0 := cell_of_row wr _ 0 _ 80 (0, 0) k2
    by_cases hlt : j < n
    · have z0 := k1.free (j * 11)
      have c1 := k1.cell (i := j * 11) (by omega)
      have K1 := Lib.hid (k1.set (j * 11) (-1))
      rw [zN_up] at K1
      have K2 := Lib.hid k2
      have K3 := Lib.hid k3
      clear k1 k2 k3
      go_wp2
      go_roundw
      case rel => exact ⟨j + 1, by omega, by go_num, K1.out, (heap_setCell_other _ _ _ _ (by show w.heap.size + 1 ≠ w.heap.size; omega)).trans K2.out, K3.out.over ((Cha.refl (fun i => i = w.heap.size) wr).setCell (p := ⟨w.heap.size, j * 11, none⟩) (fun _ => rfl) _) (fun i e => .inr (by have e : i = w.heap.size := e; omega))⟩
      case measure => simp [intOf]; omega
    · obtain rfl : j = n := by omega
      have K1 := Lib.hid k1
      have K2 := Lib.hid k2
      have K3 := Lib.hid k3
      clear k1 k2 k3
      go_wp2
      go_ret2
      refine ⟨rfl, ⟨by rw [List.length_replicate]; exact K2.out, by simpa using h1, by simpa using h2, by rw [List.length_replicate]; exact K1.out, fun p x hx => ?_, Lies.nil _, by omega, .inl rfl, .inr rfl, (fun g hg => by cases hg), fun i hi => ?_⟩, K3.out⟩
      · rw [List.getElem?_replicate] at hx
        split at hx
        · obtain rfl := Option.some.inj hx
          refine ⟨?_, 0, ring_zero _ _ (by omega)⟩
          show zN j (p * 11) = -1
          unfold zN
          rw [if_pos (by omega)]
        · cases hx
      · have := (Array.getElem?_eq_some_iff.1 K2.out).1
        omega
end Go.Proofs.Ytaloafihbdamiaa
