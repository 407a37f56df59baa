/- Contracts of the document's memory: Map, Unmap, Release, New. -/
import Derived.Test.YtbkpbineagfbgaaAA
namespace Go.Proofs.Ytbkpbineagfbgaa
open Go.ChangeShapes Go.WideShapes Go.ChangeAt Go.RowKit
variable {W W' : World} {S T : Nat → Prop} {br bs bw n : Nat} {st wd : Nat → Int} {ws : Nat → Value} {bl : Nat → Nat}

theorem allB_ext {st : Nat → Int} {b : Nat} {ss tt : List Int} (h : ∀ x : Int, ss.contains x = tt.contains x) : ∀ k, allB st b ss k = allB st b tt k
  | 0 => rfl
  | k + 1 => by unfold allB; rw [allB_ext h k, h]
theorem twice (s x : Int) : [s, s].contains x = [s].contains x := by
  simp
theorem rmap_arg (b k : Int) (h : Ref W T br bs bw n st wd ws bl) (hk : k ≤ 9223372036854775807) (hb : k < 1 ∨ b < 0 ∨ (n : Int) - k < b) :
    Calls Try.prog 24 #[.pointer (some ⟨br, 0, none⟩), .int .i64 b, .int .i64 k] W fun e w' => e = .returned (.int .i64 1) ∧ W = w' := by
  have C := Lib.hid (turn_arg b k 0 0 1 h hk hb)
  clear h hb
  go_enter Try.func24, Try.ntmps24
  go_wp2_with (go_at_call 43; ((with_reducible refine (C.out).mono ?_); rintro e w1 ⟨rfl, rfl⟩))
  go_ret
  exact ⟨rfl, rfl⟩
theorem rmap_state (b k : Nat) (h : Ref W T br bs bw n st wd ws bl) (hk : 1 ≤ k) (hb : b + k ≤ n) (hall : allB st b [0] k = false) :
    Calls Try.prog 24 #[.pointer (some ⟨br, 0, none⟩), .int .i64 (b : Int), .int .i64 (k : Int)] W fun e w' => e = .returned (.int .i64 5) ∧ W = w' := by
  have C := Lib.hid (turn_state b k 0 0 1 h hk hb (by rw [allB_ext (twice 0)]; exact hall))
  clear h hall
  go_enter Try.func24, Try.ntmps24
  go_wp2_with (go_at_call 43; ((with_reducible refine (C.out).mono ?_); rintro e w1 ⟨rfl, rfl⟩))
  go_ret
  exact ⟨rfl, rfl⟩
theorem rmap_ok (b k : Nat) (h : Ref W T br bs bw n st wd ws bl) (hk : 1 ≤ k) (hb : b + k ≤ n) (hall : allB st b [0] k = true) :
    Calls Try.prog 24 #[.pointer (some ⟨br, 0, none⟩), .int .i64 (b : Int), .int .i64 (k : Int)] W fun e w' => e = .returned (.int .i64 0) ∧ Left W T w' br n (rst st b k 1) (rwd wd b k) := by
  have C := Lib.hid (turn_ok b k 0 0 1 h hk hb (by rw [allB_ext (twice 0)]; exact hall))
  clear h hall
  go_enter Try.func24, Try.ntmps24
  go_wp2_with (go_at_call 43; ((with_reducible refine (C.out).mono ?_); rintro e w1 ⟨rfl, hL⟩; have HL := Lib.hid hL; clear hL))
  go_ret
  exact ⟨rfl, HL.out⟩
theorem runmap_arg (b k : Int) (h : Ref W T br bs bw n st wd ws bl) (hk : k ≤ 9223372036854775807) (hb : k < 1 ∨ b < 0 ∨ (n : Int) - k < b) :
    Calls Try.prog 25 #[.pointer (some ⟨br, 0, none⟩), .int .i64 b, .int .i64 k] W fun e w' => e = .returned (.int .i64 1) ∧ W = w' := by
  have C := Lib.hid (turn_arg b k 1 2 0 h hk hb)
  clear h hb
  go_enter Try.func25, Try.ntmps25
  go_wp2_with (go_at_call 43; ((with_reducible refine (C.out).mono ?_); rintro e w1 ⟨rfl, rfl⟩))
  go_ret
  exact ⟨rfl, rfl⟩
theorem runmap_state (b k : Nat) (h : Ref W T br bs bw n st wd ws bl) (hk : 1 ≤ k) (hb : b + k ≤ n) (hall : allB st b [1, 2] k = false) :
    Calls Try.prog 25 #[.pointer (some ⟨br, 0, none⟩), .int .i64 (b : Int), .int .i64 (k : Int)] W fun e w' => e = .returned (.int .i64 5) ∧ W = w' := by
  have C := Lib.hid (turn_state b k 1 2 0 h hk hb hall)
  clear h hall
  go_enter Try.func25, Try.ntmps25
  go_wp2_with (go_at_call 43; ((with_reducible refine (C.out).mono ?_); rintro e w1 ⟨rfl, rfl⟩))
  go_ret
  exact ⟨rfl, rfl⟩
theorem runmap_ok (b k : Nat) (h : Ref W T br bs bw n st wd ws bl) (hk : 1 ≤ k) (hb : b + k ≤ n) (hall : allB st b [1, 2] k = true) :
    Calls Try.prog 25 #[.pointer (some ⟨br, 0, none⟩), .int .i64 (b : Int), .int .i64 (k : Int)] W fun e w' => e = .returned (.int .i64 0) ∧ Left W T w' br n (rst st b k 0) (rwd wd b k) := by
  have C := Lib.hid (turn_ok b k 1 2 0 h hk hb hall)
  clear h hall
  go_enter Try.func25, Try.ntmps25
  go_wp2_with (go_at_call 43; ((with_reducible refine (C.out).mono ?_); rintro e w1 ⟨rfl, hL⟩; have HL := Lib.hid hL; clear hL))
  go_ret
  exact ⟨rfl, HL.out⟩
theorem rrelease_arg (b k : Int) (h : Ref W T br bs bw n st wd ws bl) (hk : k ≤ 9223372036854775807) (hb : k < 1 ∨ b < 0 ∨ (n : Int) - k < b) :
    Calls Try.prog 26 #[.pointer (some ⟨br, 0, none⟩), .int .i64 b, .int .i64 k] W fun e w' => e = .returned (.int .i64 1) ∧ W = w' := by
  have C := Lib.hid (turn_arg b k 1 1 2 h hk hb)
  clear h hb
  go_enter Try.func26, Try.ntmps26
  go_wp2_with (go_at_call 43; ((with_reducible refine (C.out).mono ?_); rintro e w1 ⟨rfl, rfl⟩))
  go_ret
  exact ⟨rfl, rfl⟩
theorem rrelease_state (b k : Nat) (h : Ref W T br bs bw n st wd ws bl) (hk : 1 ≤ k) (hb : b + k ≤ n) (hall : allB st b [1] k = false) :
    Calls Try.prog 26 #[.pointer (some ⟨br, 0, none⟩), .int .i64 (b : Int), .int .i64 (k : Int)] W fun e w' => e = .returned (.int .i64 5) ∧ W = w' := by
  have C := Lib.hid (turn_state b k 1 1 2 h hk hb (by rw [allB_ext (twice 1)]; exact hall))
  clear h hall
  go_enter Try.func26, Try.ntmps26
  go_wp2_with (go_at_call 43; ((with_reducible refine (C.out).mono ?_); rintro e w1 ⟨rfl, rfl⟩))
  go_ret
  exact ⟨rfl, rfl⟩
theorem rrelease_ok (b k : Nat) (h : Ref W T br bs bw n st wd ws bl) (hk : 1 ≤ k) (hb : b + k ≤ n) (hall : allB st b [1] k = true) :
    Calls Try.prog 26 #[.pointer (some ⟨br, 0, none⟩), .int .i64 (b : Int), .int .i64 (k : Int)] W fun e w' => e = .returned (.int .i64 0) ∧ Left W T w' br n (rst st b k 2) (rwd wd b k) := by
  have C := Lib.hid (turn_ok b k 1 1 2 h hk hb (by rw [allB_ext (twice 1)]; exact hall))
  clear h hall
  go_enter Try.func26, Try.ntmps26
  go_wp2_with (go_at_call 43; ((with_reducible refine (C.out).mono ?_); rintro e w1 ⟨rfl, hL⟩; have HL := Lib.hid hL; clear hL))
  go_ret
  exact ⟨rfl, HL.out⟩

theorem info3 : (Try.prog.info? 3).map (fun i => (i.zero, i.size, i.bytes)) = some (some (.int .i64 0), 1, 8) := by kernel_rfl
theorem info79 : (Try.prog.info? 79).map (fun i => (i.zero, i.size, i.bytes)) = some (some (.slice none 0 0), 1, 24) := by kernel_rfl
theorem made_ints (m : Nat) : madeCells (Value.int .i64 0).cells (m * 1) = fcells m (fun _ => .int .i64 0) := by
  rw [Nat.mul_one]
  unfold madeCells fcells
  congr 1
  funext x
  show (#[Value.int .i64 0])[x % 1]! = _
  rw [Nat.mod_one]
  rfl
theorem made_slices (m : Nat) : madeCells (Value.slice none 0 0).cells (m * 1) = fcells m (fun _ => .slice none 0 0) := by
  rw [Nat.mul_one]
  unfold madeCells fcells
  congr 1
  funext x
  show (#[Value.slice none 0 0])[x % 1]! = _
  rw [Nat.mod_one]
  rfl
theorem mk_ints (m : Nat) (hm : m ≤ 1000000) (W : World) : (Instr.makeSlice 57 (.int .i64 (m : Int)) (.int .i64 (m : Int))).run Try.prog W = .ok (.slice (some ⟨W.heap.size, 0, none⟩) m m) (W.alloc (.cells (fcells m (fun _ => .int .i64 0)) 3)) := by
  obtain ⟨i, hi, hz, hs, hb⟩ := info_parts info3
  have h := run_make (P := Try.prog) W 57 3 i _ Try.underlying57 hi hz .i64 .i64 (m : Int) (m : Int) (by omega) (by omega) (by rw [hb]; omega) (by omega)
  rw [hs, Int.toNat_natCast, made_ints] at h
  exact h
theorem mk_slices (m : Nat) (hm : m ≤ 1000000) (W : World) : (Instr.makeSlice 58 (.int .i64 (m : Int)) (.int .i64 (m : Int))).run Try.prog W = .ok (.slice (some ⟨W.heap.size, 0, none⟩) m m) (W.alloc (.cells (fcells m (fun _ => .slice none 0 0)) 79)) := by
  obtain ⟨i, hi, hz, hs, hb⟩ := info_parts info79
  have h := run_make (P := Try.prog) W 58 79 i _ Try.underlying58 hi hz .i64 .i64 (m : Int) (m : Int) (by omega) (by omega) (by rw [hb]; omega) (by omega)
  rw [hs, Int.toNat_natCast, made_slices] at h
  exact h

theorem rnew_bad (n : Int) (w : World) (h : n < 1 ∨ 4096 < n) : Calls Try.prog 10 #[.int .i64 n] w fun e w' => e = .returned (.tuple #[.pointer none, .int .i64 1]) ∧ w = w' := by
  by_cases h1 : n < 1
  · go_enter Try.func10, Try.ntmps10
    go_wp2
    go_ret2
    exact ⟨rfl, rfl⟩
  · have h2 : 4096 < n := by omega
    clear h
    go_enter Try.func10, Try.ntmps10
    go_wp2
    go_ret2
    exact ⟨rfl, rfl⟩
/-- Behind the document's New: where its memory lies. -/
def RMade (W W' : World) (n : Nat) : Prop := ∃ bs bw ws bl, Ref W' (fun i => W.heap.size ≤ i ∧ i < W.heap.size + 3) (W.heap.size + 2) bs bw n zro zro ws bl ∧ Chg (fun _ => False) W W'
theorem heap3 (w : World) (A B C : Obj) : (((w.alloc A).alloc B).alloc C).heap[w.heap.size]? = some A ∧ (((w.alloc A).alloc B).alloc C).heap[w.heap.size + 1]? = some B ∧ (((w.alloc A).alloc B).alloc C).heap[w.heap.size + 2]? = some C := by
  have e1 : (w.alloc A).heap.size = w.heap.size + 1 := by show (w.heap.push A).size = _; simp
  have e2 : ((w.alloc A).alloc B).heap.size = w.heap.size + 2 := by show ((w.heap.push A).push B).size = _; simp
  refine ⟨?_, ?_, ?_⟩
  · rw [heap_alloc_old _ _ (by rw [e2]; omega), heap_alloc_old _ _ (by rw [e1]; omega)]
    exact heap_alloc_new w A
  · rw [heap_alloc_old _ _ (by rw [e2]; omega), ← e1]
    exact heap_alloc_new _ B
  · rw [← e2]
    exact heap_alloc_new _ C
theorem size3 (w : World) (A B C : Obj) : (((w.alloc A).alloc B).alloc C).heap.size = w.heap.size + 3 := by show (((w.heap.push A).push B).push C).size = _; simp
theorem rmade (n : Nat) (w : World) (h1 : 1 ≤ n) (h2 : n ≤ 4096) : RMade w (((w.alloc (.cells (fcells n fun _ => .int .i64 0) 3)).alloc (.cells (fcells n fun _ => .slice none 0 0) 79)).alloc (.cells #[.slice (some ⟨w.heap.size, 0, none⟩) n n, .slice (some ⟨w.heap.size + 1, 0, none⟩) n n] 60)).drew n := by
  obtain ⟨a, b, c⟩ := heap3 w (.cells (fcells n fun _ => .int .i64 0) 3) (.cells (fcells n fun _ => .slice none 0 0) 79) (.cells #[.slice (some ⟨w.heap.size, 0, none⟩) n n, .slice (some ⟨w.heap.size + 1, 0, none⟩) n n] 60)
  refine ⟨w.heap.size, w.heap.size + 1, _, fun _ => 0, ⟨c, a, b, fun p hp h => absurd rfl h, fun p q _ _ h => absurd rfl h, ⟨by omega, by omega, by omega⟩, ⟨by omega, by omega, by omega⟩, fun i hi => ?_, h1, h2⟩, ((((Chg.refl _ w).alloc _ _).alloc _ _).alloc _ _).drew⟩
  show i < (((w.alloc _).alloc _).alloc _).heap.size
  rw [size3]; omega
theorem rmade2 (n : Nat) (w : World) (h1 : 1 ≤ n) (h2 : n ≤ 4096) : RMade w (((w.alloc (.cells (fcells n fun _ => .slice none 0 0) 79)).alloc (.cells (fcells n fun _ => .int .i64 0) 3)).alloc (.cells #[.slice (some ⟨w.heap.size + 1, 0, none⟩) n n, .slice (some ⟨w.heap.size, 0, none⟩) n n] 60)).drew n := by
  obtain ⟨a, b, c⟩ := heap3 w (.cells (fcells n fun _ => .slice none 0 0) 79) (.cells (fcells n fun _ => .int .i64 0) 3) (.cells #[.slice (some ⟨w.heap.size + 1, 0, none⟩) n n, .slice (some ⟨w.heap.size, 0, none⟩) n n] 60)
  refine ⟨w.heap.size + 1, w.heap.size, _, fun _ => 0, ⟨c, b, a, fun p hp h => absurd rfl h, fun p q _ _ h => absurd rfl h, ⟨by omega, by omega, by omega⟩, ⟨by omega, by omega, by omega⟩, fun i hi => ?_, h1, h2⟩, ((((Chg.refl _ w).alloc _ _).alloc _ _).alloc _ _).drew⟩
  show i < (((w.alloc _).alloc _).alloc _).heap.size
  rw [size3]; omega
theorem rnew_ok (n : Nat) (w : World) (h1 : 1 ≤ n) (h2 : n ≤ 4096) : Calls Try.prog 10 #[.int .i64 (n : Int)] w fun e w' => e = .returned (.tuple #[.pointer (some ⟨w.heap.size + 2, 0, none⟩), .int .i64 0]) ∧ RMade w w' n := by
  have k1 := mk_ints n (by omega)
  have k2 := mk_slices n (by omega)
  go_enter Try.func10, Try.ntmps10
  go_wp2
  go_region
  all_goals
    go_wp2
    go_ret2
  · exact ⟨rfl, rmade n w h1 h2⟩
  · exact ⟨rfl, rmade2 n w h1 h2⟩
end Go.Proofs.Ytbkpbineagfbgaa
