/- Contracts of layer 3's pages: Map, Unmap, Release, New. -/
import Derived.Test.YtbkpbineagfbgaaH
import Derived.Test.YtbkpbineagfbgaaG
namespace Go.Proofs.Ytbkpbineagfbgaa
open Go.ChangeShapes Go.WideShapes Go.ChangeAt Go.RowKit

theorem Chg.wide {S : Nat → Prop} {a b : World} (h : Chg (fun _ => False) a b) : Chg S a b := h.mono fun _ _ f => f.elim

theorem map_nil (b k : Int) (w : World) : Calls Try.prog 17 #[.pointer none, .int .i64 b, .int .i64 k] w fun e w' => e = .returned (.int .i64 5) ∧ Chg (fun _ => False) w w' := by
  have C := Lib.hid fun fit w => change_nil 1 b k fit w
  go_enter Try.func17, Try.ntmps17
  go_wp2_with (go_at_call 33; ((with_reducible refine (C.out _ _).mono ?_); rintro e w1 ⟨rfl, rfl⟩))
  go_ret
  exact ⟨rfl, (Chg.refl _ w).alloc _ _⟩
theorem map_arg (b k : Int) {w : World} {bm bp n : Nat} {st wd : Nat → Int} (h : Mem w bm bp n st wd) (hk : k ≤ 9223372036854775807) (hb : k < 1 ∨ b < 0 ∨ (n : Int) - k < b) :
    Calls Try.prog 17 #[.pointer (some ⟨bm, 0, none⟩), .int .i64 b, .int .i64 k] w fun e w' => e = .returned (.int .i64 1) ∧ Chg (fun _ => False) w w' := by
  have hc : Chg (fun _ => False) w (w.alloc (.cells #[.int .i64 0] 69)) := (Chg.refl _ w).alloc _ _
  have hm : Mem (w.alloc (.cells #[.int .i64 0] 69)) bm bp n st wd := h.chg hc (fun x => x) (fun x => x)
  have C := Lib.hid (change_arg 1 b k (.slice (some ⟨w.heap.size, 0, none⟩) 1 1) hm hk hb)
  have HC := Lib.hid hc
  clear h hm hc hb
  go_enter Try.func17, Try.ntmps17
  go_wp2_with (go_at_call 33; ((with_reducible refine (C.out).mono ?_); rintro e w1 ⟨rfl, rfl⟩))
  go_ret
  exact ⟨rfl, HC.out⟩
theorem map_state (b k : Nat) {w : World} {bm bp n : Nat} {st wd : Nat → Int} (h : Mem w bm bp n st wd) (hk : 1 ≤ k) (hb : b + k ≤ n) (hall : allB st b [0] k = false) :
    Calls Try.prog 17 #[.pointer (some ⟨bm, 0, none⟩), .int .i64 (b : Int), .int .i64 (k : Int)] w fun e w' => e = .returned (.int .i64 5) ∧ Chg (fun _ => False) w w' := by
  have hc : Chg (fun _ => False) w (w.alloc (.cells #[.int .i64 0] 69)) := (Chg.refl _ w).alloc _ _
  have hm : Mem (w.alloc (.cells #[.int .i64 0] 69)) bm bp n st wd := h.chg hc (fun x => x) (fun x => x)
  have C := Lib.hid (change_state 1 b k (.slice (some ⟨w.heap.size, 0, none⟩) 1 1) hm hk hb (hall ▸ allIn_one b k 0 w.heap.size hm hb (by rw [World.cell?_alloc_new]; rfl)))
  have HC := Lib.hid hc
  clear h hm hc hall
  go_enter Try.func17, Try.ntmps17
  go_wp2_with (go_at_call 33; ((with_reducible refine (C.out).mono ?_); rintro e w1 ⟨rfl, rfl⟩))
  go_ret
  exact ⟨rfl, HC.out⟩
theorem map_ok (b k : Nat) {w : World} {bm bp n : Nat} {st wd : Nat → Int} (h : Mem w bm bp n st wd) (hk : 1 ≤ k) (hb : b + k ≤ n) (hall : allB st b [0] k = true) :
    Calls Try.prog 17 #[.pointer (some ⟨bm, 0, none⟩), .int .i64 (b : Int), .int .i64 (k : Int)] w fun e w' => e = .returned (.int .i64 0) ∧ Mem w' bm bp n (rst st b k 1) (rwd wd b k) ∧ Chg (· = bp) w w' := by
  have hc : Chg (fun _ => False) w (w.alloc (.cells #[.int .i64 0] 69)) := (Chg.refl _ w).alloc _ _
  have hm : Mem (w.alloc (.cells #[.int .i64 0] 69)) bm bp n st wd := h.chg hc (fun x => x) (fun x => x)
  have C := Lib.hid (change_ok 1 b k (.slice (some ⟨w.heap.size, 0, none⟩) 1 1) hm hk hb (by omega) (hall ▸ allIn_one b k 0 w.heap.size hm hb (by rw [World.cell?_alloc_new]; rfl)))
  have HC := Lib.hid (hc.wide (S := (· = bp)))
  clear h hm hc hall
  go_enter Try.func17, Try.ntmps17
  go_wp2_with (go_at_call 33; ((with_reducible refine (C.out).mono ?_); rintro e w1 ⟨rfl, hm, hd⟩; have HM := Lib.hid hm; have HD := Lib.hid hd; clear hm hd))
  go_ret
  exact ⟨rfl, HM.out, HC.out.trans HD.out⟩
theorem unmap_nil (b k : Int) (w : World) : Calls Try.prog 22 #[.pointer none, .int .i64 b, .int .i64 k] w fun e w' => e = .returned (.int .i64 5) ∧ Chg (fun _ => False) w w' := by
  have C := Lib.hid fun fit w => change_nil 0 b k fit w
  go_enter Try.func22, Try.ntmps22
  go_wp2_with (go_at_call 33; ((with_reducible refine (C.out _ _).mono ?_); rintro e w1 ⟨rfl, rfl⟩))
  go_ret
  exact ⟨rfl, (Chg.refl _ w).alloc _ _⟩
theorem unmap_arg (b k : Int) {w : World} {bm bp n : Nat} {st wd : Nat → Int} (h : Mem w bm bp n st wd) (hk : k ≤ 9223372036854775807) (hb : k < 1 ∨ b < 0 ∨ (n : Int) - k < b) :
    Calls Try.prog 22 #[.pointer (some ⟨bm, 0, none⟩), .int .i64 b, .int .i64 k] w fun e w' => e = .returned (.int .i64 1) ∧ Chg (fun _ => False) w w' := by
  have hc : Chg (fun _ => False) w (w.alloc (.cells #[.int .i64 1, .int .i64 2] 69)) := (Chg.refl _ w).alloc _ _
  have hm : Mem (w.alloc (.cells #[.int .i64 1, .int .i64 2] 69)) bm bp n st wd := h.chg hc (fun x => x) (fun x => x)
  have C := Lib.hid (change_arg 0 b k (.slice (some ⟨w.heap.size, 0, none⟩) 2 2) hm hk hb)
  have HC := Lib.hid hc
  clear h hm hc hb
  go_enter Try.func22, Try.ntmps22
  go_wp2_with (go_at_call 33; ((with_reducible refine (C.out).mono ?_); rintro e w1 ⟨rfl, rfl⟩))
  go_ret
  exact ⟨rfl, HC.out⟩
theorem unmap_state (b k : Nat) {w : World} {bm bp n : Nat} {st wd : Nat → Int} (h : Mem w bm bp n st wd) (hk : 1 ≤ k) (hb : b + k ≤ n) (hall : allB st b [1, 2] k = false) :
    Calls Try.prog 22 #[.pointer (some ⟨bm, 0, none⟩), .int .i64 (b : Int), .int .i64 (k : Int)] w fun e w' => e = .returned (.int .i64 5) ∧ Chg (fun _ => False) w w' := by
  have hc : Chg (fun _ => False) w (w.alloc (.cells #[.int .i64 1, .int .i64 2] 69)) := (Chg.refl _ w).alloc _ _
  have hm : Mem (w.alloc (.cells #[.int .i64 1, .int .i64 2] 69)) bm bp n st wd := h.chg hc (fun x => x) (fun x => x)
  have C := Lib.hid (change_state 0 b k (.slice (some ⟨w.heap.size, 0, none⟩) 2 2) hm hk hb (hall ▸ allIn_two b k 1 2 w.heap.size hm hb (by rw [World.cell?_alloc_new]; rfl) (by rw [World.cell?_alloc_new]; rfl)))
  have HC := Lib.hid hc
  clear h hm hc hall
  go_enter Try.func22, Try.ntmps22
  go_wp2_with (go_at_call 33; ((with_reducible refine (C.out).mono ?_); rintro e w1 ⟨rfl, rfl⟩))
  go_ret
  exact ⟨rfl, HC.out⟩
theorem unmap_ok (b k : Nat) {w : World} {bm bp n : Nat} {st wd : Nat → Int} (h : Mem w bm bp n st wd) (hk : 1 ≤ k) (hb : b + k ≤ n) (hall : allB st b [1, 2] k = true) :
    Calls Try.prog 22 #[.pointer (some ⟨bm, 0, none⟩), .int .i64 (b : Int), .int .i64 (k : Int)] w fun e w' => e = .returned (.int .i64 0) ∧ Mem w' bm bp n (rst st b k 0) (rwd wd b k) ∧ Chg (· = bp) w w' := by
  have hc : Chg (fun _ => False) w (w.alloc (.cells #[.int .i64 1, .int .i64 2] 69)) := (Chg.refl _ w).alloc _ _
  have hm : Mem (w.alloc (.cells #[.int .i64 1, .int .i64 2] 69)) bm bp n st wd := h.chg hc (fun x => x) (fun x => x)
  have C := Lib.hid (change_ok 0 b k (.slice (some ⟨w.heap.size, 0, none⟩) 2 2) hm hk hb (by omega) (hall ▸ allIn_two b k 1 2 w.heap.size hm hb (by rw [World.cell?_alloc_new]; rfl) (by rw [World.cell?_alloc_new]; rfl)))
  have HC := Lib.hid (hc.wide (S := (· = bp)))
  clear h hm hc hall
  go_enter Try.func22, Try.ntmps22
  go_wp2_with (go_at_call 33; ((with_reducible refine (C.out).mono ?_); rintro e w1 ⟨rfl, hm, hd⟩; have HM := Lib.hid hm; have HD := Lib.hid hd; clear hm hd))
  go_ret
  exact ⟨rfl, HM.out, HC.out.trans HD.out⟩
theorem release_nil (b k : Int) (w : World) : Calls Try.prog 23 #[.pointer none, .int .i64 b, .int .i64 k] w fun e w' => e = .returned (.int .i64 5) ∧ Chg (fun _ => False) w w' := by
  have C := Lib.hid fun fit w => change_nil 2 b k fit w
  go_enter Try.func23, Try.ntmps23
  go_wp2_with (go_at_call 33; ((with_reducible refine (C.out _ _).mono ?_); rintro e w1 ⟨rfl, rfl⟩))
  go_ret
  exact ⟨rfl, (Chg.refl _ w).alloc _ _⟩
theorem release_arg (b k : Int) {w : World} {bm bp n : Nat} {st wd : Nat → Int} (h : Mem w bm bp n st wd) (hk : k ≤ 9223372036854775807) (hb : k < 1 ∨ b < 0 ∨ (n : Int) - k < b) :
    Calls Try.prog 23 #[.pointer (some ⟨bm, 0, none⟩), .int .i64 b, .int .i64 k] w fun e w' => e = .returned (.int .i64 1) ∧ Chg (fun _ => False) w w' := by
  have hc : Chg (fun _ => False) w (w.alloc (.cells #[.int .i64 1] 69)) := (Chg.refl _ w).alloc _ _
  have hm : Mem (w.alloc (.cells #[.int .i64 1] 69)) bm bp n st wd := h.chg hc (fun x => x) (fun x => x)
  have C := Lib.hid (change_arg 2 b k (.slice (some ⟨w.heap.size, 0, none⟩) 1 1) hm hk hb)
  have HC := Lib.hid hc
  clear h hm hc hb
  go_enter Try.func23, Try.ntmps23
  go_wp2_with (go_at_call 33; ((with_reducible refine (C.out).mono ?_); rintro e w1 ⟨rfl, rfl⟩))
  go_ret
  exact ⟨rfl, HC.out⟩
theorem release_state (b k : Nat) {w : World} {bm bp n : Nat} {st wd : Nat → Int} (h : Mem w bm bp n st wd) (hk : 1 ≤ k) (hb : b + k ≤ n) (hall : allB st b [1] k = false) :
    Calls Try.prog 23 #[.pointer (some ⟨bm, 0, none⟩), .int .i64 (b : Int), .int .i64 (k : Int)] w fun e w' => e = .returned (.int .i64 5) ∧ Chg (fun _ => False) w w' := by
  have hc : Chg (fun _ => False) w (w.alloc (.cells #[.int .i64 1] 69)) := (Chg.refl _ w).alloc _ _
  have hm : Mem (w.alloc (.cells #[.int .i64 1] 69)) bm bp n st wd := h.chg hc (fun x => x) (fun x => x)
  have C := Lib.hid (change_state 2 b k (.slice (some ⟨w.heap.size, 0, none⟩) 1 1) hm hk hb (hall ▸ allIn_one b k 1 w.heap.size hm hb (by rw [World.cell?_alloc_new]; rfl)))
  have HC := Lib.hid hc
  clear h hm hc hall
  go_enter Try.func23, Try.ntmps23
  go_wp2_with (go_at_call 33; ((with_reducible refine (C.out).mono ?_); rintro e w1 ⟨rfl, rfl⟩))
  go_ret
  exact ⟨rfl, HC.out⟩
theorem release_ok (b k : Nat) {w : World} {bm bp n : Nat} {st wd : Nat → Int} (h : Mem w bm bp n st wd) (hk : 1 ≤ k) (hb : b + k ≤ n) (hall : allB st b [1] k = true) :
    Calls Try.prog 23 #[.pointer (some ⟨bm, 0, none⟩), .int .i64 (b : Int), .int .i64 (k : Int)] w fun e w' => e = .returned (.int .i64 0) ∧ Mem w' bm bp n (rst st b k 2) (rwd wd b k) ∧ Chg (· = bp) w w' := by
  have hc : Chg (fun _ => False) w (w.alloc (.cells #[.int .i64 1] 69)) := (Chg.refl _ w).alloc _ _
  have hm : Mem (w.alloc (.cells #[.int .i64 1] 69)) bm bp n st wd := h.chg hc (fun x => x) (fun x => x)
  have C := Lib.hid (change_ok 2 b k (.slice (some ⟨w.heap.size, 0, none⟩) 1 1) hm hk hb (by omega) (hall ▸ allIn_one b k 1 w.heap.size hm hb (by rw [World.cell?_alloc_new]; rfl)))
  have HC := Lib.hid (hc.wide (S := (· = bp)))
  clear h hm hc hall
  go_enter Try.func23, Try.ntmps23
  go_wp2_with (go_at_call 33; ((with_reducible refine (C.out).mono ?_); rintro e w1 ⟨rfl, hm, hd⟩; have HM := Lib.hid hm; have HD := Lib.hid hd; clear hm hd))
  go_ret
  exact ⟨rfl, HM.out, HC.out.trans HD.out⟩

theorem info73b : (Try.prog.info? 73).map (fun i => (i.zero, i.size, i.bytes)) = some (some (.agg (pageOf 0)), 65, 520) := by kernel_rfl
theorem pageOf_bang (i : Nat) (h : i < 65) : (pageOf 0)[i]! = if i = 0 then .int .i64 0 else .int .u64 0 := by
  rw [Array.getElem!_eq_getD, Array.getD_eq_getD_getElem?, get_pageOf 0 i h]; rfl
theorem made_pages (n : Nat) : madeCells (pageOf 0) (n * 65) = pcells n (fun _ => 0) (fun _ => 0) := by
  unfold madeCells pcells
  congr 1
  funext i
  rw [size_pageOf, pageOf_bang _ (Nat.mod_lt _ (by omega))]
  rfl
theorem mk_pages (n : Nat) (hn : n ≤ 4096) (W : World) : (Instr.makeSlice 54 (.int .i64 (n : Int)) (.int .i64 (n : Int))).run Try.prog W = .ok (.slice (some ⟨W.heap.size, 0, none⟩) n n) (W.alloc (.cells (pcells n (fun _ => 0) (fun _ => 0)) 73)) := by
  obtain ⟨i, hi, hz, hs, hb⟩ := info_parts info73b
  have h := run_make (P := Try.prog) W 54 73 i _ Try.underlying54 hi hz .i64 .i64 (n : Int) (n : Int) (by omega) (by omega) (by rw [hb]; omega) (by omega)
  rw [hs, Int.toNat_natCast] at h
  rw [show (Value.agg (pageOf 0)).cells = pageOf 0 from rfl, made_pages] at h
  exact h

theorem new_bad (n : Int) (w : World) (h : n < 1 ∨ 4096 < n) : Calls Try.prog 9 #[.int .i64 n] w fun e w' => e = .returned (.tuple #[.pointer none, .int .i64 1]) ∧ w = w' := by
  by_cases h1 : n < 1
  · go_enter Try.func9, Try.ntmps9
    go_wp2
    go_ret2
    exact ⟨rfl, rfl⟩
  · have h2 : 4096 < n := by omega
    clear h
    go_enter Try.func9, Try.ntmps9
    go_wp2
    go_ret2
    exact ⟨rfl, rfl⟩
/-- Behind New: where the memory lies. -/
structure Made (w w' : World) (n : Nat) : Prop where
  mem : Mem w' (w.heap.size + 1) w.heap.size n (fun _ => 0) (fun _ => 0)
  chg : Chg (fun _ => False) w w'
theorem new_ok (n : Nat) (w : World) (h1 : 1 ≤ n) (h2 : n ≤ 4096) : Calls Try.prog 9 #[.int .i64 (n : Int)] w fun e w' => e = .returned (.tuple #[.pointer (some ⟨w.heap.size + 1, 0, none⟩), .int .i64 0]) ∧ Made w w' n := by
  have hmk := mk_pages n h2
  have HM : Made w ((w.alloc (.cells (pcells n (fun _ => 0) (fun _ => 0)) 73)).alloc (.cells #[.slice (some ⟨w.heap.size, 0, none⟩) n n] 56)) n :=
    ⟨⟨heap_alloc2_new w _ _, heap_alloc2_old w _ _, by omega, h1, h2, fun _ _ => by omega⟩, ((Chg.refl _ w).alloc _ _).alloc _ _⟩
  have HM := Lib.hid HM
  obtain ⟨c, hc⟩ : ∃ c, c = pcells n (fun _ => 0) (fun _ => 0) := ⟨_, rfl⟩
  rw [← hc] at HM hmk
  clear hc
  go_enter Try.func9, Try.ntmps9
  go_wp2
  go_ret2
  exact ⟨rfl, HM.out⟩
end Go.Proofs.Ytbkpbineagfbgaa
