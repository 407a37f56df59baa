/- Contracts of the document's memory: Turn. -/
import Derived.Test.YtbkpbineagfbgaaZ
namespace Go.Proofs.Ytbkpbineagfbgaa
open Go.ChangeShapes Go.WideShapes Go.ChangeAt Go.RowKit
variable {W W' : World} {S T : Nat → Prop} {br bs bw n : Nat} {st wd : Nat → Int} {ws : Nat → Value} {bl : Nat → Nat}

theorem allB_more {st : Nat → Int} {b j : Nat} {ss : List Int} (h : allB st b ss j = true) (hi : st (b + j) ∈ ss) : allB st b ss (j + 1) = true := by
  unfold allB; rw [h, Bool.true_and]; exact List.contains_iff_mem.2 hi

theorem Ref.turned (h : Ref W T br bs bw n st wd ws bl) {p : Nat} (hp : p < n) (v : Int) :
    Left W T (((W.setCell ⟨bs, p, none⟩ (.int .i64 v)).setCell ⟨bw, p, none⟩ (.slice (some ⟨W.heap.size, 0, none⟩) 64 64)).alloc (.cells (rcells 64 zro) 31)).drew br n (upd st p v) (clr wd p) := by
  have l2 := h.lt _ h.own.2.1
  have l3 := h.lt _ h.own.2.2
  have hz : ((W.setCell ⟨bs, p, none⟩ (.int .i64 v)).setCell ⟨bw, p, none⟩ (.slice (some ⟨W.heap.size, 0, none⟩) 64 64)).heap.size = W.heap.size := by simp [World.setCell]
  have hold : ∀ i, i < W.heap.size → (((W.setCell ⟨bs, p, none⟩ (.int .i64 v)).setCell ⟨bw, p, none⟩ (.slice (some ⟨W.heap.size, 0, none⟩) 64 64)).alloc (.cells (rcells 64 zro) 31)).drew.heap[i]? = ((W.setCell ⟨bs, p, none⟩ (.int .i64 v)).setCell ⟨bw, p, none⟩ (.slice (some ⟨W.heap.size, 0, none⟩) 64 64)).heap[i]? := fun i hi => heap_alloc_old _ _ (by rw [hz]; exact hi)
  refine ⟨_, bs, bw, _, _, h.setPage hp v ?_ ?_ ?_ (fun i hi h1 h2 => ?_) ?_, ?_, fun i hi => ?_⟩
  · rw [hold _ l2, heap_setCell_other _ _ _ _ h.ne.2.2]
  · have := heap_alloc_new ((W.setCell ⟨bs, p, none⟩ (.int .i64 v)).setCell ⟨bw, p, none⟩ (.slice (some ⟨W.heap.size, 0, none⟩) 64 64)) (.cells (rcells 64 zro) 31)
    rw [hz] at this
    exact this
  · have k : FRow 79 (W.setCell ⟨bs, p, none⟩ (.int .i64 v)) bw n ws := (heap_setCell_other _ _ _ _ h.ne.2.2.symm).trans h.words
    exact (hold _ l3).trans (k.set (i := p) (.slice (some ⟨W.heap.size, 0, none⟩) 64 64))
  · rw [hold _ hi, heap_setCell_other _ _ _ _ h2, heap_setCell_other _ _ _ _ h1]
  · show _ < (Array.push _ _).size
    rw [Array.size_push, hz]; omega
  · exact ((((Chg.refl T W).setCell (p := ⟨bs, p, none⟩) (fun _ => h.own.2.1) _).setCell (p := ⟨bw, p, none⟩) (fun _ => h.own.2.2) _).alloc _ _).drew.cha
  · rcases hi with hi | hi
    · exact .inl hi
    · exact .inr (by omega)

set_option maxHeartbeats 2000000 in
theorem turn_state (b k : Nat) (f o t : Int) (h : Ref W T br bs bw n st wd ws bl) (hk : 1 ≤ k) (hb : b + k ≤ n) (hall : allB st b [f, o] k = false) :
    Calls Try.prog 43 #[.pointer (some ⟨br, 0, none⟩), .int .i64 (b : Int), .int .i64 (k : Int), .int .i64 f, .int .i64 o, .int .i64 t] W fun e w' => e = .returned (.int .i64 5) ∧ W = w' := by
  have hh := h.ptr0
  have hl := h.le
  have HA := Lib.hid hall
  clear hall
  go_enter Try.func43, Try.ntmps43
  go_wp2
  go_loop [13] (fun i => ∃ j : Nat, b ≤ j ∧ j ≤ b + k ∧ allB st b [f, o] (j - b) = true ∧ i = .int .i64 (j : Int)) (fun i => b + k - (intOf i).toNat)
  case atStart => exact ⟨b, Nat.le_refl _, by omega, by rw [Nat.sub_self]; rfl, rfl⟩
  case round =>
    obtain ⟨j, hj0, hj, hA, rfl⟩ := hrel
    by_cases hlt : j < b + k
    · have hs := h.cellState (p := j) (by omega)
      have hA2 : st j = f ∨ st j = o → allB st b [f, o] (j + 1 - b) = true := fun c => by
        rw [show j + 1 - b = (j - b) + 1 by omega]
        refine allB_more hA ?_
        rw [show b + (j - b) = j by omega]
        simpa using c
      by_cases he : st j = f
      · have HX := Lib.hid (hA2 (.inl he))
        have hn : (st j != f) = false := by simpa using he
        clear hA hA2 he h
        go_wp2
        go_round
        case rel => exact ⟨j + 1, by omega, by omega, HX.out, by go_num⟩
        case measure => simp [intOf]; omega
      · have hn : (st j != f) = true := by simpa using he
        by_cases he2 : st j = o
        · have HX := Lib.hid (hA2 (.inr he2))
          have hn2 : (st j != o) = false := by simpa using he2
          clear hA hA2 he he2 h
          go_wp2
          go_round
          case rel => exact ⟨j + 1, by omega, by omega, HX.out, by go_num⟩
          case measure => simp [intOf]; omega
        · have hn2 : (st j != o) = true := by simpa using he2
          clear hA hA2 he he2 h
          go_wp2
          go_ret
          exact ⟨rfl, rfl⟩
    · exfalso
      have := HA.out
      rw [show j - b = k by omega] at hA
      rw [hA] at this
      cases this

set_option maxHeartbeats 4000000 in
theorem turn_ok (b k : Nat) (f o t : Int) (h : Ref W T br bs bw n st wd ws bl) (hk : 1 ≤ k) (hb : b + k ≤ n) (hall : allB st b [f, o] k = true) :
    Calls Try.prog 43 #[.pointer (some ⟨br, 0, none⟩), .int .i64 (b : Int), .int .i64 (k : Int), .int .i64 f, .int .i64 o, .int .i64 t] W fun e w' => e = .returned (.int .i64 0) ∧ Left W T w' br n (rst st b k t) (rwd wd b k) := by
  have hh := h.ptr0
  have hl := h.le
  have HA := Lib.hid ((allB_iff k).1 hall)
  have HL := Lib.hid h.left
  clear hall
  go_enter Try.func43, Try.ntmps43
  go_wp2
  go_loop [13] (fun i => ∃ j : Nat, b ≤ j ∧ j ≤ b + k ∧ i = .int .i64 (j : Int)) (fun i => b + k - (intOf i).toNat)
  case atStart => exact ⟨b, Nat.le_refl _, by omega, rfl⟩
  case round =>
    obtain ⟨j, hj0, hj, rfl⟩ := hrel
    by_cases hlt : j < b + k
    · have hs := h.cellState (p := j) (by omega)
      have hA2 := HA.out (j - b) (by omega)
      rw [show b + (j - b) = j by omega] at hA2
      have hA2 : st j = f ∨ st j = o := by simpa using hA2
      by_cases he : st j = f
      · have hn : (st j != f) = false := by simpa using he
        clear hA2 he h
        go_wp2
        go_round
        case rel => exact ⟨j + 1, by omega, by omega, by go_num⟩
        case measure => simp [intOf]; omega
      · have hn : (st j != f) = true := by simpa using he
        have hn2 : (st j != o) = false := by simpa using hA2.resolve_left he
        clear hA2 he h
        go_wp2
        go_round
        case rel => exact ⟨j + 1, by omega, by omega, by go_num⟩
        case measure => simp [intOf]; omega
    · obtain rfl : j = b + k := by omega
      clear h HA hh
      go_wp2
      go_loopw [14] (fun i wr => ∃ j : Nat, b ≤ j ∧ j ≤ b + k ∧ i = .int .i64 (j : Int) ∧ Left W T wr br n (rst st b (j - b) t) (rwd wd b (j - b))) (fun i _ => b + k - (intOf i).toNat)
      case atStart => exact ⟨b, Nat.le_refl _, by omega, rfl, by rw [Nat.sub_self, rst_zero, rwd_zero]; exact HL.out⟩
      case round =>
        clear HL
        obtain ⟨j, hj0, hj, rfl, T1, bs1, bw1, ws1, bl1, hR, hC, hT⟩ := hrel
        have hh := hR.ptr0
        by_cases hlt : j < b + k
        · obtain ⟨c, hc0⟩ : ∃ c, c = rcells 64 zro := ⟨_, rfl⟩
          have hmk : ∀ W, (Instr.makeSlice 79 (.int .i64 64) (.int .i64 64)).run Try.prog W = .ok (.slice (some ⟨W.heap.size, 0, none⟩) 64 64) (W.alloc (.cells c 31)) := fun W => by rw [hc0]; exact mk_words 64 (by omega) W
          have hc := Lib.hid hc0
          clear hc0
          have hs := hR.cellState (p := j) (by omega)
          have hsf := hR.state.free j
          have hh1 := hR.ptr1
          have hw1 := hR.words.cell (i := j) (by omega)
          have hwf := hR.words.free j
          have n1 : ¬ bs1 = br := fun e => hR.ne.1 e.symm
          have n2 : ¬ bs1 = bw1 := hR.ne.2.2
          have n3 : ¬ bw1 = br := fun e => hR.ne.2.1 e.symm
          have l1 := hR.lt _ hR.own.1
          have l2 := hR.lt _ hR.own.2.1
          have l3 := hR.lt _ hR.own.2.2
          have HN := Left.trans hC hT (hR.turned (p := j) (by omega) t)
          have e1 : upd (rst st b (j - b) t) j t = rst st b (j + 1 - b) t := by
            rw [show j + 1 - b = (j - b) + 1 by omega, rst_step, show b + (j - b) = j by omega]
          have e2 : clr (rwd wd b (j - b)) j = rwd wd b (j + 1 - b) := by
            rw [show j + 1 - b = (j - b) + 1 by omega, rwd_step, show b + (j - b) = j by omega]
          rw [e1, e2, ← hc.out] at HN
          have HN := Lib.hid HN
          clear hR hT hC e1 e2
          go_wp2
          go_region
          go_wp2
          go_roundw
          case rel => exact ⟨j + 1, by omega, by omega, by go_num, HN.out⟩
          case measure => simp [intOf]; omega
        · obtain rfl : j = b + k := by omega
          rw [show b + k - b = k by omega] at hR
          have HN := Lib.hid (show Left W T wr br n (rst st b k t) (rwd wd b k) from ⟨T1, bs1, bw1, ws1, bl1, hR, hC, hT⟩)
          clear hR hT hC
          go_wp2
          go_ret
          exact ⟨rfl, HN.out⟩
end Go.Proofs.Ytbkpbineagfbgaa
