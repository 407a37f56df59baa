/- CodeFixed: the walk. -/
import Derived.Test.YtpdjbhnpahkbpaaAB
import Derived.Test.YtpdjbhnpahkbpaaXA
import Derived.Test.YtpdjbhnpahkbpaaBJ
namespace Go.Proofs.Ytpdjbhnpahkbpaa
open Go.ChangeShapes Go.WideShapes Go.ChangeAt Go.RowKit

def oneZ : PZ := ⟨[], [], [⟨0, [], [], []⟩]⟩
theorem enc_one : enc8 oneZ = ⟨[0, 0, 1, 0, 0, 0, 0], 0⟩ := by
  have h0 : digs 0 = [0] := digs_lo (by decide)
  have h1 : digs 1 = [1] := digs_lo (by decide)
  have u0 : uz 0 = 0 := rfl
  have hw : wProg oneZ ⟨[], 0⟩ = ⟨[0, 0, 1, 0, 0, 0, 0], 0⟩ := by
    have ok : ∀ (k lim : Nat) (ab : Int) (A : List Nat), k ≤ lim → wWord k lim ab ⟨A, 0⟩ = ⟨A ++ digs k, 0⟩ := fun k lim ab A h => by unfold wWord; rw [if_neg (fun c => c rfl), if_neg (by omega)]
    have nm : ∀ (A : List Nat), wNum 0 ⟨A, 0⟩ = ⟨A ++ digs 0, 0⟩ := fun A => by unfold wNum; exact ok _ _ _ _ (by decide)
    simp only [wProg, oneZ, wList, wFn, List.length_nil, List.length_cons, List.foldl_nil, List.foldl_cons, ok 0 32 16 _ (by decide), Nat.zero_add, ok 1 32 16 _ (by decide), ok 0 256 16 _ (by decide), nm, h0, h1]
    simp
  unfold enc8
  simp only [hw]
  rw [if_neg (fun c => c rfl), if_neg (by decide)]
theorem fixed_texts : dec8 [128, 0] = (noP, ⟨8, -1, 0⟩) ∧ dec8 [] = (noP, ⟨7, -1, 0⟩) ∧ dec8 [33] = (noP, ⟨16, -1, 0⟩) ∧ dec8 [0, 0, 0, 5] = (noP, ⟨7, -1, 3⟩) ∧ dec8 [1, 2] = (noP, ⟨8, -1, 1⟩) ∧ dec8 [0, 33] = (noP, ⟨16, -1, 1⟩) ∧ dec8 [0, 0, 33] = (noP, ⟨16, -1, 2⟩) ∧ dec8 [0, 0, 1, 255, 255, 4] = (noP, ⟨1, -1, 3⟩) ∧ dec8 [129] = (noP, ⟨7, -1, 0⟩) ∧ dec8 [0, 0, 1, 0, 0, 0, 1, 1, 0, 0, 0, 255, 255, 255, 255, 255, 255, 255, 255, 255, 2, 0] = (noP, ⟨8, -1, 11⟩) := by
  refine ⟨rfl, rfl, rfl, rfl, rfl, rfl, rfl, rfl, rfl, rfl⟩
theorem long_zeros (T : List Nat) (h : T.length = 16385) : dec8 T = (noP, ⟨2, -1, 0⟩) := dec8_long (by omega)
/-- One block behind the other. -/
def allocs (w : World) (l : List Obj) : World := l.foldl World.alloc w
theorem allocs_at : ∀ (l : List Obj) (w : World), Cha (fun _ => False) w (allocs w l) ∧ ∀ (i : Nat) (o : Obj), l[i]? = some o → (allocs w l).heap[w.heap.size + i]? = some o
  | [], w => ⟨Cha.refl _ w, fun i o h => by simp at h⟩
  | o :: l, w => by
    obtain ⟨h1, h2⟩ := allocs_at l (w.alloc o)
    have hs : (w.alloc o).heap.size = w.heap.size + 1 := World.size_alloc _ _
    refine ⟨((Cha.refl _ w).alloc o).trans h1, fun i u h => ?_⟩
    cases i with
    | zero =>
      obtain rfl : o = u := by simpa using h
      exact (h1.old w.heap.size (by omega) (fun f => f)).trans (heap_alloc_new w o)
    | succ i =>
      have := h2 i u (by simpa using h)
      rw [hs] at this
      rw [show w.heap.size + (i + 1) = w.heap.size + 1 + i by omega]
      exact this
theorem blk_has {w : World} {g : Nat} (T : List Nat) (h : w.heap[g]? = some (.cells (bz T).toArray 5 (0, 0))) (hT : ∀ x ∈ T, x < 256) (hl : T.length ≤ 9223372036854775807) : HasT w (some ⟨g, 0, none⟩) T.length T.length T := by
  have l := (Array.getElem?_eq_some_iff.1 h).1
  refine ⟨⟨_, _, rfl, hl, fun _ => ⟨g, 0, rfl, l, l, fun i x hi => ⟨?_, hT x (List.mem_of_getElem? hi)⟩⟩⟩, rfl, Nat.le_refl _⟩
  rw [cell_of_row w g _ _ 5 (0, 0) h]
  unfold bz
  simp [hi]
def fixTexts : List (List Nat) := [[128, 0], [], [33], [0, 0, 0, 5], [1, 2], [0, 33], [0, 0, 33], [0, 0, 1, 255, 255, 4], [129], [0, 0, 1, 0, 0, 0, 1, 1, 0, 0, 0, 255, 255, 255, 255, 255, 255, 255, 255, 255, 2, 0]]
def fixWants : List FT := [⟨8, -1, 0⟩, ⟨7, -1, 0⟩, ⟨16, -1, 0⟩, ⟨7, -1, 3⟩, ⟨8, -1, 1⟩, ⟨16, -1, 1⟩, ⟨16, -1, 2⟩, ⟨1, -1, 3⟩, ⟨7, -1, 0⟩, ⟨8, -1, 11⟩]
/-- What lies at a place k of both lists. -/
def FixAt (w : World) (b c k : Nat) : Prop := ∃ (a : Option Addr) (n q : Nat) (T : List Nat) (e f x : Int), w.cell? ⟨b, k, none⟩ = some (.slice a n q) ∧ HasT w a n q T ∧ w.cell? ⟨c, k * 3, none⟩ = some (.int .i64 e) ∧ w.cell? ⟨c, k * 3 + 1, none⟩ = some (.int .i64 f) ∧ w.cell? ⟨c, k * 3 + 2, none⟩ = some (.int .i64 x) ∧ dec8 T = (noP, ⟨e, f, x⟩)
theorem FixAt.cha {w w' : World} {b c k : Nat} (h : FixAt w b c k) (hc : Cha (fun _ => False) w w') : FixAt w' b c k := by
  obtain ⟨a, n, q, T, e, f, x, h1, h2, h3, h4, h5, h6⟩ := h
  exact ⟨a, n, q, T, e, f, x, cell_cha (B := fun _ => True) hc (fun _ f => f.elim) trivial h1, h2.cha hc, cell_cha (B := fun _ => True) hc (fun _ f => f.elim) trivial h3, cell_cha (B := fun _ => True) hc (fun _ f => f.elim) trivial h4, cell_cha (B := fun _ => True) hc (fun _ f => f.elim) trivial h5, h6⟩
set_option maxRecDepth 100000 in
theorem fix_all (w2 : World) : ∀ k, k < 10 → FixAt (allocs w2 [(.cells #[.int .u8 128, .int .u8 0] 5), (.cells #[] 5), (.cells #[.int .u8 33] 5), (.cells #[.int .u8 0, .int .u8 0, .int .u8 0, .int .u8 5] 5), (.cells #[.int .u8 1, .int .u8 2] 5), (.cells #[.int .u8 0, .int .u8 33] 5), (.cells #[.int .u8 0, .int .u8 0, .int .u8 33] 5), (.cells #[.int .u8 0, .int .u8 0, .int .u8 1, .int .u8 255, .int .u8 255, .int .u8 4] 5), (.cells #[.int .u8 129] 5), (.cells #[.int .u8 0, .int .u8 0, .int .u8 1, .int .u8 0, .int .u8 0, .int .u8 0, .int .u8 1, .int .u8 1, .int .u8 0, .int .u8 0, .int .u8 0, .int .u8 255, .int .u8 255, .int .u8 255, .int .u8 255, .int .u8 255, .int .u8 255, .int .u8 255, .int .u8 255, .int .u8 255, .int .u8 2, .int .u8 0] 5), (.cells #[.slice (some ⟨w2.heap.size, 0, none⟩) 2 2, .slice (some ⟨w2.heap.size + 1, 0, none⟩) 0 0, .slice (some ⟨w2.heap.size + 1 + 1, 0, none⟩) 1 1, .slice (some ⟨w2.heap.size + 1 + 1 + 1, 0, none⟩) 4 4, .slice (some ⟨w2.heap.size + 1 + 1 + 1 + 1, 0, none⟩) 2 2, .slice (some ⟨w2.heap.size + 1 + 1 + 1 + 1 + 1, 0, none⟩) 2 2, .slice (some ⟨w2.heap.size + 1 + 1 + 1 + 1 + 1 + 1, 0, none⟩) 3 3, .slice (some ⟨w2.heap.size + 1 + 1 + 1 + 1 + 1 + 1 + 1, 0, none⟩) 6 6, .slice (some ⟨w2.heap.size + 1 + 1 + 1 + 1 + 1 + 1 + 1 + 1, 0, none⟩) 1 1, .slice (some ⟨w2.heap.size + 1 + 1 + 1 + 1 + 1 + 1 + 1 + 1 + 1, 0, none⟩) 22 22] 27), (.cells #[.int .i64 8, .int .i64 (-1), .int .i64 0, .int .i64 7, .int .i64 (-1), .int .i64 0, .int .i64 16, .int .i64 (-1), .int .i64 0, .int .i64 7, .int .i64 (-1), .int .i64 3, .int .i64 8, .int .i64 (-1), .int .i64 1, .int .i64 16, .int .i64 (-1), .int .i64 1, .int .i64 16, .int .i64 (-1), .int .i64 2, .int .i64 1, .int .i64 (-1), .int .i64 3, .int .i64 7, .int .i64 (-1), .int .i64 0, .int .i64 8, .int .i64 (-1), .int .i64 11] 37)]) (w2.heap.size + 10) (w2.heap.size + 11) k := by
  obtain ⟨_, A⟩ := allocs_at [(.cells #[.int .u8 128, .int .u8 0] 5), (.cells #[] 5), (.cells #[.int .u8 33] 5), (.cells #[.int .u8 0, .int .u8 0, .int .u8 0, .int .u8 5] 5), (.cells #[.int .u8 1, .int .u8 2] 5), (.cells #[.int .u8 0, .int .u8 33] 5), (.cells #[.int .u8 0, .int .u8 0, .int .u8 33] 5), (.cells #[.int .u8 0, .int .u8 0, .int .u8 1, .int .u8 255, .int .u8 255, .int .u8 4] 5), (.cells #[.int .u8 129] 5), (.cells #[.int .u8 0, .int .u8 0, .int .u8 1, .int .u8 0, .int .u8 0, .int .u8 0, .int .u8 1, .int .u8 1, .int .u8 0, .int .u8 0, .int .u8 0, .int .u8 255, .int .u8 255, .int .u8 255, .int .u8 255, .int .u8 255, .int .u8 255, .int .u8 255, .int .u8 255, .int .u8 255, .int .u8 2, .int .u8 0] 5), (.cells #[.slice (some ⟨w2.heap.size, 0, none⟩) 2 2, .slice (some ⟨w2.heap.size + 1, 0, none⟩) 0 0, .slice (some ⟨w2.heap.size + 1 + 1, 0, none⟩) 1 1, .slice (some ⟨w2.heap.size + 1 + 1 + 1, 0, none⟩) 4 4, .slice (some ⟨w2.heap.size + 1 + 1 + 1 + 1, 0, none⟩) 2 2, .slice (some ⟨w2.heap.size + 1 + 1 + 1 + 1 + 1, 0, none⟩) 2 2, .slice (some ⟨w2.heap.size + 1 + 1 + 1 + 1 + 1 + 1, 0, none⟩) 3 3, .slice (some ⟨w2.heap.size + 1 + 1 + 1 + 1 + 1 + 1 + 1, 0, none⟩) 6 6, .slice (some ⟨w2.heap.size + 1 + 1 + 1 + 1 + 1 + 1 + 1 + 1, 0, none⟩) 1 1, .slice (some ⟨w2.heap.size + 1 + 1 + 1 + 1 + 1 + 1 + 1 + 1 + 1, 0, none⟩) 22 22] 27), (.cells #[.int .i64 8, .int .i64 (-1), .int .i64 0, .int .i64 7, .int .i64 (-1), .int .i64 0, .int .i64 16, .int .i64 (-1), .int .i64 0, .int .i64 7, .int .i64 (-1), .int .i64 3, .int .i64 8, .int .i64 (-1), .int .i64 1, .int .i64 16, .int .i64 (-1), .int .i64 1, .int .i64 16, .int .i64 (-1), .int .i64 2, .int .i64 1, .int .i64 (-1), .int .i64 3, .int .i64 7, .int .i64 (-1), .int .i64 0, .int .i64 8, .int .i64 (-1), .int .i64 11] 37)] w2
  obtain ⟨q0, q1, q2, q3, q4, q5, q6, q7, q8, q9⟩ := fixed_texts
  intro k hk
  have hk : k = 0 ∨ k = 1 ∨ k = 2 ∨ k = 3 ∨ k = 4 ∨ k = 5 ∨ k = 6 ∨ k = 7 ∨ k = 8 ∨ k = 9 := by omega
  have h10 := A 10 _ rfl
  have h11 := A 11 _ rfl
  rcases hk with rfl | rfl | rfl | rfl | rfl | rfl | rfl | rfl | rfl | rfl
  · exact ⟨_, _, _, _, _, _, _, cell_of_row _ _ 0 _ 27 (0, 0) h10, blk_has [128, 0] (A 0 _ rfl) (by decide) (by decide), cell_of_row _ _ 0 _ 37 (0, 0) h11, cell_of_row _ _ 1 _ 37 (0, 0) h11, cell_of_row _ _ 2 _ 37 (0, 0) h11, q0⟩
  · exact ⟨_, _, _, _, _, _, _, cell_of_row _ _ 1 _ 27 (0, 0) h10, blk_has [] (A 1 _ rfl) (by decide) (by decide), cell_of_row _ _ 3 _ 37 (0, 0) h11, cell_of_row _ _ 4 _ 37 (0, 0) h11, cell_of_row _ _ 5 _ 37 (0, 0) h11, q1⟩
  · exact ⟨_, _, _, _, _, _, _, cell_of_row _ _ 2 _ 27 (0, 0) h10, blk_has [33] (A 2 _ rfl) (by decide) (by decide), cell_of_row _ _ 6 _ 37 (0, 0) h11, cell_of_row _ _ 7 _ 37 (0, 0) h11, cell_of_row _ _ 8 _ 37 (0, 0) h11, q2⟩
  · exact ⟨_, _, _, _, _, _, _, cell_of_row _ _ 3 _ 27 (0, 0) h10, blk_has [0, 0, 0, 5] (A 3 _ rfl) (by decide) (by decide), cell_of_row _ _ 9 _ 37 (0, 0) h11, cell_of_row _ _ 10 _ 37 (0, 0) h11, cell_of_row _ _ 11 _ 37 (0, 0) h11, q3⟩
  · exact ⟨_, _, _, _, _, _, _, cell_of_row _ _ 4 _ 27 (0, 0) h10, blk_has [1, 2] (A 4 _ rfl) (by decide) (by decide), cell_of_row _ _ 12 _ 37 (0, 0) h11, cell_of_row _ _ 13 _ 37 (0, 0) h11, cell_of_row _ _ 14 _ 37 (0, 0) h11, q4⟩
  · exact ⟨_, _, _, _, _, _, _, cell_of_row _ _ 5 _ 27 (0, 0) h10, blk_has [0, 33] (A 5 _ rfl) (by decide) (by decide), cell_of_row _ _ 15 _ 37 (0, 0) h11, cell_of_row _ _ 16 _ 37 (0, 0) h11, cell_of_row _ _ 17 _ 37 (0, 0) h11, q5⟩
  · exact ⟨_, _, _, _, _, _, _, cell_of_row _ _ 6 _ 27 (0, 0) h10, blk_has [0, 0, 33] (A 6 _ rfl) (by decide) (by decide), cell_of_row _ _ 18 _ 37 (0, 0) h11, cell_of_row _ _ 19 _ 37 (0, 0) h11, cell_of_row _ _ 20 _ 37 (0, 0) h11, q6⟩
  · exact ⟨_, _, _, _, _, _, _, cell_of_row _ _ 7 _ 27 (0, 0) h10, blk_has [0, 0, 1, 255, 255, 4] (A 7 _ rfl) (by decide) (by decide), cell_of_row _ _ 21 _ 37 (0, 0) h11, cell_of_row _ _ 22 _ 37 (0, 0) h11, cell_of_row _ _ 23 _ 37 (0, 0) h11, q7⟩
  · exact ⟨_, _, _, _, _, _, _, cell_of_row _ _ 8 _ 27 (0, 0) h10, blk_has [129] (A 8 _ rfl) (by decide) (by decide), cell_of_row _ _ 24 _ 37 (0, 0) h11, cell_of_row _ _ 25 _ 37 (0, 0) h11, cell_of_row _ _ 26 _ 37 (0, 0) h11, q8⟩
  · exact ⟨_, _, _, _, _, _, _, cell_of_row _ _ 9 _ 27 (0, 0) h10, blk_has [0, 0, 1, 0, 0, 0, 1, 1, 0, 0, 0, 255, 255, 255, 255, 255, 255, 255, 255, 255, 2, 0] (A 9 _ rfl) (by decide) (by decide), cell_of_row _ _ 27 _ 37 (0, 0) h11, cell_of_row _ _ 28 _ 37 (0, 0) h11, cell_of_row _ _ 29 _ 37 (0, 0) h11, q9⟩
theorem make_zeros : ∃ Z : Array Value, (∀ w : World, (Instr.makeSlice 27 (.int .i64 16385) (.int .i64 16385)).run Try.prog w = .ok (.slice (some ⟨w.heap.size, 0, none⟩) 16385 16385) (w.alloc (.cells Z 5))) ∧ ∀ w : World, HasT (w.alloc (.cells Z 5)) (some ⟨w.heap.size, 0, none⟩) 16385 16385 (List.replicate 16385 0) := by
  obtain ⟨i, hi, hz, hs, hb2⟩ := info_parts info5
  refine ⟨madeCells (Value.cells (.int .u8 0)) 16385, fun w => ?_, fun w => ?_⟩
  · have h := run_make (P := Try.prog) w 27 5 i _ Try.underlying27 hi hz .i64 .i64 16385 16385 (by omega) (by omega) (by rw [hb2]; omega) (by omega)
    rw [hs] at h
    exact h
  · have h := heap_alloc_new w (.cells (madeCells (Value.cells (.int .u8 0)) 16385) 5)
    have l := (Array.getElem?_eq_some_iff.1 h).1
    have e : (List.replicate 16385 0).length = 16385 := List.length_replicate
    refine ⟨⟨some ⟨w.heap.size, 0, none⟩, 16385, by rw [e], by rw [e]; omega, fun _ => ⟨_, 0, rfl, l, l, fun i x hi => ?_⟩⟩, e.symm, Nat.le_refl _⟩
    obtain ⟨hi1, hi2⟩ := List.getElem?_eq_some_iff.1 hi
    rw [e] at hi1
    have hx : x = 0 := by rw [← hi2, List.getElem_replicate]
    subst hx
    refine ⟨?_, by omega⟩
    rw [cell_of_row _ _ _ _ 5 (0, 0) h]
    unfold madeCells
    rw [Array.getElem?_map, Array.getElem?_range]
    rw [if_pos (by omega)]
    show some ((#[Value.int .u8 0])[(0 + i * 1) % 1]!) = _
    rw [Nat.mod_one]
    rfl
theorem one_reads (W : World) : HasP (W.alloc (.cells #[.int .i64 0, .slice none 0 0, .slice none 0 0, .slice none 0 0] 55)) (.agg #[.slice none 0 0, .slice none 0 0, .slice (some ⟨W.heap.size, 0, none⟩) 1 1]) oneZ := by
  have a := heap_alloc_new W (.cells #[.int .i64 0, .slice none 0 0, .slice none 0 0, .slice none 0 0] 55)
  have l := (Array.getElem?_eq_some_iff.1 a).1
  refine ⟨_, _, _, rfl, RdS.nil _ _ _ _, RdS.nil _ _ _ _, _, _, rfl, by simp [oneZ], fun _ => ⟨_, _, rfl, l, l, fun i x hi => ?_⟩⟩
  have hi : [(⟨0, [], [], []⟩ : FZ)][i]? = some x := hi
  have e : i = 0 ∧ (⟨0, [], [], []⟩ : FZ) = x := by
    cases i with
    | zero => exact ⟨rfl, by simpa using hi⟩
    | succ i => simp at hi
  obtain ⟨rfl, rfl⟩ := e
  exact ⟨cell_of_row _ _ 0 _ 55 (0, 0) a, ⟨_, cell_of_row _ _ 1 _ 55 (0, 0) a, RdS.nil _ _ _ _⟩, ⟨_, cell_of_row _ _ 2 _ 55 (0, 0) a, RdS.nil _ _ _ _⟩, ⟨_, cell_of_row _ _ 3 _ 55 (0, 0) a, RdS.nil _ _ _ _⟩, by show I64 0; unfold I64; omega⟩
set_option maxRecDepth 100000 in
set_option maxHeartbeats 4000000 in
theorem fixed_walk (W : World) : Calls Try.prog 9 #[] W fun e w' => e = .returned (.bool true) ∧ Cha (fun _ => False) W w' := by
  have CE : Hid (Calls Try.prog 15 #[.agg #[.slice none 0 0, .slice none 0 0, .slice (some ⟨W.heap.size, 0, none⟩) 1 1]] (W.alloc (.cells #[.int .i64 0, .slice none 0 0, .slice none 0 0, .slice none 0 0] 55)) (Enc1 (W.alloc (.cells #[.int .i64 0, .slice none 0 0, .slice none 0 0, .slice none 0 0] 55)) ⟨[0, 0, 1, 0, 0, 0, 0], 0⟩)) := Lib.hid (by
    have := encode_c (one_reads W)
    rw [enc_one] at this
    exact this)
  go_enter Try.func9, Try.ntmps9
  go_wp2_with (go_at_call 15; ((with_reducible refine (CE.out).mono ?_); rintro e w2 ⟨x2, y2, rfl, k1, k2⟩; have C2 : Hid (Cha (fun _ => False) W w2) := Lib.hid (((Cha.refl _ W).alloc _).trans k2); have T2 : Hid (HasT w2 x2 7 y2 [0, 0, 1, 0, 0, 0, 0]) := Lib.hid k1; clear k1 k2))
  have FX := Lib.hid (fix_all w2)
  have C5 : Hid (Cha (fun _ => False) W ((((((((((((w2.alloc (.cells #[.int .u8 128, .int .u8 0] 5)).alloc (.cells #[] 5)).alloc (.cells #[.int .u8 33] 5)).alloc (.cells #[.int .u8 0, .int .u8 0, .int .u8 0, .int .u8 5] 5)).alloc (.cells #[.int .u8 1, .int .u8 2] 5)).alloc (.cells #[.int .u8 0, .int .u8 33] 5)).alloc (.cells #[.int .u8 0, .int .u8 0, .int .u8 33] 5)).alloc (.cells #[.int .u8 0, .int .u8 0, .int .u8 1, .int .u8 255, .int .u8 255, .int .u8 4] 5)).alloc (.cells #[.int .u8 129] 5)).alloc (.cells #[.int .u8 0, .int .u8 0, .int .u8 1, .int .u8 0, .int .u8 0, .int .u8 0, .int .u8 1, .int .u8 1, .int .u8 0, .int .u8 0, .int .u8 0, .int .u8 255, .int .u8 255, .int .u8 255, .int .u8 255, .int .u8 255, .int .u8 255, .int .u8 255, .int .u8 255, .int .u8 255, .int .u8 2, .int .u8 0] 5)).alloc (.cells #[.slice (some ⟨w2.heap.size, 0, none⟩) 2 2, .slice (some ⟨w2.heap.size + 1, 0, none⟩) 0 0, .slice (some ⟨w2.heap.size + 1 + 1, 0, none⟩) 1 1, .slice (some ⟨w2.heap.size + 1 + 1 + 1, 0, none⟩) 4 4, .slice (some ⟨w2.heap.size + 1 + 1 + 1 + 1, 0, none⟩) 2 2, .slice (some ⟨w2.heap.size + 1 + 1 + 1 + 1 + 1, 0, none⟩) 2 2, .slice (some ⟨w2.heap.size + 1 + 1 + 1 + 1 + 1 + 1, 0, none⟩) 3 3, .slice (some ⟨w2.heap.size + 1 + 1 + 1 + 1 + 1 + 1 + 1, 0, none⟩) 6 6, .slice (some ⟨w2.heap.size + 1 + 1 + 1 + 1 + 1 + 1 + 1 + 1, 0, none⟩) 1 1, .slice (some ⟨w2.heap.size + 1 + 1 + 1 + 1 + 1 + 1 + 1 + 1 + 1, 0, none⟩) 22 22] 27)).alloc (.cells #[.int .i64 8, .int .i64 (-1), .int .i64 0, .int .i64 7, .int .i64 (-1), .int .i64 0, .int .i64 16, .int .i64 (-1), .int .i64 0, .int .i64 7, .int .i64 (-1), .int .i64 3, .int .i64 8, .int .i64 (-1), .int .i64 1, .int .i64 16, .int .i64 (-1), .int .i64 1, .int .i64 16, .int .i64 (-1), .int .i64 2, .int .i64 1, .int .i64 (-1), .int .i64 3, .int .i64 7, .int .i64 (-1), .int .i64 0, .int .i64 8, .int .i64 (-1), .int .i64 11] 37))) := Lib.hid (C2.out.trans (allocs_at [(.cells #[.int .u8 128, .int .u8 0] 5), (.cells #[] 5), (.cells #[.int .u8 33] 5), (.cells #[.int .u8 0, .int .u8 0, .int .u8 0, .int .u8 5] 5), (.cells #[.int .u8 1, .int .u8 2] 5), (.cells #[.int .u8 0, .int .u8 33] 5), (.cells #[.int .u8 0, .int .u8 0, .int .u8 33] 5), (.cells #[.int .u8 0, .int .u8 0, .int .u8 1, .int .u8 255, .int .u8 255, .int .u8 4] 5), (.cells #[.int .u8 129] 5), (.cells #[.int .u8 0, .int .u8 0, .int .u8 1, .int .u8 0, .int .u8 0, .int .u8 0, .int .u8 1, .int .u8 1, .int .u8 0, .int .u8 0, .int .u8 0, .int .u8 255, .int .u8 255, .int .u8 255, .int .u8 255, .int .u8 255, .int .u8 255, .int .u8 255, .int .u8 255, .int .u8 255, .int .u8 2, .int .u8 0] 5), (.cells #[.slice (some ⟨w2.heap.size, 0, none⟩) 2 2, .slice (some ⟨w2.heap.size + 1, 0, none⟩) 0 0, .slice (some ⟨w2.heap.size + 1 + 1, 0, none⟩) 1 1, .slice (some ⟨w2.heap.size + 1 + 1 + 1, 0, none⟩) 4 4, .slice (some ⟨w2.heap.size + 1 + 1 + 1 + 1, 0, none⟩) 2 2, .slice (some ⟨w2.heap.size + 1 + 1 + 1 + 1 + 1, 0, none⟩) 2 2, .slice (some ⟨w2.heap.size + 1 + 1 + 1 + 1 + 1 + 1, 0, none⟩) 3 3, .slice (some ⟨w2.heap.size + 1 + 1 + 1 + 1 + 1 + 1 + 1, 0, none⟩) 6 6, .slice (some ⟨w2.heap.size + 1 + 1 + 1 + 1 + 1 + 1 + 1 + 1, 0, none⟩) 1 1, .slice (some ⟨w2.heap.size + 1 + 1 + 1 + 1 + 1 + 1 + 1 + 1 + 1, 0, none⟩) 22 22] 27), (.cells #[.int .i64 8, .int .i64 (-1), .int .i64 0, .int .i64 7, .int .i64 (-1), .int .i64 0, .int .i64 16, .int .i64 (-1), .int .i64 0, .int .i64 7, .int .i64 (-1), .int .i64 3, .int .i64 8, .int .i64 (-1), .int .i64 1, .int .i64 16, .int .i64 (-1), .int .i64 1, .int .i64 16, .int .i64 (-1), .int .i64 2, .int .i64 1, .int .i64 (-1), .int .i64 3, .int .i64 7, .int .i64 (-1), .int .i64 0, .int .i64 8, .int .i64 (-1), .int .i64 11] 37)] w2).1)
  have T5 : Hid (HasT ((((((((((((w2.alloc (.cells #[.int .u8 128, .int .u8 0] 5)).alloc (.cells #[] 5)).alloc (.cells #[.int .u8 33] 5)).alloc (.cells #[.int .u8 0, .int .u8 0, .int .u8 0, .int .u8 5] 5)).alloc (.cells #[.int .u8 1, .int .u8 2] 5)).alloc (.cells #[.int .u8 0, .int .u8 33] 5)).alloc (.cells #[.int .u8 0, .int .u8 0, .int .u8 33] 5)).alloc (.cells #[.int .u8 0, .int .u8 0, .int .u8 1, .int .u8 255, .int .u8 255, .int .u8 4] 5)).alloc (.cells #[.int .u8 129] 5)).alloc (.cells #[.int .u8 0, .int .u8 0, .int .u8 1, .int .u8 0, .int .u8 0, .int .u8 0, .int .u8 1, .int .u8 1, .int .u8 0, .int .u8 0, .int .u8 0, .int .u8 255, .int .u8 255, .int .u8 255, .int .u8 255, .int .u8 255, .int .u8 255, .int .u8 255, .int .u8 255, .int .u8 255, .int .u8 2, .int .u8 0] 5)).alloc (.cells #[.slice (some ⟨w2.heap.size, 0, none⟩) 2 2, .slice (some ⟨w2.heap.size + 1, 0, none⟩) 0 0, .slice (some ⟨w2.heap.size + 1 + 1, 0, none⟩) 1 1, .slice (some ⟨w2.heap.size + 1 + 1 + 1, 0, none⟩) 4 4, .slice (some ⟨w2.heap.size + 1 + 1 + 1 + 1, 0, none⟩) 2 2, .slice (some ⟨w2.heap.size + 1 + 1 + 1 + 1 + 1, 0, none⟩) 2 2, .slice (some ⟨w2.heap.size + 1 + 1 + 1 + 1 + 1 + 1, 0, none⟩) 3 3, .slice (some ⟨w2.heap.size + 1 + 1 + 1 + 1 + 1 + 1 + 1, 0, none⟩) 6 6, .slice (some ⟨w2.heap.size + 1 + 1 + 1 + 1 + 1 + 1 + 1 + 1, 0, none⟩) 1 1, .slice (some ⟨w2.heap.size + 1 + 1 + 1 + 1 + 1 + 1 + 1 + 1 + 1, 0, none⟩) 22 22] 27)).alloc (.cells #[.int .i64 8, .int .i64 (-1), .int .i64 0, .int .i64 7, .int .i64 (-1), .int .i64 0, .int .i64 16, .int .i64 (-1), .int .i64 0, .int .i64 7, .int .i64 (-1), .int .i64 3, .int .i64 8, .int .i64 (-1), .int .i64 1, .int .i64 16, .int .i64 (-1), .int .i64 1, .int .i64 16, .int .i64 (-1), .int .i64 2, .int .i64 1, .int .i64 (-1), .int .i64 3, .int .i64 7, .int .i64 (-1), .int .i64 0, .int .i64 8, .int .i64 (-1), .int .i64 11] 37)) x2 7 y2 [0, 0, 1, 0, 0, 0, 0]) := Lib.hid (T2.out.cha (allocs_at [(.cells #[.int .u8 128, .int .u8 0] 5), (.cells #[] 5), (.cells #[.int .u8 33] 5), (.cells #[.int .u8 0, .int .u8 0, .int .u8 0, .int .u8 5] 5), (.cells #[.int .u8 1, .int .u8 2] 5), (.cells #[.int .u8 0, .int .u8 33] 5), (.cells #[.int .u8 0, .int .u8 0, .int .u8 33] 5), (.cells #[.int .u8 0, .int .u8 0, .int .u8 1, .int .u8 255, .int .u8 255, .int .u8 4] 5), (.cells #[.int .u8 129] 5), (.cells #[.int .u8 0, .int .u8 0, .int .u8 1, .int .u8 0, .int .u8 0, .int .u8 0, .int .u8 1, .int .u8 1, .int .u8 0, .int .u8 0, .int .u8 0, .int .u8 255, .int .u8 255, .int .u8 255, .int .u8 255, .int .u8 255, .int .u8 255, .int .u8 255, .int .u8 255, .int .u8 255, .int .u8 2, .int .u8 0] 5), (.cells #[.slice (some ⟨w2.heap.size, 0, none⟩) 2 2, .slice (some ⟨w2.heap.size + 1, 0, none⟩) 0 0, .slice (some ⟨w2.heap.size + 1 + 1, 0, none⟩) 1 1, .slice (some ⟨w2.heap.size + 1 + 1 + 1, 0, none⟩) 4 4, .slice (some ⟨w2.heap.size + 1 + 1 + 1 + 1, 0, none⟩) 2 2, .slice (some ⟨w2.heap.size + 1 + 1 + 1 + 1 + 1, 0, none⟩) 2 2, .slice (some ⟨w2.heap.size + 1 + 1 + 1 + 1 + 1 + 1, 0, none⟩) 3 3, .slice (some ⟨w2.heap.size + 1 + 1 + 1 + 1 + 1 + 1 + 1, 0, none⟩) 6 6, .slice (some ⟨w2.heap.size + 1 + 1 + 1 + 1 + 1 + 1 + 1 + 1, 0, none⟩) 1 1, .slice (some ⟨w2.heap.size + 1 + 1 + 1 + 1 + 1 + 1 + 1 + 1 + 1, 0, none⟩) 22 22] 27), (.cells #[.int .i64 8, .int .i64 (-1), .int .i64 0, .int .i64 7, .int .i64 (-1), .int .i64 0, .int .i64 16, .int .i64 (-1), .int .i64 0, .int .i64 7, .int .i64 (-1), .int .i64 3, .int .i64 8, .int .i64 (-1), .int .i64 1, .int .i64 16, .int .i64 (-1), .int .i64 1, .int .i64 16, .int .i64 (-1), .int .i64 2, .int .i64 1, .int .i64 (-1), .int .i64 3, .int .i64 7, .int .i64 (-1), .int .i64 0, .int .i64 8, .int .i64 (-1), .int .i64 11] 37)] w2).1)
  have FX2 : Hid (∀ k, k < 10 → FixAt ((((((((((((w2.alloc (.cells #[.int .u8 128, .int .u8 0] 5)).alloc (.cells #[] 5)).alloc (.cells #[.int .u8 33] 5)).alloc (.cells #[.int .u8 0, .int .u8 0, .int .u8 0, .int .u8 5] 5)).alloc (.cells #[.int .u8 1, .int .u8 2] 5)).alloc (.cells #[.int .u8 0, .int .u8 33] 5)).alloc (.cells #[.int .u8 0, .int .u8 0, .int .u8 33] 5)).alloc (.cells #[.int .u8 0, .int .u8 0, .int .u8 1, .int .u8 255, .int .u8 255, .int .u8 4] 5)).alloc (.cells #[.int .u8 129] 5)).alloc (.cells #[.int .u8 0, .int .u8 0, .int .u8 1, .int .u8 0, .int .u8 0, .int .u8 0, .int .u8 1, .int .u8 1, .int .u8 0, .int .u8 0, .int .u8 0, .int .u8 255, .int .u8 255, .int .u8 255, .int .u8 255, .int .u8 255, .int .u8 255, .int .u8 255, .int .u8 255, .int .u8 255, .int .u8 2, .int .u8 0] 5)).alloc (.cells #[.slice (some ⟨w2.heap.size, 0, none⟩) 2 2, .slice (some ⟨w2.heap.size + 1, 0, none⟩) 0 0, .slice (some ⟨w2.heap.size + 1 + 1, 0, none⟩) 1 1, .slice (some ⟨w2.heap.size + 1 + 1 + 1, 0, none⟩) 4 4, .slice (some ⟨w2.heap.size + 1 + 1 + 1 + 1, 0, none⟩) 2 2, .slice (some ⟨w2.heap.size + 1 + 1 + 1 + 1 + 1, 0, none⟩) 2 2, .slice (some ⟨w2.heap.size + 1 + 1 + 1 + 1 + 1 + 1, 0, none⟩) 3 3, .slice (some ⟨w2.heap.size + 1 + 1 + 1 + 1 + 1 + 1 + 1, 0, none⟩) 6 6, .slice (some ⟨w2.heap.size + 1 + 1 + 1 + 1 + 1 + 1 + 1 + 1, 0, none⟩) 1 1, .slice (some ⟨w2.heap.size + 1 + 1 + 1 + 1 + 1 + 1 + 1 + 1 + 1, 0, none⟩) 22 22] 27)).alloc (.cells #[.int .i64 8, .int .i64 (-1), .int .i64 0, .int .i64 7, .int .i64 (-1), .int .i64 0, .int .i64 16, .int .i64 (-1), .int .i64 0, .int .i64 7, .int .i64 (-1), .int .i64 3, .int .i64 8, .int .i64 (-1), .int .i64 1, .int .i64 16, .int .i64 (-1), .int .i64 1, .int .i64 16, .int .i64 (-1), .int .i64 2, .int .i64 1, .int .i64 (-1), .int .i64 3, .int .i64 7, .int .i64 (-1), .int .i64 0, .int .i64 8, .int .i64 (-1), .int .i64 11] 37)) (w2.heap.size + 10) (w2.heap.size + 11) k) := FX
  clear FX C2 T2 CE
  generalize ((((((((((((w2.alloc (.cells #[.int .u8 128, .int .u8 0] 5)).alloc (.cells #[] 5)).alloc (.cells #[.int .u8 33] 5)).alloc (.cells #[.int .u8 0, .int .u8 0, .int .u8 0, .int .u8 5] 5)).alloc (.cells #[.int .u8 1, .int .u8 2] 5)).alloc (.cells #[.int .u8 0, .int .u8 33] 5)).alloc (.cells #[.int .u8 0, .int .u8 0, .int .u8 33] 5)).alloc (.cells #[.int .u8 0, .int .u8 0, .int .u8 1, .int .u8 255, .int .u8 255, .int .u8 4] 5)).alloc (.cells #[.int .u8 129] 5)).alloc (.cells #[.int .u8 0, .int .u8 0, .int .u8 1, .int .u8 0, .int .u8 0, .int .u8 0, .int .u8 1, .int .u8 1, .int .u8 0, .int .u8 0, .int .u8 0, .int .u8 255, .int .u8 255, .int .u8 255, .int .u8 255, .int .u8 255, .int .u8 255, .int .u8 255, .int .u8 255, .int .u8 255, .int .u8 2, .int .u8 0] 5)).alloc (.cells #[.slice (some ⟨w2.heap.size, 0, none⟩) 2 2, .slice (some ⟨w2.heap.size + 1, 0, none⟩) 0 0, .slice (some ⟨w2.heap.size + 1 + 1, 0, none⟩) 1 1, .slice (some ⟨w2.heap.size + 1 + 1 + 1, 0, none⟩) 4 4, .slice (some ⟨w2.heap.size + 1 + 1 + 1 + 1, 0, none⟩) 2 2, .slice (some ⟨w2.heap.size + 1 + 1 + 1 + 1 + 1, 0, none⟩) 2 2, .slice (some ⟨w2.heap.size + 1 + 1 + 1 + 1 + 1 + 1, 0, none⟩) 3 3, .slice (some ⟨w2.heap.size + 1 + 1 + 1 + 1 + 1 + 1 + 1, 0, none⟩) 6 6, .slice (some ⟨w2.heap.size + 1 + 1 + 1 + 1 + 1 + 1 + 1 + 1, 0, none⟩) 1 1, .slice (some ⟨w2.heap.size + 1 + 1 + 1 + 1 + 1 + 1 + 1 + 1 + 1, 0, none⟩) 22 22] 27)).alloc (.cells #[.int .i64 8, .int .i64 (-1), .int .i64 0, .int .i64 7, .int .i64 (-1), .int .i64 0, .int .i64 16, .int .i64 (-1), .int .i64 0, .int .i64 7, .int .i64 (-1), .int .i64 3, .int .i64 8, .int .i64 (-1), .int .i64 1, .int .i64 16, .int .i64 (-1), .int .i64 1, .int .i64 16, .int .i64 (-1), .int .i64 2, .int .i64 1, .int .i64 (-1), .int .i64 3, .int .i64 7, .int .i64 (-1), .int .i64 0, .int .i64 8, .int .i64 (-1), .int .i64 11] 37)) = w5 at *
  generalize w2.heap.size = b at *
  go_loopw [42] (fun i wr => ∃ (k : Nat), k ≤ 10 ∧ i = .int .i64 (k : Int) ∧ Cha (fun _ => False) w5 wr) (fun i _ => 10 - (intOf i).toNat)
  case atStart => exact ⟨0, by omega, rfl, Cha.refl _ w5⟩
  case round =>
    obtain ⟨k, hk, rfl, hC⟩ := hrel
    have HC := Lib.hid hC
    clear hC
    by_cases hlt : k < 10
    · obtain ⟨a, n, q, T, e, f, x, h1, h2, h3, h4, h5, h6⟩ := (FX2.out k hlt).cha HC.out
      have h1 : wr.cell? ⟨b + 1 + 1 + 1 + 1 + 1 + 1 + 1 + 1 + 1 + 1, k, none⟩ = some (.slice a n q) := h1
      have h3 : wr.cell? ⟨b + 1 + 1 + 1 + 1 + 1 + 1 + 1 + 1 + 1 + 1 + 1, k * 3, none⟩ = some (.int .i64 e) := h3
      have h4 : wr.cell? ⟨b + 1 + 1 + 1 + 1 + 1 + 1 + 1 + 1 + 1 + 1 + 1, k * 3 + 1, none⟩ = some (.int .i64 f) := h4
      have h5 : wr.cell? ⟨b + 1 + 1 + 1 + 1 + 1 + 1 + 1 + 1 + 1 + 1 + 1, k * 3 + 2, none⟩ = some (.int .i64 x) := h5
      have CD := Lib.hid (decode_c h2)
      rw [h6] at CD
      clear h2 h6
      go_wp2_with (go_at_call 19; ((with_reducible refine (CD.out).mono ?_); rintro e w3 ⟨p0, q0, r0, p1, q1, r1, p2, q2, r2, rfl, k1, k2⟩; have C3 := Lib.hid (HC.out.trans k2); have K3 := Lib.hid k1; have K2 := Lib.hid k2; clear k1 k2))
      have A := alloc2 w3 (.cells #[.slice p0 q0 r0, .slice p1 q1 r1, .slice p2 q2 r2] 26) (.cells #[.int .i64 e, .int .i64 f, .int .i64 x] 37)
      have C6 : Cha (fun _ => False) wr ((w3.alloc (.cells #[.slice p0 q0 r0, .slice p1 q1 r1, .slice p2 q2 r2] 26)).alloc (.cells #[.int .i64 e, .int .i64 f, .int .i64 x] 37)) := ((K2.out.alloc _).alloc _)
      have K6 := Lib.hid (K3.out.cha (((Cha.refl (fun _ => False) w3).alloc (.cells #[.slice p0 q0 r0, .slice p1 q1 r1, .slice p2 q2 r2] 26)).alloc (.cells #[.int .i64 e, .int .i64 f, .int .i64 x] 37)))
      have h3' := cell_cha (B := fun _ => True) C6 (fun _ f => f.elim) trivial h3
      have h4' := cell_cha (B := fun _ => True) C6 (fun _ f => f.elim) trivial h4
      have h5' := cell_cha (B := fun _ => True) C6 (fun _ f => f.elim) trivial h5
      have C7 := Lib.hid (HC.out.trans C6)
      clear h1 h3 h4 h5 C6 CD
      generalize (w3.alloc (.cells #[.slice p0 q0 r0, .slice p1 q1 r1, .slice p2 q2 r2] 26)).alloc (.cells #[.int .i64 e, .int .i64 f, .int .i64 x] 37) = w6 at *
      generalize w3.heap.size = y at *
      have KX : Hid (∀ W', Cha (fun _ => False) w6 W' → W'.cell? ⟨y, 0, none⟩ = some (.slice p0 q0 r0) ∧ W'.cell? ⟨y, 1, none⟩ = some (.slice p1 q1 r1) ∧ W'.cell? ⟨y, 2, none⟩ = some (.slice p2 q2 r2) ∧ W'.cell? ⟨y + 1, 0, none⟩ = some (.int .i64 e) ∧ W'.cell? ⟨y + 1, 1, none⟩ = some (.int .i64 f) ∧ W'.cell? ⟨y + 1, 2, none⟩ = some (.int .i64 x) ∧ W'.cell? ⟨b + 1 + 1 + 1 + 1 + 1 + 1 + 1 + 1 + 1 + 1 + 1, k * 3, none⟩ = some (.int .i64 e) ∧ W'.cell? ⟨b + 1 + 1 + 1 + 1 + 1 + 1 + 1 + 1 + 1 + 1 + 1, k * 3 + 1, none⟩ = some (.int .i64 f) ∧ W'.cell? ⟨b + 1 + 1 + 1 + 1 + 1 + 1 + 1 + 1 + 1 + 1 + 1, k * 3 + 2, none⟩ = some (.int .i64 x)) := Lib.hid fun W' hc => by
        have e1 := (hc.old _ (Array.getElem?_eq_some_iff.1 A.1).1 (fun f => f)).trans A.1
        have e2 := (hc.old _ (Array.getElem?_eq_some_iff.1 A.2).1 (fun f => f)).trans A.2
        exact ⟨cell_of_row W' _ 0 _ 26 _ e1, cell_of_row W' _ 1 _ 26 _ e1, cell_of_row W' _ 2 _ 26 _ e1, cell_of_row W' _ 0 _ 37 _ e2, cell_of_row W' _ 1 _ 37 _ e2, cell_of_row W' _ 2 _ 37 _ e2, cell_cha (B := fun _ => True) hc (fun _ f => f.elim) trivial h3', cell_cha (B := fun _ => True) hc (fun _ f => f.elim) trivial h4', cell_cha (B := fun _ => True) hc (fun _ f => f.elim) trivial h5'⟩
      have NP : Hid (∀ W', HasP W' (.agg #[.slice none 0 0, .slice none 0 0, .slice none 0 0]) noP) := Lib.hid fun W' => nop_reads _ _
      have SP : Hid (Calls Try.prog 21 #[.agg #[.slice p0 q0 r0, .slice p1 q1 r1, .slice p2 q2 r2], .agg #[.slice none 0 0, .slice none 0 0, .slice none 0 0]] w6.drew fun e w' => e = .returned (.bool true) ∧ Cha (fun _ => False) w6.drew w') := Lib.hid (samep_c (K6.out.cha (Cha.refl _ _).drew) (NP.out _))
      clear A h3' h4' h5' K6 K2 K3 NP
      obtain ⟨k1, k2, k3, k4, k5, k6, k7, k8, k9⟩ := KX.out w6.drew (Cha.refl _ _).drew
      go_region_held3 (fun w' => w'.cell? ⟨y, 0, none⟩ = some (.slice p0 q0 r0) ∧ w'.cell? ⟨y, 1, none⟩ = some (.slice p1 q1 r1) ∧ w'.cell? ⟨y, 2, none⟩ = some (.slice p2 q2 r2) ∧ w'.cell? ⟨y + 1, 0, none⟩ = some (.int .i64 e) ∧ w'.cell? ⟨y + 1, 1, none⟩ = some (.int .i64 f) ∧ w'.cell? ⟨y + 1, 2, none⟩ = some (.int .i64 x) ∧ w'.cell? ⟨b + 1 + 1 + 1 + 1 + 1 + 1 + 1 + 1 + 1 + 1 + 1, k * 3, none⟩ = some (.int .i64 e) ∧ w'.cell? ⟨b + 1 + 1 + 1 + 1 + 1 + 1 + 1 + 1 + 1 + 1 + 1, k * 3 + 1, none⟩ = some (.int .i64 f) ∧ w'.cell? ⟨b + 1 + 1 + 1 + 1 + 1 + 1 + 1 + 1 + 1 + 1 + 1, k * 3 + 2, none⟩ = some (.int .i64 x))
        (first
          | go_keep
          | exact ⟨k1, k2, k3, k4, k5, k6, k7, k8, k9⟩
          | exact KX.out _ (by assumption))
        (first
          | (go_at_call 21; refine (SP.out).mono ?_; rintro e7 w7 ⟨rfl, m4⟩; have m5 : Cha (fun _ => False) w6 w7 := ((Cha.refl _ w6).drew).trans m4))
      all_goals
        have M5 := Lib.hid m5
        clear m4 m5
        clear k1 k2 k3 k4 k5 k6 k7 k8 k9
        go_wp2
        go_roundw
        case rel => exact ⟨k + 1, by omega, by go_num, C7.out.trans M5.out⟩
        case measure => simp [intOf]; omega
    · obtain rfl : k = 10 := by omega
      obtain ⟨Z, hmk, hZ⟩ := make_zeros
      have HZ := Lib.hid hZ
      have CD : Hid (∀ w : World, Calls Try.prog 19 #[.slice (some ⟨w.heap.size, 0, none⟩) 16385 16385] (w.alloc (.cells Z 5)) (Dec1 (w.alloc (.cells Z 5)) (noP, ⟨2, -1, 0⟩))) := Lib.hid (fun w => by
        have h := decode_c (HZ.out w)
        rw [long_zeros _ (by simp)] at h
        exact h)
      clear FX2 hlt hk hZ
      go_wp2_with (first
        | (go_at_call 19; ((with_reducible refine (CD.out _).mono ?_); rintro e w3 ⟨p0, q0, r0, p1, q1, r1, p2, q2, r2, rfl, k1, k2⟩; have C3 : Hid (Cha (fun _ => False) w5 ((w3.alloc (.cells #[.slice p0 q0 r0, .slice p1 q1 r1, .slice p2 q2 r2] 26)).alloc (.cells #[.int .i64 2, .int .i64 (-1), .int .i64 0] 37))) := Lib.hid ((((HC.out.alloc _).trans k2).alloc _).alloc _); clear k1 k2 hmk))
        | (go_at_call 17; ((with_reducible refine (awake_any _).mono ?_); rintro e w4 ⟨rfl, k5⟩; have A := (alloc2 w3 (.cells #[.slice p0 q0 r0, .slice p1 q1 r1, .slice p2 q2 r2] 26) (.cells #[.int .i64 2, .int .i64 (-1), .int .i64 0] 37)).2; have A2 := (k5.old _ (Array.getElem?_eq_some_iff.1 A).1 (fun f => f)).trans A; have hsz := (Array.getElem?_eq_some_iff.1 A2).1; have C4 := Lib.hid (C3.out.trans k5); have z0 := cell_of_row w4 (w3.heap.size + 1) 0 _ 37 (0, 0) A2; have z1 := cell_of_row w4 (w3.heap.size + 1) 1 _ 37 (0, 0) A2; have z2 := cell_of_row w4 (w3.heap.size + 1) 2 _ 37 (0, 0) A2; have SC : Hid (Calls Try.prog 18 #[.slice x2 7 y2, .slice (some ⟨w4.heap.size, 0, none⟩) 7 7] (w4.alloc (.cells #[.int .u8 0, .int .u8 0, .int .u8 1, .int .u8 0, .int .u8 0, .int .u8 0, .int .u8 0] 5)) fun e w' => e = .returned (.bool true) ∧ (w4.alloc (.cells #[.int .u8 0, .int .u8 0, .int .u8 1, .int .u8 0, .int .u8 0, .int .u8 0, .int .u8 0] 5)) = w') := Lib.hid (same_c (T5.out.cha (C4.out.alloc _)) (blk_has [0, 0, 1, 0, 0, 0, 0] (heap_alloc_new w4 _) (by decide) (by decide))); clear A A2 k5))
        | (go_at_call 18; ((with_reducible refine (SC.out).mono ?_); rintro e w7 ⟨rfl, rfl⟩)))
      go_ret
      exact ⟨rfl, C5.out.trans (C4.out.alloc _)⟩
end Go.Proofs.Ytpdjbhnpahkbpaa

namespace Go.Proofs.Ytpdjbhnpahkbpaa
set_option linter.unusedVariables false
open Go.ChangeShapes Go.WideShapes Go.ChangeAt Go.RowKit
def awkP : PZ := ⟨[], [], [⟨0, [0], [], [⟨1, 0, 0, 0, 7, []⟩, ⟨48, 0, 0, 0, 0, []⟩, ⟨36, 0, 0, 0, 0, []⟩]⟩]⟩
def awkQ : PZ := ⟨[], [], [⟨0, [0], [], [⟨48, 1, 0, 0, 0, []⟩, ⟨36, 0, 0, 0, 0, []⟩]⟩]⟩
theorem ft_eq {t : FT} {e f a : Int} (h : t.e = e ∧ t.f = f ∧ t.at_ = a) : t = ⟨e, f, a⟩ := by
  obtain ⟨x, y, z⟩ := t
  obtain ⟨h1, h2, h3⟩ := h
  simp only at h1 h2 h3
  rw [h1, h2, h3]
theorem chk_awkP : chkZ awkP = ⟨0, 0, 0⟩ := ft_eq (by decide +kernel)
theorem chk_awkQ : chkZ awkQ = ⟨11, 0, 0⟩ := ft_eq (by decide +kernel)
theorem i64_lit {z : Int} (h : -9223372036854775808 ≤ z ∧ z ≤ 9223372036854775807) : I64 z := h
/-- A program of one function, whose code lies in a block of its own. -/
theorem one_prog {w : World} {gk gc gf : Nat} {co : List IZ} {cs : Array Value} {n : Nat} (h1 : w.heap[gk]? = some (.cells #[.int .i64 0] 64 (0, 0))) (h2 : w.heap[gc]? = some (.cells cs 52 (0, 0))) (h3 : w.heap[gf]? = some (.cells #[.int .i64 0, .slice (some ⟨gk, 0, none⟩) 1 1, .slice none 0 0, .slice (some ⟨gc, 0, none⟩) n n] 55 (0, 0)))
    (xs : List (IZ × Value)) (hx : xs.map (·.1) = co) (e : cs.toList = xs.flatMap insV) (fit : ∀ x ∈ xs, IFitV w x) (hn : n = xs.length) (hl : n ≤ 1000) :
    HasP w (.agg #[.slice none 0 0, .slice none 0 0, .slice (some ⟨gf, 0, none⟩) 1 1]) ⟨[], [], [⟨0, [0], [], co⟩]⟩ ∧ CapP w (some ⟨gf, 0, none⟩) 1 := by
  subst hn hx
  have k1 := ints_block (xs := [0]) h1 rfl (fun x hx => by
    have e0 : x = 0 := by simpa using hx
    subst e0
    exact ⟨by omega, by omega⟩) (by decide)
  obtain ⟨k2, k3⟩ := inss_block (xs := xs) h2 e fit (by omega)
  obtain ⟨k4, k5⟩ := fns_block (xs := [(⟨0, [0], [], xs.map (·.1)⟩, .slice (some ⟨gk, 0, none⟩) 1 1, .slice none 0 0, .slice (some ⟨gc, 0, none⟩) xs.length xs.length)]) h3 rfl (fun x hx => by
    obtain rfl : x = (⟨0, [0], [], xs.map (·.1)⟩, .slice (some ⟨gk, 0, none⟩) 1 1, .slice none 0 0, .slice (some ⟨gc, 0, none⟩) xs.length xs.length) := by simpa using hx
    exact ⟨⟨by show _ ≤ (0 : Int); omega, by show (0 : Int) ≤ _; omega⟩, k1, RdS.nil _ _ _ _, k2, fun a n c e => by injection e; omega, fun a n c e => by injection e with e1 e2 e3; subst e1 e2; exact k3⟩) (by show 1 ≤ _; omega)
  exact ⟨⟨_, _, _, rfl, RdS.nil _ _ _ _, RdS.nil _ _ _ _, k4⟩, k5⟩
def awkL (b : Nat) : List Obj := [.cells #[.int .i64 0] 64,
  .cells #[.int .i64 1, .int .i64 0, .int .i64 0, .int .i64 0, .int .u64 7, .slice none 0 0, .int .i64 48, .int .i64 0, .int .i64 0, .int .i64 0, .int .u64 0, .slice none 0 0, .int .i64 36, .int .i64 0, .int .i64 0, .int .i64 0, .int .u64 0, .slice none 0 0] 52,
  .cells #[.int .i64 0, .slice (some ⟨b, 0, none⟩) 1 1, .slice none 0 0, .slice (some ⟨b + 1, 0, none⟩) 3 3] 55,
  .cells #[.slice none 0 0, .slice none 0 0, .slice (some ⟨b + 1 + 1, 0, none⟩) 1 1] 26,
  .cells #[.int .i64 0] 64,
  .cells #[.int .i64 48, .int .i64 1, .int .i64 0, .int .i64 0, .int .u64 0, .slice none 0 0, .int .i64 36, .int .i64 0, .int .i64 0, .int .i64 0, .int .u64 0, .slice none 0 0] 52,
  .cells #[.int .i64 0, .slice (some ⟨b + 1 + 1 + 1 + 1, 0, none⟩) 1 1, .slice none 0 0, .slice (some ⟨b + 1 + 1 + 1 + 1 + 1, 0, none⟩) 2 2] 55,
  .cells #[.slice none 0 0, .slice none 0 0, .slice (some ⟨b + 1 + 1 + 1 + 1 + 1 + 1, 0, none⟩) 1 1] 26]
theorem awk_reads (W : World) : (HasP (allocs W (awkL W.heap.size)) (.agg #[.slice none 0 0, .slice none 0 0, .slice (some ⟨W.heap.size + 1 + 1, 0, none⟩) 1 1]) awkP ∧ CapP (allocs W (awkL W.heap.size)) (some ⟨W.heap.size + 1 + 1, 0, none⟩) 1) ∧
    (HasP (allocs W (awkL W.heap.size)) (.agg #[.slice none 0 0, .slice none 0 0, .slice (some ⟨W.heap.size + 1 + 1 + 1 + 1 + 1 + 1, 0, none⟩) 1 1]) awkQ ∧ CapP (allocs W (awkL W.heap.size)) (some ⟨W.heap.size + 1 + 1 + 1 + 1 + 1 + 1, 0, none⟩) 1) ∧
    (allocs W (awkL W.heap.size)).heap[W.heap.size + 1 + 1 + 1 + 1 + 1 + 1 + 1]? = some (.cells #[.slice none 0 0, .slice none 0 0, .slice (some ⟨W.heap.size + 1 + 1 + 1 + 1 + 1 + 1, 0, none⟩) 1 1] 26 (0, 0)) := by
  obtain ⟨_, A⟩ := allocs_at (awkL W.heap.size) W
  have i0 : I64 0 := ⟨by omega, by omega⟩
  have i1 : I64 1 := ⟨by omega, by omega⟩
  have i48 : I64 48 := ⟨by omega, by omega⟩
  have i36 : I64 36 := ⟨by omega, by omega⟩
  refine ⟨one_prog (A 0 _ rfl) (A 1 _ rfl) (A 2 _ rfl) [(⟨1, 0, 0, 0, 7, []⟩, .slice none 0 0), (⟨48, 0, 0, 0, 0, []⟩, .slice none 0 0), (⟨36, 0, 0, 0, 0, []⟩, .slice none 0 0)] rfl rfl (fun x hx => ?_) rfl (by decide), one_prog (A 4 _ rfl) (A 5 _ rfl) (A 6 _ rfl) [(⟨48, 1, 0, 0, 0, []⟩, .slice none 0 0), (⟨36, 0, 0, 0, 0, []⟩, .slice none 0 0)] rfl rfl (fun x hx => ?_) rfl (by decide), A 7 _ rfl⟩
  · have hx : x = (⟨1, 0, 0, 0, 7, []⟩, .slice none 0 0) ∨ x = (⟨48, 0, 0, 0, 0, []⟩, .slice none 0 0) ∨ x = (⟨36, 0, 0, 0, 0, []⟩, .slice none 0 0) := by simpa using hx
    rcases hx with rfl | rfl | rfl
    · exact .nil i1 i0 i0 i0 (by decide)
    · exact .nil i48 i0 i0 i0 (by decide)
    · exact .nil i36 i0 i0 i0 (by decide)
  · have hx : x = (⟨48, 1, 0, 0, 0, []⟩, .slice none 0 0) ∨ x = (⟨36, 0, 0, 0, 0, []⟩, .slice none 0 0) := by simpa using hx
    rcases hx with rfl | rfl
    · exact .nil i48 i1 i0 i0 (by decide)
    · exact .nil i36 i0 i0 i0 (by decide)
set_option maxRecDepth 100000 in
set_option maxHeartbeats 4000000 in
theorem vawake_any (W : World) : Calls Try.prog 26 #[] W fun e w' => e = .returned (.bool true) ∧ Cha (fun _ => False) W w' := by
  obtain ⟨⟨p1, p2⟩, ⟨q1, q2⟩, hb⟩ := awk_reads W
  have CP := Lib.hid (check_c p1 p2)
  have CQ : Hid (∀ w, Cha (fun _ => False) (allocs W (awkL W.heap.size)) w → Calls Try.prog 24 #[.agg #[.slice none 0 0, .slice none 0 0, .slice (some ⟨W.heap.size + 1 + 1 + 1 + 1 + 1 + 1, 0, none⟩) 1 1]] w (SaysF w (chkZ awkQ))) := Lib.hid fun w c => check_c (q1.cha c) (q2.cha c)
  have C8 := Lib.hid (allocs_at (awkL W.heap.size) W).1
  have HB : Hid (∀ w, Cha (fun _ => False) (allocs W (awkL W.heap.size)) w → w.heap[W.heap.size + 1 + 1 + 1 + 1 + 1 + 1 + 1]? = some (.cells #[.slice none 0 0, .slice none 0 0, .slice (some ⟨W.heap.size + 1 + 1 + 1 + 1 + 1 + 1, 0, none⟩) 1 1] 26 (0, 0))) := Lib.hid fun w c => (c.old _ (Array.getElem?_eq_some_iff.1 hb).1 (fun f => f)).trans hb
  rw [chk_awkP] at CP
  rw [chk_awkQ] at CQ
  clear p1 p2 q1 q2 hb
  simp only [SaysF, allocs, awkL, List.foldl_cons, List.foldl_nil] at CP CQ C8 HB
  have CI := Lib.hid (fun w k => isref_any (W := w) k)
  go_enter Try.func26, Try.ntmps26
  go_wp2_with (first
    | (go_at_call 24; ((with_reducible refine (CP.out).mono ?_); rintro e w1 ⟨rfl, k1⟩; have K1 := Lib.hid k1; have C1 := Lib.hid (C8.out.trans k1); have b0 := cell_of_row w1 _ 0 _ 26 (0, 0) (HB.out w1 k1); have b1 := cell_of_row w1 _ 1 _ 26 (0, 0) (HB.out w1 k1); have b2 := cell_of_row w1 _ 2 _ 26 (0, 0) (HB.out w1 k1); clear k1))
    | (go_at_call 24; ((with_reducible refine (CQ.out _ K1.out).mono ?_); rintro e w2 ⟨rfl, k2⟩; have C2 := Lib.hid (C1.out.trans k2); clear k2 b0 b1 b2))
    | (go_at_call 27; ((with_reducible refine (CI.out _ _).mono ?_); rintro e w3 ⟨rfl, rfl⟩)))
  go_ret
  exact ⟨rfl, C2.out⟩
end Go.Proofs.Ytpdjbhnpahkbpaa
