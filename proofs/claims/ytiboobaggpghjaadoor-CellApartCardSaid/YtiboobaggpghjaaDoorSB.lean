/- Layer 5's table in memory; lay. -/
import Derived.Test.YtiboobaggpghjaaDoorM
import Derived.Test.YtiboobaggpghjaaDoorSA
import Derived.StillTailTactics
namespace Go.Proofs.YtiboobaggpghjaaDoor
open Go.ChangeShapes Go.WideShapes Go.ChangeAt Go.RowKit

/-- A span's value. -/
def sv (s : Spn) : Value := .agg #[.int .i64 (s.b : Int), .int .i64 (s.k : Int), .int .i64 s.t]
def scell (f : Nat → Spn) (i : Nat) : Value := if i % 3 = 0 then .int .i64 ((f (i / 3)).b : Int) else if i % 3 = 1 then .int .i64 ((f (i / 3)).k : Int) else .int .i64 (f (i / 3)).t
theorem scell0 (f : Nat → Spn) (i : Nat) : scell f (i * 3) = .int .i64 ((f i).b : Int) := by unfold scell; rw [if_pos (by omega), show i * 3 / 3 = i by omega]
theorem scell1 (f : Nat → Spn) (i : Nat) : scell f (i * 3 + 1) = .int .i64 ((f i).k : Int) := by unfold scell; rw [if_neg (by omega), if_pos (by omega), show (i * 3 + 1) / 3 = i by omega]
theorem scell2 (f : Nat → Spn) (i : Nat) : scell f (i * 3 + 2) = .int .i64 (f i).t := by unfold scell; rw [if_neg (by omega), if_neg (by omega), show (i * 3 + 2) / 3 = i by omega]
def updS (f : Nat → Spn) (i : Nat) (s : Spn) : Nat → Spn := fun x => if x = i then s else f x

/-- A table of n pages at block bt, whose pages are the map bm, bp, and whose spans are block bs. -/
structure Tb (W : World) (bt bm bp bs n : Nat) (us : Nat → Bool) (f : Nat → Spn) : Prop where
  head : W.heap[bt]? = some (.cells #[.pointer (some ⟨bm, 0, none⟩), .slice (some ⟨bs, 0, none⟩) n n] 101 (0, 0))
  pg : Pg 113 W bm bp n us
  sp : FRow 78 W bs (n * 3) (scell f)
  ne : bt ≠ bm ∧ bt ≠ bp ∧ bt ≠ bs ∧ bs ≠ bm ∧ bs ≠ bp
section
variable {W W' : World} {bt bm bp bs n : Nat} {us us' : Nat → Bool} {f f' : Nat → Spn} {S : Nat → Prop}
theorem Tb.lt (h : Tb W bt bm bp bs n us f) : bt < W.heap.size ∧ bs < W.heap.size := ⟨(Array.getElem?_eq_some_iff.1 h.head).1, h.sp.lt⟩
theorem Tb.cha (h : Tb W bt bm bp bs n us f) (c : Cha S W W') (h1 : ¬ S bt) (h2 : ¬ S bm) (h3 : ¬ S bp) (h4 : ¬ S bs) : Tb W' bt bm bp bs n us f :=
  ⟨(c.old _ h.lt.1 h1).trans h.head, h.pg.cha c h2 h3, c.row h.sp h4, h.ne⟩
theorem Tb.same (h : Tb W bt bm bp bs n us f) (c : Cha (fun _ => False) W W') : Tb W' bt bm bp bs n us f := h.cha c (fun x => x) (fun x => x) (fun x => x) (fun x => x)
theorem Tb.of (h : Tb W bt bm bp bs n us f) (h1 : W'.heap[bt]? = W.heap[bt]?) (h2 : W'.heap[bm]? = W.heap[bm]?) (h3 : W'.heap[bp]? = W.heap[bp]?) (h4 : W'.heap[bs]? = W.heap[bs]?) : Tb W' bt bm bp bs n us f :=
  ⟨h1.trans h.head, h.pg.of h2 h3, h4.trans h.sp, h.ne⟩
theorem Tb.ptr0 (h : Tb W bt bm bp bs n us f) : W.cell? ⟨bt, 0, none⟩ = some (.pointer (some ⟨bm, 0, none⟩)) := cell_of_row W bt 0 _ 101 (0, 0) h.head
theorem Tb.ptr1 (h : Tb W bt bm bp bs n us f) : W.cell? ⟨bt, 1, none⟩ = some (.slice (some ⟨bs, 0, none⟩) n n) := cell_of_row W bt 1 _ 101 (0, 0) h.head
theorem Tb.s0 (h : Tb W bt bm bp bs n us f) {i : Nat} (hi : i < n) : W.cell? ⟨bs, i * 3, none⟩ = some (.int .i64 ((f i).b : Int)) := by rw [h.sp.cell (by omega), scell0]
theorem Tb.s1 (h : Tb W bt bm bp bs n us f) {i : Nat} (hi : i < n) : W.cell? ⟨bs, i * 3 + 1, none⟩ = some (.int .i64 ((f i).k : Int)) := by rw [h.sp.cell (by omega), scell1]
theorem Tb.s2 (h : Tb W bt bm bp bs n us f) {i : Nat} (hi : i < n) : W.cell? ⟨bs, i * 3 + 2, none⟩ = some (.int .i64 (f i).t) := by rw [h.sp.cell (by omega), scell2]
theorem Tb.free (h : Tb W bt bm bp bs n us f) (i : Nat) : W.frozen? ⟨bs, i, none⟩ = false := h.sp.free i
theorem Tb.congr (h : Tb W bt bm bp bs n us f) (he : ∀ i, i < n → us i = us' i) (hf : ∀ i, i < n → f i = f' i) : Tb W bt bm bp bs n us' f' :=
  ⟨h.head, h.pg.congr he, h.sp.congr fun i hi => by unfold scell; rw [hf (i / 3) (by omega)], h.ne⟩
/-- One page's span is written. -/
theorem Tb.set (h : Tb W bt bm bp bs n us f) (i : Nat) (s : Spn) : Tb (((W.setCell ⟨bs, i * 3, none⟩ (.int .i64 (s.b : Int))).setCell ⟨bs, i * 3 + 1, none⟩ (.int .i64 (s.k : Int))).setCell ⟨bs, i * 3 + 2, none⟩ (.int .i64 s.t)) bt bm bp bs n us (updS f i s) := by
  have c : Cha (· = bs) W (((W.setCell ⟨bs, i * 3, none⟩ (.int .i64 (s.b : Int))).setCell ⟨bs, i * 3 + 1, none⟩ (.int .i64 (s.k : Int))).setCell ⟨bs, i * 3 + 2, none⟩ (.int .i64 s.t)) :=
    (((Cha.refl (· = bs) W).setCell (p := ⟨bs, i * 3, none⟩) (fun _ => rfl) _).setCell (p := ⟨bs, i * 3 + 1, none⟩) (fun _ => rfl) _).setCell (p := ⟨bs, i * 3 + 2, none⟩) (fun _ => rfl) _
  refine ⟨(c.old _ h.lt.1 h.ne.2.2.1).trans h.head, h.pg.cha c (fun e => h.ne.2.2.2.1 e.symm) (fun e => h.ne.2.2.2.2 e.symm), ?_, h.ne⟩
  refine (((h.sp.set (i := i * 3) _).set (i := i * 3 + 1) _).set (i := i * 3 + 2) _).congr fun x _ => ?_
  by_cases e2 : x = i * 3 + 2
  · subst e2; rw [if_pos rfl, scell2]; unfold updS; rw [if_pos rfl]
  · rw [if_neg e2]
    by_cases e1 : x = i * 3 + 1
    · subst e1; rw [if_pos rfl, scell1]; unfold updS; rw [if_pos rfl]
    · rw [if_neg e1]
      by_cases e0 : x = i * 3
      · subst e0; rw [if_pos rfl, scell0]; unfold updS; rw [if_pos rfl]
      · rw [if_neg e0]
        have hx : updS f i s (x / 3) = f (x / 3) := by unfold updS; rw [if_neg (by omega)]
        unfold scell
        rw [hx]
end
theorem layF_zero (f : Nat → Spn) (b : Nat) (s : Spn) : layF f b 0 s = f := by funext i; unfold layF; rw [if_neg (by omega)]
theorem layF_step (f : Nat → Spn) (b k : Nat) (s : Spn) : updS (layF f b k s) (b + k) s = layF f b (k + 1) s := by
  funext x; unfold updS layF
  by_cases e : x = b + k
  · rw [if_pos e, if_pos (by omega)]
  · rw [if_neg e]
    by_cases c : b ≤ x ∧ x < b + k
    · rw [if_pos c, if_pos (by omega)]
    · rw [if_neg c, if_neg (by omega)]

set_option maxRecDepth 100000 in
set_option maxHeartbeats 2000000 in
theorem lay_any (b k : Nat) (s : Spn) {w : World} {bt bm bp bs n : Nat} {us : Nat → Bool} {f : Nat → Spn} (h : Tb w bt bm bp bs n us f) (hb : b + k ≤ n) : Calls Tryd.prog 70 #[.pointer (some ⟨bt, 0, none⟩), .int .i64 (b : Int), .int .i64 (k : Int), sv s] w fun e w' =>
    e = .returned (.tuple #[]) ∧ Tb w' bt bm bp bs n us (layF f b k s) ∧ Cha (· = bs) w w' := by
  have hl := h.pg.le
  have hlt := h.lt
  have H0 := Lib.hid h
  have HC := Lib.hid ((Cha.refl (· = bs) w).alloc (.cells #[.int .i64 (s.b : Int), .int .i64 (s.k : Int), .int .i64 s.t] 78))
  have H1 : Hid (Tb (w.alloc (.cells #[.int .i64 (s.b : Int), .int .i64 (s.k : Int), .int .i64 s.t] 78)) bt bm bp bs n us (layF f b 0 s)) := Lib.hid (by rw [layF_zero]; exact h.same ((Cha.refl _ w).alloc _))
  have HX : Hid ((w.alloc (.cells #[.int .i64 (s.b : Int), .int .i64 (s.k : Int), .int .i64 s.t] 78)).heap[w.heap.size]? = some (.cells #[.int .i64 (s.b : Int), .int .i64 (s.k : Int), .int .i64 s.t] 78)) := Lib.hid (heap_alloc_new w _)
  clear h
  unfold sv
  go_enter Tryd.func70, Tryd.ntmps70
  go_wp2
  obtain ⟨g, hg⟩ : ∃ g, g = w.heap.size := ⟨_, rfl⟩
  have HG := Lib.hid hg
  rw [← hg] at hlt HX ⊢
  clear hg
  go_loopw [10] (fun i wr => ∃ j : Nat, j ≤ k ∧ i = .int .i64 (j : Int) ∧ Tb wr bt bm bp bs n us (layF f b j s) ∧ Cha (· = bs) w wr ∧ wr.heap[g]? = some (.cells #[.int .i64 (s.b : Int), .int .i64 (s.k : Int), .int .i64 s.t] 78)) (fun i _ => k - (intOf i).toNat)
  case atStart => exact ⟨0, Nat.zero_le _, rfl, H1.out, HC.out, HX.out⟩
  case round =>
    clear H0 HC H1 HX
    obtain ⟨j, hj, rfl, hT, hC, hX⟩ := hrel
    by_cases hlt2 : j < k
    · have hp1 := hT.ptr1
      have q0 := hT.s0 (i := b + j) (by omega)
      have q1 := hT.s1 (i := b + j) (by omega)
      have q2 := hT.s2 (i := b + j) (by omega)
      have f0 := hT.free ((b + j) * 3)
      have f1 := hT.free ((b + j) * 3 + 1)
      have f2 := hT.free ((b + j) * 3 + 2)
      have x0 := cell_of_row wr g 0 _ 78 (0, 0) hX
      have x1 := cell_of_row wr g 1 _ 78 (0, 0) hX
      have x2 := cell_of_row wr g 2 _ 78 (0, 0) hX
      simp only [List.getElem?_toArray, List.getElem?_cons_zero, List.getElem?_cons_succ] at x0 x1 x2
      have HT := Lib.hid hT
      have HC := Lib.hid hC
      have HX := Lib.hid hX
      clear hT hC hX
      go_wp2
      have HT2 := HT.out.set (b + j) s
      rw [layF_step] at HT2
      have HT2 := Lib.hid HT2
      have HC2 : Hid (Cha (· = bs) wr _) := Lib.hid ((((Cha.refl (· = bs) wr).setCell (p := ⟨bs, (b + j) * 3, none⟩) (fun _ => rfl) (.int .i64 (s.b : Int))).setCell (p := ⟨bs, (b + j) * 3 + 1, none⟩) (fun _ => rfl) (.int .i64 (s.k : Int))).setCell (p := ⟨bs, (b + j) * 3 + 2, none⟩) (fun _ => rfl) (.int .i64 s.t))
      go_region
      go_wp2
      go_roundw
      case rel => exact ⟨j + 1, by omega, by go_num, HT2.out.same ((Cha.refl _ _).drew), (HC.out.trans HC2.out).drew, (HC2.out.drew.old g (Array.getElem?_eq_some_iff.1 HX.out).1 (by omega)).trans HX.out⟩
      case measure => simp [intOf]; omega
    · obtain rfl : j = k := by omega
      have HT := Lib.hid hT
      have HC := Lib.hid hC
      clear hT hC hX
      go_wp2
      go_end0
      exact ⟨rfl, HT.out, HC.out⟩
end Go.Proofs.YtiboobaggpghjaaDoor
