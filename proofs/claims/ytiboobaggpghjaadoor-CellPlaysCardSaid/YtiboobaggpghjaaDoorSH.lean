/- Layer 5's table in memory; lay. -/
import Derived.Test.YtiboobaggpghjaaDoorM
import Derived.Test.YtiboobaggpghjaaDoorSA
import Derived.StillTailTactics
import Derived.Deep.RegionHeld3
import Derived.Maps.AppendAt
import Derived.Deep.QuietTactic
namespace Go.Proofs.YtiboobaggpghjaaDoor
open Go.ChangeShapes Go.WideShapes Go.ChangeAt Go.RowKit

/-- A span's value. -/
def sv (s : Spn) : Value := .agg #[.int .i64 (s.b : Int), .int .i64 (s.k : Int), .int .i64 s.t]
def scell (f : Nat → Spn) (i : Nat) : Value := if i % 3 = 0 then .int .i64 ((f (i / 3)).b : Int) else if i % 3 = 1 then .int .i64 ((f (i / 3)).k : Int) else .int .i64 (f (i / 3)).t
theorem scell0 (f : Nat → Spn) (i : Nat) : scell f (i * 3) = .int .i64 ((f i).b : Int) := by unfold scell; rw [if_pos (by omega), show i * 3 / 3 = i by omega]
theorem scell1 (f : Nat → Spn) (i : Nat) : scell f (i * 3 + 1) = .int .i64 ((f i).k : Int) := by unfold scell; rw [if_neg (by omega), if_pos (by omega), show (i * 3 + 1) / 3 = i by omega]
theorem scell2 (f : Nat → Spn) (i : Nat) : scell f (i * 3 + 2) = .int .i64 (f i).t := by unfold scell; rw [if_neg (by omega), if_neg (by omega), show (i * 3 + 2) / 3 = i by omega]
def updS (f : Nat → Spn) (i : Nat) (s : Spn) : Nat → Spn := fun x => if x = i then s else f x

/-- A table of n pages at block bt, whose pages are the map bm, bp, and whose spans are block bs. -/
structure Tb (W : World) (bt bm bp bs n : Nat) (us : Nat → Bool) (f : Nat → Spn) : Prop where
  head : W.heap[bt]? = some (.cells #[.pointer (some ⟨bm, 0, none⟩), .slice (some ⟨bs, 0, none⟩) n n] 101 (0, 0))
  pg : Pg 113 W bm bp n us
  sp : FRow 78 W bs (n * 3) (scell f)
  ne : bt ≠ bm ∧ bt ≠ bp ∧ bt ≠ bs ∧ bs ≠ bm ∧ bs ≠ bp
section
variable {W W' : World} {bt bm bp bs n : Nat} {us us' : Nat → Bool} {f f' : Nat → Spn} {S : Nat → Prop}
theorem Tb.lt (h : Tb W bt bm bp bs n us f) : bt < W.heap.size ∧ bs < W.heap.size := ⟨(Array.getElem?_eq_some_iff.1 h.head).1, h.sp.lt⟩
theorem Tb.cha (h : Tb W bt bm bp bs n us f) (c : Cha S W W') (h1 : ¬ S bt) (h2 : ¬ S bm) (h3 : ¬ S bp) (h4 : ¬ S bs) : Tb W' bt bm bp bs n us f :=
  ⟨(c.old _ h.lt.1 h1).trans h.head, h.pg.cha c h2 h3, c.row h.sp h4, h.ne⟩
theorem Tb.same (h : Tb W bt bm bp bs n us f) (c : Cha (fun _ => False) W W') : Tb W' bt bm bp bs n us f := h.cha c (fun x => x) (fun x => x) (fun x => x) (fun x => x)
theorem Tb.of (h : Tb W bt bm bp bs n us f) (h1 : W'.heap[bt]? = W.heap[bt]?) (h2 : W'.heap[bm]? = W.heap[bm]?) (h3 : W'.heap[bp]? = W.heap[bp]?) (h4 : W'.heap[bs]? = W.heap[bs]?) : Tb W' bt bm bp bs n us f :=
  ⟨h1.trans h.head, h.pg.of h2 h3, h4.trans h.sp, h.ne⟩
theorem Tb.ptr0 (h : Tb W bt bm bp bs n us f) : W.cell? ⟨bt, 0, none⟩ = some (.pointer (some ⟨bm, 0, none⟩)) := cell_of_row W bt 0 _ 101 (0, 0) h.head
theorem Tb.ptr1 (h : Tb W bt bm bp bs n us f) : W.cell? ⟨bt, 1, none⟩ = some (.slice (some ⟨bs, 0, none⟩) n n) := cell_of_row W bt 1 _ 101 (0, 0) h.head
theorem Tb.s0 (h : Tb W bt bm bp bs n us f) {i : Nat} (hi : i < n) : W.cell? ⟨bs, i * 3, none⟩ = some (.int .i64 ((f i).b : Int)) := by rw [h.sp.cell (by omega), scell0]
theorem Tb.s1 (h : Tb W bt bm bp bs n us f) {i : Nat} (hi : i < n) : W.cell? ⟨bs, i * 3 + 1, none⟩ = some (.int .i64 ((f i).k : Int)) := by rw [h.sp.cell (by omega), scell1]
theorem Tb.s2 (h : Tb W bt bm bp bs n us f) {i : Nat} (hi : i < n) : W.cell? ⟨bs, i * 3 + 2, none⟩ = some (.int .i64 (f i).t) := by rw [h.sp.cell (by omega), scell2]
theorem Tb.free (h : Tb W bt bm bp bs n us f) (i : Nat) : W.frozen? ⟨bs, i, none⟩ = false := h.sp.free i
theorem Tb.congr (h : Tb W bt bm bp bs n us f) (he : ∀ i, i < n → us i = us' i) (hf : ∀ i, i < n → f i = f' i) : Tb W bt bm bp bs n us' f' :=
  ⟨h.head, h.pg.congr he, h.sp.congr fun i hi => by unfold scell; rw [hf (i / 3) (by omega)], h.ne⟩
/-- One page's span is written. -/
theorem Tb.set (h : Tb W bt bm bp bs n us f) (i : Nat) (s : Spn) : Tb (((W.setCell ⟨bs, i * 3, none⟩ (.int .i64 (s.b : Int))).setCell ⟨bs, i * 3 + 1, none⟩ (.int .i64 (s.k : Int))).setCell ⟨bs, i * 3 + 2, none⟩ (.int .i64 s.t)) bt bm bp bs n us (updS f i s) := by
  have c : Cha (· = bs) W (((W.setCell ⟨bs, i * 3, none⟩ (.int .i64 (s.b : Int))).setCell ⟨bs, i * 3 + 1, none⟩ (.int .i64 (s.k : Int))).setCell ⟨bs, i * 3 + 2, none⟩ (.int .i64 s.t)) :=
    (((Cha.refl (· = bs) W).setCell (p := ⟨bs, i * 3, none⟩) (fun _ => rfl) _).setCell (p := ⟨bs, i * 3 + 1, none⟩) (fun _ => rfl) _).setCell (p := ⟨bs, i * 3 + 2, none⟩) (fun _ => rfl) _
  refine ⟨(c.old _ h.lt.1 h.ne.2.2.1).trans h.head, h.pg.cha c (fun e => h.ne.2.2.2.1 e.symm) (fun e => h.ne.2.2.2.2 e.symm), ?_, h.ne⟩
  refine (((h.sp.set (i := i * 3) _).set (i := i * 3 + 1) _).set (i := i * 3 + 2) _).congr fun x _ => ?_
  by_cases e2 : x = i * 3 + 2
  · subst e2; rw [if_pos rfl, scell2]; unfold updS; rw [if_pos rfl]
  · rw [if_neg e2]
    by_cases e1 : x = i * 3 + 1
    · subst e1; rw [if_pos rfl, scell1]; unfold updS; rw [if_pos rfl]
    · rw [if_neg e1]
      by_cases e0 : x = i * 3
      · subst e0; rw [if_pos rfl, scell0]; unfold updS; rw [if_pos rfl]
      · rw [if_neg e0]
        have hx : updS f i s (x / 3) = f (x / 3) := by unfold updS; rw [if_neg (by omega)]
        unfold scell
        rw [hx]
end
theorem layF_zero (f : Nat → Spn) (b : Nat) (s : Spn) : layF f b 0 s = f := by funext i; unfold layF; rw [if_neg (by omega)]
theorem layF_step (f : Nat → Spn) (b k : Nat) (s : Spn) : updS (layF f b k s) (b + k) s = layF f b (k + 1) s := by
  funext x; unfold updS layF
  by_cases e : x = b + k
  · rw [if_pos e, if_pos (by omega)]
  · rw [if_neg e]
    by_cases c : b ≤ x ∧ x < b + k
    · rw [if_pos c, if_pos (by omega)]
    · rw [if_neg c, if_neg (by omega)]

set_option maxRecDepth 100000 in
set_option maxHeartbeats 2000000 in
theorem lay_any (b k : Nat) (s : Spn) {w : World} {bt bm bp bs n : Nat} {us : Nat → Bool} {f : Nat → Spn} (h : Tb w bt bm bp bs n us f) (hb : b + k ≤ n) : Calls Tryd.prog 70 #[.pointer (some ⟨bt, 0, none⟩), .int .i64 (b : Int), .int .i64 (k : Int), sv s] w fun e w' =>
    e = .returned (.tuple #[]) ∧ Tb w' bt bm bp bs n us (layF f b k s) ∧ Cha (· = bs) w w' := by
  have hl := h.pg.le
  have hlt := h.lt
  have H0 := Lib.hid h
  have HC := Lib.hid ((Cha.refl (· = bs) w).alloc (.cells #[.int .i64 (s.b : Int), .int .i64 (s.k : Int), .int .i64 s.t] 78))
  have H1 : Hid (Tb (w.alloc (.cells #[.int .i64 (s.b : Int), .int .i64 (s.k : Int), .int .i64 s.t] 78)) bt bm bp bs n us (layF f b 0 s)) := Lib.hid (by rw [layF_zero]; exact h.same ((Cha.refl _ w).alloc _))
  have HX : Hid ((w.alloc (.cells #[.int .i64 (s.b : Int), .int .i64 (s.k : Int), .int .i64 s.t] 78)).heap[w.heap.size]? = some (.cells #[.int .i64 (s.b : Int), .int .i64 (s.k : Int), .int .i64 s.t] 78)) := Lib.hid (heap_alloc_new w _)
  clear h
  unfold sv
  go_enter Tryd.func70, Tryd.ntmps70
  go_wp2
  obtain ⟨g, hg⟩ : ∃ g, g = w.heap.size := ⟨_, rfl⟩
  have HG := Lib.hid hg
  rw [← hg] at hlt HX ⊢
  clear hg
  go_loopw [10] (fun i wr => ∃ j : Nat, j ≤ k ∧ i = .int .i64 (j : Int) ∧ Tb wr bt bm bp bs n us (layF f b j s) ∧ Cha (· = bs) w wr ∧ wr.heap[g]? = some (.cells #[.int .i64 (s.b : Int), .int .i64 (s.k : Int), .int .i64 s.t] 78)) (fun i _ => k - (intOf i).toNat)
  case atStart => exact ⟨0, Nat.zero_le _, rfl, H1.out, HC.out, HX.out⟩
  case round =>
    clear H0 HC H1 HX
    obtain ⟨j, hj, rfl, hT, hC, hX⟩ := hrel
    by_cases hlt2 : j < k
    · have hp1 := hT.ptr1
      have q0 := hT.s0 (i := b + j) (by omega)
      have q1 := hT.s1 (i := b + j) (by omega)
      have q2 := hT.s2 (i := b + j) (by omega)
      have f0 := hT.free ((b + j) * 3)
      have f1 := hT.free ((b + j) * 3 + 1)
      have f2 := hT.free ((b + j) * 3 + 2)
      have x0 := cell_of_row wr g 0 _ 78 (0, 0) hX
      have x1 := cell_of_row wr g 1 _ 78 (0, 0) hX
      have x2 := cell_of_row wr g 2 _ 78 (0, 0) hX
      simp only [List.getElem?_toArray, List.getElem?_cons_zero, List.getElem?_cons_succ] at x0 x1 x2
      have HT := Lib.hid hT
      have HC := Lib.hid hC
      have HX := Lib.hid hX
      clear hT hC hX
      go_wp2
      have HT2 := HT.out.set (b + j) s
      rw [layF_step] at HT2
      have HT2 := Lib.hid HT2
      have HC2 : Hid (Cha (· = bs) wr _) := Lib.hid ((((Cha.refl (· = bs) wr).setCell (p := ⟨bs, (b + j) * 3, none⟩) (fun _ => rfl) (.int .i64 (s.b : Int))).setCell (p := ⟨bs, (b + j) * 3 + 1, none⟩) (fun _ => rfl) (.int .i64 (s.k : Int))).setCell (p := ⟨bs, (b + j) * 3 + 2, none⟩) (fun _ => rfl) (.int .i64 s.t))
      go_region
      go_wp2
      go_roundw
      case rel => exact ⟨j + 1, by omega, by go_num, HT2.out.same ((Cha.refl _ _).drew), (HC.out.trans HC2.out).drew, (HC2.out.drew.old g (Array.getElem?_eq_some_iff.1 HX.out).1 (by omega)).trans HX.out⟩
      case measure => simp [intOf]; omega
    · obtain rfl : j = k := by omega
      have HT := Lib.hid hT
      have HC := Lib.hid hC
      clear hT hC hX
      go_wp2
      go_end0
      exact ⟨rfl, HT.out, HC.out⟩
end Go.Proofs.YtiboobaggpghjaaDoor

namespace Go.Proofs.YtiboobaggpghjaaDoor
open Go.ChangeShapes Go.WideShapes Go.ChangeAt Go.RowKit
variable {w : World} {bt bm bp bs n : Nat} {us : Nat → Bool} {f : Nat → Spn}

theorem sv_no : sv noS = .agg #[.int .i64 0, .int .i64 0, .int .i64 0] := rfl
/-- A struct and a bool are handed back, and blocks are made. -/
def Gives (w : World) (s : Spn) (b : Bool) (e : Ending) (w' : World) : Prop := e = .returned (.tuple #[sv s, .bool b]) ∧ Cha (fun _ => False) w w' ∧ w'.tape = w.tape
set_option maxRecDepth 100000 in
set_option maxHeartbeats 2000000 in
theorem find_out (x : Int) (h : Tb w bt bm bp bs n us f) (hx : x < 0 ∨ (n : Int) ≤ x) : Calls Tryd.prog 46 #[.pointer (some ⟨bt, 0, none⟩), .int .i64 x] w (Gives w noS false) := by
  have hp := h.ptr1
  have hl := h.pg.le
  have hlt := h.lt
  have HC := Lib.hid (((Cha.refl (fun _ => False) w).alloc (.cells #[.int .i64 0, .int .i64 0, .int .i64 0] 78)))
  clear h
  rcases hx with hx | hx
  · go_enter Tryd.func46, Tryd.ntmps46
    go_wp2
    exact bodyPost_ret (v := .tuple #[.agg #[.int .i64 0, .int .i64 0, .int .i64 0], .bool false]) (by simp [results, Tryd.f46, go_sem]) rfl ⟨rfl, HC.out, rfl⟩
  · have h0 : 0 ≤ x := by omega
    go_enter Tryd.func46, Tryd.ntmps46
    go_wp2
    exact bodyPost_ret (v := .tuple #[.agg #[.int .i64 0, .int .i64 0, .int .i64 0], .bool false]) (by simp [results, Tryd.f46, go_sem]) rfl ⟨rfl, HC.out, rfl⟩
set_option maxRecDepth 100000 in
set_option maxHeartbeats 2000000 in
theorem find_no (x : Nat) (h : Tb w bt bm bp bs n us f) (hx : x < n) (hf : f x = noS) : Calls Tryd.prog 46 #[.pointer (some ⟨bt, 0, none⟩), .int .i64 (x : Int)] w (Gives w noS false) := by
  have hp := h.ptr1
  have hl := h.pg.le
  have hlt := h.lt
  have p0 := h.s0 hx
  have p1 := h.s1 hx
  have p2 := h.s2 hx
  rw [hf] at p0 p1 p2
  have q0 : w.cell? ⟨bs, x * 3, none⟩ = some (.int .i64 0) := p0
  have q1 : w.cell? ⟨bs, x * 3 + 1, none⟩ = some (.int .i64 0) := p1
  have q2 : w.cell? ⟨bs, x * 3 + 2, none⟩ = some (.int .i64 0) := p2
  clear p0 p1 p2
  have HC := Lib.hid ((((Cha.refl (fun _ => False) w).alloc (.cells #[.int .i64 0, .int .i64 0, .int .i64 0] 78)).alloc (.cells #[.int .i64 0, .int .i64 0, .int .i64 0] 78)).drew)
  clear h hf
  go_enter Tryd.func46, Tryd.ntmps46
  go_wp2
  go_region
  go_wp2
  exact bodyPost_ret (v := .tuple #[.agg #[.int .i64 0, .int .i64 0, .int .i64 0], .bool false]) (by simp [results, Tryd.f46, go_sem]) rfl ⟨rfl, HC.out, rfl⟩
set_option maxRecDepth 100000 in
set_option maxHeartbeats 2000000 in
theorem find_yes (x : Nat) (s : Spn) (h : Tb w bt bm bp bs n us f) (hx : x < n) (hf : f x = s) (hk : 1 ≤ s.k) : Calls Tryd.prog 46 #[.pointer (some ⟨bt, 0, none⟩), .int .i64 (x : Int)] w (Gives w s true) := by
  have hp := h.ptr1
  have hl := h.pg.le
  have hlt := h.lt
  have q0 := h.s0 hx
  have q1 := h.s1 hx
  have q2 := h.s2 hx
  rw [hf] at q0 q1 q2
  have hk0 : ((s.k : Int) == 0) = false := by rw [beq_eq_false_iff_ne]; omega
  have HC := Lib.hid ((((Cha.refl (fun _ => False) w).alloc (.cells #[.int .i64 (s.b : Int), .int .i64 (s.k : Int), .int .i64 s.t] 78)).alloc (.cells #[.int .i64 (s.b : Int), .int .i64 (s.k : Int), .int .i64 s.t] 78)).drew)
  clear h hf
  go_enter Tryd.func46, Tryd.ntmps46
  go_wp2
  go_region
  go_wp2
  exact bodyPost_ret (v := .tuple #[sv s, .bool true]) (by simp [results, Tryd.f46, go_sem, sv]) rfl ⟨rfl, HC.out, rfl⟩
theorem counts5 (h : Tb w bt bm bp bs n us f) : Calls Tryd.prog 48 #[.pointer (some ⟨bt, 0, none⟩)] w fun e W' => e = .returned (.tuple #[.int .i64 (cntF (isU us n) n : Nat), .int .i64 (mxL (rows us n) : Nat)]) ∧ Cha (fun _ => False) w W' := by
  have C := Lib.hid (counts_any bm bp n us w h.pg)
  have hp := h.ptr0
  clear h
  go_enter Tryd.func48, Tryd.ntmps48
  go_wp2_with (go_at_call 64; ((with_reducible refine (C.out).mono ?_); rintro e w1 ⟨rfl, hc⟩; have HC := Lib.hid hc; clear hc))
  go_ret2
  exact ⟨rfl, HC.out⟩
set_option maxRecDepth 100000 in
set_option maxHeartbeats 2000000 in
theorem beg_yes (x : Nat) (s : Spn) (h : Tb w bt bm bp bs n us f) (hx : x < n) (hf : f x = s) (hk : 1 ≤ s.k) (hb : s.b = x) : Calls Tryd.prog 71 #[.pointer (some ⟨bt, 0, none⟩), .int .i64 (x : Int)] w (Gives w s true) := by
  have hc0 : Cha (fun _ => False) w (w.alloc (.cells #[.int .i64 0, .int .i64 0, .int .i64 0] 78)) := (Cha.refl _ w).alloc _
  have C := Lib.hid (find_yes x s (h.same hc0) hx hf hk)
  have HC := Lib.hid hc0
  have HA : Hid ((w.alloc (.cells #[.int .i64 0, .int .i64 0, .int .i64 0] 78)).heap[w.heap.size]? = some (.cells #[.int .i64 0, .int .i64 0, .int .i64 0] 78)) := Lib.hid (heap_alloc_new w _)
  clear h hf hc0
  subst hb
  go_enter Tryd.func71, Tryd.ntmps71
  go_wp2_with (go_at_call 46; ((with_reducible refine (C.out).mono ?_); rintro e w1 ⟨rfl, hc, htp⟩; have HTP := Lib.hid htp; clear htp; have HD := Lib.hid (HC.out.trans hc); have HB := Lib.hid ((hc.old _ (by rw [World.size_alloc]; omega) (fun x => x)).trans HA.out); have hsz := hc.size; have z0 := cell_of_row w1 w.heap.size 0 _ 78 (0, 0) HB.out; have z1 := cell_of_row w1 w.heap.size 1 _ 78 (0, 0) HB.out; have z2 := cell_of_row w1 w.heap.size 2 _ 78 (0, 0) HB.out; have f0 := frozen_of_row w1 w.heap.size 0 _ 78 HB.out; have f1 := frozen_of_row w1 w.heap.size 1 _ 78 HB.out; have f2 := frozen_of_row w1 w.heap.size 2 _ 78 HB.out; rw [World.size_alloc] at hsz; have hlt1 : w.heap.size < w1.heap.size := (by omega); have hne : ¬ w1.heap.size = w.heap.size := (by omega); simp only [List.getElem?_toArray, List.getElem?_cons_zero, List.getElem?_cons_succ] at z0 z1 z2; unfold sv; clear hc))
  refine bodyPost_ret (v := .tuple #[sv s, .bool true]) (by simp [results, Tryd.f71, go_sem, hlt1, z0, z1, z2, sv]) rfl ⟨rfl, ?_, HTP.out⟩
  exact (((HD.out.setCell (p := ⟨w.heap.size, 0, none⟩) (fun h => absurd h (Nat.lt_irrefl _)) _).setCell (p := ⟨w.heap.size, 1, none⟩) (fun h => absurd h (Nat.lt_irrefl _)) _).setCell (p := ⟨w.heap.size, 2, none⟩) (fun h => absurd h (Nat.lt_irrefl _)) _).alloc _
set_option maxRecDepth 100000 in
set_option maxHeartbeats 2000000 in
/-- beginning, where Find's answer is known. -/
theorem beg_no (x : Int) (s : Spn) (b : Bool) (C : ∀ w, Tb w bt bm bp bs n us f → Calls Tryd.prog 46 #[.pointer (some ⟨bt, 0, none⟩), .int .i64 x] w (Gives w s b)) (hb : b = false ∨ (s.b : Int) ≠ x) (h : Tb w bt bm bp bs n us f) : Calls Tryd.prog 71 #[.pointer (some ⟨bt, 0, none⟩), .int .i64 x] w (Gives w noS false) := by
  have hc0 : Cha (fun _ => False) w (w.alloc (.cells #[.int .i64 0, .int .i64 0, .int .i64 0] 78)) := (Cha.refl _ w).alloc _
  have C := Lib.hid (C _ (h.same hc0))
  have HC := Lib.hid hc0
  have HA : Hid ((w.alloc (.cells #[.int .i64 0, .int .i64 0, .int .i64 0] 78)).heap[w.heap.size]? = some (.cells #[.int .i64 0, .int .i64 0, .int .i64 0] 78)) := Lib.hid (heap_alloc_new w _)
  have hd : b = false ∨ b = true ∧ ((s.b : Int) != x) = true := by
    cases hbb : b
    · exact .inl rfl
    · rcases hb with hb | hb
      · rw [hb] at hbb; cases hbb
      · exact .inr ⟨rfl, by simpa using hb⟩
  clear h hc0 hb
  rcases hd with rfl | ⟨rfl, hd⟩
  all_goals
    go_enter Tryd.func71, Tryd.ntmps71
    go_wp2_with (go_at_call 46; ((with_reducible refine (C.out).mono ?_); rintro e w1 ⟨rfl, hc, htp⟩; have HTP := Lib.hid htp; clear htp; have HD := Lib.hid (HC.out.trans hc); have HB := Lib.hid ((hc.old _ (by rw [World.size_alloc]; omega) (fun x => x)).trans HA.out); have hsz := hc.size; have z0 := cell_of_row w1 w.heap.size 0 _ 78 (0, 0) HB.out; have z1 := cell_of_row w1 w.heap.size 1 _ 78 (0, 0) HB.out; have z2 := cell_of_row w1 w.heap.size 2 _ 78 (0, 0) HB.out; have f0 := frozen_of_row w1 w.heap.size 0 _ 78 HB.out; have f1 := frozen_of_row w1 w.heap.size 1 _ 78 HB.out; have f2 := frozen_of_row w1 w.heap.size 2 _ 78 HB.out; rw [World.size_alloc] at hsz; have hlt1 : w.heap.size < w1.heap.size := (by omega); have hne : ¬ w1.heap.size = w.heap.size := (by omega); simp only [List.getElem?_toArray, List.getElem?_cons_zero, List.getElem?_cons_succ] at z0 z1 z2; unfold sv; clear hc))
    refine bodyPost_ret (v := .tuple #[.agg #[.int .i64 0, .int .i64 0, .int .i64 0], .bool false]) (by simp [results, Tryd.f71, go_sem, hlt1, z0, z1, z2]) rfl ⟨rfl, ?_, HTP.out⟩
    exact (((HD.out.setCell (p := ⟨w.heap.size, 0, none⟩) (fun h => absurd h (Nat.lt_irrefl _)) _).setCell (p := ⟨w.heap.size, 1, none⟩) (fun h => absurd h (Nat.lt_irrefl _)) _).setCell (p := ⟨w.heap.size, 2, none⟩) (fun h => absurd h (Nat.lt_irrefl _)) _).alloc _

/-! ### By the list of spans -/
/-- A table with these spans. -/
def Tl (W : World) (bt bm bp bs n : Nat) (L : List Spn) : Prop := Good n L ∧ Tb W bt bm bp bs n (uOf L) (fOf L)
variable {L : List Spn}
/-- What Find answers. -/
def atP (L : List Spn) (n : Nat) (x : Int) : Spn × Bool := if 0 ≤ x ∧ x < n ∧ uOf L x.toNat = true then (fOf L x.toNat, true) else (noS, false)
theorem find_any (x : Int) (h : Tl w bt bm bp bs n L) : Calls Tryd.prog 46 #[.pointer (some ⟨bt, 0, none⟩), .int .i64 x] w (Gives w (atP L n x).1 (atP L n x).2) := by
  unfold atP
  by_cases c : x < 0 ∨ (n : Int) ≤ x
  · rw [if_neg (by omega)]; exact find_out x h.2 c
  · obtain ⟨x, rfl⟩ : ∃ x' : Nat, x = (x' : Int) := ⟨x.toNat, by omega⟩
    rw [Int.toNat_natCast]
    cases hu : uOf L x
    · rw [if_neg (fun c => by cases c.2.2)]; exact find_no x h.2 (by omega) (fOf_no hu)
    · rw [if_pos ⟨by omega, by omega, rfl⟩]; exact find_yes x _ h.2 (by omega) rfl (h.1.rng _ (fOf_mem hu).1).1
/-- What beginning answers. -/
def begP (L : List Spn) (n : Nat) (x : Int) : Spn × Bool := if 0 ≤ x ∧ x < n ∧ uOf L x.toNat = true ∧ (fOf L x.toNat).b = x.toNat then (fOf L x.toNat, true) else (noS, false)
theorem beg_any (x : Int) (h : Tl w bt bm bp bs n L) : Calls Tryd.prog 71 #[.pointer (some ⟨bt, 0, none⟩), .int .i64 x] w (Gives w (begP L n x).1 (begP L n x).2) := by
  unfold begP
  split
  · rename_i c
    obtain ⟨x, rfl⟩ : ∃ x' : Nat, x = (x' : Int) := ⟨x.toNat, by omega⟩
    rw [Int.toNat_natCast] at c ⊢
    exact beg_yes x _ h.2 (by omega) rfl (h.1.rng _ (fOf_mem c.2.2.1).1).1 c.2.2.2
  · rename_i c
    refine beg_no x _ _ (fun w' h' => find_any x (show Tl w' bt bm bp bs n L from ⟨h.1, h'⟩)) ?_ h.2
    unfold atP
    split
    · rename_i d
      right
      intro e
      have e : ((fOf L x.toNat).b : Int) = x := e
      exact c ⟨d.1, d.2.1, d.2.2, by omega⟩
    · exact .inl rfl
end Go.Proofs.YtiboobaggpghjaaDoor

namespace Go.Proofs.YtiboobaggpghjaaDoor
open Go.ChangeShapes Go.WideShapes Go.ChangeAt Go.RowKit
variable {w : World} {bt bm bp bs n : Nat} {us us2 : Nat → Bool} {f : Nat → Spn} {L : List Spn}

theorem info66 : (Tryd.prog.info? 78).map (fun i => (i.zero, i.size, i.bytes)) = some (some (.agg #[.int .i64 0, .int .i64 0, .int .i64 0]), 3, 24) := by kernel_rfl
theorem made_spans (m : Nat) : madeCells (Value.agg #[.int .i64 0, .int .i64 0, .int .i64 0]).cells (m * 3) = fcells (m * 3) (scell fun _ => noS) := by
  unfold madeCells fcells
  congr 1
  funext x
  show (#[Value.int .i64 0, .int .i64 0, .int .i64 0])[x % 3]! = _
  unfold scell noS
  have h : x % 3 = 0 ∨ x % 3 = 1 ∨ x % 3 = 2 := by omega
  rcases h with h | h | h
  · rw [h]; rfl
  · rw [h]; rfl
  · rw [h]; rfl
theorem mk_spans (m : Nat) (hm : m ≤ 1000000) (W : World) : (Instr.makeSlice 88 (.int .i64 (m : Int)) (.int .i64 (m : Int))).run Tryd.prog W = .ok (.slice (some ⟨W.heap.size, 0, none⟩) m m) (W.alloc (.cells (fcells (m * 3) (scell fun _ => noS)) 78)) := by
  obtain ⟨i, hi, hz, hs, hb⟩ := info_parts info66
  have h := run_make (P := Tryd.prog) W 88 78 i _ Tryd.underlying88 hi hz .i64 .i64 (m : Int) (m : Int) (by omega) (by omega) (by rw [hb]; omega) (by omega)
  rw [hs, Int.toNat_natCast, made_spans] at h
  exact h

structure Made5 (w w' : World) (n : Nat) : Prop where
  tl : Tl w' (w.heap.size + 3) (w.heap.size + 1) w.heap.size (w.heap.size + 2) n []
  cha : Cha (fun _ => False) w w'
theorem made5 (w w1 : World) (n : Nat) (h : Made 113 w w1 n) : Made5 w ((w1.alloc (.cells (fcells (n * 3) (scell fun _ => noS)) 78)).alloc (.cells #[.pointer (some ⟨w.heap.size + 1, 0, none⟩), .slice (some ⟨w1.heap.size, 0, none⟩) n n] 101)) n := by
  have hs := h.size
  refine ⟨⟨Good.nil n, ?_⟩, (h.cha.alloc _).alloc _⟩
  have hc : Cha (fun _ => False) w1 ((w1.alloc (.cells (fcells (n * 3) (scell fun _ => noS)) 78)).alloc (.cells #[.pointer (some ⟨w.heap.size + 1, 0, none⟩), .slice (some ⟨w1.heap.size, 0, none⟩) n n] 101)) := ((Cha.refl _ w1).alloc _).alloc _
  have h1 := heap_alloc2_new w1 (.cells (fcells (n * 3) (scell fun _ => noS)) 78) (.cells #[.pointer (some ⟨w.heap.size + 1, 0, none⟩), .slice (some ⟨w1.heap.size, 0, none⟩) n n] 101)
  have h2 := heap_alloc2_old w1 (.cells (fcells (n * 3) (scell fun _ => noS)) 78) (.cells #[.pointer (some ⟨w.heap.size + 1, 0, none⟩), .slice (some ⟨w1.heap.size, 0, none⟩) n n] 101)
  rw [hs] at h1 h2 ⊢
  refine ⟨h1, (h.pg.same (by rw [hs] at hc; exact hc)), h2, by omega⟩
set_option maxHeartbeats 1000000 in
theorem new5_ok (n : Nat) (w : World) (h1 : 1 ≤ n) (h2 : n ≤ 4096) : Calls Tryd.prog 36 #[.int .i64 (n : Int)] w fun e w' => e = .returned (.tuple #[.pointer (some ⟨w.heap.size + 3, 0, none⟩), .int .i64 0]) ∧ Made5 w w' n := by
  have A10 := Lib.hid (new_ok n w h1 h2)
  have hmk := mk_spans n (by omega)
  have HM := Lib.hid (made5 w · n)
  obtain ⟨c, hc⟩ : ∃ c, c = fcells (n * 3) (scell fun _ => noS) := ⟨_, rfl⟩
  rw [← hc] at hmk
  have HC := Lib.hid hc
  clear hc
  go_enter Tryd.func36, Tryd.ntmps36
  go_wp2_with (go_at_call 57; ((with_reducible refine (A10.out).mono ?_); rintro e w1 ⟨rfl, h⟩; have H10 := Lib.hid h; clear h))
  go_ret2
  have hs := H10.out.size
  refine ⟨by simp [hs], ?_⟩
  have := HM.out w1 H10.out
  rw [← HC.out] at this
  exact this
theorem new5_bad (n : Int) (w : World) (h : n < 1 ∨ 4096 < n) : Calls Tryd.prog 36 #[.int .i64 n] w fun e w' => e = .returned (.tuple #[.pointer none, .int .i64 1]) ∧ w = w' := by
  have A10 := Lib.hid (new_bad n w h)
  clear h
  go_enter Tryd.func36, Tryd.ntmps36
  go_wp2_with (go_at_call 57; ((with_reducible refine (A10.out).mono ?_); rintro e w1 ⟨rfl, rfl⟩))
  go_ret2
  exact ⟨rfl, rfl⟩

set_option maxRecDepth 100000 in
set_option maxHeartbeats 2000000 in
theorem alloc5_no {k r : Int} (tag : Int) (hk2 : k ≤ 9223372036854775807) (hr : r = 1 ∨ r = 3) (c : Alc n us k 0 r us) (h : Tb w bt bm bp bs n us f) :
    Calls Tryd.prog 55 #[.pointer (some ⟨bt, 0, none⟩), .int .i64 k, .int .i64 tag] w fun e w' => e = .returned (.tuple #[sv noS, .int .i64 r]) ∧ Tb w' bt bm bp bs n us f ∧ Cha (· = bp) w w' := by
  have hc0 : Cha (fun _ => False) w (w.alloc (.cells #[.int .i64 0, .int .i64 0, .int .i64 0] 78)) := (Cha.refl _ w).alloc _
  have hp := h.ptr0
  have hlt := h.lt
  have hplt := h.pg.lt
  have C := Lib.hid (alloc_says c hk2 (h.pg.same hc0))
  have H := Lib.hid h
  have HC := Lib.hid hc0
  have HA : Hid ((w.alloc (.cells #[.int .i64 0, .int .i64 0, .int .i64 0] 78)).heap[w.heap.size]? = some (.cells #[.int .i64 0, .int .i64 0, .int .i64 0] 78)) := Lib.hid (heap_alloc_new w _)
  have hne := h.ne
  clear h hc0 c
  rcases hr with rfl | rfl
  all_goals
    go_enter Tryd.func55, Tryd.ntmps55
    go_wp2_with (go_at_call 69; ((with_reducible refine (C.out).mono ?_); rintro e w1 ⟨rfl, hm, hc⟩; have HD := Lib.hid ((HC.out.wide (S := (· = bp))).trans hc); have HB := Lib.hid ((hc.old _ (by rw [World.size_alloc]; omega) (by omega)).trans HA.out); have HM := Lib.hid hm; have hsz := hc.size; have z0 := cell_of_row w1 w.heap.size 0 _ 78 (0, 0) HB.out; have z1 := cell_of_row w1 w.heap.size 1 _ 78 (0, 0) HB.out; have z2 := cell_of_row w1 w.heap.size 2 _ 78 (0, 0) HB.out; have f0 := frozen_of_row w1 w.heap.size 0 _ 78 HB.out; have f1 := frozen_of_row w1 w.heap.size 1 _ 78 HB.out; have f2 := frozen_of_row w1 w.heap.size 2 _ 78 HB.out; rw [World.size_alloc] at hsz; have hlt1 : w.heap.size < w1.heap.size := (by omega); simp only [List.getElem?_toArray, List.getElem?_cons_zero, List.getElem?_cons_succ] at z0 z1 z2; clear hc hm))
    have hcc : Cha (fun i => i = w.heap.size) w1 (((w1.setCell ⟨w.heap.size, 0, none⟩ (.int .i64 0)).setCell ⟨w.heap.size, 1, none⟩ (.int .i64 0)).setCell ⟨w.heap.size, 2, none⟩ (.int .i64 0)) :=
      (((Cha.refl (fun i => i = w.heap.size) w1).setCell (p := ⟨w.heap.size, 0, none⟩) (fun _ => rfl) _).setCell (p := ⟨w.heap.size, 1, none⟩) (fun _ => rfl) _).setCell (p := ⟨w.heap.size, 2, none⟩) (fun _ => rfl) _
    refine bodyPost_ret (v := .tuple #[.agg #[.int .i64 0, .int .i64 0, .int .i64 0], .int .i64 _]) (by simp [results, Tryd.f55, go_sem, z0, z1, z2]) rfl ⟨rfl, ?_, ?_⟩
    · have hT : Tb w1 bt bm bp bs n us f := ⟨(HD.out.old _ hlt.1 (by omega)).trans H.out.head, HM.out, HD.out.row H.out.sp (by omega), hne⟩
      exact hT.cha hcc (by omega) (by omega) (by omega) (by omega)
    · exact HD.out.over hcc fun i hi => .inr (by omega)
set_option maxRecDepth 100000 in
set_option maxHeartbeats 4000000 in
theorem alloc5_ok {b k : Nat} (tag : Int) (hk2 : (k : Int) ≤ 9223372036854775807) (hbn : b + k ≤ n) (c : Alc n us (k : Int) (b : Int) 0 us2) (h : Tb w bt bm bp bs n us f) :
    Calls Tryd.prog 55 #[.pointer (some ⟨bt, 0, none⟩), .int .i64 (k : Int), .int .i64 tag] w fun e w' => e = .returned (.tuple #[sv ⟨b, k, tag⟩, .int .i64 0]) ∧ Tb w' bt bm bp bs n us2 (layF f b k ⟨b, k, tag⟩) ∧ Cha (fun i => i = bp ∨ i = bs) w w' := by
  have hc0 : Cha (fun _ => False) w (w.alloc (.cells #[.int .i64 0, .int .i64 0, .int .i64 0] 78)) := (Cha.refl _ w).alloc _
  have hp := h.ptr0
  have hlt := h.lt
  have hplt := h.pg.lt
  have C := Lib.hid (alloc_says c hk2 (h.pg.same hc0))
  have H := Lib.hid h
  have HC := Lib.hid hc0
  have HA : Hid ((w.alloc (.cells #[.int .i64 0, .int .i64 0, .int .i64 0] 78)).heap[w.heap.size]? = some (.cells #[.int .i64 0, .int .i64 0, .int .i64 0] 78)) := Lib.hid (heap_alloc_new w _)
  have hne := h.ne
  have LY : Hid (∀ W, Tb W bt bm bp bs n us2 f → Calls Tryd.prog 70 #[.pointer (some ⟨bt, 0, none⟩), .int .i64 (b : Int), .int .i64 (k : Int), .agg #[.int .i64 (b : Int), .int .i64 (k : Int), .int .i64 tag]] W fun e w' => e = .returned (.tuple #[]) ∧ Tb w' bt bm bp bs n us2 (layF f b k ⟨b, k, tag⟩) ∧ Cha (· = bs) W w') :=
    Lib.hid fun W h => lay_any b k ⟨b, k, tag⟩ h hbn
  clear h hc0 c
  go_enter Tryd.func55, Tryd.ntmps55
  go_wp2_with (first
    | (go_at_call 69; ((with_reducible refine (C.out).mono ?_); rintro e w1 ⟨rfl, hm, hc⟩; have HD := Lib.hid ((HC.out.wide (S := (· = bp))).trans hc); have HB := Lib.hid ((hc.old _ (by rw [World.size_alloc]; omega) (by omega)).trans HA.out); have hsz := hc.size; rw [World.size_alloc] at hsz; have hlt1 : w.heap.size < w1.heap.size := (by omega); have HT : Hid (Tb w1 bt bm bp bs n us2 f) := Lib.hid ⟨(HD.out.old _ hlt.1 (by omega)).trans H.out.head, hm, HD.out.row H.out.sp (by omega), hne⟩; clear hc hm))
    | (go_at_call 70; ((with_reducible refine (LY.out _ (HT.out.same ((Cha.refl _ _).alloc _))).mono ?_); rintro e w2 ⟨rfl, hm, hc⟩; have HE := Lib.hid ((((Cha.refl (· = bs) w1).alloc (.cells #[.int .i64 (b : Int), .int .i64 (k : Int), .int .i64 tag] 78))).trans hc); have HM := Lib.hid hm; have HB2 := Lib.hid ((hc.old _ (by rw [World.size_alloc]; omega) (by omega)).trans ((heap_alloc_old w1 _ hlt1).trans HB.out)); have HS2 := Lib.hid ((hc.old w1.heap.size (by rw [World.size_alloc]; omega) (by have := HT.out.lt; omega)).trans (heap_alloc_new w1 _)); have hsz2 := hc.size; rw [World.size_alloc] at hsz2; have z0 := cell_of_row w2 w.heap.size 0 _ 78 (0, 0) HB2.out; have z1 := cell_of_row w2 w.heap.size 1 _ 78 (0, 0) HB2.out; have z2 := cell_of_row w2 w.heap.size 2 _ 78 (0, 0) HB2.out; have f0 := frozen_of_row w2 w.heap.size 0 _ 78 HB2.out; have f1 := frozen_of_row w2 w.heap.size 1 _ 78 HB2.out; have f2 := frozen_of_row w2 w.heap.size 2 _ 78 HB2.out; have y0 := cell_of_row w2 w1.heap.size 0 _ 78 (0, 0) HS2.out; have y1 := cell_of_row w2 w1.heap.size 1 _ 78 (0, 0) HS2.out; have y2 := cell_of_row w2 w1.heap.size 2 _ 78 (0, 0) HS2.out; simp only [List.getElem?_toArray, List.getElem?_cons_zero, List.getElem?_cons_succ] at z0 z1 z2 y0 y1 y2; clear hc hm)))
  have hcc : Cha (fun i => i = w.heap.size) w2 (((w2.setCell ⟨w.heap.size, 0, none⟩ (.int .i64 (b : Int))).setCell ⟨w.heap.size, 1, none⟩ (.int .i64 (k : Int))).setCell ⟨w.heap.size, 2, none⟩ (.int .i64 tag)) :=
    (((Cha.refl (fun i => i = w.heap.size) w2).setCell (p := ⟨w.heap.size, 0, none⟩) (fun _ => rfl) _).setCell (p := ⟨w.heap.size, 1, none⟩) (fun _ => rfl) _).setCell (p := ⟨w.heap.size, 2, none⟩) (fun _ => rfl) _
  refine bodyPost_ret (v := .tuple #[.agg #[.int .i64 (b : Int), .int .i64 (k : Int), .int .i64 tag], .int .i64 0]) (by simp [results, Tryd.f55, go_sem, z0, z1, z2]) rfl ⟨rfl, ?_, ?_⟩
  · exact HM.out.cha hcc (by omega) (by omega) (by omega) (by omega)
  · have h1 : Cha (fun i => i = bp ∨ i = bs) w w2 := (HD.out.mono fun _ _ e => .inl e).trans (HE.out.mono fun _ _ e => .inr e)
    exact h1.over hcc fun i hi => .inr (by omega)

/-- What Alloc answers, and the spans behind it. -/
inductive Alc5 (n : Nat) (L : List Spn) (k tag : Int) : Spn → Int → List Spn → Prop where
  | no (r : Int) : r = 1 ∨ r = 3 → Alc n (uOf L) k 0 r (uOf L) → Alc5 n L k tag noS r L
  | ok (b k' : Nat) : k = (k' : Int) → b + k' ≤ n → Alc n (uOf L) k (b : Int) 0 (fil (uOf L) b k' true) → Good n (ins ⟨b, k', tag⟩ L) → Alc5 n L k tag ⟨b, k', tag⟩ 0 (ins ⟨b, k', tag⟩ L)
theorem Alc5.ex (h : Good n L) (k tag : Int) : ∃ s r L', Alc5 n L k tag s r L' := by
  obtain ⟨b, r, us', c⟩ := Alc.ex n (uOf L) k
  cases c with
  | arg h1 => exact ⟨_, _, _, .no 1 (.inl rfl) (.arg h1)⟩
  | full h1 h2 => exact ⟨_, _, _, .no 3 (.inr rfl) (.full h1 h2)⟩
  | ok x h1 h2 =>
    obtain ⟨k', rfl⟩ : ∃ k' : Nat, k = (k' : Int) := ⟨k.toNat, by omega⟩
    have h2' := h2
    rw [Int.toNat_natCast] at h2'
    obtain ⟨g1, g2, g3, _⟩ := find_some (by omega) (n + 1) x h2'
    refine ⟨_, _, _, .ok x.1 k' rfl (by omega) (by have := Alc.ok x h1 h2; rwa [Int.toNat_natCast] at this) (h.ins (by show 1 ≤ k'; omega) (by show x.1 + k' ≤ n; omega) fun i hi => ?_)⟩
    have hi := has_iff.1 hi
    have h3 : x.1 ≤ i ∧ i < x.1 + k' := hi
    have := g1.fr.1 (i - x.1) (by omega)
    rw [show x.1 + (i - x.1) = i by omega] at this
    exact (isU_false.1 this).2
theorem alloc5_any {k tag r : Int} {s : Spn} {L' : List Spn} (c : Alc5 n L k tag s r L') (hk2 : k ≤ 9223372036854775807) (h : Tl w bt bm bp bs n L) :
    Calls Tryd.prog 55 #[.pointer (some ⟨bt, 0, none⟩), .int .i64 k, .int .i64 tag] w fun e w' => e = .returned (.tuple #[sv s, .int .i64 r]) ∧ Tl w' bt bm bp bs n L' ∧ Cha (fun i => i = bp ∨ i = bs) w w' := by
  cases c with
  | no _ hr c => exact (alloc5_no tag hk2 hr c h.2).mono fun _ _ ⟨he, hm, hc⟩ => ⟨he, ⟨h.1, hm⟩, hc.mono fun _ _ e => .inl e⟩
  | ok b k' hk hbn c hg =>
    subst hk
    exact (alloc5_ok tag hk2 hbn c h.2).mono fun _ _ ⟨he, hm, hc⟩ => ⟨he, ⟨hg, hm.congr (fun i _ => by rw [uOf_ins]; rfl) (fun i _ => (fOf_ins hg i).symm)⟩, hc⟩
end Go.Proofs.YtiboobaggpghjaaDoor

namespace Go.Proofs.YtiboobaggpghjaaDoor
open Go.ChangeShapes Go.WideShapes Go.ChangeAt Go.RowKit
variable {w : World} {bt bm bp bs n : Nat} {us us2 : Nat → Bool} {f : Nat → Spn} {L : List Spn}

set_option maxRecDepth 100000 in
set_option maxHeartbeats 2000000 in
theorem free5_no (x : Int) (hb : begP L n x = (noS, false)) (h : Tl w bt bm bp bs n L) : Calls Tryd.prog 56 #[.pointer (some ⟨bt, 0, none⟩), .int .i64 x] w fun e w' => e = .returned (.int .i64 4) ∧ Cha (fun _ => False) w w' := by
  have C := beg_any x h
  rw [hb] at C
  have C := Lib.hid C
  clear h hb
  go_enter Tryd.func56, Tryd.ntmps56
  go_wp2_with (go_at_call 71; ((with_reducible refine (C.out).mono ?_); rintro e w1 ⟨rfl, hc, _⟩; have HC := Lib.hid (hc.alloc (.cells #[.int .i64 0, .int .i64 0, .int .i64 0] 78)); unfold sv noS; clear hc))
  go_ret
  exact ⟨rfl, HC.out⟩
set_option maxRecDepth 100000 in
set_option maxHeartbeats 4000000 in
theorem free5_ok (s : Spn) (hs : s ∈ L) (h : Tl w bt bm bp bs n L) : Calls Tryd.prog 56 #[.pointer (some ⟨bt, 0, none⟩), .int .i64 (s.b : Int)] w fun e w' => e = .returned (.int .i64 0) ∧ Tl w' bt bm bp bs n (del s.b L) ∧ Cha (fun i => i = bp ∨ i = bs) w w' := by
  have hr := h.1.rng s hs
  have hhas : s.has s.b = true := has_iff.2 (by omega)
  have hu := uOf_iff.2 ⟨s, hs, hhas⟩
  have hf := h.1.fOf_yes hs hhas
  have hl := h.2.pg.le
  have hlt := h.2.lt
  have hplt := h.2.pg.lt
  have hne := h.2.ne
  have C := beg_any (s.b : Int) h
  have hb : begP L n (s.b : Int) = (s, true) := by
    unfold begP
    rw [Int.toNat_natCast, hf, if_pos ⟨by omega, by omega, hu, rfl⟩]
  rw [hb] at C
  have C := Lib.hid C
  have LY : Hid (∀ W, Tb W bt bm bp bs n (uOf L) (fOf L) → Calls Tryd.prog 70 #[.pointer (some ⟨bt, 0, none⟩), .int .i64 (s.b : Int), .int .i64 (s.k : Int), .agg #[.int .i64 0, .int .i64 0, .int .i64 0]] W fun e w' => e = .returned (.tuple #[]) ∧ Tb w' bt bm bp bs n (uOf L) (layF (fOf L) s.b s.k noS) ∧ Cha (· = bs) W w') :=
    Lib.hid fun W h => lay_any s.b s.k noS h hr.2
  have ch : Chn n (uOf L) (s.b : Int) (s.k : Int) false 0 (fil (uOf L) s.b s.k false) := .ok _ _ rfl rfl hr.1 hr.2 fun i hi => uOf_iff.2 ⟨s, hs, has_iff.2 (by omega)⟩
  have FR : Hid (∀ W, Tb W bt bm bp bs n (uOf L) (layF (fOf L) s.b s.k noS) → Calls Tryd.prog 72 #[.pointer (some ⟨bm, 0, none⟩), .int .i64 (s.b : Int), .int .i64 (s.k : Int)] W fun e w' => e = .returned (.int .i64 0) ∧ Tb w' bt bm bp bs n (fil (uOf L) s.b s.k false) (layF (fOf L) s.b s.k noS) ∧ Cha (· = bp) W w') :=
    Lib.hid fun W h => (free_any ch (by omega) h.pg).mono fun e w' ⟨he, hm, hc⟩ => ⟨he, ⟨(hc.old _ h.lt.1 h.ne.2.1).trans h.head, hm, hc.row h.sp h.ne.2.2.2.2, h.ne⟩, hc⟩
  have HEnd : Hid (∀ W, Tb W bt bm bp bs n (fil (uOf L) s.b s.k false) (layF (fOf L) s.b s.k noS) → Tl W bt bm bp bs n (del s.b L)) := Lib.hid fun W hT => ⟨h.1.del s.b, hT.congr (fun i _ => by rw [uOf_del h.1 hs]; rfl) (fun i _ => (fOf_del h.1 hs i).symm)⟩
  have H := Lib.hid h
  clear h hb hu hf hhas ch hs
  go_enter Tryd.func56, Tryd.ntmps56
  go_wp2_with (first
    | (go_at_call 71; ((with_reducible refine (C.out).mono ?_); rintro e w1 ⟨rfl, hc, _⟩; have HC := Lib.hid hc; have H1 := Lib.hid (H.out.2.same (hc.alloc (.cells #[.int .i64 (s.b : Int), .int .i64 (s.k : Int), .int .i64 s.t] 78))); have hsz := hc.size; unfold sv; clear hc))
    | (go_at_call 70; ((with_reducible refine (LY.out _ H1.out).mono ?_); rintro e w2 ⟨rfl, hm, hc⟩; have H2 := Lib.hid hm; have HD := Lib.hid hc; have HX := Lib.hid ((hc.old w1.heap.size (by rw [World.size_alloc]; omega) (by omega)).trans (heap_alloc_new w1 _)); clear hm hc)))
  have KY : Hid (∀ W', Cha (· = bp) w2.drew W' → W'.cell? ⟨bt, 0, none⟩ = some (.pointer (some ⟨bm, 0, none⟩)) ∧ W'.cell? ⟨w1.heap.size, 1, none⟩ = some (.int .i64 (s.k : Int))) := Lib.hid fun W' hc' =>
    have hc : Cha (· = bp) w2 W' := ((Cha.refl _ w2).drew).trans hc'
    ⟨cell_of_row W' bt 0 _ 101 (0, 0) ((hc.old _ H2.out.lt.1 hne.2.1).trans H2.out.head), cell_of_row W' _ 1 _ 78 (0, 0) ((hc.old _ (Array.getElem?_eq_some_iff.1 HX.out).1 (by omega)).trans HX.out)⟩
  obtain ⟨k1, k2⟩ := KY.out w2.drew (Cha.refl _ _)
  have H3 := Lib.hid (H2.out.same ((Cha.refl _ w2).drew))
  go_region_held3 (fun w' => w'.cell? ⟨bt, 0, none⟩ = some (.pointer (some ⟨bm, 0, none⟩)) ∧ w'.cell? ⟨w1.heap.size, 1, none⟩ = some (.int .i64 (s.k : Int)))
    (first
      | go_keep
      | exact ⟨k1, k2⟩
      | exact KY.out _ (by assumption))
    ((go_at_call 72; refine (FR.out w2.drew H3.out).mono ?_; rintro e5 w5 ⟨rfl, hH, hD⟩))
  all_goals
    have HH := Lib.hid hH
    have hDD : Cha (· = bp) w2 w5 := ((Cha.refl _ w2).drew).trans hD
    have HDD := Lib.hid hDD
    clear hH hD hDD
    go_wp2
    go_ret
    refine ⟨rfl, HEnd.out _ HH.out, ?_⟩
    exact ((HC.out.wide.alloc _).trans (HD.out.mono fun _ _ e => .inr e)).trans (HDD.out.mono fun _ _ e => .inl e)
end Go.Proofs.YtiboobaggpghjaaDoor

namespace Go.Proofs.YtiboobaggpghjaaDoor
open Go.RowKit Go.Shelf
attribute [local go_sem] Oper.semAt_some

theorem gives_grown {w w' : World} {s : Spn} {b : Bool} {e : Ending} (h : Gives w s b e w') : w.grownBy w' none :=
  ⟨h.2.1.os, h.2.2, h.2.1.out, h.2.1.size, fun k hk _ => h.2.1.old k hk (fun x => x)⟩
/-- What a round keeps. -/
def Kp5 (B bt bm bp bs : Nat) (W W' : World) : Prop := W'.heap[B]? = W.heap[B]? ∧ W'.heap[bt]? = W.heap[bt]? ∧ W'.heap[bm]? = W.heap[bm]? ∧ W'.heap[bp]? = W.heap[bp]? ∧ W'.heap[bs]? = W.heap[bs]?
theorem Kp5.trans {B bt bm bp bs : Nat} {X Y Z : World} (h : Kp5 B bt bm bp bs X Y) (k : Kp5 B bt bm bp bs Y Z) : Kp5 B bt bm bp bs X Z :=
  ⟨k.1.trans h.1, k.2.1.trans h.2.1, k.2.2.1.trans h.2.2.1, k.2.2.2.1.trans h.2.2.2.1, k.2.2.2.2.trans h.2.2.2.2⟩
theorem Kp5.put {B bt bm bp bs : Nat} {w : World} (h1 : B < w.heap.size) (h2 : bt < w.heap.size) (h3 : bm < w.heap.size) (h4 : bp < w.heap.size) (h5 : bs < w.heap.size) (W : World) (l : Nat) (o o' : Obj) (hl : w.heap.size ≤ l) (_ : W.heap[l]? = some o) (_ : o.isCells = false) (_ : o.isWalk = false) : Kp5 B bt bm bp bs W (W.putObj l o') :=
  ⟨World.putObj_heap_other (by omega), World.putObj_heap_other (by omega), World.putObj_heap_other (by omega), World.putObj_heap_other (by omega), World.putObj_heap_other (by omega)⟩
theorem begs_prefix {L : List Spn} {k : Nat} : ∀ {m : Nat}, k ≤ m → begs L k <+: begs L m
  | 0, h => by obtain rfl : k = 0 := by omega
               exact List.prefix_refl _
  | m + 1, h => by
    by_cases c : k = m + 1
    · subst c; exact List.prefix_refl _
    · have := begs_prefix (L := L) (k := k) (m := m) (by omega)
      refine this.trans ?_
      rw [begs]
      split
      · exact List.prefix_append _ _
      · exact List.prefix_refl _

set_option maxRecDepth 100000 in
set_option maxHeartbeats 4000000 in
theorem iter5_in (m l B bt bm bp bs n : Nat) (L : List Spn) (hm : 1 ≤ m) (J Jx : List Spn → World → Prop)
    (hY : ∀ pre (x : Spn) W, J pre W → pre.length < n → YieldAt Fence.wide (m - 1) Tryd.prog l #[sv x] W fun e W' =>
      (e = .returned (.bool true) ∧ J (pre ++ [x]) W' ∧ Kp5 B bt bm bp bs W W') ∨ (e = .returned (.bool false) ∧ Jx (pre ++ [x]) W'))
    (W : World) (hJA : AbidesFrom W.heap.size J) (hB : FRow 59 W B 1 (fun _ => .pointer (some ⟨bt, 0, none⟩))) (hT : Tl W bt bm bp bs n L) (h0 : J [] W) :
    CallsIn Fence.wide m Tryd.prog 86 #[.func (.yield l) #[] #[], .pointer (some ⟨B, 0, none⟩)] W fun e W' => (∃ v, e = .returned v) ∧
      ((∃ ys : List Spn, ys = L ∧ J ys W') ∨ (∃ pre : List Spn, pre <+: L ∧ Jx pre W')) := by
  have hp := hT.2.ptr1
  have hl := hT.2.pg.le
  have hb := hB.cell (i := 0) (by omega)
  have HB := Lib.hid hB
  have HT := Lib.hid hT
  have HL := Lib.hid (begs_all hT.1)
  clear hB hT
  refine callsIn_of_wp Tryd.func86 rfl trivial ?_ rfl
  simp only [Tryd.ntmps86, List.size_toArray, List.length_cons, List.length_nil, Nat.reduceAdd, Nat.reduceSub, Array.replicate_succ, Array.replicate_zero, List.push_toArray, List.append_toArray, List.nil_append, List.cons_append]
  gi_wp2
  gi_loopw [13] (fun i wr => ∃ k : Nat, k ≤ n ∧ i = .int .i64 (k : Int) ∧ J (begs L k) wr ∧ Tl wr bt bm bp bs n L ∧ FRow 59 wr B 1 (fun _ => .pointer (some ⟨bt, 0, none⟩))) (fun i _ => n - (intOf i).toNat)
  case atStart => exact ⟨0, Nat.zero_le _, rfl, h0, HT.out, HB.out⟩
  case round =>
    clear hp hb
    obtain ⟨k, hk, rfl, hJ, hT, hB⟩ := hrel
    have hb := hB.cell (i := 0) (by omega)
    by_cases hlt : k < n
    · have C := beg_any (k : Int) hT
      unfold begP at C
      rw [Int.toNat_natCast] at C
      have HT := Lib.hid hT
      have HB := Lib.hid hB
      have HJ := Lib.hid hJ
      by_cases hg : uOf L k = true ∧ (fOf L k).b = k
      · rw [if_pos ⟨by omega, by omega, hg⟩] at C
        have hbg : begs L (k + 1) = begs L k ++ [fOf L k] := by rw [begs, if_pos hg]
        have hlen := begs_length L k
        have HG := Lib.hid hbg
        generalize fOf L k = s at *
        have C := Lib.hid C
        clear hg hbg hT hB hJ
        gi_wp2_with (refine ⟨trivial, ?_⟩; gi_at_call 71; refine (callsIn_wide.2 C.out).mono ?_; rintro e w1 hgv; have hgr := gives_grown hgv; obtain ⟨rfl, hc, _⟩ := hgv; have HJ1 := Lib.hid (hJA _ _ _ none (hJA _ _ _ none HJ.out hgr (fun r e => by cases e)) (World.grownBy_alloc w1 (.cells #[.int .i64 (s.b : Int), .int .i64 (s.k : Int), .int .i64 s.t] 78) none) (fun r e => by cases e)); have HC1 := Lib.hid (hc.alloc (.cells #[.int .i64 (s.b : Int), .int .i64 (s.k : Int), .int .i64 s.t] 78)); obtain ⟨fn, tmps, assign, body, hy, hR⟩ := hY _ s _ HJ1.out (by omega); unfold sv at hy ⊢; clear hgr hc)
        refine hR.mono ?_
        have hT1 := HT.out.2.same HC1.out
        have hB1 := HC1.out.row HB.out (fun x => x)
        rintro e W3 (⟨rfl, hJ3, hk3⟩ | ⟨rfl, hJx3⟩)
        · have HJ3 := Lib.hid hJ3
          have HT3 := Lib.hid (show Tl W3 bt bm bp bs n L from ⟨HT.out.1, hT1.of hk3.2.1 hk3.2.2.1 hk3.2.2.2.1 hk3.2.2.2.2⟩)
          have HB3 := Lib.hid (show FRow 59 W3 B 1 _ from hk3.1.trans hB1)
          clear hJ3 hk3 hT1 hB1
          gi_wp2
          go_roundw
          case rel => exact ⟨k + 1, by omega, by go_num, by rw [HG.out]; exact HJ3.out, HT3.out, HB3.out⟩
          case measure => simp [intOf]; omega
        · have HJ3 := Lib.hid hJx3
          clear hJx3 hT1 hB1
          gi_wp2
          refine bodyPost_ret (results_none rfl _ _ _) rfl ?_
          refine ⟨⟨_, rfl⟩, .inr ⟨_, ?_, HJ3.out⟩⟩
          have h := begs_prefix (L := L) (show k + 1 ≤ n by omega)
          rwa [HG.out, HL.out] at h
      · rw [if_neg (fun c => hg c.2.2)] at C
        have hbg : begs L (k + 1) = begs L k := by rw [begs, if_neg hg]
        have HG := Lib.hid hbg
        have C := Lib.hid C
        clear hg hbg hT hB hJ
        gi_wp2_with (refine ⟨trivial, ?_⟩; gi_at_call 71; refine (callsIn_wide.2 C.out).mono ?_; rintro e w1 hgv; have hgr := gives_grown hgv; obtain ⟨rfl, hc, _⟩ := hgv; have HJ1 := Lib.hid (hJA _ _ _ none (hJA _ _ _ none HJ.out hgr (fun r e => by cases e)) (World.grownBy_alloc w1 (.cells #[.int .i64 0, .int .i64 0, .int .i64 0] 78) none) (fun r e => by cases e)); have HC1 := Lib.hid (hc.alloc (.cells #[.int .i64 0, .int .i64 0, .int .i64 0] 78)); unfold sv noS; clear hgr hc)
        refine ⟨fun _ _ => trivial, ?_⟩
        gi_wp2
        go_roundw
        case rel => exact ⟨k + 1, by omega, by go_num, by rw [HG.out]; exact HJ1.out, ⟨HT.out.1, HT.out.2.same HC1.out⟩, HC1.out.row HB.out (fun x => x)⟩
        case measure => simp [intOf]; omega
    · obtain rfl : k = n := by omega
      have HJ := Lib.hid hJ
      clear hJ hT hB
      gi_wp2
      go_end0
      exact ⟨⟨_, rfl⟩, .inl ⟨_, HL.out, HJ.out⟩⟩

theorem all_box (bt : Nat) (w : World) : Calls Tryd.prog 84 #[.pointer (some ⟨bt, 0, none⟩)] w fun e w' =>
    e = .returned (.func (.func 86) #[] #[.pointer (some ⟨w.heap.size, 0, none⟩)]) ∧ w' = w.alloc (.cells #[.pointer (some ⟨bt, 0, none⟩)] 59) := by
  go_enter Tryd.func84, Tryd.ntmps84
  go_wp2
  go_ret
  exact ⟨rfl, rfl⟩
theorem spans_stops (m B bt bm bp bs n : Nat) (L : List Spn) (hm : 1 ≤ m) (w : World) (hB : FRow 59 w B 1 (fun _ => .pointer (some ⟨bt, 0, none⟩))) (hT : Tl w bt bm bp bs n L) :
    SeqStopsK Fence.wide m Tryd.prog 86 #[.pointer (some ⟨B, 0, none⟩)] (fun x : Spn => #[sv x]) (Kp5 B bt bm bp bs) (fun ys => ys = L) (fun pre => pre <+: L) n w :=
  fun l J Jx W hW hJ _ hY h0 => iter5_in m l B bt bm bp bs n L hm J Jx hY W hJ ((hW.block B hB.lt).trans hB)
    ⟨hT.1, hT.2.of (hW.block bt hT.2.lt.1) (hW.block bm hT.2.pg.lt.1) (hW.block bp hT.2.pg.lt.2) (hW.block bs hT.2.lt.2)⟩ h0
end Go.Proofs.YtiboobaggpghjaaDoor

namespace Go.Proofs.YtiboobaggpghjaaDoor
open Go.RowKit Go.Shelf
attribute [local go_sem] Oper.semAt_some

/-- A list of spans as cells. -/
def scs (l : List Spn) : List Value := l.flatMap fun s => [.int .i64 (s.b : Int), .int .i64 (s.k : Int), .int .i64 s.t]
theorem scs_snoc (l : List Spn) (s : Spn) : scs (l ++ [s]) = scs l ++ [.int .i64 (s.b : Int), .int .i64 (s.k : Int), .int .i64 s.t] := by simp [scs]
theorem three_new (w : World) (x y z : Value) (t : TypeId) : ∀ j u, ([x, y, z] : List Value)[j]? = some u → (w.alloc (.cells #[x, y, z] t)).cell? ((⟨w.heap.size, 0, none⟩ : Addr).add j) = some u := by
  intro j u h
  have e : ∀ j, (⟨w.heap.size, 0, none⟩ : Addr).add j = ⟨w.heap.size, j, none⟩ := fun j => by unfold Addr.add; split <;> simp_all
  rw [e, World.cell?_alloc_new]
  match j, h with
  | 0, h => simpa using h
  | 1, h => simpa using h
  | 2, h => simpa using h
  | j + 3, h => simp at h
theorem three_cell (x y z : Int) : ∀ u ∈ ([.int .i64 x, .int .i64 y, .int .i64 z] : List Value), u.oneCell' = true := fun u h => by
  simp at h; rcases h with rfl | rfl | rfl <;> rfl
def BoxS (W : World) (Bx : Nat) (x : Spn) : Prop := W.heap[Bx]? = some (.cells #[.int .i64 (x.b : Int), .int .i64 (x.k : Int), .int .i64 x.t] 78 (0, 0))

end Go.Proofs.YtiboobaggpghjaaDoor

namespace Go.Proofs.YtiboobaggpghjaaDoor
open Go.ChangeShapes Go.WideShapes Go.ChangeAt Go.RowKit

theorem scs_get {s : Spn} : ∀ {l : List Spn} {i : Nat}, l[i]? = some s → (scs l)[i * 3]? = some (.int .i64 (s.b : Int)) ∧ (scs l)[i * 3 + 1]? = some (.int .i64 (s.k : Int)) ∧ (scs l)[i * 3 + 2]? = some (.int .i64 s.t)
  | [], i, h => by simp at h
  | y :: l, 0, h => by
    obtain rfl : y = s := by simpa using h
    exact ⟨rfl, rfl, rfl⟩
  | y :: l, i + 1, h => by
    obtain ⟨h1, h2, h3⟩ := scs_get (l := l) (i := i) (by simpa using h)
    have e : scs (y :: l) = .int .i64 (y.b : Int) :: .int .i64 (y.k : Int) :: .int .i64 y.t :: scs l := rfl
    rw [e, show (i + 1) * 3 = i * 3 + 1 + 1 + 1 by omega]
    simp only [List.getElem?_cons_succ]
    exact ⟨h1, h2, h3⟩
/-- A list of spans that can be read. -/
def Trips (W : World) (v : Value) (l : List Spn) : Prop :=
  ∃ a cap, v = .slice a l.length cap ∧ (0 < l.length → ∃ g, a = some ⟨g, 0, none⟩ ∧ ∀ i s, l[i]? = some s → W.cell? ⟨g, i * 3, none⟩ = some (.int .i64 (s.b : Int)) ∧ W.cell? ⟨g, i * 3 + 1, none⟩ = some (.int .i64 (s.k : Int)) ∧ W.cell? ⟨g, i * 3 + 2, none⟩ = some (.int .i64 s.t))
theorem trips_of_own {W : World} {B : Nat} {v : Value} {l : List Spn} (h : W.ownsRow B 78 3 v l.length (scs l)) : Trips W v l := by
  rcases h.2 with ⟨rfl, h0⟩ | ⟨g, cap, cur, rfl, hb, hg, _, _, _, ht⟩
  · exact ⟨none, 0, by rw [h0], fun h => by omega⟩
  · refine ⟨_, cap, rfl, fun _ => ⟨g, rfl, fun i s hs => ?_⟩⟩
    have hi : i < l.length := by
      by_cases c : i < l.length
      · exact c
      · rw [List.getElem?_eq_none (by omega)] at hs; cases hs
    have key : ∀ j, j < l.length * 3 → W.cell? ⟨g, j, none⟩ = (scs l)[j]? := fun j hj => by
      rw [cell_of_row W g j _ 78 (0, 0) hg, ← Array.getElem?_toList, ← ht, List.getElem?_take, if_pos hj]
    obtain ⟨h1, h2, h3⟩ := scs_get hs
    exact ⟨(key _ (by omega)).trans h1, (key _ (by omega)).trans h2, (key _ (by omega)).trans h3⟩
theorem trips_cha {W W' : World} {B : Nat} {v : Value} {l : List Spn} (h : W.ownsRow B 78 3 v l.length (scs l)) (c : Cha (fun _ => False) W W') : Trips W' v l := trips_of_own (owns_cha h c (fun _ _ x => x))

variable {w W : World} {bt bm bp bs n : Nat} {L L' : List Spn}
end Go.Proofs.YtiboobaggpghjaaDoor
