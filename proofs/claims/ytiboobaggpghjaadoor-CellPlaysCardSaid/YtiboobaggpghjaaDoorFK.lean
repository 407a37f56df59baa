/- The document's cells: a new block; Pages. -/
import Derived.Test.YtiboobaggpghjaaDoorFE
import Derived.Deep.RegionLaw
import Derived.Handy
import Derived.Deep.RegionHeld3
namespace Go.Proofs.YtiboobaggpghjaaDoor
open Go.ChangeShapes Go.WideShapes Go.ChangeAt Go.RowKit
/-- The blocks without the table. -/
structure Cb (pr : Nat) (F : Nat → Prop) (W : World) (dc rt : Nat) (v : Value) (D : List Bq) : Prop where
  head : W.heap[dc]? = some (.cells #[.pointer (some ⟨rt, 0, none⟩), v, .int .i64 (pr : Int)] 72 (0, 0))
  lst : En.Lies bE W v D
  mrk : ∀ x ∈ D, FRow 4 W x.2 x.1.u.length (uV x.1.u)
  dif : D.Pairwise (fun x y => x.2 ≠ y.2)
  odc : F dc
  ov : ∀ g, v.ownBlock = some g → F g
  om : ∀ x ∈ D, F x.2
  lt : ∀ i, F i → i < W.heap.size
section
variable {n pr dc rt : Nat} {F S : Nat → Prop} {W W' : World} {v : Value} {D : List Bq} {x : Bq}
theorem Ce.cb (h : Ce n pr F W dc rt v D) : Cb pr F W dc rt v D := ⟨h.head, h.lst, h.mrk, h.dif, h.odc, h.ov, h.om, h.lt⟩
theorem Cb.ce (h : Cb pr F W dc rt v D) (hi : Inv n pr (bks D)) (hp : 1 ≤ pr ∧ pr ≤ 8) (ht : Tq n F W rt (bks D) D) : Ce n pr F W dc rt v D := ⟨hi, hp, h.head, ht, h.lst, h.mrk, h.dif, h.odc, h.ov, h.om, h.lt⟩
theorem Cb.far (h : Cb pr F W dc rt v D) (c : Cha S W W') (h1 : ¬ S dc) (h2 : ∀ g, v.ownBlock = some g → ¬ S g) (h3 : ∀ x ∈ D, ¬ S x.2) : Cb pr F W' dc rt v D :=
  ⟨(c.old _ (h.lt _ h.odc) h1).trans h.head, h.lst.cha c h2, fun x hx => c.row (h.mrk x hx) (h3 x hx), h.dif, h.odc, h.ov, h.om, fun i hi => Nat.lt_of_lt_of_le (h.lt i hi) c.size⟩
theorem Cb.more (h : Cb pr F W dc rt v D) {F' : Nat → Prop} (h1 : ∀ i, F i → F' i) (h2 : ∀ i, F' i → i < W.heap.size) : Cb pr F' W dc rt v D :=
  ⟨h.head, h.lst, h.mrk, h.dif, h1 _ h.odc, fun g hg => h1 _ (h.ov g hg), fun x hx => h1 _ (h.om x hx), h2⟩
/-- The list's block is of its own kind. -/
theorem Cb.kind (h : Cb pr F W dc rt v D) {g : Nat} (hg : v.ownBlock = some g) : ∃ cur, W.heap[g]? = some (.cells cur 83 (0, 0)) := by
  rcases h.lst with ⟨_, rfl⟩ | ⟨g', o, cap, cur, rfl, _, _, k, _⟩
  · cases hg
  · cases hg
    exact ⟨cur, k⟩
theorem Cb.nv (h : Cb pr F W dc rt v D) : v.ownBlock ≠ some dc ∧ ∀ x ∈ D, v.ownBlock ≠ some x.2 ∧ x.2 ≠ dc := by
  refine ⟨fun e => ?_, fun x hx => ⟨fun e => ?_, ?_⟩⟩
  · obtain ⟨cur, k⟩ := h.kind e
    exact ty_ne k h.head (by decide) rfl
  · obtain ⟨cur, k⟩ := h.kind e
    exact ty_ne k (h.mrk x hx) (by decide) rfl
  · exact ty_ne (h.mrk x hx) h.head (by decide)
/-- What the table's calls write is none of the blocks. -/
theorem Cb.tab (h : Cb pr F W dc rt v D) {B rm rq : Nat} {tv : Value} {L : List Spn} (hR : Rt W B rt rm rq n tv L) (hq : ∀ x ∈ D, x.2 ≠ rq) (c : Cha (fun i => i = rt ∨ i = rq) W W') : Cb pr F W' dc rt v D := by
  refine h.far c ?_ ?_ ?_
  · rintro (e | e)
    · exact ty_ne h.head hR.head (by decide) e
    · exact ty_ne h.head hR.pg.body (by decide) e
  · intro g hg
    obtain ⟨cur, k⟩ := h.kind hg
    rintro (e | e)
    · exact ty_ne k hR.head (by decide) e
    · exact ty_ne k hR.pg.body (by decide) e
  · intro x hx
    rintro (e | e)
    · exact ty_ne (h.mrk x hx) hR.head (by decide) e
    · exact hq x hx e
theorem fcells_new (m : Nat) : fcells m (uV (List.replicate m false)) = fcells m (fun _ => .bool false) := by
  unfold fcells
  apply Array.ext
  · simp
  · intro i h1 h2
    have hi : i < m := by simpa using h1
    simp only [Array.getElem_map, Array.getElem_range]
    unfold uV
    rw [List.getD_eq_getElem?_getD, List.getElem?_replicate, if_pos hi]
    rfl
/-- A block is laid behind the others. -/
theorem Cb.push (h : Cb pr F W dc rt v D) {W3 w4 : World} {y : Bk} {m g o cap : Nat} (hu : y.u = List.replicate m false)
    (q1 : W3.heap = ((W.alloc (.cells (fcells m fun _ => .bool false) 4)).alloc (.cells (bcs (y, W.heap.size)).toArray 83)).heap) (q2 : W3.os = W.os) (q3 : W3.output = W.output) (hA : En.App bE W3 w4 v D [(y, W.heap.size)] g o cap) :
    Cb pr (fun i => F i ∨ (W.heap.size ≤ i ∧ i < w4.heap.size)) (w4.setCell ⟨dc, 1, none⟩ (.slice (some ⟨g, o, none⟩) (D.length + 1) cap)) dc rt (.slice (some ⟨g, o, none⟩) (D.length + 1) cap) (D ++ [(y, W.heap.size)]) ∧
    Cha (fun i => i = dc ∨ v.ownBlock = some i) W (w4.setCell ⟨dc, 1, none⟩ (.slice (some ⟨g, o, none⟩) (D.length + 1) cap)) := by
  have c0 : Cha (fun _ => False) W ((W.alloc (.cells (fcells m fun _ => .bool false) 4)).alloc (.cells (bcs (y, W.heap.size)).toArray 83)) := ((Cha.refl _ W).alloc _).alloc _
  have c3 : Cha (fun _ => False) W W3 := ⟨q2, q3, by rw [q1]; exact c0.size, fun i hi hs => by rw [q1]; exact c0.old i hi hs⟩
  have s3 : W3.heap.size = W.heap.size + 2 := by rw [q1, World.size_alloc, World.size_alloc]
  have hq : W3.heap[W.heap.size]? = some (.cells (fcells m fun _ => .bool false) 4 (0, 0)) := by
    rw [q1, heap_alloc_old _ _ (by rw [World.size_alloc]; omega)]
    exact heap_alloc_new W _
  have c4 : Cha (fun i => v.ownBlock = some i) W w4 := (c3.wide).trans hA.cha
  have hdc := h.lt _ h.odc
  have hd4 : w4.heap[dc]? = _ := (c4.old dc hdc h.nv.1).trans h.head
  have hg : g ≠ dc := by
    rcases hA.at' with e | e
    · exact fun e2 => h.nv.1 (e2 ▸ e)
    · omega
  have c5 : Cha (fun i => i = dc) w4 (w4.setCell ⟨dc, 1, none⟩ (.slice (some ⟨g, o, none⟩) (D.length + 1) cap)) := (Cha.refl (fun i => i = dc) w4).setCell (p := ⟨dc, 1, none⟩) (fun _ => rfl) _
  have sz5 : (w4.setCell ⟨dc, 1, none⟩ (.slice (some ⟨g, o, none⟩) (D.length + 1) cap)).heap.size = w4.heap.size := by simp [World.setCell]
  have s4 := hA.cha.size
  refine ⟨⟨?_, ?_, ?_, ?_, .inl h.odc, ?_, ?_, ?_⟩, ?_⟩
  · exact heap_setCell_same w4 dc 1 _ 72 _ hd4
  · have := hA.lies.cha c5 fun g' hg' e => by cases hg'; exact hg e
    exact this
  · intro x hx
    rcases List.mem_append.1 hx with hx | hx
    · exact c5.row (c4.row (h.mrk x hx) (h.nv.2 x hx).1) (h.nv.2 x hx).2
    · obtain rfl := List.mem_singleton.1 hx
      have e1 : w4.heap[W.heap.size]? = _ := (hA.cha.old W.heap.size (by omega) (fun e => by have := h.lt _ (h.ov _ e); omega)).trans hq
      have e2 := (c5.old W.heap.size (by omega) (by show ¬ W.heap.size = dc; omega)).trans e1
      show FRow 4 _ W.heap.size y.u.length (uV y.u)
      unfold FRow
      rw [hu, List.length_replicate, fcells_new]
      exact e2
  · refine List.pairwise_append.2 ⟨h.dif, List.pairwise_singleton _ _, fun x hx z hz => ?_⟩
    obtain rfl := List.mem_singleton.1 hz
    have := h.lt _ (h.om x hx)
    show x.2 ≠ W.heap.size
    omega
  · intro g' hg'
    cases hg'
    show F g ∨ (W.heap.size ≤ g ∧ g < w4.heap.size)
    rcases hA.at' with e | e
    · exact .inl (h.ov _ e)
    · exact .inr ⟨by omega, hA.lt⟩
  · intro x hx
    rcases List.mem_append.1 hx with hx | hx
    · exact .inl (h.om x hx)
    · obtain rfl := List.mem_singleton.1 hx
      exact .inr ⟨Nat.le_refl _, by omega⟩
  · intro i hi
    rw [sz5]
    rcases hi with hi | hi
    · have := h.lt i hi; omega
    · exact hi.2
  · exact (c4.mono fun _ _ e => .inr e).trans (c5.mono fun _ _ e => .inl e)
end
end Go.Proofs.YtiboobaggpghjaaDoor

namespace Go.Proofs.YtiboobaggpghjaaDoor
open Go.ChangeShapes Go.WideShapes Go.ChangeAt Go.RowKit
section
variable {n pr dc rt : Nat} {F S : Nat → Prop} {W W' : World} {v : Value} {D : List Bq} {x : Bq}
/-- What a call leaves of the document's cells. -/
def DLeft (n pr : Nat) (F : Nat → Prop) (W : World) (dc rt : Nat) (w' : World) (D' : List Bq) : Prop := ∃ F' v', Ce n pr F' w' dc rt v' D' ∧ Cha F W w' ∧ ∀ i, F' i → F i ∨ W.heap.size ≤ i
theorem rt_far {B rm rq : Nat} {tv : Value} {L : List Spn} (hR : Rt W B rt rm rq n tv L) (h : Cb pr F W dc rt v D) (c : Cha (fun i => i = dc ∨ v.ownBlock = some i) W W') : Rt W' B rt rm rq n tv L := by
  refine hR.cha2 c ?_ ?_ ?_ ?_
  · rintro (e | e)
    · exact ty_ne hR.head h.head (by decide) e
    · obtain ⟨cur, k⟩ := h.kind e
      exact ty_ne k hR.head (by decide) rfl
  · rintro (e | e)
    · exact ty_ne hR.pg.head h.head (by decide) e
    · obtain ⟨cur, k⟩ := h.kind e
      exact ty_ne k hR.pg.head (by decide) rfl
  · rintro (e | e)
    · exact ty_ne hR.pg.body h.head (by decide) e
    · obtain ⟨cur, k⟩ := h.kind e
      exact ty_ne k hR.pg.body (by decide) rfl
  · intro g hg
    obtain ⟨cur, k⟩ : ∃ cur, W.heap[g]? = some (.cells cur 78 (0, 0)) := by
      rcases hR.lst.2 with ⟨e, _⟩ | ⟨g', cap, cur, e, _, k, _⟩
      · rw [e] at hg; cases hg
      · rw [e] at hg; cases hg; exact ⟨cur, k⟩
    rintro (e | e)
    · exact ty_ne k h.head (by decide) e
    · obtain ⟨cur2, k2⟩ := h.kind e
      exact ty_ne k k2 (by decide) rfl
theorem make_fin (h : Ce n pr F W dc rt v D) {y : Bk} {m : Nat} (hu : y.u = List.replicate m false) (hinv : Inv n pr (bks D ++ [y])) {B rm rq : Nat} {tv tv' : Value} {L : List Spn} (hR0 : Rt W B rt rm rq n tv L) (hL : Lk (fun _ => 0) L (bks D)) (hF : F rt ∧ F rm ∧ F rq) (hq : ∀ x ∈ D, x.2 ≠ rq)
    {w1 : World} (hR : Rt w1 W.heap.size rt rm rq n tv' (ins ⟨y.b, y.k, 0⟩ L)) (c1 : Cha (fun i => i = rt ∨ i = rq) W w1) (ob : Obj) {W3 w4 : World} {g o cap : Nat}
    (q1 : W3.heap = (((w1.alloc ob).alloc (.cells (fcells m fun _ => .bool false) 4)).alloc (.cells (bcs (y, (w1.alloc ob).heap.size)).toArray 83)).heap) (q2 : W3.os = w1.os) (q3 : W3.output = w1.output) (hA : En.App bE W3 w4 v D [(y, (w1.alloc ob).heap.size)] g o cap) :
    DLeft n pr F W dc rt (w4.setCell ⟨dc, 1, none⟩ (.slice (some ⟨g, o, none⟩) (D.length + 1) cap)) (D ++ [(y, (w1.alloc ob).heap.size)]) := by
  have b1 : Cb pr F w1 dc rt v D := h.cb.tab hR0 hq c1
  have c2 : Cha (fun _ => False) w1 (w1.alloc ob) := (Cha.refl _ w1).alloc ob
  have b2 : Cb pr F (w1.alloc ob) dc rt v D := b1.far c2 (fun f => f) (fun _ _ f => f) (fun _ _ f => f)
  have hR2 : Rt (w1.alloc ob) W.heap.size rt rm rq n tv' (ins ⟨y.b, y.k, 0⟩ L) := hR.same c2
  obtain ⟨b5, c5⟩ := b2.push (y := y) (m := m) hu q1 q2 q3 hA
  have hR5 := rt_far hR2 b2 c5
  have s1 := c1.size
  have s2 : (w1.alloc ob).heap.size = w1.heap.size + 1 := World.size_alloc ..
  have s5 := c5.size
  have sz5 : (w4.setCell ⟨dc, 1, none⟩ (.slice (some ⟨g, o, none⟩) (D.length + 1) cap)).heap.size = w4.heap.size := by simp [World.setCell]
  refine ⟨fun i => F i ∨ (W.heap.size ≤ i ∧ i < w4.heap.size), .slice (some ⟨g, o, none⟩) (D.length + 1) cap, ?_, ?_, fun i hi => hi.imp id fun e => e.1⟩
  · refine Cb.ce (b5.more (fun i hi => hi.imp id fun e => ⟨by omega, e.2⟩) fun i hi => ?_) (by rw [bks_app]; exact hinv) h.prr ?_
    · rcases hi with hi | hi
      · have := h.lt i hi; omega
      · rw [sz5]; exact hi.2
    · refine ⟨W.heap.size, rm, rq, tv', _, hR5, ?_, by omega, .inl hF.1, .inl hF.2.1, .inl hF.2.2, ?_, ?_⟩
      · rw [bks_app]
        exact lk_add hL y
      · intro g' hg'
        refine .inr ⟨own_base hR.lst g' hg', ?_⟩
        rcases hR.lst.2 with ⟨e, _⟩ | ⟨g2, cap2, cur, e, _, k, _⟩
        · rw [e] at hg'; cases hg'
        · obtain rfl : g2 = g' := by rw [e] at hg'; exact Option.some.inj hg'
          have : g2 < w1.heap.size := (Array.getElem?_eq_some_iff.1 k).1
          omega
      · intro z hz
        rcases List.mem_append.1 hz with hz | hz
        · exact hq z hz
        · obtain rfl := List.mem_singleton.1 hz
          have := h.lt _ hF.2.2
          show (w1.alloc ob).heap.size ≠ rq
          omega
  · refine ((c1.mono fun i _ e => ?_).trans c2.wide).trans (c5.mono fun i _ e => ?_)
    · rcases e with rfl | rfl
      · exact hF.1
      · exact hF.2.2
    · rcases e with rfl | e
      · exact h.odc
      · exact h.ov i e
theorem alc5_good {k tag : Int} {s : Spn} {r : Int} {L L' : List Spn} (c : Alc5 n L k tag s r L') (hr : r = 0) : Good n L' := by
  cases c with
  | no _ h _ => rcases h with h | h <;> omega
  | ok b k' hk hb c hg => exact hg
theorem DLeft.same {w' : World} (h : Ce n pr F W dc rt v D) (c : Cha (fun _ => False) W w') : DLeft n pr F W dc rt w' D := ⟨F, v, h.same c, c.wide, fun _ hi => .inl hi⟩
set_option maxRecDepth 100000 in
set_option maxHeartbeats 4000000 in
theorem dmake_no (h : Ce n pr F W dc rt v D) {k : Int} (hk : k ≤ 9223372036854775807) (c wd m : Int) (r : Int) (hr : r = 1 ∨ r = 3) (hno : Alc n (covA (bks D)) k 0 r (covA (bks D))) :
    Calls Tryd.prog 59 #[.pointer (some ⟨dc, 0, none⟩), .int .i64 k, .int .i64 c, .int .i64 wd, .int .i64 m] W fun e w' => e = .returned (.tuple #[.int .i64 0, .int .i64 r]) ∧ DLeft n pr F W dc rt w' D := by
  obtain ⟨B, rm, rq, tv, L, hR, hL, hB, hF1, hF2, hF3, hF4, hq⟩ := h.tab
  rw [← hL.cov] at hno
  have C := Lib.hid (ralloc5_no 0 hk hr hno hR hB)
  have HF : Hid (∀ w1, Rt w1 B rt rm rq n tv L → Cha (fun i => i = rt ∨ i = rq) W w1 → ∀ ob, DLeft n pr F W dc rt (w1.alloc ob) D) := Lib.hid fun w1 hR1 hc ob => by
    have b1 := h.cb.tab hR hq hc
    have c2 : Cha (fun _ => False) w1 (w1.alloc ob) := (Cha.refl _ w1).alloc ob
    have b2 : Cb pr F (w1.alloc ob) dc rt v D := b1.far c2 (fun f => f) (fun _ _ f => f) (fun _ _ f => f)
    exact ⟨F, v, b2.ce h.inv h.prr ⟨B, rm, rq, tv, L, hR1.same c2, hL, Nat.le_trans hB (Nat.le_trans hc.size c2.size), hF1, hF2, hF3, hF4, hq⟩, (hc.mono fun i _ e => by rcases e with rfl | rfl <;> assumption).trans c2.wide, fun _ hi => .inl hi⟩
  have d0 := h.c0
  have hr0 : (r != 0) = true := by rcases hr with rfl | rfl <;> rfl
  clear h hR hL hno hr
  unfold sv noS at C
  simp only at C
  go_enter Tryd.func59, Tryd.ntmps59
  go_wp2_with (go_at_call 73; ((with_reducible refine (C.out).mono ?_); rintro e w1 ⟨rfl, hR1, hc⟩; have HR1 := Lib.hid hR1; have HC := Lib.hid hc; clear hR1 hc))
  go_ret2
  exact ⟨rfl, HF.out _ HR1.out HC.out _⟩
set_option maxRecDepth 100000 in
set_option maxHeartbeats 8000000 in
theorem dmake_ok (h : Ce n pr F W dc rt v D) {k b m wd : Nat} {c : Int} (row : Row n (bks D) k b) (hinv : Inv n pr (bks D ++ [⟨b, k, c, wd, List.replicate m false, -1⟩])) (hm : m ≤ 64) :
    Calls Tryd.prog 59 #[.pointer (some ⟨dc, 0, none⟩), .int .i64 (k : Int), .int .i64 c, .int .i64 (wd : Int), .int .i64 (m : Int)] W fun e w' => e = .returned (.tuple #[.int .i64 (D.length : Int), .int .i64 0]) ∧ ∃ q, DLeft n pr F W dc rt w' (D ++ [(⟨b, k, c, wd, List.replicate m false, -1⟩, q)]) := by
  obtain ⟨B, rm, rq, tv, L, hR, hL, hB, hF1, hF2, hF3, hF4, hq⟩ := h.tab
  have hlen := h.len
  have hkb := row.is
  have CR : Hid (Calls Tryd.prog 73 #[.pointer (some ⟨rt, 0, none⟩), .int .i64 (k : Int), .int .i64 0] W fun e w' => ∃ v', e = .returned (.tuple #[sv ⟨b, k, 0⟩, .int .i64 0]) ∧ Rt w' W.heap.size rt rm rq n v' (ins ⟨b, k, 0⟩ L) ∧ Cha (fun i => i = rt ∨ i = rq) W w') := Lib.hid (by
    have c5 := alc5_good (row.alc5 hR.good hL 0) rfl
    have c6 := hkb.2.2.2
    rw [← hL.cov] at c6
    exact ralloc5_ok 0 (by omega) c6 c5 hR hB)
  have HH := Lib.hid h
  have HFIN : Hid (∀ w1 tv', Rt w1 W.heap.size rt rm rq n tv' (ins ⟨b, k, 0⟩ L) → Cha (fun i => i = rt ∨ i = rq) W w1 → ∀ ob W3 w4 g o cap, W3.heap = (((w1.alloc ob).alloc (.cells (fcells m fun _ => .bool false) 4)).alloc (.cells (bcs (⟨b, k, c, wd, List.replicate m false, -1⟩, (w1.alloc ob).heap.size)).toArray 83)).heap → W3.os = w1.os → W3.output = w1.output → En.App bE W3 w4 v D [(⟨b, k, c, wd, List.replicate m false, -1⟩, (w1.alloc ob).heap.size)] g o cap → DLeft n pr F W dc rt (w4.setCell ⟨dc, 1, none⟩ (.slice (some ⟨g, o, none⟩) (D.length + 1) cap)) (D ++ [(⟨b, k, c, wd, List.replicate m false, -1⟩, (w1.alloc ob).heap.size)])) :=
    Lib.hid fun w1 tv' hR1 hc ob W3 w4 g o cap q1 q2 q3 hA => make_fin HH.out rfl hinv hR hL ⟨hF1, hF2, hF3⟩ hq hR1 hc ob q1 q2 q3 hA
  have HB1 : Hid (∀ w1, Cha (fun i => i = rt ∨ i = rq) W w1 → Cb pr F w1 dc rt v D) := Lib.hid fun w1 hc => HH.out.cb.tab hR hq hc
  have hmk := mk_bools m (by omega)
  have d0 := h.c0
  obtain ⟨a0, cap, rfl⟩ := h.form
  have LB1 : Hid (D.length + [((⟨b, k, c, wd, List.replicate m false, -1⟩, 0) : Bq)].length ≤ maxLen) := Lib.hid (by unfold maxLen; simp only [List.length_singleton]; omega)
  have LB2 : Hid ((D.length + [((⟨b, k, c, wd, List.replicate m false, -1⟩, 0) : Bq)].length) * bE.b ≤ 140737488355328) := Lib.hid (by show _ * 56 ≤ _; simp only [List.length_singleton]; omega)
  clear h hR hL hinv row
  unfold sv at CR
  simp only at CR
  go_enter Tryd.func59, Tryd.ntmps59
  go_wp2_with (go_at_call 73; ((with_reducible refine (CR.out).mono ?_); rintro e w1 ⟨tv', rfl, hR1, hc⟩; have HR1 := Lib.hid hR1; have HC := Lib.hid hc; have b1 := HB1.out w1 hc; have d1 := cell_of_row w1 dc 1 _ 72 (0, 0) b1.head; have HB := Lib.hid b1; clear hR1 hc b1))
  obtain ⟨W2, hW2⟩ : ∃ W2, W2 = w1.alloc (.cells #[.int .i64 (b : Int), .int .i64 (k : Int), .int .i64 0] 78) := ⟨_, rfl⟩
  have HF2 := Lib.hid (HFIN.out w1 tv' HR1.out HC.out (.cells #[.int .i64 (b : Int), .int .i64 (k : Int), .int .i64 0] 78))
  have c2 : Cha (fun _ => False) w1 W2 := by rw [hW2]; exact (Cha.refl _ w1).alloc _
  have B2 : Hid (Cb pr F W2 dc rt (.slice a0 D.length cap) D) := Lib.hid (HB.out.far c2 (fun f => f) (fun _ _ f => f) (fun _ _ f => f))
  have x0 : W2.cell? ⟨w1.heap.size, 0, none⟩ = some (.int .i64 (b : Int)) := by rw [hW2]; exact cell_of_row _ _ 0 _ 78 (0, 0) (heap_alloc_new w1 _)
  have e1 : Hid (W2.os = w1.os ∧ W2.output = w1.output) := Lib.hid (by rw [hW2]; exact ⟨rfl, rfl⟩)
  have hl1 : w1.heap.size < W2.heap.size := by rw [hW2, World.size_alloc]; omega
  have hl2 : dc < W2.heap.size := B2.out.lt _ B2.out.odc
  rw [← hW2] at HF2 ⊢
  clear hW2 c2 d1
  have d1 := cell_of_row W2 dc 1 _ 72 (0, 0) B2.out.head
  have d2 := frozen_of_row W2 dc 1 _ 72 B2.out.head
  have HLI : Hid (∀ W', Cha (fun _ => False) W2 W' → En.Lies bE W' (.slice a0 D.length cap) D) := Lib.hid fun W' c => B2.out.lst.same c
  have HKX : Hid (∀ W', Cha (fun i => (Value.slice a0 D.length cap).ownBlock = some i) W2 W' → W'.cell? ⟨dc, 1, none⟩ = some (.slice a0 D.length cap) ∧ W'.frozen? ⟨dc, 1, none⟩ = false) := Lib.hid fun W' c => by
    have e := (c.old dc (B2.out.lt _ B2.out.odc) B2.out.nv.1).trans B2.out.head
    exact ⟨cell_of_row W' dc 1 _ 72 (0, 0) e, frozen_of_row W' dc 1 _ 72 e⟩
  have HN : Hid (∀ j u, (bE.cs [((⟨b, k, c, wd, List.replicate m false, -1⟩, W2.heap.size) : Bq)])[j]? = some u → ((W2.alloc (.cells (fcells m fun _ => .bool false) 4)).alloc (.cells #[.int .i64 (b : Int), .int .i64 c, .int .i64 (wd : Int), .slice (some ⟨W2.heap.size, 0, none⟩) m m, .int .i64 (-1)] 83)).cell? ((⟨W2.heap.size + 1, 0, none⟩ : Addr).add j) = some u) := Lib.hid (by
    have q := En.just_new bE (W2.alloc (.cells (fcells m fun _ => .bool false) 4)) (⟨b, k, c, wd, List.replicate m false, -1⟩, W2.heap.size) 83
    rw [World.size_alloc] at q
    have e : (bE.ce ((⟨b, k, c, wd, List.replicate m false, -1⟩, W2.heap.size) : Bq)).toArray = #[.int .i64 (b : Int), .int .i64 c, .int .i64 (wd : Int), .slice (some ⟨W2.heap.size, 0, none⟩) m m, .int .i64 (-1)] := by
      show (bcs _).toArray = _
      unfold bcs
      simp
    rw [e] at q
    exact q)
  have hEL : Hid ((bcs ((⟨b, k, c, wd, List.replicate m false, -1⟩, W2.heap.size) : Bq)).toArray = #[.int .i64 (b : Int), .int .i64 c, .int .i64 (wd : Int), .slice (some ⟨W2.heap.size, 0, none⟩) m m, .int .i64 (-1)]) := Lib.hid (by unfold bcs; simp)
  rw [hEL.out] at HF2
  go_region_law (refine En.step_app bE_ok rfl (.tmp 30) (.tmp 38) rfl (v := .slice a0 D.length cap) (A := D) rfl (HLI.out _ ((((Cha.refl (fun _ => False) _).alloc _).alloc _).drew)) ⟨W2.heap.size + 1, 0, none⟩ 1 1 [(⟨b, k, c, wd, List.replicate m false, -1⟩, W2.heap.size)] rfl rfl HN.out Nat.zero_lt_one LB1.out LB2.out ?_; intro g3 o3 cap3 w3 hA3; obtain ⟨k5, k6⟩ := HKX.out w3 (((((Cha.refl (fun _ => False) _).alloc _).alloc _).drew).wide.trans hA3.cha); have A3 := Lib.hid hA3)
  all_goals
    go_wp2
    go_ret2
    refine ⟨by first | rfl | trivial, _, HF2.out _ _ _ _ _ ?_ ?_ ?_ A3.out⟩ <;> first | rfl | exact e1.out.1 | exact e1.out.2
end
end Go.Proofs.YtiboobaggpghjaaDoor

namespace Go.Proofs.YtiboobaggpghjaaDoor
open Go.ChangeShapes Go.WideShapes Go.ChangeAt Go.RowKit
section
variable {n pr dc rt : Nat} {F S : Nat → Prop} {W W' : World} {v : Value} {D : List Bq} {x : Bq}
set_option maxRecDepth 100000 in
set_option maxHeartbeats 4000000 in
theorem dPages_no (h : Ce n pr F W dc rt v D) {k : Int} (hk : k ≤ 9223372036854775807) (r : Int) (hr : r = 1 ∨ r = 3) (hno : Alc n (covA (bks D)) k 0 r (covA (bks D))) :
    Calls Tryd.prog 41 #[.pointer (some ⟨dc, 0, none⟩), .int .i64 k] W fun e w' => e = .returned (.tuple #[.int .i64 0, .int .i64 r]) ∧ DLeft n pr F W dc rt w' D := by
  have C := Lib.hid (dmake_no h hk (-2) 1 0 r hr hno)
  have hr0 : (r != 0) = true := by rcases hr with rfl | rfl <;> rfl
  clear h hno hr
  go_enter Tryd.func41, Tryd.ntmps41
  go_wp2_with (go_at_call 59; ((with_reducible refine (C.out).mono ?_); rintro e w1 ⟨rfl, hL⟩; have HL := Lib.hid hL; clear hL))
  go_ret2
  exact ⟨rfl, HL.out⟩
set_option maxRecDepth 100000 in
set_option maxHeartbeats 4000000 in
theorem dPages_ok (h : Ce n pr F W dc rt v D) {k b : Nat} (row : Row n (bks D) k b) (hinv : Inv n pr (bks D ++ [⟨b, k, -2, 1, [], -1⟩])) :
    Calls Tryd.prog 41 #[.pointer (some ⟨dc, 0, none⟩), .int .i64 (k : Int)] W fun e w' => e = .returned (.tuple #[.int .i64 (b : Int), .int .i64 0]) ∧ ∃ q, DLeft n pr F W dc rt w' (D ++ [(⟨b, k, -2, 1, [], -1⟩, q)]) := by
  have C : Hid (Calls Tryd.prog 59 #[.pointer (some ⟨dc, 0, none⟩), .int .i64 (k : Int), .int .i64 (-2), .int .i64 1, .int .i64 0] W fun e w' => e = .returned (.tuple #[.int .i64 (D.length : Int), .int .i64 0]) ∧ ∃ q, DLeft n pr F W dc rt w' (D ++ [(⟨b, k, -2, 1, [], -1⟩, q)])) := Lib.hid (dmake_ok (m := 0) (wd := 1) (c := -2) h row hinv (by omega))
  have hlen := h.len
  clear h hinv row
  go_enter Tryd.func41, Tryd.ntmps41
  go_wp2_with (go_at_call 59; ((with_reducible refine (C.out).mono ?_); rintro e w1 ⟨rfl, q, hL⟩; have HL := Lib.hid hL; obtain ⟨F', v', h1, -, -⟩ := hL; have d1 := h1.c1; obtain ⟨g, o, cap, rfl, hc1, hc2, hA, -⟩ := h1.at (i := D.length) (by simp); have q0 := hA.c0; simp only [List.length_append, List.length_singleton, List.getElem_append_right (Nat.le_refl D.length), Nat.sub_self, List.getElem_cons_zero] at d1 q0; clear h1 hA))
  go_ret2
  exact ⟨rfl, q, HL.out⟩
end
end Go.Proofs.YtiboobaggpghjaaDoor

namespace Go.Proofs.YtiboobaggpghjaaDoor
open Go.ChangeShapes Go.WideShapes Go.ChangeAt Go.RowKit
theorem begP_hit {n : Nat} {L : List Spn} {s : Spn} (h : Good n L) (hs : s ∈ L) : begP L n (s.b : Int) = (s, true) := by
  have hr := h.rng s hs
  have hi : s.has s.b = true := has_iff.2 (by omega)
  unfold begP
  have hf : fOf L s.b = s := h.fOf_yes hs hi
  rw [Int.toNat_natCast, hf, if_pos ⟨by omega, by omega, uOf_iff.2 ⟨s, hs, hi⟩, rfl⟩]
theorem inv_sub {n pr : Nat} {A B : List Bk} (h : Inv n pr A) (hs : B.Sublist A) : Inv n pr B :=
  ⟨h.apart.sublist hs, fun x hx => h.rng x (hs.subset hx), fun x hx => h.kind x (hs.subset hx), fun x hx y hy => h.one x (hs.subset hx) y (hs.subset hy)⟩
/-- What is kept of the first k. -/
def kpt (D : List Bq) (k : Nat) : List Bq := (D.take k).filter fun x => keep x.1
theorem kpt_yes {D : List Bq} {k : Nat} (hk : k < D.length) (h : keep D[k].1 = true) : kpt D (k + 1) = kpt D k ++ [D[k]] := by
  unfold kpt
  rw [List.take_add_one, List.getElem?_eq_getElem hk, Option.toList_some, List.filter_append, List.filter_cons_of_pos (by simpa using h), List.filter_nil]
theorem kpt_no {D : List Bq} {k : Nat} (hk : k < D.length) (h : keep D[k].1 = false) : kpt D (k + 1) = kpt D k := by
  unfold kpt
  rw [List.take_add_one, List.getElem?_eq_getElem hk, Option.toList_some, List.filter_append, List.filter_cons_of_neg (by simpa using h), List.filter_nil, List.append_nil]
theorem kpt_len (D : List Bq) (k : Nat) : (kpt D k).length ≤ k := by
  unfold kpt
  have := List.length_filter_le (fun x : Bq => keep x.1) (D.take k)
  rw [List.length_take] at this
  omega
theorem kpt_mem {D : List Bq} {k : Nat} {x : Bq} (h : x ∈ kpt D k) : x ∈ D := List.mem_of_mem_take (List.mem_filter.1 h).1
theorem rem_at {n pr : Nat} {D : List Bq} {k : Nat} (hi : Inv n pr (bks D)) (hk : k < D.length) : rem (bks (kpt D k) ++ bks (D.drop k)) D[k].1.b = bks (kpt D k) ++ bks (D.drop (k + 1)) := by
  have hp : ∀ (i : Nat) (hi' : i < D.length), i ≠ k → D[i].1.b ≠ D[k].1.b := fun i hi' hne e => by
    have h1 := List.pairwise_iff_getElem.1 hi.apart
    have hr1 := hi.rng _ (bks_mem (List.getElem_mem hi'))
    have hr2 := hi.rng _ (bks_mem (List.getElem_mem hk))
    have g1 : (bks D)[i]'(by rw [bks_len]; exact hi') = D[i].1 := by unfold bks; simp
    have g2 : (bks D)[k]'(by rw [bks_len]; exact hk) = D[k].1 := by unfold bks; simp
    rcases Nat.lt_or_gt_of_ne hne with c | c
    · have := h1 i k (by rw [bks_len]; exact hi') (by rw [bks_len]; exact hk) c
      rw [g1, g2] at this
      omega
    · have := h1 k i (by rw [bks_len]; exact hk) (by rw [bks_len]; exact hi') c
      rw [g1, g2] at this
      omega
  unfold rem
  rw [List.filter_append]
  congr 1
  · refine List.filter_eq_self.2 fun y hy => ?_
    obtain ⟨x, hx, rfl⟩ := List.mem_map.1 hy
    obtain ⟨i, hi2, rfl⟩ := List.mem_take_iff_getElem.1 (List.mem_filter.1 hx).1
    have := hp i (by omega) (by omega)
    simpa using this
  · rw [List.drop_eq_getElem_cons hk]
    show List.filter _ (D[k].1 :: bks (D.drop (k + 1))) = _
    rw [List.filter_cons_of_neg (by simp)]
    refine List.filter_eq_self.2 fun y hy => ?_
    obtain ⟨x, hx, rfl⟩ := List.mem_map.1 hy
    obtain ⟨i, hi2, rfl⟩ := List.mem_drop_iff_getElem.1 hx
    have := hp (k + 1 + i) (by omega) (by omega)
    simpa using this
theorem bks_step {D : List Bq} {k : Nat} (hk : k < D.length) (h : keep D[k].1 = true) : bks (kpt D (k + 1)) ++ bks (D.drop (k + 1)) = bks (kpt D k) ++ bks (D.drop k) := by
  have e := List.drop_eq_getElem_cons hk
  rw [kpt_yes hk h, bks_app, List.append_assoc, ← bks_app]
  rw [show [D[k]] ++ D.drop (k + 1) = D.drop k from e.symm]
end Go.Proofs.YtiboobaggpghjaaDoor

namespace Go.Proofs.YtiboobaggpghjaaDoor
open Go.ChangeShapes Go.WideShapes Go.ChangeAt Go.RowKit
section
variable {n pr dc rt : Nat} {F S : Nat → Prop} {W W' : World} {v : Value} {D : List Bq} {x : Bq}
theorem own_far {w w' : World} {B0 size m : Nat} {t : TypeId} {q : Value} {xs : List Value} (h : w.ownsRow B0 t size q m xs) (c : Cha S w w') (hs : ∀ g, q.ownBlock = some g → ¬ S g) : w'.ownsRow B0 t size q m xs := by
  rcases h.2 with ⟨e, e0⟩ | ⟨g, cap, cur, e, hb, hg, k1, k2, k3, k4⟩
  · exact ⟨h.1, .inl ⟨e, e0⟩⟩
  · exact ⟨h.1, .inr ⟨g, cap, cur, e, hb, (c.old g (Array.getElem?_eq_some_iff.1 hg).1 (hs g (by rw [e]; rfl))).trans hg, k1, k2, k3, k4⟩⟩
/-- So far: the first k looked at. -/
structure Dr (n pr : Nat) (F : Nat → Prop) (W : World) (dc rt rm rq : Nat) (v : Value) (D : List Bq) (k : Nat) (q : Value) (w : World) : Prop where
  cb : Cb pr F w dc rt v D
  tab : ∃ B tv L, Rt w B rt rm rq n tv L ∧ Lk (fun _ => 0) L (bks (kpt D k) ++ bks (D.drop k)) ∧ B ≤ w.heap.size ∧ ∀ g, tv.ownBlock = some g → F g ∨ W.heap.size ≤ g
  own : w.ownsRow W.heap.size 83 5 q (kpt D k).length (bE.cs (kpt D k))
  ch : Cha (fun i => i = rt ∨ i = rq) W w
theorem Dr.same {rm rq k : Nat} {q : Value} {w w' : World} (h : Dr n pr F W dc rt rm rq v D k q w) (c : Cha (fun _ => False) w w') : Dr n pr F W dc rt rm rq v D k q w' := by
  obtain ⟨B, tv, L, h1, h2, h3, h4⟩ := h.tab
  exact ⟨h.cb.far c (fun f => f) (fun _ _ f => f) (fun _ _ f => f), ⟨B, tv, L, h1.same c, h2, Nat.le_trans h3 c.size, h4⟩, own_far h.own c (fun _ _ f => f), h.ch.trans c.wide⟩
theorem Dr.fin {rm rq : Nat} {q : Value} {w : World} (h : Ce n pr F W dc rt v D) (hF : F rt ∧ F rm ∧ F rq) (hq : ∀ x ∈ D, x.2 ≠ rq) (d : Dr n pr F W dc rt rm rq v D D.length q w) :
    DLeft n pr F W dc rt (w.setCell ⟨dc, 1, none⟩ q) (D.filter fun x => keep x.1) := by
  have ek : kpt D D.length = D.filter fun x => keep x.1 := by unfold kpt; rw [List.take_length]
  have c5 : Cha (fun i => i = dc) w (w.setCell ⟨dc, 1, none⟩ q) := (Cha.refl (fun i => i = dc) w).setCell (p := ⟨dc, 1, none⟩) (fun _ => rfl) _
  obtain ⟨B, tv, L, h1, h2, h3, h4⟩ := d.tab
  rw [List.drop_length, ek] at h2
  have hown := d.own
  rw [ek] at hown
  have hqk : ∀ g, q.ownBlock = some g → W.heap.size ≤ g ∧ g < w.heap.size := fun g hg => by
    refine ⟨own_base hown g hg, ?_⟩
    rcases hown.2 with ⟨e, _⟩ | ⟨g2, cap2, cur, e, _, k, _⟩
    · rw [e] at hg; cases hg
    · obtain rfl : g2 = g := by rw [e] at hg; exact Option.some.inj hg
      exact (Array.getElem?_eq_some_iff.1 k).1
  have hdc := h.lt _ h.odc
  have sz : (w.setCell ⟨dc, 1, none⟩ q).heap.size = w.heap.size := by simp [World.setCell]
  have hsub : (D.filter fun x => keep x.1).Sublist D := List.filter_sublist
  have htk : ∀ g, tv.ownBlock = some g → ∃ cur, w.heap[g]? = some (.cells cur 78 (0, 0)) := fun g hg => by
    rcases h1.lst.2 with ⟨e, _⟩ | ⟨g2, cap2, cur, e, _, k, _⟩
    · rw [e] at hg; cases hg
    · obtain rfl : g2 = g := by rw [e] at hg; exact Option.some.inj hg
      exact ⟨cur, k⟩
  have hR5 : Rt (w.setCell ⟨dc, 1, none⟩ q) B rt rm rq n tv L := by
    refine h1.cha2 c5 (fun e => ty_ne h1.head d.cb.head (by decide) e) (fun e => ty_ne h1.pg.head d.cb.head (by decide) e) (fun e => ty_ne h1.pg.body d.cb.head (by decide) e) fun g hg e => ?_
    obtain ⟨cur, k⟩ := htk g hg
    exact ty_ne k d.cb.head (by decide) e
  refine ⟨fun i => F i ∨ (W.heap.size ≤ i ∧ i < w.heap.size), q, ⟨?_, h.prr, ?_, ?_, ?_, ?_, ?_, .inl h.odc, ?_, ?_, ?_⟩, ?_, fun i hi => hi.imp id fun e => e.1⟩
  · exact inv_sub h.inv (hsub.map _)
  · exact heap_setCell_same w dc 1 _ 72 _ d.cb.head
  · refine ⟨B, rm, rq, tv, L, hR5, by simpa [bks] using h2, by omega, .inl hF.1, .inl hF.2.1, .inl hF.2.2, fun g hg => ?_, fun x hx => hq x (hsub.subset hx)⟩
    rcases h4 g hg with e | e
    · exact .inl e
    · obtain ⟨cur, k⟩ := htk g hg
      exact .inr ⟨e, (Array.getElem?_eq_some_iff.1 k).1⟩
  · exact (En.Lies.of_own hown).cha c5 fun g hg e => by have := (hqk g hg).1; have e : g = dc := e; omega
  · intro x hx
    exact c5.row (d.cb.mrk x (hsub.subset hx)) (d.cb.nv.2 x (hsub.subset hx)).2
  · exact h.dif.sublist hsub
  · intro g hg
    exact .inr (hqk g hg)
  · intro x hx
    exact .inl (h.om x (hsub.subset hx))
  · intro i hi
    rw [sz]
    rcases hi with hi | hi
    · exact d.cb.lt i hi
    · exact hi.2
  · refine (d.ch.mono fun i _ e => ?_).trans (c5.mono fun i _ e => by have e : i = dc := e; subst e; exact h.odc)
    rcases e with rfl | rfl
    · exact hF.1
    · exact hF.2.2
end
end Go.Proofs.YtiboobaggpghjaaDoor

namespace Go.Proofs.YtiboobaggpghjaaDoor
open Go.ChangeShapes Go.WideShapes Go.ChangeAt Go.RowKit
section
variable {n pr dc rt rm rq k : Nat} {F S : Nat → Prop} {W w w' : World} {v q : Value} {D : List Bq} {x : Bq}
theorem Dr.keep (d : Dr n pr F W dc rt rm rq v D k q w) (hW : ∀ i, F i → i < W.heap.size) (hF : F rt ∧ F rm ∧ F rq) (hk : k < D.length) (hy : Go.Proofs.YtiboobaggpghjaaDoor.keep D[k].1 = true) {w6 : World} {v' : Value}
    (hown : w6.ownsRow W.heap.size 83 5 v' ((kpt D k).length + 1) (bE.cs (kpt D k) ++ bcs D[k])) (c : Cha (fun i => q.ownBlock = some i) w w6) : Dr n pr F W dc rt rm rq v D (k + 1) v' w6 := by
  have hq : ∀ g, q.ownBlock = some g → W.heap.size ≤ g ∧ ∃ cur, w.heap[g]? = some (.cells cur 83 (0, 0)) := fun g hg => by
    refine ⟨own_base d.own g hg, ?_⟩
    rcases d.own.2 with ⟨e, _⟩ | ⟨g2, cap2, cur, e, _, k, _⟩
    · rw [e] at hg; cases hg
    · obtain rfl : g2 = g := by rw [e] at hg; exact Option.some.inj hg
      exact ⟨cur, k⟩
  have hnF : ∀ i, F i → ¬ q.ownBlock = some i := fun i hi e => by
    have := (hq i e).1
    have := hW i hi
    omega
  obtain ⟨B, tv, L, h1, h2, h3, h4⟩ := d.tab
  refine ⟨d.cb.far c (hnF _ d.cb.odc) (fun g hg => hnF _ (d.cb.ov g hg)) (fun x hx => hnF _ (d.cb.om x hx)), ⟨B, tv, L, h1.cha2 c (hnF _ hF.1) (hnF _ hF.2.1) (hnF _ hF.2.2) fun g hg e => ?_, ?_, Nat.le_trans h3 c.size, h4⟩, ?_, d.ch.over c fun i e => .inr (hq i e).1⟩
  · obtain ⟨cur, kk⟩ := (hq g e).2
    rcases h1.lst.2 with ⟨e2, _⟩ | ⟨g2, cap2, cur2, e2, _, k2, _⟩
    · rw [e2] at hg; cases hg
    · obtain rfl : g2 = g := by rw [e2] at hg; exact Option.some.inj hg
      exact ty_ne k2 kk (by decide) rfl
  · rw [bks_step hk hy]
    exact h2
  · rw [kpt_yes hk hy, List.length_append, En.Enc.cs_app]
    have e : bE.cs [D[k]] = bcs D[k] := by unfold En.Enc.cs; simp [bE]
    rw [e]
    exact hown
theorem Dr.call (d : Dr n pr F W dc rt rm rq v D k q w) (hi : Inv n pr (bks D)) (hF : F rt ∧ F rm ∧ F rq) (hW : ∀ i, F i → i < W.heap.size) (hqd : ∀ x ∈ D, x.2 ≠ rq) (hk : k < D.length) (hy : Go.Proofs.YtiboobaggpghjaaDoor.keep D[k].1 = false) :
    Calls Tryd.prog 63 #[.pointer (some ⟨rt, 0, none⟩), .int .i64 (D[k].1.b : Int)] w fun e w' => e = .returned (.int .i64 0) ∧ Dr n pr F W dc rt rm rq v D (k + 1) q w' ∧ Cha (fun i => i = rt ∨ i = rq) w w' := by
  obtain ⟨B, tv, L, h1, h2, h3, h4⟩ := d.tab
  have hs : (⟨D[k].1.b, D[k].1.k, 0⟩ : Spn) ∈ L := (h2 _).2 ⟨D[k].1, List.mem_append.2 (.inr (by rw [List.drop_eq_getElem_cons hk]; exact List.mem_cons_self)), rfl⟩
  refine (rfree5_any (D[k].1.b : Int) h1 h3).mono fun e w' hh => ?_
  rcases hh with ⟨hb, _⟩ | ⟨s, hsL, hsb, tv', he, hR, hc⟩
  · have := begP_hit h1.good hs
    rw [this] at hb
    exact absurd (congrArg Prod.snd hb) (by simp)
  · have hsb' : s.b = D[k].1.b := by omega
    rw [hsb'] at hR
    have hl := lk_rem h2 D[k].1.b
    rw [rem_at hi hk] at hl
    have hnq : ∀ g, q.ownBlock = some g → W.heap.size ≤ g := fun g hg => own_base d.own g hg
    have s1 := d.ch.size
    have b1 : Cb pr F w' dc rt v D := d.cb.tab h1 hqd hc
    refine ⟨he, ⟨b1, ⟨w.heap.size, tv', _, hR, ?_, hc.size, fun g hg => .inr ?_⟩, ?_, d.ch.trans hc⟩, hc⟩
    · rw [kpt_no hk hy]
      exact hl
    · have := own_base hR.lst g hg
      omega
    · rw [kpt_no hk hy]
      refine own_far d.own hc fun g hg e => ?_
      have := hnq g hg
      rcases e with rfl | rfl
      · have := hW _ hF.1; omega
      · have := hW _ hF.2.2; omega
end
end Go.Proofs.YtiboobaggpghjaaDoor
