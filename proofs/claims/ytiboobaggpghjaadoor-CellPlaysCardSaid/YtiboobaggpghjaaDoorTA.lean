/- The document's table of layer 5: its state, New, Find. -/
import Derived.Test.YtiboobaggpghjaaDoorSH
namespace Go.Proofs.YtiboobaggpghjaaDoor
open Go.ChangeShapes Go.WideShapes Go.ChangeAt Go.RowKit

/-- The document's table at block rt: its pages at rm, rq, its list v in a block that lies behind B. -/
structure Rt (W : World) (B rt rm rq n : Nat) (v : Value) (L : List Spn) : Prop where
  good : Good n L
  head : W.heap[rt]? = some (.cells #[.pointer (some ⟨rm, 0, none⟩), v] 90 (0, 0))
  pg : Pg 107 W rm rq n (uOf L)
  lst : W.ownsRow B 78 3 v L.length (scs L)
  ne : rt ≠ rm ∧ rt ≠ rq ∧ rt < B ∧ rm < B ∧ rq < B
section
variable {W W' : World} {B rt rm rq n : Nat} {v : Value} {L : List Spn} {S : Nat → Prop}
theorem Rt.lt (h : Rt W B rt rm rq n v L) : rt < W.heap.size := (Array.getElem?_eq_some_iff.1 h.head).1
theorem Rt.cha (h : Rt W B rt rm rq n v L) (c : Cha S W W') (h1 : ¬ S rt) (h2 : ¬ S rm) (h3 : ¬ S rq) (h4 : ∀ i, B ≤ i → ¬ S i) : Rt W' B rt rm rq n v L :=
  ⟨h.good, (c.old _ h.lt h1).trans h.head, h.pg.cha c h2 h3, owns_cha h.lst c h4, h.ne⟩
theorem Rt.same (h : Rt W B rt rm rq n v L) (c : Cha (fun _ => False) W W') : Rt W' B rt rm rq n v L := h.cha c (fun x => x) (fun x => x) (fun x => x) (fun _ _ x => x)
theorem Rt.ptr0 (h : Rt W B rt rm rq n v L) : W.cell? ⟨rt, 0, none⟩ = some (.pointer (some ⟨rm, 0, none⟩)) := cell_of_row W rt 0 _ 90 (0, 0) h.head
theorem Rt.ptr1 (h : Rt W B rt rm rq n v L) : W.cell? ⟨rt, 1, none⟩ = some v := cell_of_row W rt 1 _ 90 (0, 0) h.head
theorem Rt.slice (h : Rt W B rt rm rq n v L) : ∃ a cap, v = .slice a L.length cap ∧ (0 < L.length → ∃ g, a = some ⟨g, 0, none⟩ ∧ g < W.heap.size ∧ B ≤ g ∧ ∀ i s, L[i]? = some s → W.cell? ⟨g, i * 3, none⟩ = some (.int .i64 (s.b : Int)) ∧ W.cell? ⟨g, i * 3 + 1, none⟩ = some (.int .i64 (s.k : Int)) ∧ W.cell? ⟨g, i * 3 + 2, none⟩ = some (.int .i64 s.t)) := by
  obtain ⟨a, cap, e, hz⟩ := trips_of_own h.lst
  refine ⟨a, cap, e, fun h0 => ?_⟩
  obtain ⟨g, e2, hc⟩ := hz h0
  have hb := own_base h.lst g (by rw [e, e2]; rfl)
  refine ⟨g, e2, ?_, hb, hc⟩
  obtain ⟨p, _, _⟩ := hc 0 _ (List.getElem?_eq_getElem h0)
  exact block_lt_of_cell p
/-- The cells of the table and of its list stay, whatever a call makes anew. -/
theorem keep3 {g : Nat} {s : Spn} {i : Nat} (hg : g < W.heap.size) (c : Cha S W W') (hs : ¬ S g) (p : W.cell? ⟨g, i * 3, none⟩ = some (.int .i64 (s.b : Int)) ∧ W.cell? ⟨g, i * 3 + 1, none⟩ = some (.int .i64 (s.k : Int)) ∧ W.cell? ⟨g, i * 3 + 2, none⟩ = some (.int .i64 s.t)) :
    W'.cell? ⟨g, i * 3, none⟩ = some (.int .i64 (s.b : Int)) ∧ W'.cell? ⟨g, i * 3 + 1, none⟩ = some (.int .i64 (s.k : Int)) ∧ W'.cell? ⟨g, i * 3 + 2, none⟩ = some (.int .i64 s.t) := by
  have e := c.old g hg hs
  exact ⟨(World.cell?_of_block (a := ⟨g, i * 3, none⟩) e).trans p.1, (World.cell?_of_block (a := ⟨g, i * 3 + 1, none⟩) e).trans p.2.1, (World.cell?_of_block (a := ⟨g, i * 3 + 2, none⟩) e).trans p.2.2⟩
end

theorem rt_new (w w1 : World) (n : Nat) (h : Made 107 w w1 n) : Rt (w1.alloc (.cells #[.pointer (some ⟨w.heap.size + 1, 0, none⟩), .slice none 0 0] 90)) (w.heap.size + 3) (w.heap.size + 2) (w.heap.size + 1) w.heap.size n (.slice none 0 0) [] := by
  have hs := h.size
  have h1 := heap_alloc_new w1 (.cells #[.pointer (some ⟨w.heap.size + 1, 0, none⟩), .slice none 0 0] 90)
  rw [hs] at h1
  exact ⟨Good.nil n, h1, h.pg.same ((Cha.refl _ w1).alloc _), World.ownsRow_nil _ _ _ _, by omega⟩
set_option maxHeartbeats 1000000 in
theorem rnew5_ok (n : Nat) (w : World) (h1 : 1 ≤ n) (h2 : n ≤ 4096) : Calls Tryd.prog 37 #[.int .i64 (n : Int)] w fun e w' => e = .returned (.tuple #[.pointer (some ⟨w.heap.size + 2, 0, none⟩), .int .i64 0]) ∧ Rt w' (w.heap.size + 3) (w.heap.size + 2) (w.heap.size + 1) w.heap.size n (.slice none 0 0) [] ∧ Cha (fun _ => False) w w' ∧ w'.heap.size = w.heap.size + 3 := by
  have A11 := Lib.hid (rnew_ok n w h1 h2)
  go_enter Tryd.func37, Tryd.ntmps37
  go_wp2_with (go_at_call 58; ((with_reducible refine (A11.out).mono ?_); rintro e w1 ⟨rfl, h⟩; have H11 := Lib.hid h; clear h))
  go_ret2
  have hs := H11.out.size
  refine ⟨by simp [hs], rt_new w w1 n H11.out, H11.out.cha.alloc _, ?_⟩
  rw [World.size_alloc]; omega
theorem rnew5_bad (n : Int) (w : World) (h : n < 1 ∨ 4096 < n) : Calls Tryd.prog 37 #[.int .i64 n] w fun e w' => e = .returned (.tuple #[.pointer none, .int .i64 1]) ∧ w = w' := by
  have A11 := Lib.hid (rnew_bad n w h)
  clear h
  go_enter Tryd.func37, Tryd.ntmps37
  go_wp2_with (go_at_call 58; ((with_reducible refine (A11.out).mono ?_); rintro e w1 ⟨rfl, rfl⟩))
  go_ret2
  exact ⟨rfl, rfl⟩

/-! ### Find, plainly -/
theorem atP_hit {n : Nat} {L : List Spn} {s : Spn} {x : Int} (h : Good n L) (hs : s ∈ L) (h1 : (s.b : Int) ≤ x) (h2 : x - s.b < s.k) : atP L n x = (s, true) := by
  have hr := h.rng s hs
  obtain ⟨y, rfl⟩ : ∃ y : Nat, x = (y : Int) := ⟨x.toNat, by omega⟩
  have hi : s.has y = true := has_iff.2 (by omega)
  unfold atP
  rw [Int.toNat_natCast, if_pos ⟨by omega, by omega, uOf_iff.2 ⟨s, hs, hi⟩⟩, h.fOf_yes hs hi]
theorem atP_miss {n : Nat} {L : List Spn} {x : Int} (h : ∀ s ∈ L, ¬ ((s.b : Int) ≤ x ∧ x - s.b < s.k)) : atP L n x = (noS, false) := by
  unfold atP
  rw [if_neg]
  rintro ⟨h1, _, h3⟩
  obtain ⟨s, hs, hi⟩ := uOf_iff.1 h3
  have := has_iff.1 hi
  exact h s hs (by omega)
theorem take_step {L : List Spn} {j : Nat} {s : Spn} (h : L[j]? = some s) : L.take (j + 1) = L.take j ++ [s] := by
  rw [List.take_add_one, h]; rfl

/-- Three cells written, and something made behind it. -/
theorem three_set {W : World} {g : Nat} {p q r : Value} (x y z : Value) (o : Obj) (hb : W.heap[g]? = some (.cells #[p, q, r] 78 (0, 0))) :
    ((((W.setCell ⟨g, 0, none⟩ x).setCell ⟨g, 1, none⟩ y).setCell ⟨g, 2, none⟩ z).alloc o).cell? ⟨g, 0, none⟩ = some x ∧ ((((W.setCell ⟨g, 0, none⟩ x).setCell ⟨g, 1, none⟩ y).setCell ⟨g, 2, none⟩ z).alloc o).cell? ⟨g, 1, none⟩ = some y ∧ ((((W.setCell ⟨g, 0, none⟩ x).setCell ⟨g, 1, none⟩ y).setCell ⟨g, 2, none⟩ z).alloc o).cell? ⟨g, 2, none⟩ = some z := by
  have h1 := heap_setCell_same W g 0 _ 78 x hb
  have h2 := heap_setCell_same _ g 1 _ 78 y h1
  have h3 := heap_setCell_same _ g 2 _ 78 z h2
  have h4 := (heap_alloc_old _ o (Array.getElem?_eq_some_iff.1 h3).1).trans h3
  exact ⟨cell_of_row _ g 0 _ 78 (0, 0) h4, cell_of_row _ g 1 _ 78 (0, 0) h4, cell_of_row _ g 2 _ 78 (0, 0) h4⟩

set_option maxRecDepth 100000 in
set_option maxHeartbeats 4000000 in
theorem rfind_any {w : World} {B rt rm rq n : Nat} {v : Value} {L : List Spn} (x : Int) (hx : x ≤ 9223372036854775807) (h : Rt w B rt rm rq n v L) :
    Calls Tryd.prog 47 #[.pointer (some ⟨rt, 0, none⟩), .int .i64 x] w fun e w' => e = .returned (.tuple #[sv (atP L n x).1, .bool (atP L n x).2]) ∧ Cha (fun _ => False) w w' := by
  have hlen := good_length h.good
  have hl := h.pg.le
  have hlt0 := h.lt
  have H := Lib.hid h
  obtain ⟨a, cap, rfl, hz⟩ := h.slice
  have HZ := Lib.hid hz
  clear hz h
  have HL : Hid (∀ i, i < L.length → ∃ s : Spn, L[i]? = some s) := Lib.hid fun i hi => ⟨L[i], List.getElem?_eq_getElem hi⟩
  obtain ⟨m, hm⟩ : ∃ m, L.length = m := ⟨_, rfl⟩
  rw [hm] at hlen HL HZ
  have HM := Lib.hid hm
  obtain ⟨W0, hW0⟩ : ∃ W0, W0 = w.alloc (.cells #[.int .i64 0, .int .i64 0, .int .i64 0] 78) := ⟨_, rfl⟩
  have HW := Lib.hid hW0
  have hsz0 : w.heap.size < W0.heap.size := by rw [hW0, World.size_alloc]; omega
  have HA : Hid (W0.heap[w.heap.size]? = some (.cells #[.int .i64 0, .int .i64 0, .int .i64 0] 78)) := Lib.hid (by rw [hW0]; exact heap_alloc_new w _)
  have HC : Hid (Cha (fun _ => False) w W0) := Lib.hid (by rw [hW0]; exact (Cha.refl _ w).alloc _)
  go_enter Tryd.func47, Tryd.ntmps47
  go_wp2
  rw [← hW0]
  clear hW0 hm
  go_loopw [6] (fun i wr => ∃ j : Nat, j ≤ m ∧ i = .int .i64 (j : Int) ∧ (∀ s ∈ L.take j, ¬ ((s.b : Int) ≤ x ∧ x - s.b < s.k)) ∧ Cha (fun _ => False) W0 wr) (fun i _ => m - (intOf i).toNat)
  case atStart => exact ⟨0, Nat.zero_le _, rfl, fun s hs => by simp at hs, Cha.refl _ _⟩
  case round =>
    obtain ⟨j, hj, rfl, hno, hc⟩ := hrel
    have hcw := HC.out.trans hc
    have p1 := (H.out.same hcw).ptr1
    rw [HM.out] at p1
    have hb := (hc.old _ hsz0 (fun x => x)).trans HA.out
    have hsz := hc.size
    have NO := Lib.hid hno
    have HCW := Lib.hid hcw
    have HB := Lib.hid hb
    have HCC := Lib.hid hc
    clear hno hcw hb hc
    by_cases hlt : j < m
    · obtain ⟨g, rfl, hg, _, hcl⟩ := HZ.out (by omega)
      obtain ⟨s, hs⟩ := HL.out j hlt
      obtain ⟨q0, q1, q2⟩ := keep3 hg HCW.out (fun x => x) (hcl j s hs)
      have hmem := List.mem_of_getElem? hs
      have hrng := H.out.good.rng s hmem
      have HS := Lib.hid hs
      have HMem := Lib.hid hmem
      clear hcl hs hmem
      have hc2 : Cha (fun _ => False) wr (wr.alloc (.cells #[.int .i64 (s.b : Int), .int .i64 (s.k : Int), .int .i64 s.t] 78)) := (Cha.refl _ _).alloc _
      by_cases hh : (s.b : Int) ≤ x ∧ x - s.b < s.k
      · have ha := atP_hit H.out.good HMem.out hh.1 hh.2
        obtain ⟨h1, h2⟩ := hh
        have z0 := cell_of_row wr w.heap.size 0 _ 78 (0, 0) HB.out
        have z1 := cell_of_row wr w.heap.size 1 _ 78 (0, 0) HB.out
        have z2 := cell_of_row wr w.heap.size 2 _ 78 (0, 0) HB.out
        have f0 := frozen_of_row wr w.heap.size 0 _ 78 HB.out
        have f1 := frozen_of_row wr w.heap.size 1 _ 78 HB.out
        have f2 := frozen_of_row wr w.heap.size 2 _ 78 HB.out
        have hsz2 : w.heap.size < wr.heap.size := by omega
        have HAT := Lib.hid ha
        have HC2 := Lib.hid hc2
        clear ha hc2
        go_wp2
        obtain ⟨y0, y1, y2⟩ := three_set (.int .i64 (s.b : Int)) (.int .i64 (s.k : Int)) (.int .i64 s.t) (.cells #[.int .i64 (s.b : Int), .int .i64 (s.k : Int), .int .i64 s.t] 78) HB.out
        refine bodyPost_ret (v := .tuple #[.agg #[.int .i64 (s.b : Int), .int .i64 (s.k : Int), .int .i64 s.t], .bool true]) (by simp [results, Tryd.f47, go_sem, y0, y1, y2]) rfl ⟨by rw [HAT.out]; rfl, ?_⟩
        exact HC.out.over (T := fun _ => False) (S := fun i => i = w.heap.size) ((HCC.out.wide.over (((((Cha.refl (fun i => i = w.heap.size) wr).setCell (p := ⟨w.heap.size, 0, none⟩) (fun _ => rfl) _).setCell (p := ⟨w.heap.size, 1, none⟩) (fun _ => rfl) _).setCell (p := ⟨w.heap.size, 2, none⟩) (fun _ => rfl) _).alloc _) fun i hi => .inl hi)) fun i hi => .inr (by omega)
      · have hh2 : ¬ ((s.b : Int) ≤ x) ∨ ((s.b : Int) ≤ x ∧ ¬ (x - s.b < s.k)) := by omega
        have NO2 : Hid (∀ r ∈ L.take (j + 1), ¬ ((r.b : Int) ≤ x ∧ x - r.b < r.k)) := Lib.hid fun r hr => by
          rw [take_step HS.out] at hr
          rcases List.mem_append.1 hr with hr | hr
          · exact NO.out r hr
          · obtain rfl : r = s := by simpa using hr
            exact hh
        have HCE : Hid (Cha (fun _ => False) W0 (wr.alloc (.cells #[.int .i64 (s.b : Int), .int .i64 (s.k : Int), .int .i64 s.t] 78))) := Lib.hid (HCC.out.trans hc2)
        clear hh hc2
        rcases hh2 with h1 | ⟨h1, h2⟩
        all_goals
          go_wp2
          go_roundw
          case rel => exact ⟨j + 1, by omega, by go_num, NO2.out, HCE.out⟩
          case measure => simp [intOf]; omega
    · obtain rfl : j = m := by omega
      have ha : atP L n x = (noS, false) := atP_miss fun s hs => NO.out s (by rw [← HM.out, List.take_length]; exact hs)
      have HAT := Lib.hid ha
      have z0 := cell_of_row wr w.heap.size 0 _ 78 (0, 0) HB.out
      have z1 := cell_of_row wr w.heap.size 1 _ 78 (0, 0) HB.out
      have z2 := cell_of_row wr w.heap.size 2 _ 78 (0, 0) HB.out
      have f0 := frozen_of_row wr w.heap.size 0 _ 78 HB.out
      have f1 := frozen_of_row wr w.heap.size 1 _ 78 HB.out
      have f2 := frozen_of_row wr w.heap.size 2 _ 78 HB.out
      clear ha
      go_wp2
      refine bodyPost_ret (v := .tuple #[.agg #[.int .i64 0, .int .i64 0, .int .i64 0], .bool false]) (by simp [results, Tryd.f47, go_sem, z0, z1, z2]) rfl ⟨by rw [HAT.out]; rfl, ?_⟩
      exact HC.out.over (T := fun _ => False) (S := fun i => i = w.heap.size) ((HCC.out.wide.over ((((Cha.refl (fun i => i = w.heap.size) wr).setCell (p := ⟨w.heap.size, 0, none⟩) (fun _ => rfl) _).setCell (p := ⟨w.heap.size, 1, none⟩) (fun _ => rfl) _).setCell (p := ⟨w.heap.size, 2, none⟩) (fun _ => rfl) _) fun i hi => .inl hi)) fun i hi => .inr (by omega)
end Go.Proofs.YtiboobaggpghjaaDoor
