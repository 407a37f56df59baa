/- The document's Alloc of layer 5. -/
import Derived.Test.YtiboobaggpghjaaDoorTA
namespace Go.Proofs.YtiboobaggpghjaaDoor
open Go.ChangeShapes Go.WideShapes Go.ChangeAt Go.RowKit

theorem ins_end {s : Spn} : ∀ {L : List Spn}, (∀ r ∈ L, r.b ≤ s.b) → ins s L = L ++ [s]
  | [], _ => rfl
  | r :: L, h => by
    unfold ins
    rw [if_neg (by have := h r (List.mem_cons_self ..); omega), ins_end fun x hx => h x (List.mem_cons_of_mem _ hx)]; rfl
theorem ins_length (s : Spn) : ∀ L : List Spn, (ins s L).length = L.length + 1
  | [] => rfl
  | r :: L => by
    unfold ins
    split
    · rfl
    · rw [List.length_cons, ins_length s L]; rfl
theorem ins_any {s x : Spn} : ∀ {L : List Spn}, (∃ r ∈ L, s.b < r.b) → ins s (L ++ [x]) = ins s L ++ [x]
  | [], h => by obtain ⟨r, hr, _⟩ := h; cases hr
  | r :: L, h => by
    show ins s (r :: (L ++ [x])) = _
    unfold ins
    split
    · rfl
    · rename_i c
      rw [ins_any (L := L) (by
        obtain ⟨q, hq, hlt⟩ := h
        rcases List.mem_cons.1 hq with rfl | hq
        · exact absurd hlt c
        · exact ⟨q, hq, hlt⟩)]; rfl
theorem ins_new {s x : Spn} (hx : s.b < x.b) : ∀ {L : List Spn}, (∀ r ∈ L, r.b ≤ s.b) → ins s (L ++ [x]) = L ++ [s] ++ [x]
  | [], _ => by show ins s [x] = _; unfold ins; rw [if_pos hx]; rfl
  | r :: L, h => by
    show ins s (r :: (L ++ [x])) = _
    unfold ins
    rw [if_neg (by have := h r (List.mem_cons_self ..); omega), ins_new hx fun q hq => h q (List.mem_cons_of_mem _ hq)]; rfl
/-- The list so far. -/
def Acc (s : Spn) (L : List Spn) (j : Nat) (D : Bool) (A : List Spn) : Prop := (D = true ∧ (∃ r ∈ L.take j, s.b < r.b) ∧ A = ins s (L.take j)) ∨ (D = false ∧ (∀ r ∈ L.take j, r.b ≤ s.b) ∧ A = L.take j)
section
variable {s r : Spn} {L A : List Spn} {j : Nat} {D : Bool}
theorem Acc.len (h : Acc s L j D A) : A.length ≤ L.length + 1 := by
  have h1 := List.length_take_le j L
  have h2 := List.length_take_le' j L
  rcases h with ⟨_, _, rfl⟩ | ⟨_, _, rfl⟩
  · rw [ins_length]; omega
  · omega
theorem Acc.yes (h : Acc s L j true A) (hr : L[j]? = some r) : Acc s L (j + 1) true (A ++ [r]) := by
  rcases h with ⟨_, h1, rfl⟩ | ⟨c, _⟩
  · refine .inl ⟨rfl, ?_, ?_⟩
    · obtain ⟨q, hq, hl⟩ := h1
      exact ⟨q, by rw [take_step hr]; exact List.mem_append_left _ hq, hl⟩
    · rw [take_step hr, ins_any h1]
  · cases c
theorem Acc.new (h : Acc s L j false A) (hr : L[j]? = some r) (hb : s.b < r.b) : Acc s L (j + 1) true (A ++ [s] ++ [r]) := by
  rcases h with ⟨c, _⟩ | ⟨_, h1, rfl⟩
  · cases c
  · exact .inl ⟨rfl, ⟨r, by rw [take_step hr]; exact List.mem_append_right _ (List.mem_singleton.2 rfl), hb⟩, by rw [take_step hr, ins_new hb h1]⟩
theorem Acc.no (h : Acc s L j false A) (hr : L[j]? = some r) (hb : ¬ s.b < r.b) : Acc s L (j + 1) false (A ++ [r]) := by
  rcases h with ⟨c, _⟩ | ⟨_, h1, rfl⟩
  · cases c
  · refine .inr ⟨rfl, fun q hq => ?_, (take_step hr).symm⟩
    rw [take_step hr] at hq
    rcases List.mem_append.1 hq with hq | hq
    · exact h1 q hq
    · obtain rfl : q = r := by simpa using hq
      omega
theorem Acc.end1 (h : Acc s L L.length true A) : A = ins s L := by
  rcases h with ⟨_, _, rfl⟩ | ⟨c, _⟩
  · rw [List.take_length]
  · cases c
theorem Acc.end2 (h : Acc s L L.length false A) : A ++ [s] = ins s L := by
  rcases h with ⟨c, _⟩ | ⟨_, h1, rfl⟩
  · cases c
  · rw [List.take_length] at h1 ⊢
    exact (ins_end h1).symm
end
/-- The list is put in its place. -/
theorem rt_put {W : World} {B1 rt rm rq n : Nat} {v v' : Value} {L : List Spn} (hg : Good n L) (hd : W.heap[rt]? = some (.cells #[.pointer (some ⟨rm, 0, none⟩), v] 90 (0, 0))) (hp : Pg 107 W rm rq n (uOf L)) (hl : W.ownsRow B1 78 3 v' L.length (scs L)) (hne : rt ≠ rm ∧ rt ≠ rq ∧ rt < B1 ∧ rm < B1 ∧ rq < B1) :
    Rt (W.setCell ⟨rt, 1, none⟩ v') B1 rt rm rq n v' L := by
  have c : Cha (fun i => i = rt) W (W.setCell ⟨rt, 1, none⟩ v') := (Cha.refl (fun i => i = rt) W).setCell (p := ⟨rt, 1, none⟩) (fun _ => rfl) _
  exact ⟨hg, heap_setCell_same W rt 1 _ 90 v' hd, hp.cha c (by omega) (by omega), owns_cha hl c (by intro i hi; omega), hne⟩
theorem Rt.weak {W : World} {B B1 rt rm rq n : Nat} {v : Value} {L : List Spn} (h : Rt W B1 rt rm rq n v L) (hB : B ≤ B1) (hne : rt < B ∧ rm < B ∧ rq < B) : Rt W B rt rm rq n v L := by
  have hn := h.ne
  refine ⟨h.good, h.head, h.pg, ⟨h.lst.1, ?_⟩, by omega⟩
  rcases h.lst.2 with e | ⟨g, cap, cur, e, hb, e2⟩
  · exact .inl e
  · exact .inr ⟨g, cap, cur, e, by omega, e2⟩
theorem ins_fil (L : List Spn) (b k : Nat) (tag : Int) : fil (uOf L) b k true = uOf (ins ⟨b, k, tag⟩ L) := by
  funext i; rw [uOf_ins]; rfl
/-- Three cells of a block written. -/
theorem cha3 (W : World) (g : Nat) (x y z : Value) : Cha (fun i => i = g) W (((W.setCell ⟨g, 0, none⟩ x).setCell ⟨g, 1, none⟩ y).setCell ⟨g, 2, none⟩ z) :=
  (((Cha.refl (fun i => i = g) W).setCell (p := ⟨g, 0, none⟩) (fun _ => rfl) _).setCell (p := ⟨g, 1, none⟩) (fun _ => rfl) _).setCell (p := ⟨g, 2, none⟩) (fun _ => rfl) _

set_option maxRecDepth 100000 in
set_option maxHeartbeats 4000000 in
theorem ralloc5_no {w : World} {B rt rm rq n : Nat} {v : Value} {L : List Spn} {k r : Int} (tag : Int) (hk2 : k ≤ 9223372036854775807) (hr : r = 1 ∨ r = 3) (c : Alc n (uOf L) k 0 r (uOf L)) (h : Rt w B rt rm rq n v L) (_hB : B ≤ w.heap.size) :
    Calls Tryd.prog 73 #[.pointer (some ⟨rt, 0, none⟩), .int .i64 k, .int .i64 tag] w fun e w' => e = .returned (.tuple #[sv noS, .int .i64 r]) ∧ Rt w' B rt rm rq n v L ∧ Cha (fun i => i = rt ∨ i = rq) w w' := by
  have hc0 : Cha (fun _ => False) w (w.alloc (.cells #[.int .i64 0, .int .i64 0, .int .i64 0] 78)) := (Cha.refl _ w).alloc _
  have hp := h.ptr0
  have hlt := h.lt
  have hplt := h.pg.lt
  have C := Lib.hid (ralloc_any k (h.pg.same hc0) hk2 c)
  have H := Lib.hid h
  have HC := Lib.hid hc0
  have HA : Hid ((w.alloc (.cells #[.int .i64 0, .int .i64 0, .int .i64 0] 78)).heap[w.heap.size]? = some (.cells #[.int .i64 0, .int .i64 0, .int .i64 0] 78)) := Lib.hid (heap_alloc_new w _)
  have hne := h.ne
  clear h hc0 c
  rcases hr with rfl | rfl
  all_goals
    go_enter Tryd.func73, Tryd.ntmps73
    go_wp2_with (go_at_call 80; ((with_reducible refine (C.out).mono ?_); rintro e w1 ⟨rfl, hm, hc⟩; have HD := Lib.hid ((HC.out.wide (S := (· = rq))).trans hc); have HB := Lib.hid ((hc.old _ (by rw [World.size_alloc]; omega) (by omega)).trans HA.out); have HM := Lib.hid hm; have hsz := hc.size; have z0 := cell_of_row w1 w.heap.size 0 _ 78 (0, 0) HB.out; have z1 := cell_of_row w1 w.heap.size 1 _ 78 (0, 0) HB.out; have z2 := cell_of_row w1 w.heap.size 2 _ 78 (0, 0) HB.out; have f0 := frozen_of_row w1 w.heap.size 0 _ 78 HB.out; have f1 := frozen_of_row w1 w.heap.size 1 _ 78 HB.out; have f2 := frozen_of_row w1 w.heap.size 2 _ 78 HB.out; rw [World.size_alloc] at hsz; have hlt1 : w.heap.size < w1.heap.size := (by omega); clear hc hm))
    have hcc : Cha (fun i => i = w.heap.size) w1 (((w1.setCell ⟨w.heap.size, 0, none⟩ (.int .i64 0)).setCell ⟨w.heap.size, 1, none⟩ (.int .i64 0)).setCell ⟨w.heap.size, 2, none⟩ (.int .i64 0)) :=
      (((Cha.refl (fun i => i = w.heap.size) w1).setCell (p := ⟨w.heap.size, 0, none⟩) (fun _ => rfl) _).setCell (p := ⟨w.heap.size, 1, none⟩) (fun _ => rfl) _).setCell (p := ⟨w.heap.size, 2, none⟩) (fun _ => rfl) _
    refine bodyPost_ret (v := .tuple #[.agg #[.int .i64 0, .int .i64 0, .int .i64 0], .int .i64 _]) (by simp [results, Tryd.f73, go_sem, z0, z1, z2]) rfl ⟨rfl, ?_, ?_⟩
    · have hE := HD.out.over hcc fun i hi => .inr (by omega)
      exact ⟨H.out.good, (hE.old _ hlt (by omega)).trans H.out.head, HM.out.cha hcc (by omega) (by omega), owns_cha H.out.lst hE (by intro i hi; omega), hne⟩
    · exact (HD.out.over hcc fun i hi => .inr (by omega)).mono fun _ _ e => .inr e

set_option maxRecDepth 100000 in
set_option maxHeartbeats 8000000 in
theorem ralloc5_ok {w : World} {B rt rm rq n : Nat} {v : Value} {L : List Spn} {b k : Nat} (tag : Int) (hk2 : (k : Int) ≤ 9223372036854775807) (c : Alc n (uOf L) (k : Int) (b : Int) 0 (fil (uOf L) b k true)) (hg : Good n (ins ⟨b, k, tag⟩ L)) (h : Rt w B rt rm rq n v L) (hB : B ≤ w.heap.size) :
    Calls Tryd.prog 73 #[.pointer (some ⟨rt, 0, none⟩), .int .i64 (k : Int), .int .i64 tag] w fun e w' => ∃ v', e = .returned (.tuple #[sv ⟨b, k, tag⟩, .int .i64 0]) ∧ Rt w' w.heap.size rt rm rq n v' (ins ⟨b, k, tag⟩ L) ∧ Cha (fun i => i = rt ∨ i = rq) w w' := by
  have hc0 : Cha (fun _ => False) w (w.alloc (.cells #[.int .i64 0, .int .i64 0, .int .i64 0] 78)) := (Cha.refl _ w).alloc _
  have hp := h.ptr0
  have hlt := h.lt
  have hplt := h.pg.lt
  have hlen := good_length h.good
  have hl := h.pg.le
  have C := Lib.hid (ralloc_any k (h.pg.same hc0) hk2 c)
  have H := Lib.hid h
  have HC := Lib.hid hc0
  have HG := Lib.hid hg
  have HA : Hid ((w.alloc (.cells #[.int .i64 0, .int .i64 0, .int .i64 0] 78)).heap[w.heap.size]? = some (.cells #[.int .i64 0, .int .i64 0, .int .i64 0] 78)) := Lib.hid (heap_alloc_new w _)
  have hne := h.ne
  obtain ⟨a, cap, hv, hz⟩ := h.slice
  have HZ := Lib.hid hz
  have HV := Lib.hid hv
  clear h hc0 c hg hz hv
  obtain ⟨i0, hi, hz0, hz1, hz2⟩ := info_parts info66
  have HL : Hid (∀ i, i < L.length → ∃ s : Spn, L[i]? = some s) := Lib.hid fun i hi => ⟨L[i], List.getElem?_eq_getElem hi⟩
  go_enter Tryd.func73, Tryd.ntmps73
  go_wp2_with (go_at_call 80; ((with_reducible refine (C.out).mono ?_); rintro e w1 ⟨rfl, hm, hc⟩; have HD := Lib.hid ((HC.out.wide (S := (· = rq))).trans hc); have HB := Lib.hid ((hc.old _ (by rw [World.size_alloc]; omega) (by omega)).trans HA.out); have HM := Lib.hid hm; have hsz := hc.size; rw [World.size_alloc] at hsz; have hlt1 : w.heap.size < w1.heap.size := (by omega); clear hc hm))
  obtain ⟨W1, hW1⟩ : ∃ W1, W1 = w1.alloc (.cells #[.int .i64 (b : Int), .int .i64 (k : Int), .int .i64 tag] 78) := ⟨_, rfl⟩
  obtain ⟨B1, hB1⟩ : ∃ B1, B1 = W1.heap.size := ⟨_, rfl⟩
  have hs1 : W1.heap.size = w1.heap.size + 1 := by rw [hW1, World.size_alloc]
  have c1 : Cha (fun _ => False) w1 W1 := by rw [hW1]; exact (Cha.refl _ w1).alloc _
  have HFB : Hid (W1.heap[w.heap.size]? = some (.cells #[.int .i64 0, .int .i64 0, .int .i64 0] 78)) := Lib.hid ((c1.old _ hlt1 (fun x => x)).trans HB.out)
  have HSB : Hid (W1.heap[w1.heap.size]? = some (.cells #[.int .i64 (b : Int), .int .i64 (k : Int), .int .i64 tag] 78)) := Lib.hid (by rw [hW1]; exact heap_alloc_new w1 _)
  have HD1 : Hid (Cha (· = rq) w W1) := Lib.hid (HD.out.trans c1.wide)
  have HRT : Hid (W1.heap[rt]? = some (.cells #[.pointer (some ⟨rm, 0, none⟩), v] 90 (0, 0))) := Lib.hid ((HD1.out.old _ hlt (by omega)).trans H.out.head)
  have HPG : Hid (Pg 107 W1 rm rq n (fil (uOf L) b k true)) := Lib.hid (HM.out.same c1)
  rw [← hW1]
  clear c1 HC HA HB HM HD C hW1
  generalize w1.heap.size = sb at *
  obtain ⟨m, hm⟩ : ∃ m, m = L.length := ⟨_, rfl⟩
  rw [← hm] at hlen HL HZ HV
  have HMm := Lib.hid hm
  have KP : Hid (∀ W', Cha (fun _ => False) W1 W' → W'.cell? ⟨rt, 1, none⟩ = some (.slice a m cap)) := Lib.hid fun W' hc => by
    have := cell_of_row W' rt 1 _ 90 (0, 0) ((hc.old rt (by omega) (fun x => x)).trans HRT.out)
    rw [HV.out] at this; exact this
  have KB : Hid (∀ W', Cha (fun _ => False) W1 W' → W'.cell? ⟨sb, 0, none⟩ = some (.int .i64 (b : Int)) ∧ W'.cell? ⟨sb, 1, none⟩ = some (.int .i64 (k : Int)) ∧ W'.cell? ⟨sb, 2, none⟩ = some (.int .i64 tag)) := Lib.hid fun W' hc => by
    have := (hc.old sb (by omega) (fun x => x)).trans HSB.out
    exact ⟨cell_of_row W' sb 0 _ 78 (0, 0) this, cell_of_row W' sb 1 _ 78 (0, 0) this, cell_of_row W' sb 2 _ 78 (0, 0) this⟩
  clear hm hp
  go_loopw [11, 12, 13] (fun nv d i wr => ∃ (q : Value) (j : Nat) (D : Bool) (A : List Spn), q = nv ∧ j ≤ m ∧ i = .int .i64 (j : Int) ∧ d = .bool D ∧ Acc ⟨b, k, tag⟩ L j D A ∧ wr.ownsRow B1 78 3 q A.length (scs A) ∧ Cha (fun _ => False) W1 wr) (fun _ _ i _ => m - (intOf i).toNat)
  case atStart => exact ⟨_, 0, false, [], rfl, Nat.zero_le _, rfl, rfl, .inr ⟨rfl, fun r hr => by simp at hr, by simp⟩, World.ownsRow_nil _ _ _ _, Cha.refl _ _⟩
  case round =>
    obtain ⟨nv, j, D, A, rfl, hj, rfl, rfl, hA, hR, hc⟩ := hrel
    have hla := hA.len
    rw [← HMm.out] at hla
    have hsz2 := hc.size
    have p1 := KP.out _ hc
    obtain ⟨b0, b1, b2⟩ := KB.out _ hc
    have HAc := Lib.hid hA
    have HR := Lib.hid hR
    have HCC := Lib.hid hc
    clear hA hR hc
    by_cases hlt2 : j < m
    · obtain ⟨g, rfl, hgl, hgB, hcl⟩ := HZ.out (by omega)
      obtain ⟨r, hr⟩ := HL.out j hlt2
      have hr3 := hcl j r hr
      have KQ : Hid (∀ W', Cha (fun _ => False) W1 W' → W'.cell? ⟨g, j * 3, none⟩ = some (.int .i64 (r.b : Int)) ∧ W'.cell? ⟨g, j * 3 + 1, none⟩ = some (.int .i64 (r.k : Int)) ∧ W'.cell? ⟨g, j * 3 + 2, none⟩ = some (.int .i64 r.t)) := Lib.hid fun W' hc => keep3 hgl (HD1.out.trans hc.wide) (by omega) hr3
      obtain ⟨q0, q1, q2⟩ := KQ.out _ HCC.out
      have HRr := Lib.hid hr
      have hrng := H.out.good.rng r (List.mem_of_getElem? hr)
      clear hcl hr3 hr
      cases D
      · by_cases hh : b < r.b
        · go_wp2_with (first
            | (at_builtin; refine wpList_append_own _ rfl _ _ 88 rfl B1 78 i0 (.agg #[.int .i64 0, .int .i64 0, .int .i64 0]) 3 24 Tryd.underlying88 hi hz0 hz1 hz2 rfl (by decide) _ _ _ rfl (HR.out.alloc _) ⟨wr.heap.size, 0, none⟩ 1 1 [.int .i64 (b : Int), .int .i64 (k : Int), .int .i64 tag] rfl rfl (three_new _ _ _ _ _) (three_cell _ _ _) (by unfold maxLen; omega) (by omega) (by rw [World.size_alloc]; omega) ?_; intro v' w6 hown' hgrow hnil; clear hnil; have HR6 := Lib.hid hown'; have HG6 := Lib.hid (((Cha.refl (fun i => B1 ≤ i) wr).alloc (.cells #[.int .i64 (b : Int), .int .i64 (k : Int), .int .i64 tag] 78)).trans (Cha.of_grownBy (S := fun i => B1 ≤ i) hgrow (own_base HR.out))); have hsw6 := HG6.out.size; obtain ⟨q0, q1, q2⟩ := KQ.out _ (HCC.out.over HG6.out (fun i hi => .inr (by omega))); obtain ⟨b0, b1, b2⟩ := KB.out _ (HCC.out.over HG6.out (fun i hi => .inr (by omega))); have p1 := KP.out _ (HCC.out.over HG6.out (fun i hi => .inr (by omega))); clear hown' hgrow)
            | (at_builtin; refine wpList_append_own _ rfl _ _ 88 rfl B1 78 i0 (.agg #[.int .i64 0, .int .i64 0, .int .i64 0]) 3 24 Tryd.underlying88 hi hz0 hz1 hz2 rfl (by decide) _ _ _ rfl (HR6.out.alloc _) ⟨w6.heap.size, 0, none⟩ 1 1 [.int .i64 (r.b : Int), .int .i64 (r.k : Int), .int .i64 r.t] rfl rfl (three_new _ _ _ _ _) (three_cell _ _ _) (by unfold maxLen; omega) (by omega) (by rw [World.size_alloc]; omega) ?_; intro v' w7 hown' hgrow hnil; clear hnil; have HR7 := Lib.hid hown'; have HG7 := Lib.hid (((Cha.refl (fun i => B1 ≤ i) w6).alloc (.cells #[.int .i64 (r.b : Int), .int .i64 (r.k : Int), .int .i64 r.t] 78)).trans (Cha.of_grownBy (S := fun i => B1 ≤ i) hgrow (own_base HR6.out))); have hsw7 := HG7.out.size; clear hown' hgrow))
          go_roundw
          case rel => exact ⟨_, j + 1, true, _, rfl, by omega, by go_num, rfl, HAc.out.new HRr.out hh, by rw [scs_snoc, scs_snoc, List.length_append, List.length_append]; exact HR7.out, (HCC.out.over HG6.out (fun i hi => .inr (by omega))).over HG7.out (fun i hi => .inr (by omega))⟩
          case measure => simp [intOf]; omega
        · go_wp2_with (at_builtin; refine wpList_append_own _ rfl _ _ 88 rfl B1 78 i0 (.agg #[.int .i64 0, .int .i64 0, .int .i64 0]) 3 24 Tryd.underlying88 hi hz0 hz1 hz2 rfl (by decide) _ _ _ rfl (HR.out.alloc _) ⟨wr.heap.size, 0, none⟩ 1 1 [.int .i64 (r.b : Int), .int .i64 (r.k : Int), .int .i64 r.t] rfl rfl (three_new _ _ _ _ _) (three_cell _ _ _) (by unfold maxLen; omega) (by omega) (by rw [World.size_alloc]; omega) ?_; intro v' w6 hown' hgrow hnil; clear hnil; have HR6 := Lib.hid hown'; have HG6 := Lib.hid (((Cha.refl (fun i => B1 ≤ i) wr).alloc (.cells #[.int .i64 (r.b : Int), .int .i64 (r.k : Int), .int .i64 r.t] 78)).trans (Cha.of_grownBy (S := fun i => B1 ≤ i) hgrow (own_base HR.out))); have hsw6 := HG6.out.size; clear hown' hgrow)
          go_roundw
          case rel => exact ⟨_, j + 1, false, _, rfl, by omega, by go_num, rfl, HAc.out.no HRr.out hh, by rw [scs_snoc, List.length_append]; exact HR6.out, HCC.out.over HG6.out (fun i hi => .inr (by omega))⟩
          case measure => simp [intOf]; omega
      · go_wp2_with (at_builtin; refine wpList_append_own _ rfl _ _ 88 rfl B1 78 i0 (.agg #[.int .i64 0, .int .i64 0, .int .i64 0]) 3 24 Tryd.underlying88 hi hz0 hz1 hz2 rfl (by decide) _ _ _ rfl (HR.out.alloc _) ⟨wr.heap.size, 0, none⟩ 1 1 [.int .i64 (r.b : Int), .int .i64 (r.k : Int), .int .i64 r.t] rfl rfl (three_new _ _ _ _ _) (three_cell _ _ _) (by unfold maxLen; omega) (by omega) (by rw [World.size_alloc]; omega) ?_; intro v' w6 hown' hgrow hnil; clear hnil; have HR6 := Lib.hid hown'; have HG6 := Lib.hid (((Cha.refl (fun i => B1 ≤ i) wr).alloc (.cells #[.int .i64 (r.b : Int), .int .i64 (r.k : Int), .int .i64 r.t] 78)).trans (Cha.of_grownBy (S := fun i => B1 ≤ i) hgrow (own_base HR.out))); have hsw6 := HG6.out.size; clear hown' hgrow)
        go_roundw
        case rel => exact ⟨_, j + 1, true, _, rfl, by omega, by go_num, rfl, HAc.out.yes HRr.out, by rw [scs_snoc, List.length_append]; exact HR6.out, HCC.out.over HG6.out (fun i hi => .inr (by omega))⟩
        case measure => simp [intOf]; omega
    · obtain rfl : j = m := by omega
      have KF : Hid (∀ W', Cha (fun _ => False) W1 W' → W'.cell? ⟨rt, 1, none⟩ = some v ∧ W'.frozen? ⟨rt, 1, none⟩ = false ∧ W'.cell? ⟨w.heap.size, 0, none⟩ = some (.int .i64 0) ∧ W'.cell? ⟨w.heap.size, 1, none⟩ = some (.int .i64 0) ∧ W'.cell? ⟨w.heap.size, 2, none⟩ = some (.int .i64 0) ∧ W'.frozen? ⟨w.heap.size, 0, none⟩ = false ∧ W'.frozen? ⟨w.heap.size, 1, none⟩ = false ∧ W'.frozen? ⟨w.heap.size, 2, none⟩ = false) := Lib.hid fun W' hc => by
        have hd := (hc.old rt (by omega) (fun x => x)).trans HRT.out
        have hfb := (hc.old w.heap.size (by omega) (fun x => x)).trans HFB.out
        exact ⟨cell_of_row W' rt 1 _ 90 (0, 0) hd, frozen_of_row W' rt 1 _ 90 hd, cell_of_row W' w.heap.size 0 _ 78 (0, 0) hfb, cell_of_row W' w.heap.size 1 _ 78 (0, 0) hfb, cell_of_row W' w.heap.size 2 _ 78 (0, 0) hfb, frozen_of_row W' w.heap.size 0 _ 78 hfb, frozen_of_row W' w.heap.size 1 _ 78 hfb, frozen_of_row W' w.heap.size 2 _ 78 hfb⟩
      cases D
      · have hE : A ++ [⟨b, k, tag⟩] = ins ⟨b, k, tag⟩ L := Acc.end2 (by rw [← HMm.out]; exact HAc.out)
        have HE := Lib.hid hE
        clear hE
        go_wp2_with (at_builtin; refine wpList_append_own _ rfl _ _ 88 rfl B1 78 i0 (.agg #[.int .i64 0, .int .i64 0, .int .i64 0]) 3 24 Tryd.underlying88 hi hz0 hz1 hz2 rfl (by decide) _ _ _ rfl (HR.out.alloc _) ⟨wr.heap.size, 0, none⟩ 1 1 [.int .i64 (b : Int), .int .i64 (k : Int), .int .i64 tag] rfl rfl (three_new _ _ _ _ _) (three_cell _ _ _) (by unfold maxLen; omega) (by omega) (by rw [World.size_alloc]; omega) ?_; intro v' w6 hown' hgrow hnil; clear hnil; have HR6 := Lib.hid hown'; have HG6 := Lib.hid (((Cha.refl (fun i => B1 ≤ i) wr).alloc (.cells #[.int .i64 (b : Int), .int .i64 (k : Int), .int .i64 tag] 78)).trans (Cha.of_grownBy (S := fun i => B1 ≤ i) hgrow (own_base HR.out))); have hsw6 := HG6.out.size; obtain ⟨g', cap', rfl⟩ := ownsRow_succ hown'; have hcw := HCC.out.over HG6.out (fun i hi => .inr (by omega)); obtain ⟨c0, c1, c2⟩ := KB.out _ hcw; obtain ⟨r1, rf, z0, z1, z2, f0, f1, f2⟩ := KF.out _ hcw; have HCF := Lib.hid hcw; clear hcw; clear hown' hgrow)
        have hsF := HCF.out.size
        have HDd := Lib.hid ((HCF.out.old rt (by omega) (fun x => x)).trans HRT.out)
        have HRF : Hid (w6.ownsRow B1 78 3 (.slice (some ⟨g', 0, none⟩) (A.length + 1) cap') (ins ⟨b, k, tag⟩ L).length (scs (ins ⟨b, k, tag⟩ L))) := Lib.hid (by rw [← HE.out, scs_snoc, List.length_append]; exact HR6.out)
        refine bodyPost_ret (v := .tuple #[.agg #[.int .i64 (b : Int), .int .i64 (k : Int), .int .i64 tag], .int .i64 0]) (by simp [results, Tryd.f73, go_sem, z0, z1, z2]) rfl ⟨.slice (some ⟨g', 0, none⟩) (A.length + 1) cap', rfl, ?_, ?_⟩
        · have hP := HPG.out.same HCF.out
          rw [ins_fil L b k tag] at hP
          exact ((rt_put (v' := _) HG.out HDd.out hP HRF.out (by omega)).cha (cha3 _ w.heap.size _ _ _) (by omega) (by omega) (by omega) (by intro i hi; omega)).weak (by omega) (by omega)
        · have k1 : Cha (fun i => i = rt ∨ i = rq) w w6 := (HD1.out.mono fun _ _ e => .inr e).trans HCF.out.wide
          exact (k1.trans (((Cha.refl (fun i => i = rt) w6).setCell (p := ⟨rt, 1, none⟩) (fun _ => rfl) _).mono fun _ _ e => .inl e)).over (cha3 _ w.heap.size _ _ _) fun i hi => .inr (by omega)
      · have hE : A = ins ⟨b, k, tag⟩ L := Acc.end1 (by rw [← HMm.out]; exact HAc.out)
        have HRF : Hid (wr.ownsRow B1 78 3 nv (ins ⟨b, k, tag⟩ L).length (scs (ins ⟨b, k, tag⟩ L))) := Lib.hid (by rw [← hE]; exact HR.out)
        have HCF := HCC
        have hR2 := HRF.out
        rw [ins_length] at hR2
        obtain ⟨g', cap', rfl⟩ := ownsRow_succ hR2
        clear hR2
        obtain ⟨r1, rf, z0, z1, z2, f0, f1, f2⟩ := KF.out _ HCF.out
        clear hE
        go_wp2
        have hsF := HCF.out.size
        have HDd := Lib.hid ((HCF.out.old rt (by omega) (fun x => x)).trans HRT.out)
        refine bodyPost_ret (v := .tuple #[.agg #[.int .i64 (b : Int), .int .i64 (k : Int), .int .i64 tag], .int .i64 0]) (by simp [results, Tryd.f73, go_sem, z0, z1, z2]) rfl ⟨.slice (some ⟨g', 0, none⟩) (L.length + 1) cap', rfl, ?_, ?_⟩
        · have hP := HPG.out.same HCF.out
          rw [ins_fil L b k tag] at hP
          exact ((rt_put (v' := _) HG.out HDd.out hP HRF.out (by omega)).cha (cha3 _ w.heap.size _ _ _) (by omega) (by omega) (by omega) (by intro i hi; omega)).weak (by omega) (by omega)
        · have k1 : Cha (fun i => i = rt ∨ i = rq) w wr := (HD1.out.mono fun _ _ e => .inr e).trans HCF.out.wide
          exact (k1.trans (((Cha.refl (fun i => i = rt) wr).setCell (p := ⟨rt, 1, none⟩) (fun _ => rfl) _).mono fun _ _ e => .inl e)).over (cha3 _ w.heap.size _ _ _) fun i hi => .inr (by omega)
end Go.Proofs.YtiboobaggpghjaaDoor
