/- The document's Free of layer 5. -/
import Derived.Test.YtiboobaggpghjaaDoorTB
namespace Go.Proofs.YtiboobaggpghjaaDoor
open Go.ChangeShapes Go.WideShapes Go.ChangeAt Go.RowKit

/-- What is found so far: the one of the first j spans that begins at x. -/
def Fnd (L : List Spn) (j : Nat) (x : Int) (F : Spn) (A : List Spn) : Prop := A = (L.take j).filter (fun s => !decide ((s.b : Int) = x)) ∧ ((F = noS ∧ ∀ r ∈ L.take j, (r.b : Int) ≠ x) ∨ (F ∈ L ∧ (F.b : Int) = x))
section
variable {r F : Spn} {L A : List Spn} {j n : Nat} {x : Int}
theorem Fnd.len (h : Fnd L j x F A) : A.length ≤ L.length := by
  have h1 := List.length_take_le' j L
  have h2 := List.length_filter_le (fun s : Spn => !decide ((s.b : Int) = x)) (L.take j)
  rw [h.1]; omega
theorem Fnd.yes (h : Fnd L j x F A) (hr : L[j]? = some r) (e : (r.b : Int) = x) : Fnd L (j + 1) x r A := by
  refine ⟨?_, .inr ⟨List.mem_of_getElem? hr, e⟩⟩
  rw [h.1, take_step hr, List.filter_append, List.filter_cons_of_neg (by simp [e]), List.filter_nil, List.append_nil]
theorem Fnd.no (h : Fnd L j x F A) (hr : L[j]? = some r) (e : (r.b : Int) ≠ x) : Fnd L (j + 1) x F (A ++ [r]) := by
  refine ⟨?_, ?_⟩
  · rw [h.1, take_step hr, List.filter_append, List.filter_cons_of_pos (by simp [e]), List.filter_nil]
  · rcases h.2 with ⟨h1, h2⟩ | h1
    · refine .inl ⟨h1, fun q hq => ?_⟩
      rw [take_step hr] at hq
      rcases List.mem_append.1 hq with hq | hq
      · exact h2 q hq
      · obtain rfl : q = r := by simpa using hq
        exact e
    · exact .inr h1
/-- All looked at: none, or the one. -/
theorem Fnd.fin (h : Fnd L L.length x F A) (hg : Good n L) : (F = noS ∧ begP L n x = (noS, false)) ∨ (F ∈ L ∧ (F.b : Int) = x ∧ A = del F.b L ∧ 1 ≤ F.k) := by
  obtain ⟨h1, h2⟩ := h
  rw [List.take_length] at h1 h2
  rcases h2 with ⟨e, h2⟩ | ⟨h2, h3⟩
  · refine .inl ⟨e, ?_⟩
    unfold begP
    rw [if_neg]
    rintro ⟨c0, _, c2, c3⟩
    have := h2 _ (fOf_mem c2).1
    omega
  · refine .inr ⟨h2, h3, ?_, (hg.rng F h2).1⟩
    rw [h1]
    unfold del
    congr 1
    funext s
    congr 1
    exact decide_eq_decide.2 (by omega)
end
theorem del_fil {n : Nat} {L : List Spn} {s : Spn} (hg : Good n L) (hs : s ∈ L) : fil (uOf L) s.b s.k false = uOf (del s.b L) := by
  funext i; rw [uOf_del hg hs]; rfl
theorem three_put {W : World} {g : Nat} {p q r : Value} (x y z : Value) (hb : W.heap[g]? = some (.cells #[p, q, r] 78 (0, 0))) : (((W.setCell ⟨g, 0, none⟩ x).setCell ⟨g, 1, none⟩ y).setCell ⟨g, 2, none⟩ z).heap[g]? = some (.cells #[x, y, z] 78 (0, 0)) :=
  heap_setCell_same _ g 2 _ 78 z (heap_setCell_same _ g 1 _ 78 y (heap_setCell_same W g 0 _ 78 x hb))

set_option maxRecDepth 100000 in
set_option maxHeartbeats 8000000 in
theorem rfree5_any {w : World} {B rt rm rq n : Nat} {v : Value} {L : List Spn} (x : Int) (h : Rt w B rt rm rq n v L) (hB : B ≤ w.heap.size) :
    Calls Tryd.prog 63 #[.pointer (some ⟨rt, 0, none⟩), .int .i64 x] w fun e w' => ((begP L n x = (noS, false) ∧ e = .returned (.int .i64 4) ∧ Cha (fun _ => False) w w') ∨ (∃ F ∈ L, (F.b : Int) = x ∧ ∃ v', e = .returned (.int .i64 0) ∧ Rt w' w.heap.size rt rm rq n v' (del F.b L) ∧ Cha (fun i => i = rt ∨ i = rq) w w')) := by
  have hlt := h.lt
  have hplt := h.pg.lt
  have hlen := good_length h.good
  have hl := h.pg.le
  have H := Lib.hid h
  have hne := h.ne
  obtain ⟨a, cap, hv, hz⟩ := h.slice
  have HZ := Lib.hid hz
  have HV := Lib.hid hv
  clear h hz hv
  obtain ⟨i0, hi, hz0, hz1, hz2⟩ := info_parts info66
  have HL : Hid (∀ i, i < L.length → ∃ s : Spn, L[i]? = some s) := Lib.hid fun i hi => ⟨L[i], List.getElem?_eq_getElem hi⟩
  obtain ⟨W1, hW1⟩ : ∃ W1, W1 = w.alloc (.cells #[.int .i64 0, .int .i64 0, .int .i64 0] 78) := ⟨_, rfl⟩
  obtain ⟨B1, hB1⟩ : ∃ B1, B1 = W1.heap.size := ⟨_, rfl⟩
  have hs1 : W1.heap.size = w.heap.size + 1 := by rw [hW1, World.size_alloc]
  have HC1 : Hid (Cha (fun _ => False) w W1) := Lib.hid (by rw [hW1]; exact (Cha.refl _ w).alloc _)
  have HFB : Hid (W1.heap[w.heap.size]? = some (.cells #[.int .i64 ((noS.b : Nat) : Int), .int .i64 ((noS.k : Nat) : Int), .int .i64 noS.t] 78 (0, 0))) := Lib.hid (by rw [hW1]; exact heap_alloc_new w _)
  obtain ⟨m, hm⟩ : ∃ m, m = L.length := ⟨_, rfl⟩
  rw [← hm] at hlen HL HZ HV
  have HMm := Lib.hid hm
  have KP : Hid (∀ W', Cha (fun i => i = w.heap.size) W1 W' → W'.cell? ⟨rt, 1, none⟩ = some (.slice a m cap)) := Lib.hid fun W' hc => by
    have := cell_of_row W' rt 1 _ 90 (0, 0) ((hc.old rt (by omega) (by omega)).trans ((HC1.out.old rt hlt (fun x => x)).trans H.out.head))
    rw [HV.out] at this; exact this
  clear hm
  go_enter Tryd.func63, Tryd.ntmps63
  go_wp2
  rw [← hW1]
  clear hW1
  go_loopw [5, 7] (fun nv i wr => ∃ (q : Value) (j : Nat) (F : Spn) (A : List Spn), q = nv ∧ j ≤ m ∧ i = .int .i64 (j : Int) ∧ Fnd L j x F A ∧ wr.ownsRow B1 78 3 q A.length (scs A) ∧ wr.heap[w.heap.size]? = some (.cells #[.int .i64 (F.b : Int), .int .i64 (F.k : Int), .int .i64 F.t] 78 (0, 0)) ∧ Cha (fun i => i = w.heap.size) W1 wr) (fun _ i _ => m - (intOf i).toNat)
  case atStart => exact ⟨_, 0, noS, [], rfl, Nat.zero_le _, rfl, ⟨by simp, .inl ⟨rfl, fun r hr => by simp at hr⟩⟩, World.ownsRow_nil _ _ _ _, HFB.out, Cha.refl _ _⟩
  case round =>
    obtain ⟨nv, j, F, A, rfl, hj, rfl, hF, hR, hb, hc⟩ := hrel
    have hla := hF.len
    rw [← HMm.out] at hla
    have hsz2 := hc.size
    have p1 := KP.out _ hc
    have HF := Lib.hid hF
    have HR := Lib.hid hR
    have HB := Lib.hid hb
    have HCC := Lib.hid hc
    clear hF hR hb hc
    by_cases hlt2 : j < m
    · obtain ⟨g, rfl, hgl, hgB, hcl⟩ := HZ.out (by omega)
      obtain ⟨r, hr⟩ := HL.out j hlt2
      obtain ⟨q0, q1, q2⟩ := keep3 hgl (HC1.out.wide.trans HCC.out) (by omega) (hcl j r hr)
      have HRr := Lib.hid hr
      have hrng := H.out.good.rng r (List.mem_of_getElem? hr)
      clear hcl hr
      by_cases hh : (r.b : Int) = x
      · have hfl : w.heap.size < wr.heap.size := by omega
        have z0 := cell_of_row wr w.heap.size 0 _ 78 (0, 0) HB.out
        have z1 := cell_of_row wr w.heap.size 1 _ 78 (0, 0) HB.out
        have z2 := cell_of_row wr w.heap.size 2 _ 78 (0, 0) HB.out
        have f0 := frozen_of_row wr w.heap.size 0 _ 78 HB.out
        have f1 := frozen_of_row wr w.heap.size 1 _ 78 HB.out
        have f2 := frozen_of_row wr w.heap.size 2 _ 78 HB.out
        have HX := Lib.hid hh
        subst hh
        go_wp2
        go_roundw
        case rel => exact ⟨_, j + 1, r, _, rfl, by omega, by go_num, HF.out.yes HRr.out rfl, owns_cha HR.out (cha3 wr w.heap.size _ _ _) (by intro i hi; omega), three_put _ _ _ HB.out, HCC.out.trans (cha3 wr w.heap.size _ _ _)⟩
        case measure => simp [intOf]; omega
      · go_wp2_with (at_builtin; refine wpList_append_own _ rfl _ _ 88 rfl B1 78 i0 (.agg #[.int .i64 0, .int .i64 0, .int .i64 0]) 3 24 Tryd.underlying88 hi hz0 hz1 hz2 rfl (by decide) _ _ _ rfl (HR.out.alloc _) ⟨wr.heap.size, 0, none⟩ 1 1 [.int .i64 (r.b : Int), .int .i64 (r.k : Int), .int .i64 r.t] rfl rfl (three_new _ _ _ _ _) (three_cell _ _ _) (by unfold maxLen; omega) (by omega) (by rw [World.size_alloc]; omega) ?_; intro v' w6 hown' hgrow hnil; clear hnil; have HR6 := Lib.hid hown'; have HG6 := Lib.hid (((Cha.refl (fun i => B1 ≤ i) wr).alloc (.cells #[.int .i64 (r.b : Int), .int .i64 (r.k : Int), .int .i64 r.t] 78)).trans (Cha.of_grownBy (S := fun i => B1 ≤ i) hgrow (own_base HR.out))); have hsw6 := HG6.out.size; clear hown' hgrow)
        go_roundw
        case rel => exact ⟨_, j + 1, F, _, rfl, by omega, by go_num, HF.out.no HRr.out hh, by rw [scs_snoc, List.length_append]; exact HR6.out, (HG6.out.old w.heap.size (by omega) (by omega)).trans HB.out, HCC.out.over HG6.out (fun i hi => .inr (by omega))⟩
        case measure => simp [intOf]; omega
    · obtain rfl : j = m := by omega
      have hfl : w.heap.size < wr.heap.size := by omega
      have z1 := cell_of_row wr w.heap.size 1 _ 78 (0, 0) HB.out
      have HCW : Hid (Cha (fun _ => False) w wr) := Lib.hid (HC1.out.over HCC.out fun i hi => .inr (by omega))
      have hfin := Fnd.fin (L := L) (x := x) (F := F) (A := A) (by rw [← HMm.out]; exact HF.out) H.out.good
      rcases hfin with ⟨rfl, hbg⟩ | ⟨hFL, hFx, hA, hFk⟩
      · have HBG := Lib.hid hbg
        clear hbg
        unfold noS at z1
        go_wp2
        go_ret
        exact .inl ⟨HBG.out, rfl, HCW.out⟩
      · subst hA
        have hFr := H.out.good.rng F hFL
        have hd := (HCW.out.old rt hlt (fun x => x)).trans H.out.head
        have r1 := cell_of_row wr rt 1 _ 90 (0, 0) hd
        have rf := frozen_of_row wr rt 1 _ 90 hd
        have HDd := Lib.hid hd
        have HFL := Lib.hid hFL
        have hnv : ∃ a' c', nv = .slice a' (del F.b L).length c' := by
          rcases HR.out.2 with ⟨e, e0⟩ | ⟨g, cap, _, e, _⟩
          · exact ⟨none, 0, by rw [e, e0]⟩
          · exact ⟨_, _, e⟩
        obtain ⟨a', c', rfl⟩ := hnv
        obtain ⟨Ws, hWs⟩ : ∃ Ws, Ws = wr.setCell ⟨rt, 1, none⟩ (.slice a' (del F.b L).length c') := ⟨_, rfl⟩
        have cs : Cha (fun i => i = rt) wr Ws := by rw [hWs]; exact (Cha.refl (fun i => i = rt) wr).setCell (p := ⟨rt, 1, none⟩) (fun _ => rfl) _
        have HEAD : Hid (Ws.heap[rt]? = some (.cells #[.pointer (some ⟨rm, 0, none⟩), .slice a' (del F.b L).length c'] 90 (0, 0))) := Lib.hid (by rw [hWs]; exact heap_setCell_same wr rt 1 _ 90 _ HDd.out)
        have OWN : Hid (Ws.ownsRow B1 78 3 (.slice a' (del F.b L).length c') (del F.b L).length (scs (del F.b L))) := Lib.hid (owns_cha HR.out cs (by intro i hi; omega))
        have PG : Hid (Pg 107 Ws rm rq n (uOf L)) := Lib.hid ((H.out.pg.same HCW.out).cha cs (by omega) (by omega))
        have CW : Hid (Cha (fun i => i = rt ∨ i = rq) w Ws) := Lib.hid (HCW.out.wide.trans (cs.mono fun _ _ e => .inl e))
        have FB1 : Hid (Ws.heap[w.heap.size]? = some (.cells #[.int .i64 (F.b : Int), .int .i64 (F.k : Int), .int .i64 F.t] 78 (0, 0))) := Lib.hid ((cs.old w.heap.size hfl (by omega)).trans HB.out)
        have hszs := cs.size
        have ch : Chn n (uOf L) (F.b : Int) (F.k : Int) false 0 (fil (uOf L) F.b F.k false) := .ok _ _ rfl rfl hFr.1 hFr.2 fun i hi => uOf_iff.2 ⟨F, HFL.out, has_iff.2 (by omega)⟩
        rw [del_fil H.out.good HFL.out] at ch
        have FR : Hid (∀ W, Pg 107 W rm rq n (uOf L) → Calls Tryd.prog 74 #[.pointer (some ⟨rm, 0, none⟩), .int .i64 (F.b : Int), .int .i64 (F.k : Int), .bool false] W fun e w' => e = .returned (.int .i64 0) ∧ Pg 107 w' rm rq n (uOf (del F.b L)) ∧ Cha (· = rq) W w') := Lib.hid fun W h => turn_any ch (by omega) h
        have HGD := Lib.hid (H.out.good.del F.b)
        subst hFx
        clear cs ch HF HR HB HCC HDd
        go_wp2
        rw [← hWs]
        clear hWs
        have KY : Hid (∀ W', Cha (· = rq) Ws.drew W' → W'.cell? ⟨rt, 0, none⟩ = some (.pointer (some ⟨rm, 0, none⟩)) ∧ W'.cell? ⟨w.heap.size, 1, none⟩ = some (.int .i64 (F.k : Int))) := Lib.hid fun W' hc' =>
          have hc : Cha (· = rq) Ws W' := ((Cha.refl _ Ws).drew).trans hc'
          ⟨cell_of_row W' rt 0 _ 90 (0, 0) ((hc.old _ (by omega) (by omega)).trans HEAD.out), cell_of_row W' w.heap.size 1 _ 78 (0, 0) ((hc.old _ (by omega) (by omega)).trans FB1.out)⟩
        obtain ⟨k1, k2⟩ := KY.out Ws.drew (Cha.refl _ _)
        have H3 := Lib.hid (PG.out.same ((Cha.refl _ Ws).drew))
        go_region_held3 (fun w' => w'.cell? ⟨rt, 0, none⟩ = some (.pointer (some ⟨rm, 0, none⟩)) ∧ w'.cell? ⟨w.heap.size, 1, none⟩ = some (.int .i64 (F.k : Int)))
          (first
            | go_keep
            | exact ⟨k1, k2⟩
            | exact KY.out _ (by assumption))
          ((go_at_call 74; refine (FR.out Ws.drew H3.out).mono ?_; rintro e5 w5 ⟨rfl, hH, hD⟩))
        all_goals
          have HH := Lib.hid hH
          have hDD : Cha (· = rq) Ws w5 := ((Cha.refl _ Ws).drew).trans hD
          have HDD := Lib.hid hDD
          clear hH hD hDD
          go_wp2
          go_ret
          refine .inr ⟨F, HFL.out, rfl, .slice a' (del F.b L).length c', rfl, ?_, ?_⟩
          · have hR : Rt w5 B1 rt rm rq n (.slice a' (del F.b L).length c') (del F.b L) := ⟨HGD.out, (HDD.out.old rt (by omega) (by omega)).trans HEAD.out, HH.out, owns_cha OWN.out HDD.out (by intro i hi; omega), by omega⟩
            exact hR.weak (by omega) (by omega)
          · exact CW.out.trans (HDD.out.mono fun _ _ e => .inr e)
end Go.Proofs.YtiboobaggpghjaaDoor
