/- Timers: append of any list to a list; slices.Grow of nil; slices.Concat of two lists. -/
import Derived.Test.YtaloafihbdamiaaGreatTO
import Derived.Lib.AppendZeros
import Derived.Deep.Upon
import Derived.Shelf.SlSortCmp.WholeK
import Derived.Shelf.SlSortCmp.NoneTotal
namespace Go.Proofs.YtaloafihbdamiaaGreat
open Go.ChangeShapes Go.WideShapes Go.ChangeAt Go.RowKit
variable {w w' : World} {v u v1 v2 : Value} {E N L1 L2 : List Ent} {n : Nat}

theorem run_eapp_any (ty : TypeId) (h : Ents w v E) (k : Ents w u N) (b2 : (E.length + N.length) * 24 ≤ 140737488355328) :
    ∃ v' w', (Builtin.append_ #[106, 106] ty #[v, u]).run Tryz.prog w = .ok v' w' ∧ EApp w w' v (E ++ N) v' := by
  by_cases h0 : N.length = 0
  · have hN : N = [] := List.eq_nil_of_length_eq_zero h0
    subst hN
    obtain ⟨s, c, rfl⟩ := k.form
    obtain ⟨s2, c2, rfl⟩ := h.form
    have hc2 : E.length ≤ c2 := by
      rcases h.2 with ⟨e, e0⟩ | ⟨g, cap, cur, e, _, _, q1, _⟩
      · omega
      · injection e with e1 e2 e3
        omega
    obtain ⟨i0, hi, hz0, hz1, hz2⟩ := info_parts info90
    refine ⟨.slice s2 E.length c2, w, ?_, ?_⟩
    · refine run_append_nothing w 106 106 ty 113 i0 Tryz.underlying106 hi s2 E.length c2 hc2 _ ?_
      cases s with
      | none => exact Src.ofNil w Tryz.underlying106 c
      | some a => exact ⟨.inl ⟨113, Tryz.underlying106⟩, fun _ => rfl, run_firstCells_some w _ 0 a 0 c [] (by simp) (fun j v hj => by cases hj), run_firstCells_some w.drew _ 0 a 0 c [] (by simp) (fun j v hj => by cases hj), by simp, fun u hu => by cases hu⟩
    · rw [List.append_nil]
      exact ⟨h, Cha.refl _ _, fun g hg => .inl hg⟩
  · rcases k.2 with ⟨_, e0⟩ | ⟨g, cap, cur, rfl, r⟩
    · exact absurd e0 h0
    · obtain ⟨cap', g', w', hr, hA⟩ := run_eapp ty h ⟨g, 0, none⟩ cap (World.ownsRow.cells k rfl) b2 (by omega)
      exact ⟨_, w', hr, hA⟩
/-- What a call that makes a list leaves. -/
structure EMade (w w' : World) (v : Value) (E : List Ent) : Prop where
  ents : Ents w' v E
  cha : Cha (fun _ => False) w w'
  own : ∀ g, v.ownBlock = some g → w.heap.size ≤ g
theorem EMade.app {w2 : World} {v' : Value} (h : EMade w w' v E) (k : EApp w' w2 v N v') : EMade w w2 v' N :=
  ⟨k.ents, h.cha.over k.cha fun i hi => .inr (h.own i hi), fun g hg => (k.at' g hg).elim (h.own g) (Nat.le_trans h.cha.size)⟩
theorem grow_none (w : World) : Calls Tryz.prog 89 #[.slice none 0 0, .int .i64 0] w fun e w' => e = .returned (.slice none 0 0) ∧ w = w' := by
  go_enter Tryz.func89, Tryz.ntmps89
  go_wp2
  go_ret
  exact ⟨rfl, rfl⟩
theorem grow_some (w : World) (h0 : 0 < n) (hn : n ≤ 4096) : Calls Tryz.prog 89 #[.slice none 0 0, .int .i64 (n : Int)] w fun e w' => ∃ g c, e = .returned (.slice (some ⟨g, 0, none⟩) 0 c) ∧ EMade w w' (.slice (some ⟨g, 0, none⟩) 0 c) [] := by
  obtain ⟨i0, hi0, hz0, hzs, hzb⟩ := info_parts info90
  obtain ⟨G, hG⟩ : ∃ G, G = grownCap w n 0 113 := ⟨_, rfl⟩
  have hGn : n ≤ G := by rw [hG]; exact grownCap_ge w _ _ _
  have hGm : G ≤ maxLen := by rw [hG]; exact grownCap_le_maxLen w n 0 113 (by unfold maxLen; omega)
  have hG63 : G ≤ 9223372036854775807 := by unfold maxLen at hGm; omega
  obtain ⟨R, hR⟩ : ∃ R, R = (Builtin.zeroCells zero90.cells n ++ Builtin.zeroCells zero90.cells (G - n)) := ⟨_, rfl⟩
  have hrz : ∀ ty, (Builtin.append_ #[106, 3] ty #[.slice none 0 0, .int .i64 (n : Int)]).run Tryz.prog w = .ok (.slice (some ⟨w.heap.size, 0, none⟩) n G) (w.drew.alloc (.cells R 113)) := fun ty => by
    have h := Lib.run_append_nil_zeros w 106 3 ty 113 i0 _ .i64 .i64 Tryz.underlying106 Tryz.underlying3 hi0 hz0 n h0 (by omega) (by omega) (by rw [hzb]; omega)
    rw [← hG] at h
    rw [hR]
    exact h
  have hs : R.size = G * 3 := by
    rw [hR, Array.size_append, ← Array.length_toList, ← Array.length_toList, zero_len, zero_len]; omega
  have FIN : Hid (EMade w (w.drew.alloc (.cells R 113)) (.slice (some ⟨w.heap.size, 0, none⟩) 0 G) []) := Lib.hid
    ⟨⟨rfl, .inr ⟨w.heap.size, G, R, rfl, Nat.zero_le _, heap_alloc_new w.drew _, Nat.zero_le _, hGm, hs, by simp [ecs]⟩⟩, ((Cha.refl _ w).drew).alloc _, fun g hg => by cases hg; exact Nat.le_refl _⟩
  have k1 : ¬ ((n : Int) < 0) := by omega
  have k2 : (0 : Int) < (n : Int) := by omega
  have k3 : IntKind.i64.wrap (n : Int) = (n : Int) := IntWalk.i64_in _ (by omega)
  clear hR hs hG hGm
  go_enter Tryz.func89, Tryz.ntmps89
  go_wp2_with (at_builtin; refine Lib.wpList_append_run _ rfl _ _ _ _ rfl _ _ rfl rfl _ _ (hrz _) ?_)
  go_ret
  exact ⟨_, _, rfl, FIN.out⟩
theorem grow_any (w : World) (hn : n ≤ 4096) : Calls Tryz.prog 89 #[.slice none 0 0, .int .i64 (n : Int)] w fun e w' => ∃ v, e = .returned v ∧ EMade w w' v [] := by
  by_cases h0 : n = 0
  · subst h0
    exact (grow_none w).mono fun e w' ⟨a, b⟩ => ⟨_, a, b ▸ ⟨⟨rfl, .inl ⟨rfl, rfl⟩⟩, Cha.refl _ _, fun g hg => by cases hg⟩⟩
  · exact (grow_some w (by omega) hn).mono fun e w' ⟨g, c, a, b⟩ => ⟨_, a, b⟩
/-- The first j of two lists, one behind the other. -/
def joinTo (L1 L2 : List Ent) (j : Nat) : List Ent := if j = 0 then [] else if j = 1 then L1 else L1 ++ L2
theorem EMade.keep {w2 : World} (h : EMade w w' v E) (c : Cha (fun _ => False) w' w2) : EMade w w2 v E := ⟨h.ents.cha c (fun _ _ f => f), h.cha.trans c, h.own⟩
set_option maxHeartbeats 1000000 in
theorem concat_any (gs : Nat) (h1 : Ents w v1 L1) (h2 : Ents w v2 L2) (hg : w.heap[gs]? = some (.cells #[v1, v2] 106 (0, 0))) (hl : L1.length + L2.length ≤ 4096) :
    Calls Tryz.prog 77 #[.slice (some ⟨gs, 0, none⟩) 2 2] w fun e w' => ∃ v, e = .returned v ∧ EMade w w' v (L1 ++ L2) := by
  obtain ⟨s1, c1, rfl⟩ := h1.form
  obtain ⟨s2, c2, rfl⟩ := h2.form
  have HG : Hid (∀ W, Cha (fun _ => False) w W → W.cell? ⟨gs, 0, none⟩ = some (.slice s1 L1.length c1) ∧ W.cell? ⟨gs, 1, none⟩ = some (.slice s2 L2.length c2)) := Lib.hid fun W c => by
    have e := (c.old gs (Array.getElem?_eq_some_iff.1 hg).1 (fun f => f)).trans hg
    exact ⟨cell_of_row W gs 0 _ 106 (0, 0) e, cell_of_row W gs 1 _ 106 (0, 0) e⟩
  have H1 := Lib.hid h1
  have H2 := Lib.hid h2
  have HL := Lib.hid hl
  obtain ⟨n1, hn1⟩ : ∃ n, n = L1.length := ⟨_, rfl⟩
  obtain ⟨n2, hn2⟩ : ∃ n, n = L2.length := ⟨_, rfl⟩
  rw [← hn1] at HG H1 HL
  rw [← hn2] at HG H2 HL
  have HN1 := Lib.hid hn1
  have HN2 := Lib.hid hn2
  clear h1 h2 hg hl hn1 hn2
  obtain ⟨g0, g1⟩ := HG.out w (Cha.refl _ _)
  go_enter Tryz.func77, Tryz.ntmps77
  go_wp2
  go_loopw [3, 11] (fun m i wr => ∃ j k : Nat, j ≤ 2 ∧ i = .int .i64 (j : Int) ∧ m = .int .i64 (k : Int) ∧ (j = 0 → k = 0) ∧ (j = 1 → k = n1) ∧ (j = 2 → k = n1 + n2) ∧ w = wr) (fun _ i _ => 2 - (intOf i).toNat)
  case atStart => exact ⟨0, 0, by omega, rfl, rfl, fun _ => rfl, by omega, by omega, rfl⟩
  case round =>
    obtain ⟨j, k, hj, rfl, rfl, e0, e1, e2, rfl⟩ := hrel
    by_cases hj0 : j = 0
    · obtain rfl := hj0
      obtain rfl := e0 rfl
      have hb := HL.out
      have k1 : ¬ ((n1 : Int) < 0) := by omega
      have k2 : IntKind.i64.wrap (n1 : Int) = (n1 : Int) := IntWalk.i64_in _ (by omega)
      clear e0 e1 e2
      go_wp2
      go_roundw
      case rel => exact ⟨1, n1, by omega, rfl, by go_num, by omega, by omega, by omega, by first | rfl | trivial⟩
      case measure => simp [intOf]
    · by_cases hj1 : j = 1
      · obtain rfl := hj1
        obtain rfl := e1 rfl
        have hb := HL.out
        have k1 : ¬ ((k : Int) + (n2 : Int) < 0) := by omega
        have k2 : IntKind.i64.wrap ((k : Int) + (n2 : Int)) = (k : Int) + (n2 : Int) := IntWalk.i64_in _ (by omega)
        clear e0 e1 e2
        go_wp2
        go_roundw
        case rel => exact ⟨2, k + n2, by omega, rfl, by go_num, by omega, by omega, by omega, by first | rfl | trivial⟩
        case measure => simp [intOf]
      · obtain rfl : j = 2 := by omega
        have hk := e2 rfl
        have HK := Lib.hid hk
        clear hk
        have C := Lib.hid (grow_any (n := k) w (by have := HL.out; have := HK.out; omega))
        clear e0 e1 e2
        go_wp2_with (go_at_call 89; ((with_reducible refine (C.out).mono ?_); rintro e w1 ⟨v, rfl, h⟩; have HM := Lib.hid h; clear h))
        clear g0 g1
        go_loopw [6, 27] (fun m i wr => ∃ j : Nat, j ≤ 2 ∧ i = .int .i64 (j : Int) ∧ EMade w wr m (joinTo L1 L2 j)) (fun _ i _ => 2 - (intOf i).toNat)
        case atStart => exact ⟨0, by omega, rfl, HM.out⟩
        case round =>
          clear HM
          obtain ⟨j, hj, rfl, hM2⟩ := hrel
          have HM2 := Lib.hid hM2
          clear hM2
          by_cases hj0 : j = 0
          · obtain rfl := hj0
            have hM := HM2.out
            obtain ⟨sv, cv, rfl⟩ := hM.ents.form
            have hu := (H1.out.cha hM.cha (fun _ _ f => f))
            obtain ⟨v3, w3, hr, hA⟩ := run_eapp_any 106 hM.ents hu (by have := HL.out; have := HN1.out; have := HN2.out; show (0 + L1.length) * 24 ≤ _; omega)
            have HF := Lib.hid (hM.app hA)
            obtain ⟨g0, g1⟩ := HG.out wr hM.cha
            clear hM hu hA HM2
            go_wp2_with (at_builtin; refine Lib.wpList_append_run _ rfl _ _ _ _ rfl _ _ rfl rfl _ _ hr ?_)
            go_roundw
            case rel => exact ⟨1, by omega, rfl, HF.out⟩
            case measure => simp [intOf]
          · by_cases hj1 : j = 1
            · obtain rfl := hj1
              have hM := HM2.out
              obtain ⟨sv, cv, rfl⟩ := hM.ents.form
              have hu := (H2.out.cha hM.cha (fun _ _ f => f))
              obtain ⟨v3, w3, hr, hA⟩ := run_eapp_any 106 hM.ents hu (by have := HL.out; have := HN1.out; have := HN2.out; show (L1.length + L2.length) * 24 ≤ _; omega)
              have HF := Lib.hid (hM.app hA)
              obtain ⟨g0, g1⟩ := HG.out wr hM.cha
              clear hM hu hA HM2
              go_wp2_with (at_builtin; refine Lib.wpList_append_run _ rfl _ _ _ _ rfl _ _ rfl rfl _ _ hr ?_)
              go_roundw
              case rel => exact ⟨2, by omega, rfl, HF.out⟩
              case measure => simp [intOf]
            · obtain rfl : j = 2 := by omega
              go_wp2
              go_ret
              exact ⟨_, rfl, HM2.out⟩
end Go.Proofs.YtaloafihbdamiaaGreat

namespace Go.Proofs.YtaloafihbdamiaaGreat
open Go.ChangeShapes Go.WideShapes Go.ChangeAt Go.RowKit
variable {w w' w2 : World} {F F' : Nat → Prop} {bt bp p q : Nat} {lv : Nat → Value} {P : List (List Ent)} {a : Int} {L L1 L2 M : List Ent} {v v' : Value}

theorem setCell_comm {W : World} {b i j : Nat} {cs : Array Value} {t : TypeId} (h : W.heap[b]? = some (.cells cs t (0, 0))) (hij : i ≠ j) (x y : Value) :
    (W.setCell ⟨b, i, none⟩ x).setCell ⟨b, j, none⟩ y = (W.setCell ⟨b, j, none⟩ y).setCell ⟨b, i, none⟩ x := by
  have e : ((W.setCell ⟨b, i, none⟩ x).setCell ⟨b, j, none⟩ y).heap = ((W.setCell ⟨b, j, none⟩ y).setCell ⟨b, i, none⟩ x).heap := by
    apply Array.ext_getElem?
    intro k
    by_cases hk : k = b
    · subst hk
      rw [heap_setCell_same _ k j _ t y (heap_setCell_same W k i cs t x h), heap_setCell_same _ k i _ t x (heap_setCell_same W k j cs t y h)]
      congr 2
      apply Array.ext_getElem?
      intro m
      simp only [Array.getElem?_setIfInBounds, Array.size_setIfInBounds]
      by_cases e1 : i = m
      · subst e1
        rw [if_neg (Ne.symm hij), if_pos rfl, if_pos rfl]
      · rw [if_neg e1, if_neg e1]
    · rw [heap_setCell_other _ _ _ _ hk, heap_setCell_other _ _ _ _ hk, heap_setCell_other _ _ _ _ hk, heap_setCell_other _ _ _ _ hk]
  show ({ W with heap := _ } : World) = { W with heap := _ }
  congr 1
/-- What the sort must do. -/
def SortC : Prop := ∀ (w : World) (v : Value) (E : List Ent), Ents w v E → E.length ≤ 4096 →
  Calls Tryz.prog 78 #[v, .func (.func 66) #[] #[]] w fun e w' => e = .returned (.tuple #[]) ∧ ∃ M, M.Perm E ∧ M.Pairwise (fun x y => ¬ y.lt x) ∧ Ents w' v M ∧ Cha (fun i => v.ownBlock = some i) w w'
/-- A processor's list goes, another's is a new one. -/
theorem Ts.move (h : Ts w F bt bp lv P a) (hp : p < P.length) (hq : q < P.length) (hne : p ≠ q) (k : EMade w w2 v M) :
    TLeft w ((w2.setCell ⟨bp, p, none⟩ (.slice none 0 0)).setCell ⟨bp, q, none⟩ v) F bt bp ((P.set p []).set q M) a := by
  have k1 : EApp w w2 (lv q) M v := ⟨k.ents, k.cha.wide, fun g hg => .inr (k.own g hg)⟩
  obtain ⟨F', lv', T, c, m1, m2⟩ := h.put hq k1
  have hp2 : p < (P.set q M).length := by rw [List.length_set]; exact hp
  have k2 : EApp (w2.setCell ⟨bp, q, none⟩ v) (w2.setCell ⟨bp, q, none⟩ v) (lv' p) [] (.slice none 0 0) := ⟨⟨rfl, .inl ⟨rfl, rfl⟩⟩, Cha.refl _ _, fun g hg => by cases hg⟩
  obtain ⟨F2, lv2, T2, c2, n1, n2⟩ := T.put hp2 k2
  have hrow : FRow 106 w2 bp P.length lv := k.cha.row h.tab (fun f => f)
  rw [setCell_comm hrow hne, List.set_comm _ _ hne]
  refine ⟨F2, lv2, T2, c.over c2 m2, fun i hi => n1 i (m1 i hi), fun i hi => ?_⟩
  rcases n2 i hi with e | e
  · exact m2 i e
  · exact .inr (Nat.le_trans c.size e)
theorem tmove_none (p q : Int) (w : World) : Calls Tryz.prog 56 #[.pointer none, .int .i64 p, .int .i64 q] w fun e w' => e = .returned (.int .i64 5) ∧ w = w' := by
  go_enter Tryz.func56, Tryz.ntmps56
  go_wp2
  go_ret
  exact ⟨rfl, rfl⟩
theorem tmove_bad1 (p q : Int) (h : Ts w F bt bp lv P a) (hp : p < 0 ∨ (P.length : Int) ≤ p) :
    Calls Tryz.prog 56 #[.pointer (some ⟨bt, 0, none⟩), .int .i64 p, .int .i64 q] w fun e w' => e = .returned (.int .i64 1) ∧ w = w' := by
  have C := Lib.hid (tisproc_no p h hp)
  clear h hp
  go_enter Tryz.func56, Tryz.ntmps56
  go_wp2_with (go_at_call 64; ((with_reducible refine (C.out).mono ?_); rintro e w1 ⟨rfl, rfl⟩))
  go_ret
  exact ⟨rfl, rfl⟩
theorem tmove_self (p : Nat) (h : Ts w F bt bp lv P a) (hp : p < P.length) :
    Calls Tryz.prog 56 #[.pointer (some ⟨bt, 0, none⟩), .int .i64 (p : Int), .int .i64 (p : Int)] w fun e w' => e = .returned (.int .i64 0) ∧ w = w' := by
  have C := Lib.hid (tisproc_yes p h hp)
  clear h hp
  go_enter Tryz.func56, Tryz.ntmps56
  go_wp2_with (go_at_call 64; ((with_reducible refine (C.out).mono ?_); rintro e w1 ⟨rfl, rfl⟩))
  go_ret
  exact ⟨rfl, rfl⟩
set_option maxRecDepth 100000 in
set_option linter.unusedSimpArgs false in
set_option maxHeartbeats 4000000 in
theorem tmove_ok (hs : SortC) (p q : Nat) (h : Ts w F bt bp lv P a) (hp : P[p]? = some L1) (hq : P[q]? = some L2) (hne : p ≠ q) (hl : L1.length + L2.length ≤ 4096) :
    Calls Tryz.prog 56 #[.pointer (some ⟨bt, 0, none⟩), .int .i64 (p : Int), .int .i64 (q : Int)] w fun e w' => e = .returned (.int .i64 0) ∧ ∃ M, M.Perm (L1 ++ L2) ∧ M.Pairwise (fun x y => ¬ y.lt x) ∧ TLeft w w' F bt bp ((P.set p []).set q M) a := by
  have hpl := (List.getElem?_eq_some_iff.1 hp).1
  have hql := (List.getElem?_eq_some_iff.1 hq).1
  have Cp := Lib.hid (tisproc_yes p h hpl)
  have Cq := Lib.hid (tisproc_yes q h hql)
  obtain ⟨s1, c1, e1⟩ := (h.lst p _ hp).form
  obtain ⟨s2, c2, e2⟩ := (h.lst q _ hq).form
  have HT := Lib.hid h
  have KS : Hid (∀ W, Cha (fun _ => False) w W → W.cell? ⟨bt, 0, none⟩ = some (.slice (some ⟨bp, 0, none⟩) P.length P.length) ∧ W.cell? ⟨bp, p, none⟩ = some (.slice s1 L1.length c1) ∧ W.cell? ⟨bp, q, none⟩ = some (.slice s2 L2.length c2)) := Lib.hid fun W c => by
    have T := HT.out.same c
    exact ⟨T.ptr, (T.tab.cell hpl).trans (by rw [e1]), (T.tab.cell hql).trans (by rw [e2])⟩
  have CC : Hid (∀ W, Cha (fun _ => False) w W → Calls Tryz.prog 77 #[.slice (some ⟨W.heap.size, 0, none⟩) 2 2] (W.alloc (.cells #[.slice s1 L1.length c1, .slice s2 L2.length c2] 106)) fun e w' => ∃ s n c, e = .returned (.slice s n c) ∧ EMade w w' (.slice s n c) (L1 ++ L2)) := Lib.hid fun W c => by
    have T := HT.out.same (c.alloc (.cells #[.slice s1 L1.length c1, .slice s2 L2.length c2] 106))
    have l1 := T.lst p _ hp
    have l2 := T.lst q _ hq
    rw [e1] at l1
    rw [e2] at l2
    refine (concat_any W.heap.size l1 l2 (heap_alloc_new W _) hl).mono fun e w' ⟨v, q1, k⟩ => ?_
    obtain ⟨s, c', rfl⟩ := k.ents.form
    exact ⟨_, _, _, q1, k.ents, ((c.alloc _).trans k.cha), fun g hg => Nat.le_trans (c.alloc _).size (k.own g hg)⟩
  have SS : Hid (∀ (W : World) (s : Option Addr) (n c : Nat), EMade w W (.slice s n c) (L1 ++ L2) → Calls Tryz.prog 78 #[.slice s n c, .func (.func 66) #[] #[]] W fun e w' => e = .returned (.tuple #[]) ∧ ∃ M, M.Perm (L1 ++ L2) ∧ M.Pairwise (fun x y => ¬ y.lt x) ∧ EMade w w' (.slice s n c) M) := Lib.hid fun W s n c k =>
    (hs W _ _ k.ents (by rw [List.length_append]; exact hl)).mono fun e w' ⟨q1, M, m1, m2, m3, m4⟩ => ⟨q1, M, m1, m2, m3, k.cha.over m4 fun i hi => .inr (k.own i hi), k.own⟩
  obtain ⟨x0, x1, x2⟩ := KS.out _ ((Cha.refl _ w).drew)
  have y := KS.out (w.alloc (.cells #[.slice s1 L1.length c1, .slice s2 L2.length c2] 106)).drew (((Cha.refl _ w).alloc _).drew)
  have k1 : ¬ ((p : Int) = (q : Int)) := by omega
  have k2 : (p : Int) < (P.length : Int) := by omega
  have k3 : (q : Int) < (P.length : Int) := by omega
  have CX : Hid (Calls Tryz.prog 77 #[.slice (some ⟨w.heap.size, 0, none⟩) 2 2] (w.alloc (.cells #[.slice s1 L1.length c1, .slice s2 L2.length c2] 106)).drew fun e w' => ∃ s n c, e = .returned (.slice s n c) ∧ EMade w w' (.slice s n c) (L1 ++ L2)) := Lib.hid (CC.out _ ((Cha.refl _ w).drew))
  clear h hp hq e1 e2
  go_enter Tryz.func56, Tryz.ntmps56
  go_wp2_with (first
    | (go_at_call 64; ((with_reducible refine (Cp.out).mono ?_); rintro e w1 ⟨rfl, rfl⟩))
    | (go_at_call 64; ((with_reducible refine (Cq.out).mono ?_); rintro e w1 ⟨rfl, rfl⟩)))
  go_region_held3 (fun w' => w'.cell? ⟨bt, 0, none⟩ = some (.slice (some ⟨bp, 0, none⟩) P.length P.length) ∧ w'.cell? ⟨bp, p, none⟩ = some (.slice s1 L1.length c1) ∧ w'.cell? ⟨bp, q, none⟩ = some (.slice s2 L2.length c2))
    (first
      | go_keep
      | exact ⟨x0, x1, x2⟩
      | exact KS.out _ (by assumption)
      | exact y
      | exact KS.out _ (((Cha.refl _ w).drew).alloc _))
    ((go_at_call 77; refine (CX.out).mono ?_; rintro e5 w5 ⟨s5, n5, c5, rfl, hE⟩; have hc5 := hE.cha))
  all_goals
    have HE := Lib.hid hE
    clear hE hc5
    go_wp2_with (go_at_call 78; ((with_reducible refine (SS.out _ _ _ _ HE.out).mono ?_); rintro e w6 ⟨rfl, M, m1, m2, hM⟩; have HM := Lib.hid hM; have HP1 := Lib.hid m1; have HP2 := Lib.hid m2; clear hM m1 m2))
    have FIN := Lib.hid (HT.out.move hpl hql hne HM.out)
    have FIND : Hid (TLeft w ((w6.drew.setCell ⟨bp, p, none⟩ (.slice none 0 0)).setCell ⟨bp, q, none⟩ (.slice s5 n5 c5)) F bt bp ((P.set p []).set q M) a) := Lib.hid (HT.out.move hpl hql hne ⟨HM.out.ents, HM.out.cha.drew, HM.out.own⟩)
    obtain ⟨y0, y1, y2⟩ := KS.out w6.drew HM.out.cha.drew
    have hrow : FRow 106 w6 bp P.length lv := HM.out.cha.row HT.out.tab (fun f => f)
    have z1 : w6.drew.frozen? ⟨bp, p, none⟩ = false := hrow.free p
    have z2 : w6.drew.frozen? ⟨bp, q, none⟩ = false := hrow.free q
    have hbt : bt ≠ bp := HT.out.ne
    have r1 : Hid (∀ u, (w6.drew.setCell ⟨bp, p, none⟩ u).cell? ⟨bt, 0, none⟩ = some (.slice (some ⟨bp, 0, none⟩) P.length P.length)) := Lib.hid fun u => (World.cell?_setCell_other w6.drew _ _ _ (by intro e; cases e; exact hbt rfl)).trans y0
    have r2 : Hid (∀ u x, ((w6.drew.setCell ⟨bp, p, none⟩ u).setCell ⟨bp, q, none⟩ x).cell? ⟨bt, 0, none⟩ = some (.slice (some ⟨bp, 0, none⟩) P.length P.length)) := Lib.hid fun u x => (World.cell?_setCell_other _ _ _ _ (by intro e; cases e; exact hbt rfl)).trans (r1.out u)
    have r3 : ∀ u, (w6.drew.setCell ⟨bp, p, none⟩ u).cell? ⟨bp, q, none⟩ = some (.slice s2 L2.length c2) := fun u => (World.cell?_setCell_other w6.drew _ _ _ (by intro e; cases e; exact hne rfl)).trans y2
    have r4 := r3 (.slice none 0 0)
    have r5 : (w6.setCell ⟨bp, p, none⟩ (.slice none 0 0)).cell? ⟨bp, q, none⟩ = some (.slice s2 L2.length c2) := r4
    have r6 : (w6.setCell ⟨bp, p, none⟩ (.slice none 0 0)).frozen? ⟨bp, q, none⟩ = false := (hrow.set (i := p) (.slice none 0 0)).free q
    have q1 : w6.cell? ⟨bt, 0, none⟩ = some (.slice (some ⟨bp, 0, none⟩) P.length P.length) := y0
    have q2 : w6.cell? ⟨bp, p, none⟩ = some (.slice s1 L1.length c1) := y1
    have q3 : w6.frozen? ⟨bp, p, none⟩ = false := hrow.free p
    clear z1 z2 r4 y1 y2
    clear hrow FIN HM CC SS CX hne r3
    go_region_held3 (fun w' => w'.cell? ⟨bt, 0, none⟩ = some (.slice (some ⟨bp, 0, none⟩) P.length P.length))
      (first
        | exact y0
        | exact r1.out _
        | exact r2.out _ _
        | go_keep
        | assumption)
      (fail)
    go_wp2
    go_returns
    exact ⟨rfl, M, HP1.out, HP2.out, FIND.out⟩
end Go.Proofs.YtaloafihbdamiaaGreat

namespace Go.Proofs.YtaloafihbdamiaaGreat
open Go.Shelf
def entRen : Go.Shelf.Ren := ⟨fun | 6 => 78 | 15 => 91 | 14 => 90 | 28 => 102 | 29 => 103 | 20 => 94 | 21 => 95 | 22 => 96 | 23 => 97 | 24 => 98 | 25 => 99 | 26 => 100 | 27 => 101 | 46 => 105 | 47 => 106 | 48 => 107 | 49 => 108 | 50 => 109 | 57 => 110 | n => n, fun | 22 => 106 | 24 => 113 | 25 => 115 | 3 => 3 | 39 => 125 | 0 => 0 | 53 => 145 | 55 => 31 | 4 => 4 | 46 => 139 | 45 => 138 | 50 => 100 | 5 => 5 | 9 => 9 | 66 => 148 | 70 => 152 | 76 => 154 | 77 => 69 | n => n, fun | n => n⟩
theorem entLay : Go.Proofs.SlLaysF0.n6 Tryz.prog entRen := {
  mixed := by kernel_rfl
  f6 := ⟨Tryz.f78.name, by decide, Tryz.func78.trans (congrArg some (by kernel_rfl))⟩
  f14 := ⟨Tryz.f90.name, by decide, Tryz.func90.trans (congrArg some (by kernel_rfl))⟩
  f15 := Tryz.func91.trans (congrArg some (by kernel_rfl))
  f20 := ⟨Tryz.f94.name, by decide, Tryz.func94.trans (congrArg some (by kernel_rfl))⟩
  f21 := ⟨Tryz.f95.name, by decide, Tryz.func95.trans (congrArg some (by kernel_rfl))⟩
  f22 := ⟨Tryz.f96.name, by decide, Tryz.func96.trans (congrArg some (by kernel_rfl))⟩
  f23 := ⟨Tryz.f97.name, by decide, Tryz.func97.trans (congrArg some (by kernel_rfl))⟩
  f24 := ⟨Tryz.f98.name, by decide, Tryz.func98.trans (congrArg some (by kernel_rfl))⟩
  f25 := ⟨Tryz.f99.name, by decide, Tryz.func99.trans (congrArg some (by kernel_rfl))⟩
  f26 := ⟨Tryz.f100.name, by decide, Tryz.func100.trans (congrArg some (by kernel_rfl))⟩
  f27 := ⟨Tryz.f101.name, by decide, Tryz.func101.trans (congrArg some (by kernel_rfl))⟩
  f28 := Tryz.func102.trans (congrArg some (by kernel_rfl))
  f29 := Tryz.func103.trans (congrArg some (by kernel_rfl))
  f46 := ⟨Tryz.f105.name, by decide, Tryz.func105.trans (congrArg some (by kernel_rfl))⟩
  f47 := Tryz.func106.trans (congrArg some (by kernel_rfl))
  f48 := Tryz.func107.trans (congrArg some (by kernel_rfl))
  f49 := ⟨Tryz.f108.name, by decide, Tryz.func108.trans (congrArg some (by kernel_rfl))⟩
  f50 := ⟨Tryz.f109.name, by decide, Tryz.func109.trans (congrArg some (by kernel_rfl))⟩
  f57 := ⟨Tryz.f110.name, by decide, Tryz.func110.trans (congrArg some (by kernel_rfl))⟩
  t0 := Tryz.underlying0
  a0 := Tryz.isAgg0
  z0 := Tryz.sizeOf0
  v0 := Tryz.zeroValue0
  t3 := Tryz.underlying3
  a3 := Tryz.isAgg3
  z3 := Tryz.sizeOf3
  v3 := Tryz.zeroValue3
  t4 := Tryz.underlying4
  a4 := Tryz.isAgg4
  z4 := Tryz.sizeOf4
  v4 := Tryz.zeroValue4
  t5 := Tryz.underlying5
  a5 := Tryz.isAgg5
  z5 := Tryz.sizeOf5
  v5 := Tryz.zeroValue5
  t9 := Tryz.underlying9
  a9 := Tryz.isAgg9
  z9 := Tryz.sizeOf9
  v9 := Tryz.zeroValue9
  t22 := Tryz.underlying106
  a22 := Tryz.isAgg106
  z22 := Tryz.sizeOf106
  v22 := Tryz.zeroValue106
  t25 := Tryz.underlying115
  a25 := Tryz.isAgg115
  z25 := Tryz.sizeOf115
  v25 := Tryz.zeroValue115
  t39 := Tryz.underlying125
  a39 := Tryz.isAgg125
  z39 := Tryz.sizeOf125
  v39 := Tryz.zeroValue125
  t45 := Tryz.underlying138
  a45 := Tryz.isAgg138
  z45 := Tryz.sizeOf138
  v45 := Tryz.zeroValue138
  t46 := Tryz.underlying139
  a46 := Tryz.isAgg139
  z46 := Tryz.sizeOf139
  v46 := Tryz.zeroValue139
  t50 := Tryz.underlying100
  a50 := Tryz.isAgg100
  z50 := Tryz.sizeOf100
  v50 := Tryz.zeroValue100
  t53 := Tryz.underlying145
  a53 := Tryz.isAgg145
  z53 := Tryz.sizeOf145
  v53 := Tryz.zeroValue145
  t55 := Tryz.underlying31
  a55 := Tryz.isAgg31
  z55 := Tryz.sizeOf31
  v55 := Tryz.zeroValue31
  t66 := Tryz.underlying148
  a66 := Tryz.isAgg148
  z66 := Tryz.sizeOf148
  v66 := Tryz.zeroValue148
  t70 := Tryz.underlying152
  a70 := Tryz.isAgg152
  z70 := Tryz.sizeOf152
  v70 := Tryz.zeroValue152
  t76 := Tryz.underlying154
  a76 := Tryz.isAgg154
  z76 := Tryz.sizeOf154
  v76 := Tryz.zeroValue154
  t77 := Tryz.underlying69
  a77 := Tryz.isAgg69
  z77 := Tryz.sizeOf69
  v77 := Tryz.zeroValue69 }
instance : Inhabited Ent := ⟨⟨0, 0, 0⟩⟩
open Go.ChangeShapes Go.WideShapes Go.ChangeAt Go.RowKit
theorem compare_exact (a1 a2 a3 b1 b2 b3 : Int) (w : World) :
    Calls Tryz.prog 66 #[.agg #[.int .u64 a1, .int .u64 a2, .int .i64 a3], .agg #[.int .u64 b1, .int .u64 b2, .int .i64 b3]] w fun e w' => e = .returned (.int .i64 (Ent.cmp ⟨a1, a2, a3⟩ ⟨b1, b2, b3⟩)) ∧ ∃ q os', w' = Sort.grow (w.drewN q) os' := by
  have C := Lib.hid compare_u64
  go_enter Tryz.func66, Tryz.ntmps66
  go_wp2
  generalize hW1 : w.alloc (.cells #[.int .u64 a1, .int .u64 a2, .int .i64 a3] 113) = W1 at *
  generalize hW2 : W1.alloc (.cells #[.int .u64 b1, .int .u64 b2, .int .i64 b3] 113) = W2 at *
  have hs : W1.heap.size = w.heap.size + 1 := by rw [← hW1]; exact World.size_alloc _ _
  have r1 : W2.heap[w.heap.size]? = some (.cells #[.int .u64 a1, .int .u64 a2, .int .i64 a3] 113 (0, 0)) := by
    rw [← hW2, heap_alloc_old W1 _ (by omega), ← hW1]; exact heap_alloc_new w _
  have r2 : W2.heap[w.heap.size + 1]? = some (.cells #[.int .u64 b1, .int .u64 b2, .int .i64 b3] 113 (0, 0)) := by
    rw [← hW2, ← hs]; exact heap_alloc_new W1 _
  have c0 : Hid (Cha (fun _ => False) w W2) := Lib.hid (by rw [← hW2, ← hW1]; exact ((Cha.refl _ w).alloc _).alloc _)
  have cx : Hid (∀ o, W2.drew.alloc o = Sort.grow (w.drewN 1) #[.cells #[.int .u64 a1, .int .u64 a2, .int .i64 a3] 113, .cells #[.int .u64 b1, .int .u64 b2, .int .i64 b3] 113, o]) := Lib.hid fun o => by
    rw [← hW2, ← hW1, Sort.alloc_eq_grow, Sort.alloc_eq_grow, Sort.alloc_eq_grow, Sort.drew_grow, Sort.drew_grow, Sort.grow_grow, Sort.grow_grow]; rfl
  have z2 : W2.heap.size = w.heap.size + 2 := by rw [← hW2, World.size_alloc]; omega
  have k1 := cell_of_row W2.drew _ 0 _ 113 (0, 0) r1
  have k2 := cell_of_row W2.drew _ 1 _ 113 (0, 0) r1
  have k3 := cell_of_row W2.drew _ 0 _ 113 (0, 0) r2
  have k4 := cell_of_row W2.drew _ 1 _ 113 (0, 0) r2
  have k1 : W2.drew.cell? ⟨w.heap.size, 0, none⟩ = some (.int .u64 a1) := k1
  have k2 : W2.drew.cell? ⟨w.heap.size, 1, none⟩ = some (.int .u64 a2) := k2
  have k3 : W2.drew.cell? ⟨w.heap.size + 1, 0, none⟩ = some (.int .u64 b1) := k3
  have k4 : W2.drew.cell? ⟨w.heap.size + 1, 1, none⟩ = some (.int .u64 b2) := k4
  have OR : Hid (∀ x y, Calls Tryz.prog 81 #[.slice (some ⟨W2.heap.size, 0, none⟩) 2 2] (W2.drew.alloc (.cells #[.int .i64 x, .int .i64 y] 3)) fun e w' => e = .returned (.int .i64 (orI x y)) ∧ W2.drew.alloc (.cells #[.int .i64 x, .int .i64 y] 3) = w') := Lib.hid fun x y => by
    have hr := heap_alloc_new W2.drew (.cells #[.int .i64 x, .int .i64 y] 3)
    exact or_two x y W2.heap.size _ (cell_of_row _ _ 0 _ 3 (0, 0) hr) (cell_of_row _ _ 1 _ 3 (0, 0) hr)
  have KX : Hid (∀ W', Cha (fun _ => False) W2 W' → W'.cell? ⟨w.heap.size, 0, none⟩ = some (.int .u64 a1) ∧ W'.cell? ⟨w.heap.size, 1, none⟩ = some (.int .u64 a2) ∧ W'.cell? ⟨w.heap.size + 1, 0, none⟩ = some (.int .u64 b1) ∧ W'.cell? ⟨w.heap.size + 1, 1, none⟩ = some (.int .u64 b2)) := Lib.hid fun W' c => by
    have e1 := (c.old _ (by omega) (fun f => f)).trans r1
    have e2 := (c.old _ (by omega) (fun f => f)).trans r2
    exact ⟨cell_of_row W' _ 0 _ 113 (0, 0) e1, cell_of_row W' _ 1 _ 113 (0, 0) e1, cell_of_row W' _ 0 _ 113 (0, 0) e2, cell_of_row W' _ 1 _ 113 (0, 0) e2⟩
  clear hW1 hW2 r1 r2 hs
  have HZ := Lib.hid z2
  clear z2
  generalize w.heap.size = g at *
  go_region_held3 (fun w' => w'.cell? ⟨g, 0, none⟩ = some (.int .u64 a1) ∧ w'.cell? ⟨g, 1, none⟩ = some (.int .u64 a2) ∧ w'.cell? ⟨g + 1, 0, none⟩ = some (.int .u64 b1) ∧ w'.cell? ⟨g + 1, 1, none⟩ = some (.int .u64 b2))
    (first
      | exact ⟨k1, k2, k3, k4⟩
      | exact KX.out _ (((Cha.refl _ W2).alloc _).drew)
      | go_keep)
    (first
      | (go_at_call 82; refine (C.out _ _ _).mono ?_; rintro e5 w5 ⟨rfl, rfl⟩)
      | (go_at_call 81; refine (OR.out _ _).mono ?_; rintro e6 w6 ⟨rfl, rfl⟩))
  all_goals
    go_wp2
    go_ret
    exact ⟨rfl, 1, _, cx.out _⟩
variable {w w' : World} {v : Value} {E M : List Ent}
theorem ltOf_ent (x y : Ent) : ltOf Ent.cmp x y = true ↔ x.lt y := by
  unfold ltOf
  rw [decide_eq_true_iff]
  exact cmp_lt x y
theorem ltOf_ent' (x y : Ent) : ltOf Ent.cmp x y = false ↔ ¬ x.lt y := by
  rw [← ltOf_ent]; simp
theorem swo_ent : Sort.SWO (ltOf Ent.cmp) where
  irrefl x := (ltOf_ent' x x).2 (Ent.lt_irrefl x)
  trans x y z h1 h2 := (ltOf_ent x z).2 (Ent.lt_trans ((ltOf_ent x y).1 h1) ((ltOf_ent y z).1 h2))
  ntrans x y z h1 h2 := by
    rw [ltOf_ent'] at *
    unfold Ent.lt at *
    omega
theorem cmp_lays (blk off size : Nat) (w : World) : CmpLays Tryz.prog 66 #[] ec 3 Ent.cmp blk off size w :=
  fun _ _ _ _ x y => compare_exact x.when x.order x.id y.when y.order y.id _
theorem ec_get (x : Ent) (j : Nat) (hj : j < 3) : (ec x)[j]? = some (ec x)[j]! := by
  rcases (by omega : j = 0 ∨ j = 1 ∨ j = 2) with rfl | rfl | rfl <;> rfl
theorem flat_ecs (d : Array Ent) (t : Nat) (h : t < d.size * 3) : (ecs d.toList)[t]? = some (Sort.flatK ec 3 d)[t]! := by
  rw [Sort.get_flatK _ _ _ _ h]
  have h1 : t / 3 < d.size := by omega
  have h2 : t % 3 < 3 := Nat.mod_lt _ (by decide)
  have e := ecs_get d.toList (t / 3) (t % 3) (by simpa using h1) h2
  rw [show t / 3 * 3 + t % 3 = t by omega] at e
  rw [e, ec_get _ _ h2]
  have e2 : d.toList.getD (t / 3) ⟨0, 0, 0⟩ = d[t / 3]! := by
    simp [List.getD, h1]
  rw [e2]
theorem sort_is : SortC := fun w v E h hl => by
  rcases h.2 with ⟨rfl, h0⟩ | ⟨g, cap, cur, rfl, _, hg, h1, h2, h3, h4⟩
  · have hE : E = [] := List.eq_nil_of_length_eq_zero h0
    subst hE
    have C : Calls Tryz.prog 78 _ _ _ := AnyF.slices_SortFunc_none entLay none 0 (.func (.func 66) #[] #[]) w
    exact C.mono fun e w' ⟨a, b⟩ => ⟨a, [], List.Perm.refl _, List.Pairwise.nil, b ▸ h, b ▸ Cha.refl _ _⟩
  · have hE := ecs_len E
    have hsz : E.toArray.size = E.length := List.size_toArray
    have hblk : g < w.heap.size := (Array.getElem?_eq_some_iff.1 hg).1
    have hH : Sort.HoldsK ec 3 w g 0 E.toArray := fun j hj => by
      rw [Sort.size_flatK, hsz] at hj
      refine ⟨?_, frozen_of_row w g _ cur 113 hg⟩
      have e := flat_ecs E.toArray j (by rw [hsz]; exact hj)
      rw [cell_of_row w g _ cur 113 (0, 0) hg, Nat.zero_add]
      have e2 : cur[j]? = (ecs E)[j]? := by rw [← h4, List.getElem?_take, if_pos hj, Array.getElem?_toList]
      rw [e2]
      exact e
    have eg : ∀ args w, (callFunc 66 args).run Tryz.prog w = .ok (.enter 66 args) w := enters_of Tryz.func66 (by kernel_rfl) rfl
    have C := AnyQ.slices_SortFunc entLay 3 Tryz.isAgg113 Tryz.sizeOf113 ec (fun _ => rfl) (fun x u hu => one_ec [x] u (by simpa [ecs] using hu)) Ent.cmp swo_ent 66 #[] g 0 cap E.toArray w eg (cmp_lays g 0 _ w) hH hblk (by rw [hsz]; omega)
    rw [hsz] at C
    change Calls Tryz.prog 78 _ _ _ at C
    refine C.mono fun e w' ⟨q1, d, n, os, hp, hs, hw⟩ => ?_
    have hds : d.size = E.length := by have := hp.1; rw [hsz] at this; exact this
    have hperm : d.toList.Perm E := by
      have := hp.2.2
      rw [← hsz, Array.extract_size] at this
      rw [show (d.extract 0 E.toArray.size) = d by rw [hsz, ← hds, Array.extract_size]] at this
      exact this
    have hlen : d.toList.length = E.length := by rw [Array.length_toList]; exact hds
    have hb1 : (Sort.putRowK ec 3 (Sort.ahead w n) g 0 d).heap[g]? = some (.cells (Sort.putCells id 0 (Sort.flatK ec 3 d) cur) 113 (0, 0)) := by
      show (w.heap.modify g _)[g]? = _
      rw [Array.getElem?_modify, if_pos rfl, hg]
      rfl
    have hb2 : ∀ k, k ≠ g → (Sort.putRowK ec 3 (Sort.ahead w n) g 0 d).heap[k]? = w.heap[k]? := fun k hk => by
      show (w.heap.modify g _)[k]? = _
      rw [Array.getElem?_modify, if_neg (Ne.symm hk)]
    have hs2 : (Sort.putRowK ec 3 (Sort.ahead w n) g 0 d).heap.size = w.heap.size := by
      show (w.heap.modify g _).size = _
      rw [Array.size_modify]
    have hw2 : w' = Sort.grow (Sort.putRowK ec 3 (Sort.ahead w n) g 0 d) os := hw
    have hold : ∀ k, k < w.heap.size → w'.heap[k]? = (Sort.putRowK ec 3 (Sort.ahead w n) g 0 d).heap[k]? := fun k hk => by rw [hw2]; exact Sort.heap_grow_old _ os (by rw [hs2]; exact hk)
    refine ⟨q1, d.toList, hperm, ?_, ⟨?_, .inr ⟨g, cap, _, by rw [hlen], Nat.zero_le _, (hold g hblk).trans hb1, by rw [hlen]; exact h1, h2, ?_, ?_⟩⟩, ?_⟩
    · rw [List.pairwise_iff_getElem]
      intro i j hi hj hij
      have := hs i j (Nat.zero_le _) hij (by rw [← hlen]; exact hj)
      rw [ltOf_ent'] at this
      rw [Array.length_toList] at hi hj
      simpa [hi, hj] using this
    · exact ecs_len _
    · unfold Sort.putCells; rw [Array.size_mapIdx]; exact h3
    · apply List.ext_getElem?
      intro t
      rw [List.getElem?_take, hlen]
      by_cases ht : t < E.length * 3
      · rw [if_pos ht, Array.getElem?_toList, flat_ecs d t (by rw [hds]; exact ht)]
        unfold Sort.putCells
        rw [Array.getElem?_mapIdx, Array.getElem?_eq_getElem (show t < cur.size by rw [h3]; omega), Option.map_some, if_pos ⟨Nat.zero_le _, by rw [Sort.size_flatK, hds]; omega⟩]
        rfl
      · rw [if_neg ht, List.getElem?_eq_none (by rw [ecs_len, hlen]; omega)]
    · refine ⟨by rw [hw2]; rfl, by rw [hw2]; rfl, by rw [hw2]; show _ ≤ (_ ++ os).size; rw [Array.size_append, hs2]; omega, fun i hi hn => ?_⟩
      rw [hold i hi]
      exact hb2 i (fun e => hn (by rw [e]; rfl))
end Go.Proofs.YtaloafihbdamiaaGreat

namespace Go.Proofs.YtaloafihbdamiaaGreat
open Go.ChangeShapes Go.WideShapes Go.ChangeAt Go.RowKit
variable {w0 w w' : World} {bt bp p q : Nat} {P : List (List Ent)} {a b : Int} {L L1 L2 M L' : List Ent} {e x y : Ent}

/-- Lists that rise, numbered below a, each number once. -/
structure Neat (P : List (List Ent)) (a : Int) : Prop where
  tidy : Tidy P a
  own : ∀ (p q : Nat) (L M : List Ent) (x y : Ent), P[p]? = some L → P[q]? = some M → x ∈ L → y ∈ M → x.order = y.order → p = q ∧ x = y
theorem set_at (h : (P.set p L)[q]? = some M) : (q = p ∧ M = L) ∨ (q ≠ p ∧ P[q]? = some M) := by
  rw [List.getElem?_set] at h
  by_cases e : p = q
  · rw [if_pos e] at h
    split at h
    · cases h; exact .inl ⟨e.symm, rfl⟩
    · cases h
  · rw [if_neg e] at h
    exact .inr ⟨fun c => e c.symm, h⟩
theorem neat_new (n : Nat) : Neat (List.replicate n []) 0 := by
  refine ⟨tidy_new n 0, fun p q L M x y hp hq hx => ?_⟩
  rw [List.getElem?_replicate] at hp
  split at hp
  · cases hp; cases hx
  · cases hp
theorem Neat.add (h : Neat P a) (hp : P[p]? = some L) (A : Added L e L') (he : e.order = a) : Neat (P.set p L') (a + 1) := by
  refine ⟨h.tidy.set (by omega) A.up (A.lo (fun x hx => h.tidy.lo p L hp x hx) he), fun r s R S x y hr hs hx hy ho => ?_⟩
  have old : ∀ r R x, (P.set p L')[r]? = some R → x ∈ R → (r = p ∧ x = e) ∨ ∃ R', P[r]? = some R' ∧ x ∈ R' := fun r R x hr hx => by
    rcases set_at hr with ⟨rfl, rfl⟩ | ⟨_, hr⟩
    · rcases (A.mem x).1 hx with rfl | hx
      · exact .inl ⟨rfl, rfl⟩
      · exact .inr ⟨L, hp, hx⟩
    · exact .inr ⟨R, hr, hx⟩
  rcases old r R x hr hx with ⟨rfl, rfl⟩ | ⟨R', k1, k2⟩
  · rcases old s S y hs hy with ⟨rfl, rfl⟩ | ⟨S', m1, m2⟩
    · exact ⟨rfl, rfl⟩
    · have := h.tidy.lo s S' m1 y m2; omega
  · rcases old s S y hs hy with ⟨rfl, rfl⟩ | ⟨S', m1, m2⟩
    · have := h.tidy.lo r R' k1 x k2; omega
    · exact h.own r s R' S' x y k1 m1 k2 m2 ho
theorem Neat.cut (h : Neat P a) (hp : P[p]? = some L) (k : Nat) : Neat (P.set p (L.drop k)) a := by
  refine ⟨h.tidy.set (by omega) ((h.tidy.up p L hp).drop) (fun x hx => h.tidy.lo p L hp x (List.mem_of_mem_drop hx)), fun r s R S x y hr hs hx hy ho => ?_⟩
  have old : ∀ r R x, (P.set p (L.drop k))[r]? = some R → x ∈ R → ∃ R', P[r]? = some R' ∧ x ∈ R' := fun r R x hr hx => by
    rcases set_at hr with ⟨e0, e⟩ | ⟨_, hr⟩
    · rw [e] at hx
      exact ⟨L, by rw [e0]; exact hp, List.mem_of_mem_drop hx⟩
    · exact ⟨R, hr, hx⟩
  obtain ⟨R', k1, k2⟩ := old r R x hr hx
  obtain ⟨S', m1, m2⟩ := old s S y hs hy
  exact h.own r s R' S' x y k1 m1 k2 m2 ho
theorem Neat.apart (h : Neat P a) (hp : P[p]? = some L) : L.Pairwise (fun x y => x.order ≠ y.order) := by
  refine List.Pairwise.imp_of_mem (fun {x y} hx hy hl ho => ?_) (h.tidy.up p L hp)
  obtain ⟨_, rfl⟩ := h.own p p L L x y hp hp hx hy ho
  exact Ent.lt_irrefl _ hl
theorem Neat.move (h : Neat P a) (hp : P[p]? = some L1) (hq : P[q]? = some L2) (hne : p ≠ q) (hm : M.Perm (L1 ++ L2)) (hs : M.Pairwise (fun x y => ¬ y.lt x)) : Neat ((P.set p []).set q M) a := by
  have h12 : (L1 ++ L2).Pairwise (fun x y => x.order ≠ y.order) := List.pairwise_append.2 ⟨h.apart hp, h.apart hq, fun x hx y hy ho => hne (h.own p q L1 L2 x y hp hq hx hy ho).1⟩
  have hM : M.Pairwise (fun x y => x.order ≠ y.order) := (hm.pairwise_iff (fun {x y} h => fun e => h e.symm)).2 h12
  have hr : Rises M := by
    refine List.Pairwise.imp (fun {x y} h => ?_) (List.pairwise_and_iff.2 ⟨hs, hM⟩)
    have h1 := h.1
    have h2 := h.2
    unfold Ent.lt at h1 ⊢
    omega
  have mem : ∀ x, x ∈ M → x ∈ L1 ∨ x ∈ L2 := fun x hx => List.mem_append.1 (hm.mem_iff.1 hx)
  have t1 : Tidy (P.set p []) a := h.tidy.set (Int.le_refl _) List.Pairwise.nil (fun x hx => by cases hx)
  refine ⟨t1.set (Int.le_refl _) hr (fun x hx => ?_), fun r s R S x y hr hs hx hy ho => ?_⟩
  · rcases mem x hx with hx | hx
    · exact h.tidy.lo p L1 hp x hx
    · exact h.tidy.lo q L2 hq x hx
  have old : ∀ r R x, ((P.set p []).set q M)[r]? = some R → x ∈ R → (r = q ∧ (x ∈ L1 ∨ x ∈ L2)) ∨ (r ≠ q ∧ r ≠ p ∧ P[r]? = some R) := fun r R x hr hx => by
    rcases set_at hr with ⟨rfl, rfl⟩ | ⟨h1, hr⟩
    · exact .inl ⟨rfl, mem x hx⟩
    · rcases set_at hr with ⟨rfl, rfl⟩ | ⟨h2, hr⟩
      · cases hx
      · exact .inr ⟨h1, h2, hr⟩
  have two : ∀ x y, (x ∈ L1 ∨ x ∈ L2) → (y ∈ L1 ∨ y ∈ L2) → x.order = y.order → x = y := fun x y hx hy ho => by
    rcases hx with hx | hx <;> rcases hy with hy | hy
    · exact (h.own p p L1 L1 x y hp hp hx hy ho).2
    · exact (h.own p q L1 L2 x y hp hq hx hy ho).2
    · exact (h.own q p L2 L1 x y hq hp hx hy ho).2
    · exact (h.own q q L2 L2 x y hq hq hx hy ho).2
  rcases old r R x hr hx with ⟨rfl, k⟩ | ⟨k1, k2, k3⟩
  · rcases old s S y hs hy with ⟨rfl, m⟩ | ⟨m1, m2, m3⟩
    · exact ⟨rfl, two x y k m ho⟩
    · rcases k with k | k
      · exact absurd (h.own p s L1 S x y hp m3 k hy ho).1.symm m2
      · exact absurd (h.own r s L2 S x y hq m3 k hy ho).1.symm m1
  · rcases old s S y hs hy with ⟨rfl, m⟩ | ⟨m1, m2, m3⟩
    · rcases m with m | m
      · exact absurd (h.own r p R L1 x y k3 hp hx m ho).1 k2
      · exact absurd (h.own r s R L2 x y k3 hq hx m ho).1 k1
    · exact h.own r s R S x y k3 m3 hx hy ho
theorem many_move (hp : P[p]? = some L1) (hq : P[q]? = some L2) (hne : p ≠ q) (hm : M.Perm (L1 ++ L2)) : many ((P.set p []).set q M) = many P := by
  have h1 := many_set (M := []) hp
  have h2 : (P.set p [])[q]? = some L2 := by rw [List.getElem?_set_ne hne]; exact hq
  have h3 := many_set (M := M) h2
  have h4 := hm.length_eq
  rw [List.length_append] at h4
  simp only [List.length_nil] at h1
  omega
theorem tl_move (h : Tl w0 w bt bp P a) (hp : P[p]? = some L1) (hq : P[q]? = some L2) (hne : p ≠ q) (hl : many P ≤ 2048) :
    Calls Tryz.prog 56 #[.pointer (some ⟨bt, 0, none⟩), .int .i64 (p : Int), .int .i64 (q : Int)] w fun e w' => e = .returned (.int .i64 0) ∧ ∃ M, M.Perm (L1 ++ L2) ∧ M.Pairwise (fun x y => ¬ y.lt x) ∧ Tl w0 w' bt bp ((P.set p []).set q M) a := by
  have l1 := many_at hp
  have l2 := many_at hq
  obtain ⟨F, lv, k, c, n⟩ := h
  refine (tmove_ok sort_is p q k hp hq hne (by omega)).mono fun e w' ⟨q1, M, m1, m2, F', lv', k', c', _, m⟩ => ⟨q1, M, m1, m2, F', lv', k', c.over c' (fun i hi => .inr (n i hi)), fun i hi => (m i hi).elim (n i) (Nat.le_trans c.size)⟩
theorem tl_self (h : Tl w0 w bt bp P a) (hp : p < P.length) : Calls Tryz.prog 56 #[.pointer (some ⟨bt, 0, none⟩), .int .i64 (p : Int), .int .i64 (p : Int)] w fun e w' => e = .returned (.int .i64 0) ∧ w = w' := by
  obtain ⟨F, lv, k, c, n⟩ := h
  exact tmove_self p k hp
end Go.Proofs.YtaloafihbdamiaaGreat
