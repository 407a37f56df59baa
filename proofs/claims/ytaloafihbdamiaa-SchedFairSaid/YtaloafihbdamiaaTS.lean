/- Timers: Move, given what the sort does. -/
import Derived.Test.YtaloafihbdamiaaTR
namespace Go.Proofs.Ytaloafihbdamiaa
open Go.ChangeShapes Go.WideShapes Go.ChangeAt Go.RowKit
variable {w w' w2 : World} {F F' : Nat → Prop} {bt bp p q : Nat} {lv : Nat → Value} {P : List (List Ent)} {a : Int} {L L1 L2 M : List Ent} {v v' : Value}

theorem setCell_comm {W : World} {b i j : Nat} {cs : Array Value} {t : TypeId} (h : W.heap[b]? = some (.cells cs t (0, 0))) (hij : i ≠ j) (x y : Value) :
    (W.setCell ⟨b, i, none⟩ x).setCell ⟨b, j, none⟩ y = (W.setCell ⟨b, j, none⟩ y).setCell ⟨b, i, none⟩ x := by
  have e : ((W.setCell ⟨b, i, none⟩ x).setCell ⟨b, j, none⟩ y).heap = ((W.setCell ⟨b, j, none⟩ y).setCell ⟨b, i, none⟩ x).heap := by
    apply Array.ext_getElem?
    intro k
    by_cases hk : k = b
    · subst hk
      rw [heap_setCell_same _ k j _ t y (heap_setCell_same W k i cs t x h), heap_setCell_same _ k i _ t x (heap_setCell_same W k j cs t y h)]
      congr 2
      apply Array.ext_getElem?
      intro m
      simp only [Array.getElem?_setIfInBounds, Array.size_setIfInBounds]
      by_cases e1 : i = m
      · subst e1
        rw [if_neg (Ne.symm hij), if_pos rfl, if_pos rfl]
      · rw [if_neg e1, if_neg e1]
    · rw [heap_setCell_other _ _ _ _ hk, heap_setCell_other _ _ _ _ hk, heap_setCell_other _ _ _ _ hk, heap_setCell_other _ _ _ _ hk]
  show ({ W with heap := _ } : World) = { W with heap := _ }
  congr 1
/-- What the sort must do. -/
def SortC : Prop := ∀ (w : World) (v : Value) (E : List Ent), Ents w v E → E.length ≤ 4096 →
  Calls Try.prog 56 #[v, .func (.func 45) #[] #[]] w fun e w' => e = .returned (.tuple #[]) ∧ ∃ M, M.Perm E ∧ M.Pairwise (fun x y => ¬ y.lt x) ∧ Ents w' v M ∧ Cha (fun i => v.ownBlock = some i) w w'
/-- A processor's list goes, another's is a new one. -/
theorem Ts.move (h : Ts w F bt bp lv P a) (hp : p < P.length) (hq : q < P.length) (hne : p ≠ q) (k : EMade w w2 v M) :
    TLeft w ((w2.setCell ⟨bp, p, none⟩ (.slice none 0 0)).setCell ⟨bp, q, none⟩ v) F bt bp ((P.set p []).set q M) a := by
  have k1 : EApp w w2 (lv q) M v := ⟨k.ents, k.cha.wide, fun g hg => .inr (k.own g hg)⟩
  obtain ⟨F', lv', T, c, m1, m2⟩ := h.put hq k1
  have hp2 : p < (P.set q M).length := by rw [List.length_set]; exact hp
  have k2 : EApp (w2.setCell ⟨bp, q, none⟩ v) (w2.setCell ⟨bp, q, none⟩ v) (lv' p) [] (.slice none 0 0) := ⟨⟨rfl, .inl ⟨rfl, rfl⟩⟩, Cha.refl _ _, fun g hg => by cases hg⟩
  obtain ⟨F2, lv2, T2, c2, n1, n2⟩ := T.put hp2 k2
  have hrow : FRow 95 w2 bp P.length lv := k.cha.row h.tab (fun f => f)
  rw [setCell_comm hrow hne, List.set_comm _ _ hne]
  refine ⟨F2, lv2, T2, c.over c2 m2, fun i hi => n1 i (m1 i hi), fun i hi => ?_⟩
  rcases n2 i hi with e | e
  · exact m2 i e
  · exact .inr (Nat.le_trans c.size e)
theorem tmove_none (p q : Int) (w : World) : Calls Try.prog 41 #[.pointer none, .int .i64 p, .int .i64 q] w fun e w' => e = .returned (.int .i64 5) ∧ w = w' := by
  go_enter Try.func41, Try.ntmps41
  go_wp2
  go_ret
  exact ⟨rfl, rfl⟩
theorem tmove_bad1 (p q : Int) (h : Ts w F bt bp lv P a) (hp : p < 0 ∨ (P.length : Int) ≤ p) :
    Calls Try.prog 41 #[.pointer (some ⟨bt, 0, none⟩), .int .i64 p, .int .i64 q] w fun e w' => e = .returned (.int .i64 1) ∧ w = w' := by
  have C := Lib.hid (tisproc_no p h hp)
  clear h hp
  go_enter Try.func41, Try.ntmps41
  go_wp2_with (go_at_call 43; ((with_reducible refine (C.out).mono ?_); rintro e w1 ⟨rfl, rfl⟩))
  go_ret
  exact ⟨rfl, rfl⟩
theorem tmove_self (p : Nat) (h : Ts w F bt bp lv P a) (hp : p < P.length) :
    Calls Try.prog 41 #[.pointer (some ⟨bt, 0, none⟩), .int .i64 (p : Int), .int .i64 (p : Int)] w fun e w' => e = .returned (.int .i64 0) ∧ w = w' := by
  have C := Lib.hid (tisproc_yes p h hp)
  clear h hp
  go_enter Try.func41, Try.ntmps41
  go_wp2_with (go_at_call 43; ((with_reducible refine (C.out).mono ?_); rintro e w1 ⟨rfl, rfl⟩))
  go_ret
  exact ⟨rfl, rfl⟩
set_option maxRecDepth 100000 in
set_option linter.unusedSimpArgs false in
set_option maxHeartbeats 4000000 in
theorem tmove_ok (hs : SortC) (p q : Nat) (h : Ts w F bt bp lv P a) (hp : P[p]? = some L1) (hq : P[q]? = some L2) (hne : p ≠ q) (hl : L1.length + L2.length ≤ 4096) :
    Calls Try.prog 41 #[.pointer (some ⟨bt, 0, none⟩), .int .i64 (p : Int), .int .i64 (q : Int)] w fun e w' => e = .returned (.int .i64 0) ∧ ∃ M, M.Perm (L1 ++ L2) ∧ M.Pairwise (fun x y => ¬ y.lt x) ∧ TLeft w w' F bt bp ((P.set p []).set q M) a := by
  have hpl := (List.getElem?_eq_some_iff.1 hp).1
  have hql := (List.getElem?_eq_some_iff.1 hq).1
  have Cp := Lib.hid (tisproc_yes p h hpl)
  have Cq := Lib.hid (tisproc_yes q h hql)
  obtain ⟨s1, c1, e1⟩ := (h.lst p _ hp).form
  obtain ⟨s2, c2, e2⟩ := (h.lst q _ hq).form
  have HT := Lib.hid h
  have KS : Hid (∀ W, Cha (fun _ => False) w W → W.cell? ⟨bt, 0, none⟩ = some (.slice (some ⟨bp, 0, none⟩) P.length P.length) ∧ W.cell? ⟨bp, p, none⟩ = some (.slice s1 L1.length c1) ∧ W.cell? ⟨bp, q, none⟩ = some (.slice s2 L2.length c2)) := Lib.hid fun W c => by
    have T := HT.out.same c
    exact ⟨T.ptr, (T.tab.cell hpl).trans (by rw [e1]), (T.tab.cell hql).trans (by rw [e2])⟩
  have CC : Hid (∀ W, Cha (fun _ => False) w W → Calls Try.prog 55 #[.slice (some ⟨W.heap.size, 0, none⟩) 2 2] (W.alloc (.cells #[.slice s1 L1.length c1, .slice s2 L2.length c2] 95)) fun e w' => ∃ s n c, e = .returned (.slice s n c) ∧ EMade w w' (.slice s n c) (L1 ++ L2)) := Lib.hid fun W c => by
    have T := HT.out.same (c.alloc (.cells #[.slice s1 L1.length c1, .slice s2 L2.length c2] 95))
    have l1 := T.lst p _ hp
    have l2 := T.lst q _ hq
    rw [e1] at l1
    rw [e2] at l2
    refine (concat_any W.heap.size l1 l2 (heap_alloc_new W _) hl).mono fun e w' ⟨v, q1, k⟩ => ?_
    obtain ⟨s, c', rfl⟩ := k.ents.form
    exact ⟨_, _, _, q1, k.ents, ((c.alloc _).trans k.cha), fun g hg => Nat.le_trans (c.alloc _).size (k.own g hg)⟩
  have SS : Hid (∀ (W : World) (s : Option Addr) (n c : Nat), EMade w W (.slice s n c) (L1 ++ L2) → Calls Try.prog 56 #[.slice s n c, .func (.func 45) #[] #[]] W fun e w' => e = .returned (.tuple #[]) ∧ ∃ M, M.Perm (L1 ++ L2) ∧ M.Pairwise (fun x y => ¬ y.lt x) ∧ EMade w w' (.slice s n c) M) := Lib.hid fun W s n c k =>
    (hs W _ _ k.ents (by rw [List.length_append]; exact hl)).mono fun e w' ⟨q1, M, m1, m2, m3, m4⟩ => ⟨q1, M, m1, m2, m3, k.cha.over m4 fun i hi => .inr (k.own i hi), k.own⟩
  obtain ⟨x0, x1, x2⟩ := KS.out _ ((Cha.refl _ w).drew)
  have y := KS.out (w.alloc (.cells #[.slice s1 L1.length c1, .slice s2 L2.length c2] 95)).drew (((Cha.refl _ w).alloc _).drew)
  have k1 : ¬ ((p : Int) = (q : Int)) := by omega
  have k2 : (p : Int) < (P.length : Int) := by omega
  have k3 : (q : Int) < (P.length : Int) := by omega
  have CX : Hid (Calls Try.prog 55 #[.slice (some ⟨w.heap.size, 0, none⟩) 2 2] (w.alloc (.cells #[.slice s1 L1.length c1, .slice s2 L2.length c2] 95)).drew fun e w' => ∃ s n c, e = .returned (.slice s n c) ∧ EMade w w' (.slice s n c) (L1 ++ L2)) := Lib.hid (CC.out _ ((Cha.refl _ w).drew))
  clear h hp hq e1 e2
  go_enter Try.func41, Try.ntmps41
  go_wp2_with (first
    | (go_at_call 43; ((with_reducible refine (Cp.out).mono ?_); rintro e w1 ⟨rfl, rfl⟩))
    | (go_at_call 43; ((with_reducible refine (Cq.out).mono ?_); rintro e w1 ⟨rfl, rfl⟩)))
  go_region_held3 (fun w' => w'.cell? ⟨bt, 0, none⟩ = some (.slice (some ⟨bp, 0, none⟩) P.length P.length) ∧ w'.cell? ⟨bp, p, none⟩ = some (.slice s1 L1.length c1) ∧ w'.cell? ⟨bp, q, none⟩ = some (.slice s2 L2.length c2))
    (first
      | go_keep
      | exact ⟨x0, x1, x2⟩
      | exact KS.out _ (by assumption)
      | exact y
      | exact KS.out _ (((Cha.refl _ w).drew).alloc _))
    ((go_at_call 55; refine (CX.out).mono ?_; rintro e5 w5 ⟨s5, n5, c5, rfl, hE⟩; have hc5 := hE.cha))
  all_goals
    have HE := Lib.hid hE
    clear hE hc5
    go_wp2_with (go_at_call 56; ((with_reducible refine (SS.out _ _ _ _ HE.out).mono ?_); rintro e w6 ⟨rfl, M, m1, m2, hM⟩; have HM := Lib.hid hM; have HP1 := Lib.hid m1; have HP2 := Lib.hid m2; clear hM m1 m2))
    have FIN := Lib.hid (HT.out.move hpl hql hne HM.out)
    have FIND : Hid (TLeft w ((w6.drew.setCell ⟨bp, p, none⟩ (.slice none 0 0)).setCell ⟨bp, q, none⟩ (.slice s5 n5 c5)) F bt bp ((P.set p []).set q M) a) := Lib.hid (HT.out.move hpl hql hne ⟨HM.out.ents, HM.out.cha.drew, HM.out.own⟩)
    obtain ⟨y0, y1, y2⟩ := KS.out w6.drew HM.out.cha.drew
    have hrow : FRow 95 w6 bp P.length lv := HM.out.cha.row HT.out.tab (fun f => f)
    have z1 : w6.drew.frozen? ⟨bp, p, none⟩ = false := hrow.free p
    have z2 : w6.drew.frozen? ⟨bp, q, none⟩ = false := hrow.free q
    have hbt : bt ≠ bp := HT.out.ne
    have r1 : Hid (∀ u, (w6.drew.setCell ⟨bp, p, none⟩ u).cell? ⟨bt, 0, none⟩ = some (.slice (some ⟨bp, 0, none⟩) P.length P.length)) := Lib.hid fun u => (World.cell?_setCell_other w6.drew _ _ _ (by intro e; cases e; exact hbt rfl)).trans y0
    have r2 : Hid (∀ u x, ((w6.drew.setCell ⟨bp, p, none⟩ u).setCell ⟨bp, q, none⟩ x).cell? ⟨bt, 0, none⟩ = some (.slice (some ⟨bp, 0, none⟩) P.length P.length)) := Lib.hid fun u x => (World.cell?_setCell_other _ _ _ _ (by intro e; cases e; exact hbt rfl)).trans (r1.out u)
    have r3 : ∀ u, (w6.drew.setCell ⟨bp, p, none⟩ u).cell? ⟨bp, q, none⟩ = some (.slice s2 L2.length c2) := fun u => (World.cell?_setCell_other w6.drew _ _ _ (by intro e; cases e; exact hne rfl)).trans y2
    have r4 := r3 (.slice none 0 0)
    have r5 : (w6.setCell ⟨bp, p, none⟩ (.slice none 0 0)).cell? ⟨bp, q, none⟩ = some (.slice s2 L2.length c2) := r4
    have r6 : (w6.setCell ⟨bp, p, none⟩ (.slice none 0 0)).frozen? ⟨bp, q, none⟩ = false := (hrow.set (i := p) (.slice none 0 0)).free q
    have q1 : w6.cell? ⟨bt, 0, none⟩ = some (.slice (some ⟨bp, 0, none⟩) P.length P.length) := y0
    have q2 : w6.cell? ⟨bp, p, none⟩ = some (.slice s1 L1.length c1) := y1
    have q3 : w6.frozen? ⟨bp, p, none⟩ = false := hrow.free p
    clear z1 z2 r4 y1 y2
    clear hrow FIN HM CC SS CX hne r3
    go_region_held3 (fun w' => w'.cell? ⟨bt, 0, none⟩ = some (.slice (some ⟨bp, 0, none⟩) P.length P.length))
      (first
        | exact y0
        | exact r1.out _
        | exact r2.out _ _
        | go_keep
        | assumption)
      (fail)
    go_wp2
    go_returns
    exact ⟨rfl, M, HP1.out, HP2.out, FIND.out⟩
end Go.Proofs.Ytaloafihbdamiaa
