/- Timers: a list is laid anew; Add of what is wrong, Add beyond the most. -/
import Derived.Test.YtaloafihbdamiaaTG
import Derived.Handy
namespace Go.Proofs.Ytaloafihbdamiaa
open Go.ChangeShapes Go.WideShapes Go.ChangeAt Go.RowKit
variable {w w' : World} {F F' : Nat → Prop} {bt bp : Nat} {lv : Nat → Value} {P : List (List Ent)} {a x : Int} {y : Ent} {E L L2 : List Ent} {v v' : Value}

theorem Ents.cha (h : Ents w v E) (c : Cha F w w') (hb : ∀ g, v.ownBlock = some g → ¬ F g) : Ents w' v E := by
  refine ⟨h.1, ?_⟩
  rcases h.2 with ⟨e, h0⟩ | ⟨g, cap, cur, e, k0, hg, r⟩
  · exact .inl ⟨e, h0⟩
  · exact .inr ⟨g, cap, cur, e, k0, (c.old g (Array.getElem?_eq_some_iff.1 hg).1 (hb g (by rw [e]; rfl))).trans hg, r⟩
/-- Behind a call. -/
def TLeft (w w' : World) (F : Nat → Prop) (bt bp : Nat) (P : List (List Ent)) (a : Int) : Prop :=
  ∃ F' lv, Ts w' F' bt bp lv P a ∧ Cha F w w' ∧ (∀ i, F i → F' i) ∧ ∀ i, F' i → F i ∨ w.heap.size ≤ i
theorem Ts.same (h : Ts w F bt bp lv P a) (c : Cha (fun _ => False) w w') : Ts w' F bt bp lv P a :=
  ⟨(c.old bt (h.old _ h.ft) (fun f => f)).trans h.head, h.k1, h.k8, c.row h.tab (fun f => f), fun p L hp => (h.lst p L hp).cha c (fun _ _ f => f), h.ne, h.ft, h.fp, h.fv, h.fpq, fun i hi => Nat.lt_of_lt_of_le (h.old i hi) c.size⟩
/-- One more was added. -/
theorem Ts.count (h : Ts w F bt bp lv P a) (x : Int) : Ts (w.setCell ⟨bt, 1, none⟩ (.int .u64 x)) F bt bp lv P x := by
  have c : Cha (fun i => i = bt) w (w.setCell ⟨bt, 1, none⟩ (.int .u64 x)) := (Cha.refl (fun i => i = bt) w).setCell (p := ⟨bt, 1, none⟩) (fun _ => rfl) _
  refine ⟨?_, h.k1, h.k8, c.row h.tab (fun e => h.ne e.symm), fun p L hp => (h.lst p L hp).cha c (fun g hg e => (h.fv p g (List.getElem?_eq_some_iff.1 hp).1 hg).2.1 e), h.ne, h.ft, h.fp, h.fv, h.fpq, fun i hi => Nat.lt_of_lt_of_le (h.old i hi) c.size⟩
  have e := heap_setCell_same w bt 1 _ 88 (.int .u64 x) h.head
  rw [e]
  rfl
/-- A processor's list is another one now. -/
theorem Ts.put (h : Ts w F bt bp lv P a) {p : Nat} (hp : p < P.length) (k : EApp w w' (lv p) L2 v') :
    TLeft w (w'.setCell ⟨bp, p, none⟩ v') F bt bp (P.set p L2) a := by
  have hs : (P.set p L2).length = P.length := List.length_set ..
  have c1 : Cha F w w' := k.cha.mono fun i _ e => (h.fv p i hp e).1
  have c2 : Cha F w (w'.setCell ⟨bp, p, none⟩ v') := c1.setCell (p := ⟨bp, p, none⟩) (fun _ => h.fp) _
  have hbp : FRow 95 w' bp P.length lv := k.cha.row h.tab (fun e => (h.fv p bp hp e).2.2 rfl)
  have kset : Cha (fun i => i = bp) w' (w'.setCell ⟨bp, p, none⟩ v') := (Cha.refl (fun i => i = bp) w').setCell (p := ⟨bp, p, none⟩) (fun _ => rfl) _
  have hnew : ∀ g, v'.ownBlock = some g → g ≠ bt ∧ g ≠ bp ∧ (∀ q, q < P.length → q ≠ p → (lv q).ownBlock ≠ some g) := fun g hg => by
    rcases k.at' g hg with e | e
    · have r := h.fv p g hp e
      exact ⟨r.2.1, r.2.2, fun q hq hqp => fun c => h.fpq q p g hq hp hqp c e⟩
    · refine ⟨fun c => ?_, fun c => ?_, fun q hq hqp c => ?_⟩
      · have := h.old _ h.ft; omega
      · have := h.old _ h.fp; omega
      · have := h.old _ (h.fv q g hq c).1; omega
  have hlt : ∀ g, v'.ownBlock = some g → g < w'.heap.size := fun g hg => (World.ownsRow.lt k.ents g hg).2
  refine ⟨fun i => F i ∨ v'.ownBlock = some i, fun i => if i = p then v' else lv i, ⟨?_, by rw [hs]; exact h.k1, by rw [hs]; exact h.k8, by rw [hs]; exact hbp.set v', fun q L hq => ?_, h.ne, .inl h.ft, .inl h.fp, fun q g hq hg => ?_, fun q r g hq hr hqr hg => ?_, fun i hi => ?_⟩, c2, fun i hi => .inl hi, fun i hi => ?_⟩
  · rw [hs]
    have e1 := k.cha.old bt (h.old _ h.ft) (fun e => (h.fv p bt hp e).2.1 rfl)
    exact (heap_setCell_other w' _ _ _ (show bt ≠ bp from h.ne)).trans (e1.trans h.head)
  · by_cases e : q = p
    · subst e
      rw [List.getElem?_set_self hp] at hq
      cases hq
      rw [if_pos rfl]
      exact k.ents.cha kset (fun g hg e => (hnew g hg).2.1 e)
    · rw [List.getElem?_set_ne (Ne.symm e)] at hq
      rw [if_neg e]
      have hql := (List.getElem?_eq_some_iff.1 hq).1
      have r := (h.lst q L hq).cha k.cha (fun g hg c => h.fpq q p g hql hp e hg c)
      exact r.cha kset (fun g hg c => (h.fv q g hql hg).2.2 c)
  · rw [hs] at hq
    by_cases e : q = p
    · rw [if_pos e] at hg
      exact ⟨.inr hg, (hnew g hg).1, (hnew g hg).2.1⟩
    · rw [if_neg e] at hg
      have r := h.fv q g hq hg
      exact ⟨.inl r.1, r.2⟩
  · rw [hs] at hq hr
    by_cases e : q = p
    · rw [if_pos e] at hg
      rw [if_neg (fun c => hqr (e.trans c.symm))]
      exact (hnew g hg).2.2 r hr (fun c => hqr (e.trans c.symm))
    · rw [if_neg e] at hg
      by_cases e2 : r = p
      · rw [if_pos e2]
        exact fun c => (hnew g c).2.2 q hq e hg
      · rw [if_neg e2]
        exact h.fpq q r g hq hr hqr hg
  · rw [show (w'.setCell ⟨bp, p, none⟩ v').heap.size = w'.heap.size by simp [World.setCell]]
    rcases hi with hi | hi
    · exact Nat.lt_of_lt_of_le (h.old i hi) c1.size
    · exact hlt i hi
  · rcases hi with hi | hi
    · exact .inl hi
    · rcases k.at' i hi with e | e
      · exact .inl (h.fv p i hp e).1
      · exact .inr e
theorem tadd_none (p t n : Int) (w : World) : Calls Try.prog 34 #[.pointer none, .int .i64 p, .int .u64 t, .int .i64 n] w fun e w' => e = .returned (.int .i64 5) ∧ w = w' := by
  go_enter Try.func34, Try.ntmps34
  go_wp2
  go_ret
  exact ⟨rfl, rfl⟩
theorem tadd_bad (p t n : Int) (h : Ts w F bt bp lv P a) (hp : p < 0 ∨ (P.length : Int) ≤ p) : Calls Try.prog 34 #[.pointer (some ⟨bt, 0, none⟩), .int .i64 p, .int .u64 t, .int .i64 n] w fun e w' => e = .returned (.int .i64 1) ∧ w = w' := by
  have C := Lib.hid (tisproc_no p h hp)
  clear h hp
  go_enter Try.func34, Try.ntmps34
  go_wp2_with (go_at_call 43; ((with_reducible refine (C.out).mono ?_); rintro e w1 ⟨rfl, rfl⟩))
  go_ret
  exact ⟨rfl, rfl⟩
theorem tadd_full (p : Nat) (t n : Int) (h : Ts w F bt bp lv P a) (hp : p < P.length) (hm : many P = 1024) : Calls Try.prog 34 #[.pointer (some ⟨bt, 0, none⟩), .int .i64 (p : Int), .int .u64 t, .int .i64 n] w fun e w' => e = .returned (.int .i64 3) ∧ ∃ k, w' = w.drewN k := by
  have C := Lib.hid (tisproc_yes p h hp)
  have D := Lib.hid (tcount_any h (by omega))
  rw [hm] at D
  clear h hp hm
  go_enter Try.func34, Try.ntmps34
  go_wp2_with (first
    | (go_at_call 43; ((with_reducible refine (C.out).mono ?_); rintro e w1 ⟨rfl, rfl⟩))
    | (go_at_call 35; ((with_reducible refine (D.out).mono ?_); rintro e w1 ⟨rfl, k, rfl⟩)))
  go_ret
  exact ⟨rfl, k, rfl⟩
end Go.Proofs.Ytaloafihbdamiaa
