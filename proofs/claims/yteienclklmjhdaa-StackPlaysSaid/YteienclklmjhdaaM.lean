/- A set of places in memory: a map from ints to nothing. -/
import Derived.Test.YteienclklmjhdaaW
import Derived.Maps.Ext
import Derived.Maps.OwnSet
import Derived.Maps.RangeWalk
namespace Go.Proofs.Yteienclklmjhdaa
open Go.ChangeShapes Go.WideShapes Go.ChangeAt Go.RowKit

theorem keyed3 : Maps.Keyed Try.prog 3 := Maps.int_keyed Try.underlying3
theorem zero66 (w : World) : (zeroValue 66).run Try.prog w = .ok (.agg #[]) w := by kernel_rfl
theorem wf_i64 {a : Int} (h1 : -9223372036854775808 ≤ a) (h2 : a ≤ 9223372036854775807) : (Lit.int .i64 a).wf = true := (Lit.wf_int_iff .i64 a).2 (And.intro h1 h2)
theorem key3 {x : Int} (h0 : 0 ≤ x) (hx : x ≤ 1000000) : keyOf Try.prog 3 (.int .i64 x) = some (.int .i64 x) :=
  Maps.keyOf_int_mk Try.underlying3 (wf_i64 (by omega) (by omega))
theorem keyLit3 {x : Int} (h0 : 0 ≤ x) (hx : x ≤ 1000000) : WideAt.IsKeyLit (.int .i64 x) := keyed3.key (key3 h0 hx)
abbrev unitR : Value → Option (DataW Unit × List MemPlace) := unitElem

/-- How many of the first k places there are. -/
def cnt (p : Nat → Bool) : Nat → Nat
  | 0 => 0
  | k + 1 => cnt p k + (if p k = true then 1 else 0)
theorem cnt_le (p : Nat → Bool) : ∀ k, cnt p k ≤ k
  | 0 => Nat.le_refl _
  | k + 1 => by have := cnt_le p k; unfold cnt; split <;> omega
theorem cnt_congr {p q : Nat → Bool} : ∀ {k : Nat}, (∀ x, x < k → p x = q x) → cnt p k = cnt q k
  | 0, _ => rfl
  | k + 1, h => by unfold cnt; rw [cnt_congr (k := k) fun x hx => h x (by omega), h k (by omega)]
theorem cnt_add {p : Nat → Bool} {x : Nat} (h0 : p x = false) : ∀ {k : Nat}, x < k → cnt (fun y => decide (y = x) || p y) k = cnt p k + 1
  | 0, h => by omega
  | k + 1, h => by
    unfold cnt
    by_cases e : x = k
    · subst e
      rw [cnt_congr (q := p) fun y hy => by rw [decide_eq_false (by omega)]; rfl, h0]
      simp
    · rw [cnt_add h0 (by omega), decide_eq_false (fun c => e c.symm)]
      simp only [Bool.false_or]
      omega
theorem size_cnt : ∀ {es : List (Lit × DataW Unit)}, es.Pairwise (fun p q => p.1 ≠ q.1) → (∀ p ∈ es, ∃ x : Nat, x < 1000000 ∧ p.1 = .int .i64 (x : Int)) →
    es.length = cnt (fun x => es.any fun p => p.1.sameKey (.int .i64 (x : Int))) 1000000
  | [], _, _ => by
    have : ∀ k, cnt (fun x => ([] : List (Lit × DataW Unit)).any fun p => p.1.sameKey (.int .i64 (x : Int))) k = 0 := by
      intro k
      induction k with
      | zero => rfl
      | succ k ih => unfold cnt; rw [ih]; rfl
    rw [this]; rfl
  | (k, d) :: l, h, hk => by
    obtain ⟨x, hx, e⟩ := hk _ (List.mem_cons_self ..)
    have e : k = .int .i64 (x : Int) := e
    subst e
    obtain ⟨h1, h2⟩ := List.pairwise_cons.1 h
    have hk2 := fun p hp => hk p (List.mem_cons_of_mem _ hp)
    rw [List.length_cons, size_cnt h2 hk2, ← cnt_add (x := x) _ hx]
    · refine (cnt_congr fun y hy => ?_).symm
      rw [List.any_cons]
      by_cases c : y = x
      · subst c; rw [WideAt.sameKey_self (keyLit3 (by omega) (by omega))]; simp
      · rw [Maps.sameKey_ne (fun q => c (by injection q with _ q; omega)), decide_eq_false c]
    · rw [List.any_eq_false]
      intro p hp c
      obtain ⟨y, hy, e2⟩ := hk2 p hp
      rw [e2] at c
      by_cases q : y = x
      · subst q; exact h1 p hp e2.symm
      · rw [Maps.sameKey_ne (fun r => q (by injection r with _ r; omega))] at c; cases c

/-- A datum is the set p of places. -/
def IsSet (D : DataW Unit) (p : Nat → Bool) : Prop := (∀ x : Nat, Maps.has D (.int .i64 (x : Int)) = p x) ∧ ∀ kl, Maps.has D kl = true → ∃ x : Nat, x < 1000000 ∧ kl = .int .i64 (x : Int)
/-- Block mb is a map of the places p. -/
def SM (W : World) (mb : Nat) (p : Nat → Bool) : Prop := ∃ D : DataW Unit, W.ownsMap Try.prog 3 unitR mb 1000000 D ∧ IsSet D p
section
variable {W W' : World} {mb : Nat} {p : Nat → Bool} {S : Nat → Prop} {D : DataW Unit} {n : Nat}
theorem owns_tight (h : W.ownsMap Try.prog 3 unitR mb n D) : W.ownsMap Try.prog 3 unitR mb (Maps.size D) D := by
  obtain ⟨es, clock, hb, F, hs, hD⟩ := h
  refine ⟨es, clock, hb, F, ?_, hD⟩
  rw [hD]
  simp [Maps.size, length_sorted]
theorem owns_mil (h : W.ownsMap Try.prog 3 unitR mb n D) (s : IsSet D p) : W.ownsMap Try.prog 3 unitR mb 1000000 D := by
  have ht := h.tidy keyed3
  refine (owns_tight h).mono ?_
  obtain ⟨es, rfl, hp⟩ := ht
  have hk : ∀ q ∈ es, ∃ x : Nat, x < 1000000 ∧ q.1 = .int .i64 (x : Int) := by
    intro q hq
    refine s.2 q.1 ?_
    rw [Maps.has_eq, List.any_eq_true]
    obtain ⟨es2, e, _, hl⟩ := h.entries keyed3
    injection e with e
    subst e
    exact ⟨q, hq, WideAt.sameKey_self (hl q hq)⟩
  rw [Maps.size_eq, size_cnt hp hk]
  exact cnt_le _ _
theorem SM.lt (h : SM W mb p) : mb < W.heap.size := by obtain ⟨D, h, _⟩ := h; exact h.lt
theorem SM.cha (h : SM W mb p) (c : Cha S W W') (hs : ¬ S mb) : SM W' mb p := by
  have hl := h.lt
  obtain ⟨D, ⟨es, clock, hb, r⟩, k⟩ := h
  exact ⟨D, ⟨es, clock, (c.old mb hl hs).trans hb, r⟩, k⟩
theorem SM.congr {q : Nat → Bool} (h : SM W mb p) (he : ∀ x, p x = q x) : SM W mb q := by
  obtain rfl : p = q := funext he
  exact h
theorem IsSet.none : IsSet (.map []) (fun _ => false) := ⟨fun _ => rfl, fun kl h => by cases h⟩
theorem SM.made (W : World) : SM (W.alloc (.map #[] 0)) W.heap.size (fun _ => false) :=
  ⟨.map [], (World.ownsMap_made _ _ _ _).mono (Nat.zero_le _), IsSet.none⟩
theorem IsSet.put (s : IsSet D p) (hD : Maps.IsMap D) {x : Nat} (hx : x < 1000000) (d : DataW Unit) : IsSet (D.put (.int .i64 (x : Int)) d) (fun y => decide (y = x) || p y) := by
  refine ⟨fun y => ?_, fun kl hk => ?_⟩
  · by_cases e : y = x
    · subst e; rw [Maps.has_put_same hD (keyLit3 (by omega) (by omega))]; simp
    · rw [Maps.has_put_other (fun q => e (by injection q with _ q; omega)), s.1]; simp [e]
  · by_cases e : kl = .int .i64 (x : Int)
    · exact ⟨x, hx, e⟩
    · rw [Maps.has_put_other e] at hk; exact s.2 kl hk
theorem IsSet.del (s : IsSet D p) (x : Nat) : IsSet (D.del (.int .i64 (x : Int))) (fun y => !decide (y = x) && p y) := by
  refine ⟨fun y => ?_, fun kl hk => ?_⟩
  · by_cases e : y = x
    · subst e; rw [Maps.has_del_same]; simp
    · rw [Maps.has_del_other (fun q => e (by injection q with _ q; omega)), s.1]; simp [e]
  · by_cases e : kl = .int .i64 (x : Int)
    · rw [e, Maps.has_del_same] at hk; cases hk
    · rw [Maps.has_del_other e] at hk; exact s.2 kl hk
theorem turned_cha {w w' : World} {b : Nat} (h : w.mapTurned w' b) : Cha (fun i => i = b) w w' := Cha.of_grownBy h.grown fun k e => by cases e; rfl
theorem SM.put (h : SM W mb p) {x : Nat} (hx : x < 1000000) :
    ∃ W', (Instr.mapUpdate 55 (.map (some mb)) (.int .i64 (x : Int)) (.agg #[])).run Try.prog W = .ok () W' ∧ SM W' mb (fun y => decide (y = x) || p y) ∧ W.mapTurned W' mb := by
  obtain ⟨D, h1, h2⟩ := h
  obtain ⟨W', hr, k1, k2⟩ := h1.store keyed3 Try.underlying55 (by unfold maxLen; omega) (key3 (x := (x : Int)) (by omega) (by omega)) unitElem_mk
  exact ⟨W', hr, ⟨_, owns_mil k1 (h2.put h1.isMap hx _), h2.put h1.isMap hx _⟩, k2⟩
theorem SM.del (h : SM W mb p) {x : Nat} (hx : x < 1000000) (ty : TypeId) :
    ∃ W', (Builtin.delete_ #[55, 3] ty #[.map (some mb), .int .i64 (x : Int)]).run Try.prog W = .ok (.tuple #[]) W' ∧ SM W' mb (fun y => !decide (y = x) && p y) ∧ W.mapTurned W' mb := by
  obtain ⟨D, h1, h2⟩ := h
  obtain ⟨W', hr, k1, k2⟩ := h1.drop keyed3 Try.underlying55 (key3 (x := (x : Int)) (by omega) (by omega)) ty
  exact ⟨W', hr, ⟨_, owns_mil k1 (h2.del x), h2.del x⟩, k2⟩
end
end Go.Proofs.Yteienclklmjhdaa
