/- The document's timers: lists in memory of elements of any number of cells, that may begin anywhere in their blocks. -/
import Derived.Test.YtaloafihbdamiaaGreatE
import Derived.Deep.Upon
import Derived.ArgAppend
namespace Go.Proofs.YtaloafihbdamiaaGreat.En
open Go.ChangeShapes Go.WideShapes Go.ChangeAt Go.RowKit
/-- How elements lie in memory: the slice's type, theirs, their cells and bytes, a zero one. -/
structure Enc (α : Type) where
  s : TypeId
  e : TypeId
  k : Nat
  b : Nat
  z : Value
  ce : α → List Value
structure Enc.Ok {α : Type} (E : Enc α) : Prop where
  und : Tryz.prog.underlying E.s = some (.slice E.e)
  inf : (Tryz.prog.info? E.e).map (fun i => (i.zero, i.size, i.bytes)) = some (some E.z, E.k, E.b)
  zk : E.z.cells.size = E.k
  pos : 0 < E.k
  len : ∀ a, (E.ce a).length = E.k
  one : ∀ a, ∀ u ∈ E.ce a, u.oneCell' = true
def Enc.cs {α : Type} (E : Enc α) (A : List α) : List Value := A.flatMap E.ce
section
variable {α : Type} {E : Enc α} (ok : E.Ok) (A N : List α)
include ok
theorem Enc.Ok.cs_len : (E.cs A).length = A.length * E.k := by
  unfold Enc.cs
  induction A with
  | nil => simp
  | cons a l ih => rw [List.flatMap_cons, List.length_append, ih, ok.len, List.length_cons, Nat.succ_mul]; omega
theorem Enc.Ok.cs_get {i j : Nat} (hi : i < A.length) (hj : j < E.k) : (E.cs A)[i * E.k + j]? = (E.ce A[i])[j]? := by
  unfold Enc.cs
  induction A generalizing i with
  | nil => cases hi
  | cons a l ih =>
    rw [List.flatMap_cons]
    cases i with
    | zero => rw [List.getElem?_append_left (by rw [ok.len]; omega)]; simp
    | succ i =>
      rw [List.getElem?_append_right (by rw [ok.len, Nat.succ_mul]; omega), ok.len, show (i + 1) * E.k + j - E.k = i * E.k + j by rw [Nat.succ_mul]; omega]
      have := ih (i := i) (by simpa using hi)
      simpa using this
theorem Enc.Ok.cs_one : ∀ u ∈ E.cs A, u.oneCell' = true := by
  intro u hu
  obtain ⟨x, _, hx⟩ := List.mem_flatMap.1 hu
  exact ok.one x u hx
end
theorem Enc.cs_app {α : Type} (E : Enc α) (A N : List α) : E.cs (A ++ N) = E.cs A ++ E.cs N := by simp [Enc.cs]
theorem Enc.cs_nil {α : Type} (E : Enc α) : E.cs [] = [] := rfl

/-- A list that may begin anywhere in its block. -/
def Lies {α : Type} (E : Enc α) (w : World) (v : Value) (A : List α) : Prop :=
  (A = [] ∧ v = .slice none 0 0) ∨ ∃ g o cap cur, v = .slice (some ⟨g, o, none⟩) A.length cap ∧ A.length ≤ cap ∧ cap ≤ maxLen ∧ w.heap[g]? = some (.cells cur E.e (0, 0)) ∧ o + cap * E.k ≤ cur.size ∧
    ∀ i, i < A.length * E.k → cur[o + i]? = (E.cs A)[i]?
section
variable {α : Type} {E : Enc α} {w w' : World} {v : Value} {A N : List α} {S : Nat → Prop}
theorem Lies.lt (h : Lies E w v A) {g : Nat} (hg : v.ownBlock = some g) : g < w.heap.size := by
  rcases h with ⟨_, rfl⟩ | ⟨g', o, cap, cur, rfl, _, _, hr, _⟩
  · cases hg
  · have e : g' = g := by simpa [Value.ownBlock] using hg
    subst e
    exact (Array.getElem?_eq_some_iff.1 hr).1
theorem Lies.cha (h : Lies E w v A) (c : Cha S w w') (hs : ∀ g, v.ownBlock = some g → ¬ S g) : Lies E w' v A := by
  have hl := fun g hg => h.lt (g := g) hg
  rcases h with ⟨h1, h2⟩ | ⟨g', o, cap, cur, rfl, h1, h2, h3, h4, h5⟩
  · exact .inl ⟨h1, h2⟩
  · exact .inr ⟨g', o, cap, cur, rfl, h1, h2, (c.old g' (hl g' rfl) (hs g' rfl)).trans h3, h4, h5⟩
theorem Lies.same (h : Lies E w v A) (c : Cha (fun _ => False) w w') : Lies E w' v A := h.cha c fun _ _ f => f
theorem Lies.nil (E : Enc α) (w : World) : Lies E w (.slice none 0 0) [] := .inl ⟨rfl, rfl⟩
theorem Lies.form (h : Lies E w v A) : ∃ a cap, v = .slice a A.length cap ∧ A.length ≤ cap ∧ cap ≤ maxLen := by
  rcases h with ⟨rfl, rfl⟩ | ⟨g', o, cap, cur, rfl, h1, h2, _⟩
  · exact ⟨none, 0, rfl, Nat.le_refl _, by decide⟩
  · exact ⟨_, cap, rfl, h1, h2⟩
theorem Lies.cells (ok : E.Ok) (h : Lies E w v A) (hp : 0 < A.length) : ∃ g o cap, v = .slice (some ⟨g, o, none⟩) A.length cap ∧ A.length ≤ cap ∧ cap ≤ maxLen ∧
    ∀ W, Cha (fun i => v.ownBlock ≠ some i) w W → (∀ i j, (hi : i < A.length) → j < E.k → W.cell? ⟨g, o + i * E.k + j, none⟩ = (E.ce A[i])[j]?) ∧ (∀ j u, (E.cs A)[j]? = some u → W.cell? ((⟨g, o, none⟩ : Addr).add j) = some u) := by
  rcases h with ⟨rfl, rfl⟩ | ⟨g, o, cap, cur, rfl, h1, h2, h3, h4, h5⟩
  · cases hp
  · refine ⟨g, o, cap, rfl, h1, h2, fun W c => ?_⟩
    have h3' := (c.old g (Array.getElem?_eq_some_iff.1 h3).1 (fun f => f rfl)).trans h3
    refine ⟨fun i j hi hj => ?_, fun j u hu => ?_⟩
    · have hlt : i * E.k + j < A.length * E.k := Nat.lt_of_lt_of_le (by rw [Nat.succ_mul]; omega) (Nat.mul_le_mul_right E.k hi)
      rw [cell_of_row W g _ cur E.e (0, 0) h3', Nat.add_assoc, h5 _ hlt, ok.cs_get A hi hj]
    · have e : (⟨g, o, none⟩ : Addr).add j = ⟨g, o + j, none⟩ := by unfold Addr.add; split <;> simp_all
      have hj : j < A.length * E.k := by
        rw [← ok.cs_len A]
        by_cases c : j < (E.cs A).length
        · exact c
        · rw [List.getElem?_eq_none (by omega)] at hu; cases hu
      rw [e, cell_of_row W g _ cur E.e (0, 0) h3', h5 j hj]
      exact hu
/-- The head goes. -/
theorem Lies.tail (ok : E.Ok) {g o n cap : Nat} {x : α} (h : Lies E w (.slice (some ⟨g, o, none⟩) n cap) (x :: A)) : Lies E w (.slice (some ⟨g, if cap = 1 then o else o + E.k, none⟩) (n - 1) (cap - 1)) A := by
  rcases h with ⟨h, _⟩ | ⟨g', o', cap', cur, e, h1, h2, h3, h4, h5⟩
  · cases h
  · cases e
    simp only [List.length_cons] at h1 h5 ⊢
    have hk : cap * E.k = (cap - 1) * E.k + E.k := by
      obtain ⟨c, rfl⟩ : ∃ c, cap = c + 1 := ⟨cap - 1, by omega⟩
      rw [Nat.add_sub_cancel, Nat.succ_mul]
    refine .inr ⟨g, _, cap - 1, cur, by rw [Nat.add_sub_cancel], by omega, by omega, h3, by split <;> omega, fun i hi => ?_⟩
    have h1c : cap ≠ 1 := by
      intro e; subst e
      have : A.length = 0 := by omega
      rw [this] at hi; omega
    have := h5 (i + E.k) (by rw [Nat.succ_mul]; omega)
    rw [if_neg h1c, show o + E.k + i = o + (i + E.k) by omega, this]
    show (List.flatMap E.ce (x :: A))[i + E.k]? = _
    rw [List.flatMap_cons, List.getElem?_append_right (by rw [ok.len]; omega), ok.len, Nat.add_sub_cancel]
    rfl
end

section
variable {α : Type} {E : Enc α}
theorem Lies.of_own {w : World} {base : Nat} {v : Value} {A : List α} (h : w.ownsRow base E.e E.k v A.length (E.cs A)) : Lies E w v A := by
  rcases h.2 with ⟨rfl, h0⟩ | ⟨g, cap, cur, rfl, hb, hg, h1, h2, h3, h4⟩
  · exact .inl ⟨List.eq_nil_of_length_eq_zero h0, rfl⟩
  · refine .inr ⟨g, 0, cap, cur, rfl, h1, h2, hg, by omega, fun i hi => ?_⟩
    rw [Nat.zero_add]
    have : (cur.toList.take (A.length * E.k))[i]? = (E.cs A)[i]? := by rw [h4]
    rw [List.getElem?_take, if_pos hi] at this
    rw [Array.getElem?_toList] at this
    rw [this]
end
/-- Where the new slice lies: the old one's block, or a new one. -/
structure App {α : Type} (E : Enc α) (w w' : World) (v : Value) (A N : List α) (g o cap : Nat) : Prop where
  lies : Lies E w' (.slice (some ⟨g, o, none⟩) (A.length + N.length) cap) (A ++ N)
  cha : Cha (fun i => v.ownBlock = some i) w w'
  at' : v.ownBlock = some g ∨ w.heap.size ≤ g
  lt : g < w'.heap.size
section
variable {α : Type} {E : Enc α} (ok : E.Ok)
include ok
theorem run_app (ty : TypeId) {w : World} {v : Value} {A : List α} (h : Lies E w v A) (ad : Addr) (c : Nat) (N : List α) (hN : ∀ j u, (E.cs N)[j]? = some u → w.cell? (ad.add j) = some u) (hpos : 0 < N.length)
    (b1 : A.length + N.length ≤ maxLen) (b2 : (A.length + N.length) * E.b ≤ 140737488355328) :
    ∃ g o cap w', (Builtin.append_ #[E.s, E.s] ty #[v, .slice (some ad) N.length c]).run Tryz.prog w = .ok (.slice (some ⟨g, o, none⟩) (A.length + N.length) cap) w' ∧ App E w w' v A N g o cap := by
  obtain ⟨i0, hi, hz0, hz1, hz2⟩ := info_parts ok.inf
  have hlN := ok.cs_len N
  have hlA := ok.cs_len A
  have fin : ∀ v' w', w'.ownsRow w.heap.size E.e E.k v' (A.length + N.length) (E.cs A ++ E.cs N) → w.grownBy w' none → ∃ g o cap, v' = .slice (some ⟨g, o, none⟩) (A.length + N.length) cap ∧ App E w w' v A N g o cap := by
    intro v' w' h1 h2
    obtain ⟨g, cap, rfl, hb, hlt⟩ := h1.form (by omega)
    refine ⟨g, 0, cap, rfl, ?_, (Cha.of_grownBy (S := fun _ => False) h2 (fun k e => by cases e)).wide, .inr hb, hlt⟩
    rw [← Enc.cs_app, ← List.length_append] at h1
    have := Lies.of_own h1
    rwa [List.length_append] at this
  rcases h with ⟨rfl, rfl⟩ | ⟨g, o, cap, cur, rfl, h1, h2, h3, h4, h5⟩
  · obtain ⟨v', w', hr, r1, r2, _⟩ := run_append_own (P := Tryz.prog) w w.heap.size E.s ty E.e i0 _ E.k E.b ok.und hi hz0 hz1 hz2 ok.zk ok.pos (.slice none 0 0) 0 [] (World.ownsRow_nil w _ E.e E.k) ad N.length c (E.cs N) hlN hN (ok.cs_one N) (by simpa using b1) (by simpa using b2) (Nat.le_refl _)
    obtain ⟨g, o, cap, rfl, k⟩ := fin v' w' (by simpa [Enc.cs_nil] using r1) r2
    exact ⟨g, o, cap, w', by simpa using hr, k⟩
  · by_cases hroom : A.length + N.length ≤ cap
    · have hfr : ∀ j, w.frozen? ⟨g, j, none⟩ = false := fun j => frozen_of_row w g j _ E.e h3
      have hcl : ∀ j, w.cell? ⟨g, j, none⟩ = cur[j]? := fun j => cell_of_row w g j cur E.e (0, 0) h3
      have hrm : (A.length + N.length) * E.k ≤ cap * E.k := Nat.mul_le_mul_right _ hroom
      rw [Nat.add_mul] at hrm
      have hr := run_append_room_cells (P := Tryz.prog) w E.s ty E.e i0 ok.und hi g o A.length cap ad N.length c (E.cs N) (by rw [hz1]; exact hlN) hN (ok.cs_one N) hroom (fun j hj => by rw [hcl, hz1, Array.getElem?_eq_getElem (by omega)]; rfl) (fun j _ => hfr _)
      rw [hz1] at hr
      obtain ⟨cur', c1, c0, c2⟩ := heap_setCells_same g E.e (E.cs N) (o + A.length * E.k) w cur h3 (by omega)
      refine ⟨g, o, cap, _, hr, .inr ⟨g, o, cap, cur', by rw [List.length_append], by rw [List.length_append]; exact hroom, h2, c1, by omega, fun i hi => ?_⟩, (Cha.refl (fun i => (Value.slice (some ⟨g, o, none⟩) A.length cap).ownBlock = some i) w).setCells (g := g) (fun _ => rfl) _ _, .inl rfl, by rw [size_setCells]; exact (Array.getElem?_eq_some_iff.1 h3).1⟩
      rw [List.length_append, Nat.add_mul] at hi
      rw [c2, Enc.cs_app]
      by_cases e : i < A.length * E.k
      · rw [if_neg (by omega), h5 i e, List.getElem?_append_left (by omega)]
      · rw [if_pos (by omega), List.getElem?_append_right (by omega)]
        have e3 : o + i - (o + A.length * E.k) = i - (E.cs A).length := by omega
        rw [e3]
    · obtain ⟨v', w', hr, r1, r2⟩ := run_append_arg_grows (P := Tryz.prog) w E.s ty E.e i0 _ E.k E.b ok.und hi hz0 hz1 hz2 ok.zk ok.pos ⟨g, o, none⟩ A.length cap (E.cs A) hlA (fun j u hu => by
        have e : (⟨g, o, none⟩ : Addr).add j = ⟨g, o + j, none⟩ := by unfold Addr.add; split <;> simp_all
        rw [e, cell_of_row w g _ cur E.e (0, 0) h3]
        have hj : j < A.length * E.k := by
          by_cases c : j < A.length * E.k
          · exact c
          · rw [List.getElem?_eq_none (by omega)] at hu; cases hu
        rw [h5 j hj, hu]) ad N.length c (E.cs N) hlN hN (by omega) b1 b2
      obtain ⟨g2, o2, cap2, rfl, k⟩ := fin v' w' r1 r2
      exact ⟨g2, o2, cap2, w', hr, k⟩

variable {ops : Array Oper} {rest : List Oper} {o : Oper} {a : Act} {Q : Exit → Act → World → Prop} {w : World}
theorem wp_app {K : Act → World → Prop} (s x : Operand) (ho : o.op = .call { callee := .builtin .append, args := #[s, x], argTypes := #[E.s, E.s] })
    {v : Value} {A : List α} (hs : a.eval s = v) (hl : Lies E w v A) (ad : Addr) (m c : Nat) (N : List α) (hx : a.eval x = .slice (some ad) m c) (hm : N.length = m) (hN : ∀ j u, (E.cs N)[j]? = some u → w.cell? (ad.add j) = some u) (hpos : 0 < N.length)
    (b1 : A.length + N.length ≤ maxLen) (b2 : (A.length + N.length) * E.b ≤ 140737488355328)
    (h : ∀ g of cap w', App E w w' v A N g of cap → K (a.put o.dst (.slice (some ⟨g, of, none⟩) (A.length + N.length) cap)) w') : o.wp Tryz.prog a w K Q := by
  subst hm
  obtain ⟨g, of, cap, w', hr, hA⟩ := run_app ok o.type hl ad c N hN hpos b1 b2
  unfold Oper.wp execOp
  simp only [ho, resolve, invoke, builtin, Sem.run_bind, Sem.run_pure, Result.andThen_ok, List.map_toArray, List.map_cons, List.map_nil, hs, hx, hr]
  exact h g of cap w' hA
theorem wpList_app (hgd : o.guard = none) (s x : Operand) (ho : o.op = .call { callee := .builtin .append, args := #[s, x], argTypes := #[E.s, E.s] })
    {v : Value} {A : List α} (hs : a.eval s = v) (hl : Lies E w v A) (ad : Addr) (m c : Nat) (N : List α) (hx : a.eval x = .slice (some ad) m c) (hm : N.length = m) (hN : ∀ j u, (E.cs N)[j]? = some u → w.cell? (ad.add j) = some u) (hpos : 0 < N.length)
    (b1 : A.length + N.length ≤ maxLen) (b2 : (A.length + N.length) * E.b ≤ 140737488355328)
    (h : ∀ g of cap w', App E w w' v A N g of cap → wpList Tryz.prog ops Q rest (a.put o.dst (.slice (some ⟨g, of, none⟩) (A.length + N.length) cap)) w') : wpList Tryz.prog ops Q (o :: rest) a w :=
  wpList_plain hgd fun _ hK => wp_app ok s x ho hs hl ad m c N hx hm hN hpos b1 b2 fun g of cap w' hA => hK _ _ (h g of cap w' hA)
theorem step_app {K : Act → World → Prop} {X : Prop} (hgd : o.guard = none) (s x : Operand) (ho : o.op = .call { callee := .builtin .append, args := #[s, x], argTypes := #[E.s, E.s] })
    {v : Value} {A : List α} (hs : a.eval s = v) (hl : Lies E w v A) (ad : Addr) (m c : Nat) (N : List α) (hx : a.eval x = .slice (some ad) m c) (hm : N.length = m) (hN : ∀ j u, (E.cs N)[j]? = some u → w.cell? (ad.add j) = some u) (hpos : 0 < N.length)
    (b1 : A.length + N.length ≤ maxLen) (b2 : (A.length + N.length) * E.b ≤ 140737488355328)
    (h : ∀ g of cap w', App E w w' v A N g of cap → K (a.put o.dst (.slice (some ⟨g, of, none⟩) (A.length + N.length) cap)) w') :
    if Region.wanted o (yielded ops a.tmps) = true then Oper.wp Tryz.prog o a w K Q else X := by
  have hw : Region.wanted o (yielded ops a.tmps) = true := by simp [Region.wanted, hgd]
  rw [if_pos hw]
  exact wp_app ok s x ho hs hl ad m c N hx hm hN hpos b1 b2 h
end
set_option maxRecDepth 100000 in
/-- What was just laid into a block of its own. -/
theorem just_new {α : Type} (E : Enc α) (w : World) (x : α) (t : TypeId) : ∀ j u, (E.cs [x])[j]? = some u → (w.alloc (.cells (E.ce x).toArray t)).cell? ((⟨w.heap.size, 0, none⟩ : Addr).add j) = some u := by
  intro j u hu
  have e : (⟨w.heap.size, 0, none⟩ : Addr).add j = ⟨w.heap.size, j, none⟩ := by unfold Addr.add; split <;> simp_all
  rw [e, cell_of_row _ w.heap.size j _ t (0, 0) (heap_alloc_new w _)]
  simpa [Enc.cs] using hu

/-- What an append leaves. -/
structure AppV {α : Type} (E : Enc α) (w w' : World) (v : Value) (A : List α) (v' : Value) : Prop where
  lies : Lies E w' v' A
  cha : Cha (fun i => v.ownBlock = some i) w w'
  at' : ∀ g, v'.ownBlock = some g → v.ownBlock = some g ∨ w.heap.size ≤ g
theorem run_any {α : Type} {E : Enc α} (ok : E.Ok) (ty : TypeId) {w : World} {v u : Value} {A N : List α} (h : Lies E w v A) (k : Lies E w u N) (b1 : A.length + N.length ≤ maxLen) (b2 : (A.length + N.length) * E.b ≤ 140737488355328) :
    ∃ v' w', (Builtin.append_ #[E.s, E.s] ty #[v, u]).run Tryz.prog w = .ok v' w' ∧ AppV E w w' v (A ++ N) v' := by
  by_cases h0 : N.length = 0
  · have hN : N = [] := List.eq_nil_of_length_eq_zero h0
    subst hN
    obtain ⟨s, c, rfl, _⟩ := k.form
    obtain ⟨s2, c2, rfl, hc2, _⟩ := h.form
    obtain ⟨i0, hi, hz0, hz1, hz2⟩ := info_parts ok.inf
    refine ⟨.slice s2 A.length c2, w, ?_, ?_⟩
    · refine run_append_nothing w E.s E.s ty E.e i0 ok.und hi s2 A.length c2 hc2 _ ?_
      cases s with
      | none => exact Src.ofNil w ok.und c
      | some a => exact ⟨.inl ⟨E.e, ok.und⟩, fun _ => rfl, run_firstCells_some w _ 0 a 0 c [] (by simp) (fun j v hj => by cases hj), run_firstCells_some w.drew _ 0 a 0 c [] (by simp) (fun j v hj => by cases hj), by simp, fun u hu => by cases hu⟩
    · rw [List.append_nil]
      exact ⟨h, Cha.refl _ _, fun g hg => .inl hg⟩
  · obtain ⟨g, o, cap, rfl, hc1, hc2, hc3⟩ := k.cells ok (by omega)
    obtain ⟨g', o', cap', w', hr, hA⟩ := run_app ok ty h ⟨g, o, none⟩ cap N (hc3 w (Cha.refl _ _)).2 (by omega) b1 b2
    exact ⟨_, w', hr, hA.lies, hA.cha, fun g hg => by cases hg; exact hA.at'⟩
/-- A part of a list: its beginning, its end. -/
theorem cs_take {α : Type} {E : Enc α} (ok : E.Ok) {A : List α} {i j : Nat} (hi : i ≤ A.length) (hj : j < i * E.k) : (E.cs (A.take i))[j]? = (E.cs A)[j]? := by
  have e : E.cs A = E.cs (A.take i) ++ E.cs (A.drop i) := by rw [← Enc.cs_app, List.take_append_drop]
  rw [e, List.getElem?_append_left (by rw [ok.cs_len, List.length_take, Nat.min_eq_left hi]; exact hj)]
theorem cs_drop {α : Type} {E : Enc α} (ok : E.Ok) {A : List α} {i : Nat} (hi : i ≤ A.length) (j : Nat) : (E.cs (A.drop i))[j]? = (E.cs A)[i * E.k + j]? := by
  have e : E.cs A = E.cs (A.take i) ++ E.cs (A.drop i) := by rw [← Enc.cs_app, List.take_append_drop]
  have hl : (E.cs (A.take i)).length = i * E.k := by rw [ok.cs_len, List.length_take, Nat.min_eq_left hi]
  rw [e, List.getElem?_append_right (by rw [hl]; omega), hl, Nat.add_sub_cancel_left]
theorem Lies.take {α : Type} {E : Enc α} (ok : E.Ok) {w : World} {a : Option Addr} {n cap : Nat} {A : List α} (h : Lies E w (.slice a n cap) A) {i : Nat} (hi : i ≤ A.length) : Lies E w (.slice a i cap) (A.take i) := by
  have hl : (A.take i).length = i := by rw [List.length_take]; omega
  rcases h with ⟨rfl, e⟩ | ⟨g, o, cap', cur, e, h1, h2, h3, h4, h5⟩
  · cases e
    obtain rfl : i = 0 := by simpa using hi
    exact .inl ⟨rfl, rfl⟩
  · cases e
    refine .inr ⟨g, o, cap, cur, by rw [hl], by omega, h2, h3, h4, fun j hj => ?_⟩
    rw [hl] at hj
    have hm : i * E.k ≤ A.length * E.k := Nat.mul_le_mul_right _ hi
    rw [h5 j (by omega), cs_take ok hi hj]
theorem Lies.drop {α : Type} {E : Enc α} (ok : E.Ok) {w : World} {g o n cap : Nat} {A : List α} (h : Lies E w (.slice (some ⟨g, o, none⟩) n cap) A) {i : Nat} (hi : i ≤ A.length) :
    Lies E w (.slice (some ⟨g, if cap = i then o else o + i * E.k, none⟩) (n - i) (cap - i)) (A.drop i) := by
  have hl : (A.drop i).length = A.length - i := List.length_drop
  rcases h with ⟨_, e⟩ | ⟨g', o', cap', cur, e, h1, h2, h3, h4, h5⟩
  · cases e
  · cases e
    have hk : cap * E.k = (cap - i) * E.k + i * E.k := by rw [← Nat.add_mul]; congr 1; omega
    refine .inr ⟨g, _, cap - i, cur, by rw [hl], by omega, by omega, h3, by split <;> omega, fun j hj => ?_⟩
    rw [hl] at hj
    have hlk : A.length * E.k = (A.length - i) * E.k + i * E.k := by rw [← Nat.add_mul]; congr 1; omega
    have hc : cap ≠ i := by
      intro e; subst e
      have : A.length - cap = 0 := by omega
      rw [this] at hj; omega
    rw [if_neg hc, Nat.add_assoc, h5 _ (by omega), cs_drop ok hi]
/-- An element's cells, and that they may be written. -/
theorem Lies.elem {α : Type} {E : Enc α} (ok : E.Ok) {w : World} {v : Value} {A : List α} (h : Lies E w v A) {i : Nat} (hi : i < A.length) : ∃ g o cap, v = .slice (some ⟨g, o, none⟩) A.length cap ∧ A.length ≤ cap ∧ cap ≤ maxLen ∧
    (∀ j, j < E.k → w.cell? ⟨g, o + i * E.k + j, none⟩ = (E.ce A[i])[j]?) ∧ ∀ j, w.frozen? ⟨g, j, none⟩ = false := by
  obtain ⟨g, o, cap, e, h1, h2, h3⟩ := h.cells ok (by omega)
  refine ⟨g, o, cap, e, h1, h2, fun j hj => (h3 w (Cha.refl _ _)).1 i j hi hj, fun j => ?_⟩
  subst e
  rcases h with ⟨_, e⟩ | ⟨g', o', cap', cur, e, _, _, h3, _⟩
  · cases e
  · cases e; exact frozen_of_row w g j _ _ h3
end Go.Proofs.YtaloafihbdamiaaGreat.En
