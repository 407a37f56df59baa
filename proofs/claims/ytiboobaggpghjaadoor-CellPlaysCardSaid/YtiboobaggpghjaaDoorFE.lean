/- Lists in memory of elements of any number of cells, that may begin anywhere in their blocks. -/
import Derived.Test.YtiboobaggpghjaaDoorTC
import Derived.ArgAppend
import Derived.Deep.AppendLies
import Derived.Deep.Upon
import Derived.Test.YtiboobaggpghjaaDoorDS
namespace Go.Proofs.YtiboobaggpghjaaDoor
theorem size_setCells (b : Nat) : ∀ (vs : List Value) (o : Nat) (w : World), (w.setCells b o vs).heap.size = w.heap.size
  | [], _, _ => rfl
  | v :: r, o, w => by rw [World.setCells, size_setCells b r]; simp [World.setCell]
theorem heap_setCells_other (b k : Nat) (hk : k ≠ b) : ∀ (vs : List Value) (o : Nat) (w : World), (w.setCells b o vs).heap[k]? = w.heap[k]?
  | [], _, _ => rfl
  | v :: r, o, w => by rw [World.setCells, heap_setCells_other b k hk r, heap_setCell_other _ _ _ _ hk]
theorem heap_setCells_same (b : Nat) (t : TypeId) : ∀ (vs : List Value) (o : Nat) (w : World) (cur : Array Value), w.heap[b]? = some (.cells cur t (0, 0)) → o + vs.length ≤ cur.size →
    ∃ cur', (w.setCells b o vs).heap[b]? = some (.cells cur' t (0, 0)) ∧ cur'.size = cur.size ∧ ∀ i, cur'[i]? = if o ≤ i ∧ i < o + vs.length then vs[i - o]? else cur[i]?
  | [], o, w, cur, h, _ => ⟨cur, h, rfl, fun i => by rw [if_neg (by simp only [List.length_nil]; omega)]⟩
  | v :: r, o, w, cur, h, hl => by
    simp only [List.length_cons] at hl
    obtain ⟨cur', h1, h0, h2⟩ := heap_setCells_same b t r (o + 1) (w.setCell ⟨b, o, none⟩ v) (cur.setIfInBounds o v) (heap_setCell_same w b o cur t v h) (by simp; omega)
    refine ⟨cur', h1, by rw [h0]; simp, fun i => ?_⟩
    rw [h2, Array.getElem?_setIfInBounds]
    simp only [List.length_cons]
    by_cases e : o = i
    · subst e
      rw [if_neg (by omega), if_pos rfl, if_pos (by omega), if_pos (by omega)]
      simp
    · rw [if_neg e]
      by_cases e2 : o + 1 ≤ i ∧ i < o + 1 + r.length
      · rw [if_pos e2, if_pos (by omega), show i - o = (i - (o + 1)) + 1 by omega, List.getElem?_cons_succ]
      · rw [if_neg e2, if_neg (by omega)]
theorem out_setCells (b : Nat) : ∀ (vs : List Value) (o : Nat) (w : World), (w.setCells b o vs).os = w.os ∧ (w.setCells b o vs).output = w.output
  | [], _, _ => ⟨rfl, rfl⟩
  | v :: r, o, w => by rw [World.setCells]; exact out_setCells b r (o + 1) _
theorem Cha.setCells {S : Nat → Prop} {a b : World} (h : Cha S a b) {g : Nat} (hp : g < a.heap.size → S g) (o : Nat) (vs : List Value) : Cha S a (b.setCells g o vs) :=
  ⟨(out_setCells g vs o b).1.trans h.os, (out_setCells g vs o b).2.trans h.out, by rw [size_setCells]; exact h.size, fun i hi hs => (heap_setCells_other g i (fun e => hs (e ▸ hp (e ▸ hi))) vs o b).trans (h.old i hi hs)⟩

end Go.Proofs.YtiboobaggpghjaaDoor
namespace Go.Proofs.YtiboobaggpghjaaDoor.En
open Go.ChangeShapes Go.WideShapes Go.ChangeAt Go.RowKit
/-- How elements lie in memory: the slice's type, theirs, their cells and bytes, a zero one. -/
structure Enc (α : Type) where
  s : TypeId
  e : TypeId
  k : Nat
  b : Nat
  z : Value
  ce : α → List Value
structure Enc.Ok {α : Type} (E : Enc α) : Prop where
  und : Tryd.prog.underlying E.s = some (.slice E.e)
  inf : (Tryd.prog.info? E.e).map (fun i => (i.zero, i.size, i.bytes)) = some (some E.z, E.k, E.b)
  zk : E.z.cells.size = E.k
  pos : 0 < E.k
  len : ∀ a, (E.ce a).length = E.k
  one : ∀ a, ∀ u ∈ E.ce a, u.oneCell' = true
def Enc.cs {α : Type} (E : Enc α) (A : List α) : List Value := A.flatMap E.ce
section
variable {α : Type} {E : Enc α} (ok : E.Ok) (A N : List α)
include ok
theorem Enc.Ok.cs_len : (E.cs A).length = A.length * E.k := by
  unfold Enc.cs
  induction A with
  | nil => simp
  | cons a l ih => rw [List.flatMap_cons, List.length_append, ih, ok.len, List.length_cons, Nat.succ_mul]; omega
theorem Enc.Ok.cs_get {i j : Nat} (hi : i < A.length) (hj : j < E.k) : (E.cs A)[i * E.k + j]? = (E.ce A[i])[j]? := by
  unfold Enc.cs
  induction A generalizing i with
  | nil => cases hi
  | cons a l ih =>
    rw [List.flatMap_cons]
    cases i with
    | zero => rw [List.getElem?_append_left (by rw [ok.len]; omega)]; simp
    | succ i =>
      rw [List.getElem?_append_right (by rw [ok.len, Nat.succ_mul]; omega), ok.len, show (i + 1) * E.k + j - E.k = i * E.k + j by rw [Nat.succ_mul]; omega]
      have := ih (i := i) (by simpa using hi)
      simpa using this
theorem Enc.Ok.cs_one : ∀ u ∈ E.cs A, u.oneCell' = true := by
  intro u hu
  obtain ⟨x, _, hx⟩ := List.mem_flatMap.1 hu
  exact ok.one x u hx
end
theorem Enc.cs_app {α : Type} (E : Enc α) (A N : List α) : E.cs (A ++ N) = E.cs A ++ E.cs N := by simp [Enc.cs]
theorem Enc.cs_nil {α : Type} (E : Enc α) : E.cs [] = [] := rfl

/-- A list that may begin anywhere in its block. -/
def Lies {α : Type} (E : Enc α) (w : World) (v : Value) (A : List α) : Prop :=
  (A = [] ∧ v = .slice none 0 0) ∨ ∃ g o cap cur, v = .slice (some ⟨g, o, none⟩) A.length cap ∧ A.length ≤ cap ∧ cap ≤ maxLen ∧ w.heap[g]? = some (.cells cur E.e (0, 0)) ∧ o + cap * E.k ≤ cur.size ∧
    ∀ i, i < A.length * E.k → cur[o + i]? = (E.cs A)[i]?
section
variable {α : Type} {E : Enc α} {w w' : World} {v : Value} {A N : List α} {S : Nat → Prop}
theorem Lies.lt (h : Lies E w v A) {g : Nat} (hg : v.ownBlock = some g) : g < w.heap.size := by
  rcases h with ⟨_, rfl⟩ | ⟨g', o, cap, cur, rfl, _, _, hr, _⟩
  · cases hg
  · have e : g' = g := by simpa [Value.ownBlock] using hg
    subst e
    exact (Array.getElem?_eq_some_iff.1 hr).1
theorem Lies.cha (h : Lies E w v A) (c : Cha S w w') (hs : ∀ g, v.ownBlock = some g → ¬ S g) : Lies E w' v A := by
  have hl := fun g hg => h.lt (g := g) hg
  rcases h with ⟨h1, h2⟩ | ⟨g', o, cap, cur, rfl, h1, h2, h3, h4, h5⟩
  · exact .inl ⟨h1, h2⟩
  · exact .inr ⟨g', o, cap, cur, rfl, h1, h2, (c.old g' (hl g' rfl) (hs g' rfl)).trans h3, h4, h5⟩
theorem Lies.same (h : Lies E w v A) (c : Cha (fun _ => False) w w') : Lies E w' v A := h.cha c fun _ _ f => f
theorem Lies.nil (E : Enc α) (w : World) : Lies E w (.slice none 0 0) [] := .inl ⟨rfl, rfl⟩
theorem Lies.form (h : Lies E w v A) : ∃ a cap, v = .slice a A.length cap ∧ A.length ≤ cap ∧ cap ≤ maxLen := by
  rcases h with ⟨rfl, rfl⟩ | ⟨g', o, cap, cur, rfl, h1, h2, _⟩
  · exact ⟨none, 0, rfl, Nat.le_refl _, by decide⟩
  · exact ⟨_, cap, rfl, h1, h2⟩
theorem Lies.cells (ok : E.Ok) (h : Lies E w v A) (hp : 0 < A.length) : ∃ g o cap, v = .slice (some ⟨g, o, none⟩) A.length cap ∧ A.length ≤ cap ∧ cap ≤ maxLen ∧
    ∀ W, Cha (fun i => v.ownBlock ≠ some i) w W → (∀ i j, (hi : i < A.length) → j < E.k → W.cell? ⟨g, o + i * E.k + j, none⟩ = (E.ce A[i])[j]?) ∧ (∀ j u, (E.cs A)[j]? = some u → W.cell? ((⟨g, o, none⟩ : Addr).add j) = some u) := by
  rcases h with ⟨rfl, rfl⟩ | ⟨g, o, cap, cur, rfl, h1, h2, h3, h4, h5⟩
  · cases hp
  · refine ⟨g, o, cap, rfl, h1, h2, fun W c => ?_⟩
    have h3' := (c.old g (Array.getElem?_eq_some_iff.1 h3).1 (fun f => f rfl)).trans h3
    refine ⟨fun i j hi hj => ?_, fun j u hu => ?_⟩
    · have hlt : i * E.k + j < A.length * E.k := Nat.lt_of_lt_of_le (by rw [Nat.succ_mul]; omega) (Nat.mul_le_mul_right E.k hi)
      rw [cell_of_row W g _ cur E.e (0, 0) h3', Nat.add_assoc, h5 _ hlt, ok.cs_get A hi hj]
    · have e : (⟨g, o, none⟩ : Addr).add j = ⟨g, o + j, none⟩ := by unfold Addr.add; split <;> simp_all
      have hj : j < A.length * E.k := by
        rw [← ok.cs_len A]
        by_cases c : j < (E.cs A).length
        · exact c
        · rw [List.getElem?_eq_none (by omega)] at hu; cases hu
      rw [e, cell_of_row W g _ cur E.e (0, 0) h3', h5 j hj]
      exact hu
/-- The head goes. -/
theorem Lies.tail (ok : E.Ok) {g o n cap : Nat} {x : α} (h : Lies E w (.slice (some ⟨g, o, none⟩) n cap) (x :: A)) : Lies E w (.slice (some ⟨g, if cap = 1 then o else o + E.k, none⟩) (n - 1) (cap - 1)) A := by
  rcases h with ⟨h, _⟩ | ⟨g', o', cap', cur, e, h1, h2, h3, h4, h5⟩
  · cases h
  · cases e
    simp only [List.length_cons] at h1 h5 ⊢
    have hk : cap * E.k = (cap - 1) * E.k + E.k := by
      obtain ⟨c, rfl⟩ : ∃ c, cap = c + 1 := ⟨cap - 1, by omega⟩
      rw [Nat.add_sub_cancel, Nat.succ_mul]
    refine .inr ⟨g, _, cap - 1, cur, by rw [Nat.add_sub_cancel], by omega, by omega, h3, by split <;> omega, fun i hi => ?_⟩
    have h1c : cap ≠ 1 := by
      intro e; subst e
      have : A.length = 0 := by omega
      rw [this] at hi; omega
    have := h5 (i + E.k) (by rw [Nat.succ_mul]; omega)
    rw [if_neg h1c, show o + E.k + i = o + (i + E.k) by omega, this]
    show (List.flatMap E.ce (x :: A))[i + E.k]? = _
    rw [List.flatMap_cons, List.getElem?_append_right (by rw [ok.len]; omega), ok.len, Nat.add_sub_cancel]
    rfl
end

section
variable {α : Type} {E : Enc α}
theorem Lies.of_own {w : World} {base : Nat} {v : Value} {A : List α} (h : w.ownsRow base E.e E.k v A.length (E.cs A)) : Lies E w v A := by
  rcases h.2 with ⟨rfl, h0⟩ | ⟨g, cap, cur, rfl, hb, hg, h1, h2, h3, h4⟩
  · exact .inl ⟨List.eq_nil_of_length_eq_zero h0, rfl⟩
  · refine .inr ⟨g, 0, cap, cur, rfl, h1, h2, hg, by omega, fun i hi => ?_⟩
    rw [Nat.zero_add]
    have : (cur.toList.take (A.length * E.k))[i]? = (E.cs A)[i]? := by rw [h4]
    rw [List.getElem?_take, if_pos hi] at this
    rw [Array.getElem?_toList] at this
    rw [this]
end
/-- Where the new slice lies: the old one's block, or a new one. -/
structure App {α : Type} (E : Enc α) (w w' : World) (v : Value) (A N : List α) (g o cap : Nat) : Prop where
  lies : Lies E w' (.slice (some ⟨g, o, none⟩) (A.length + N.length) cap) (A ++ N)
  cha : Cha (fun i => v.ownBlock = some i) w w'
  at' : v.ownBlock = some g ∨ w.heap.size ≤ g
  lt : g < w'.heap.size
section
variable {α : Type} {E : Enc α} (ok : E.Ok)
include ok
theorem run_app (ty : TypeId) {w : World} {v : Value} {A : List α} (h : Lies E w v A) (ad : Addr) (c : Nat) (N : List α) (hN : ∀ j u, (E.cs N)[j]? = some u → w.cell? (ad.add j) = some u) (hpos : 0 < N.length)
    (b1 : A.length + N.length ≤ maxLen) (b2 : (A.length + N.length) * E.b ≤ 140737488355328) :
    ∃ g o cap w', (Builtin.append_ #[E.s, E.s] ty #[v, .slice (some ad) N.length c]).run Tryd.prog w = .ok (.slice (some ⟨g, o, none⟩) (A.length + N.length) cap) w' ∧ App E w w' v A N g o cap := by
  obtain ⟨i0, hi, hz0, hz1, hz2⟩ := info_parts ok.inf
  have hlN := ok.cs_len N
  have hlA := ok.cs_len A
  have fin : ∀ v' w', w'.ownsRow w.heap.size E.e E.k v' (A.length + N.length) (E.cs A ++ E.cs N) → w.grownBy w' none → ∃ g o cap, v' = .slice (some ⟨g, o, none⟩) (A.length + N.length) cap ∧ App E w w' v A N g o cap := by
    intro v' w' h1 h2
    obtain ⟨g, cap, rfl, hb, hlt⟩ := h1.form (by omega)
    refine ⟨g, 0, cap, rfl, ?_, (Cha.of_grownBy (S := fun _ => False) h2 (fun k e => by cases e)).wide, .inr hb, hlt⟩
    rw [← Enc.cs_app, ← List.length_append] at h1
    have := Lies.of_own h1
    rwa [List.length_append] at this
  rcases h with ⟨rfl, rfl⟩ | ⟨g, o, cap, cur, rfl, h1, h2, h3, h4, h5⟩
  · obtain ⟨v', w', hr, r1, r2, _⟩ := run_append_own (P := Tryd.prog) w w.heap.size E.s ty E.e i0 _ E.k E.b ok.und hi hz0 hz1 hz2 ok.zk ok.pos (.slice none 0 0) 0 [] (World.ownsRow_nil w _ E.e E.k) ad N.length c (E.cs N) hlN hN (ok.cs_one N) (by simpa using b1) (by simpa using b2) (Nat.le_refl _)
    obtain ⟨g, o, cap, rfl, k⟩ := fin v' w' (by simpa [Enc.cs_nil] using r1) r2
    exact ⟨g, o, cap, w', by simpa using hr, k⟩
  · by_cases hroom : A.length + N.length ≤ cap
    · have hfr : ∀ j, w.frozen? ⟨g, j, none⟩ = false := fun j => frozen_of_row w g j _ E.e h3
      have hcl : ∀ j, w.cell? ⟨g, j, none⟩ = cur[j]? := fun j => cell_of_row w g j cur E.e (0, 0) h3
      have hrm : (A.length + N.length) * E.k ≤ cap * E.k := Nat.mul_le_mul_right _ hroom
      rw [Nat.add_mul] at hrm
      have hr := run_append_room_cells (P := Tryd.prog) w E.s ty E.e i0 ok.und hi g o A.length cap ad N.length c (E.cs N) (by rw [hz1]; exact hlN) hN (ok.cs_one N) hroom (fun j hj => by rw [hcl, hz1, Array.getElem?_eq_getElem (by omega)]; rfl) (fun j _ => hfr _)
      rw [hz1] at hr
      obtain ⟨cur', c1, c0, c2⟩ := heap_setCells_same g E.e (E.cs N) (o + A.length * E.k) w cur h3 (by omega)
      refine ⟨g, o, cap, _, hr, .inr ⟨g, o, cap, cur', by rw [List.length_append], by rw [List.length_append]; exact hroom, h2, c1, by omega, fun i hi => ?_⟩, (Cha.refl (fun i => (Value.slice (some ⟨g, o, none⟩) A.length cap).ownBlock = some i) w).setCells (g := g) (fun _ => rfl) _ _, .inl rfl, by rw [size_setCells]; exact (Array.getElem?_eq_some_iff.1 h3).1⟩
      rw [List.length_append, Nat.add_mul] at hi
      rw [c2, Enc.cs_app]
      by_cases e : i < A.length * E.k
      · rw [if_neg (by omega), h5 i e, List.getElem?_append_left (by omega)]
      · rw [if_pos (by omega), List.getElem?_append_right (by omega)]
        have e3 : o + i - (o + A.length * E.k) = i - (E.cs A).length := by omega
        rw [e3]
    · obtain ⟨v', w', hr, r1, r2⟩ := run_append_arg_grows (P := Tryd.prog) w E.s ty E.e i0 _ E.k E.b ok.und hi hz0 hz1 hz2 ok.zk ok.pos ⟨g, o, none⟩ A.length cap (E.cs A) hlA (fun j u hu => by
        have e : (⟨g, o, none⟩ : Addr).add j = ⟨g, o + j, none⟩ := by unfold Addr.add; split <;> simp_all
        rw [e, cell_of_row w g _ cur E.e (0, 0) h3]
        have hj : j < A.length * E.k := by
          by_cases c : j < A.length * E.k
          · exact c
          · rw [List.getElem?_eq_none (by omega)] at hu; cases hu
        rw [h5 j hj, hu]) ad N.length c (E.cs N) hlN hN (by omega) b1 b2
      obtain ⟨g2, o2, cap2, rfl, k⟩ := fin v' w' r1 r2
      exact ⟨g2, o2, cap2, w', hr, k⟩

variable {ops : Array Oper} {rest : List Oper} {o : Oper} {a : Act} {Q : Exit → Act → World → Prop} {w : World}
theorem wp_app {K : Act → World → Prop} (s x : Operand) (ho : o.op = .call { callee := .builtin .append, args := #[s, x], argTypes := #[E.s, E.s] })
    {v : Value} {A : List α} (hs : a.eval s = v) (hl : Lies E w v A) (ad : Addr) (m c : Nat) (N : List α) (hx : a.eval x = .slice (some ad) m c) (hm : N.length = m) (hN : ∀ j u, (E.cs N)[j]? = some u → w.cell? (ad.add j) = some u) (hpos : 0 < N.length)
    (b1 : A.length + N.length ≤ maxLen) (b2 : (A.length + N.length) * E.b ≤ 140737488355328)
    (h : ∀ g of cap w', App E w w' v A N g of cap → K (a.put o.dst (.slice (some ⟨g, of, none⟩) (A.length + N.length) cap)) w') : o.wp Tryd.prog a w K Q := by
  subst hm
  obtain ⟨g, of, cap, w', hr, hA⟩ := run_app ok o.type hl ad c N hN hpos b1 b2
  unfold Oper.wp execOp
  simp only [ho, resolve, invoke, builtin, Sem.run_bind, Sem.run_pure, Result.andThen_ok, List.map_toArray, List.map_cons, List.map_nil, hs, hx, hr]
  exact h g of cap w' hA
theorem wpList_app (hgd : o.guard = none) (s x : Operand) (ho : o.op = .call { callee := .builtin .append, args := #[s, x], argTypes := #[E.s, E.s] })
    {v : Value} {A : List α} (hs : a.eval s = v) (hl : Lies E w v A) (ad : Addr) (m c : Nat) (N : List α) (hx : a.eval x = .slice (some ad) m c) (hm : N.length = m) (hN : ∀ j u, (E.cs N)[j]? = some u → w.cell? (ad.add j) = some u) (hpos : 0 < N.length)
    (b1 : A.length + N.length ≤ maxLen) (b2 : (A.length + N.length) * E.b ≤ 140737488355328)
    (h : ∀ g of cap w', App E w w' v A N g of cap → wpList Tryd.prog ops Q rest (a.put o.dst (.slice (some ⟨g, of, none⟩) (A.length + N.length) cap)) w') : wpList Tryd.prog ops Q (o :: rest) a w :=
  wpList_plain hgd fun _ hK => wp_app ok s x ho hs hl ad m c N hx hm hN hpos b1 b2 fun g of cap w' hA => hK _ _ (h g of cap w' hA)
theorem step_app {K : Act → World → Prop} {X : Prop} (hgd : o.guard = none) (s x : Operand) (ho : o.op = .call { callee := .builtin .append, args := #[s, x], argTypes := #[E.s, E.s] })
    {v : Value} {A : List α} (hs : a.eval s = v) (hl : Lies E w v A) (ad : Addr) (m c : Nat) (N : List α) (hx : a.eval x = .slice (some ad) m c) (hm : N.length = m) (hN : ∀ j u, (E.cs N)[j]? = some u → w.cell? (ad.add j) = some u) (hpos : 0 < N.length)
    (b1 : A.length + N.length ≤ maxLen) (b2 : (A.length + N.length) * E.b ≤ 140737488355328)
    (h : ∀ g of cap w', App E w w' v A N g of cap → K (a.put o.dst (.slice (some ⟨g, of, none⟩) (A.length + N.length) cap)) w') :
    if Region.wanted o (yielded ops a.tmps) = true then Oper.wp Tryd.prog o a w K Q else X := by
  have hw : Region.wanted o (yielded ops a.tmps) = true := by simp [Region.wanted, hgd]
  rw [if_pos hw]
  exact wp_app ok s x ho hs hl ad m c N hx hm hN hpos b1 b2 h
end
set_option maxRecDepth 100000 in
/-- What was just laid into a block of its own. -/
theorem just_new {α : Type} (E : Enc α) (w : World) (x : α) (t : TypeId) : ∀ j u, (E.cs [x])[j]? = some u → (w.alloc (.cells (E.ce x).toArray t)).cell? ((⟨w.heap.size, 0, none⟩ : Addr).add j) = some u := by
  intro j u hu
  have e : (⟨w.heap.size, 0, none⟩ : Addr).add j = ⟨w.heap.size, j, none⟩ := by unfold Addr.add; split <;> simp_all
  rw [e, cell_of_row _ w.heap.size j _ t (0, 0) (heap_alloc_new w _)]
  simpa [Enc.cs] using hu

/-- What an append leaves. -/
structure AppV {α : Type} (E : Enc α) (w w' : World) (v : Value) (A : List α) (v' : Value) : Prop where
  lies : Lies E w' v' A
  cha : Cha (fun i => v.ownBlock = some i) w w'
  at' : ∀ g, v'.ownBlock = some g → v.ownBlock = some g ∨ w.heap.size ≤ g
theorem run_any {α : Type} {E : Enc α} (ok : E.Ok) (ty : TypeId) {w : World} {v u : Value} {A N : List α} (h : Lies E w v A) (k : Lies E w u N) (b1 : A.length + N.length ≤ maxLen) (b2 : (A.length + N.length) * E.b ≤ 140737488355328) :
    ∃ v' w', (Builtin.append_ #[E.s, E.s] ty #[v, u]).run Tryd.prog w = .ok v' w' ∧ AppV E w w' v (A ++ N) v' := by
  by_cases h0 : N.length = 0
  · have hN : N = [] := List.eq_nil_of_length_eq_zero h0
    subst hN
    obtain ⟨s, c, rfl, _⟩ := k.form
    obtain ⟨s2, c2, rfl, hc2, _⟩ := h.form
    obtain ⟨i0, hi, hz0, hz1, hz2⟩ := info_parts ok.inf
    refine ⟨.slice s2 A.length c2, w, ?_, ?_⟩
    · refine run_append_nothing w E.s E.s ty E.e i0 ok.und hi s2 A.length c2 hc2 _ ?_
      cases s with
      | none => exact Src.ofNil w ok.und c
      | some a => exact ⟨.inl ⟨E.e, ok.und⟩, fun _ => rfl, run_firstCells_some w _ 0 a 0 c [] (by simp) (fun j v hj => by cases hj), run_firstCells_some w.drew _ 0 a 0 c [] (by simp) (fun j v hj => by cases hj), by simp, fun u hu => by cases hu⟩
    · rw [List.append_nil]
      exact ⟨h, Cha.refl _ _, fun g hg => .inl hg⟩
  · obtain ⟨g, o, cap, rfl, hc1, hc2, hc3⟩ := k.cells ok (by omega)
    obtain ⟨g', o', cap', w', hr, hA⟩ := run_app ok ty h ⟨g, o, none⟩ cap N (hc3 w (Cha.refl _ _)).2 (by omega) b1 b2
    exact ⟨_, w', hr, hA.lies, hA.cha, fun g hg => by cases hg; exact hA.at'⟩
/-- A part of a list: its beginning, its end. -/
theorem cs_take {α : Type} {E : Enc α} (ok : E.Ok) {A : List α} {i j : Nat} (hi : i ≤ A.length) (hj : j < i * E.k) : (E.cs (A.take i))[j]? = (E.cs A)[j]? := by
  have e : E.cs A = E.cs (A.take i) ++ E.cs (A.drop i) := by rw [← Enc.cs_app, List.take_append_drop]
  rw [e, List.getElem?_append_left (by rw [ok.cs_len, List.length_take, Nat.min_eq_left hi]; exact hj)]
theorem cs_drop {α : Type} {E : Enc α} (ok : E.Ok) {A : List α} {i : Nat} (hi : i ≤ A.length) (j : Nat) : (E.cs (A.drop i))[j]? = (E.cs A)[i * E.k + j]? := by
  have e : E.cs A = E.cs (A.take i) ++ E.cs (A.drop i) := by rw [← Enc.cs_app, List.take_append_drop]
  have hl : (E.cs (A.take i)).length = i * E.k := by rw [ok.cs_len, List.length_take, Nat.min_eq_left hi]
  rw [e, List.getElem?_append_right (by rw [hl]; omega), hl, Nat.add_sub_cancel_left]
theorem Lies.take {α : Type} {E : Enc α} (ok : E.Ok) {w : World} {a : Option Addr} {n cap : Nat} {A : List α} (h : Lies E w (.slice a n cap) A) {i : Nat} (hi : i ≤ A.length) : Lies E w (.slice a i cap) (A.take i) := by
  have hl : (A.take i).length = i := by rw [List.length_take]; omega
  rcases h with ⟨rfl, e⟩ | ⟨g, o, cap', cur, e, h1, h2, h3, h4, h5⟩
  · cases e
    obtain rfl : i = 0 := by simpa using hi
    exact .inl ⟨rfl, rfl⟩
  · cases e
    refine .inr ⟨g, o, cap, cur, by rw [hl], by omega, h2, h3, h4, fun j hj => ?_⟩
    rw [hl] at hj
    have hm : i * E.k ≤ A.length * E.k := Nat.mul_le_mul_right _ hi
    rw [h5 j (by omega), cs_take ok hi hj]
theorem Lies.drop {α : Type} {E : Enc α} (ok : E.Ok) {w : World} {g o n cap : Nat} {A : List α} (h : Lies E w (.slice (some ⟨g, o, none⟩) n cap) A) {i : Nat} (hi : i ≤ A.length) :
    Lies E w (.slice (some ⟨g, if cap = i then o else o + i * E.k, none⟩) (n - i) (cap - i)) (A.drop i) := by
  have hl : (A.drop i).length = A.length - i := List.length_drop
  rcases h with ⟨_, e⟩ | ⟨g', o', cap', cur, e, h1, h2, h3, h4, h5⟩
  · cases e
  · cases e
    have hk : cap * E.k = (cap - i) * E.k + i * E.k := by rw [← Nat.add_mul]; congr 1; omega
    refine .inr ⟨g, _, cap - i, cur, by rw [hl], by omega, by omega, h3, by split <;> omega, fun j hj => ?_⟩
    rw [hl] at hj
    have hlk : A.length * E.k = (A.length - i) * E.k + i * E.k := by rw [← Nat.add_mul]; congr 1; omega
    have hc : cap ≠ i := by
      intro e; subst e
      have : A.length - cap = 0 := by omega
      rw [this] at hj; omega
    rw [if_neg hc, Nat.add_assoc, h5 _ (by omega), cs_drop ok hi]
/-- An element's cells, and that they may be written. -/
theorem Lies.elem {α : Type} {E : Enc α} (ok : E.Ok) {w : World} {v : Value} {A : List α} (h : Lies E w v A) {i : Nat} (hi : i < A.length) : ∃ g o cap, v = .slice (some ⟨g, o, none⟩) A.length cap ∧ A.length ≤ cap ∧ cap ≤ maxLen ∧
    (∀ j, j < E.k → w.cell? ⟨g, o + i * E.k + j, none⟩ = (E.ce A[i])[j]?) ∧ ∀ j, w.frozen? ⟨g, j, none⟩ = false := by
  obtain ⟨g, o, cap, e, h1, h2, h3⟩ := h.cells ok (by omega)
  refine ⟨g, o, cap, e, h1, h2, fun j hj => (h3 w (Cha.refl _ _)).1 i j hi hj, fun j => ?_⟩
  subst e
  rcases h with ⟨_, e⟩ | ⟨g', o', cap', cur, e, _, _, h3, _⟩
  · cases e
  · cases e; exact frozen_of_row w g j _ _ h3
end Go.Proofs.YtiboobaggpghjaaDoor.En

namespace Go.Proofs.YtiboobaggpghjaaDoor
open Go.ChangeShapes Go.WideShapes Go.ChangeAt Go.RowKit

/-- A block and the memory's block of its marks. -/
abbrev Bq := Bk × Nat
def bcs (x : Bq) : List Value := [.int .i64 (x.1.b : Int), .int .i64 x.1.c, .int .i64 (x.1.wd : Int), .slice (some ⟨x.2, 0, none⟩) x.1.u.length x.1.u.length, .int .i64 x.1.h]
def bE : En.Enc Bq := ⟨70, 83, 5, 56, .agg #[.int .i64 0, .int .i64 0, .int .i64 0, .slice none 0 0, .int .i64 0], bcs⟩
theorem bE_ok : bE.Ok := ⟨Tryd.underlying70, by kernel_rfl, rfl, by decide, fun _ => rfl, fun a u hu => by
  have hu : u ∈ bcs a := hu
  unfold bcs at hu
  simp only [List.mem_cons, List.not_mem_nil, or_false] at hu
  rcases hu with rfl | rfl | rfl | rfl | rfl <;> rfl⟩
def bks (D : List Bq) : List Bk := D.map (·.1)
theorem bks_len (D : List Bq) : (bks D).length = D.length := by unfold bks; simp
theorem bks_mem {D : List Bq} {x : Bq} (h : x ∈ D) : x.1 ∈ bks D := List.mem_map.2 ⟨x, h, rfl⟩
theorem bks_app (D E : List Bq) : bks (D ++ E) = bks D ++ bks E := by unfold bks; simp

/-- The table under it. -/
def Tq (n : Nat) (F : Nat → Prop) (W : World) (rt : Nat) (A : List Bk) (D : List Bq) : Prop :=
  ∃ B rm rq tv L, Rt W B rt rm rq n tv L ∧ Lk (fun _ => 0) L A ∧ B ≤ W.heap.size ∧ F rt ∧ F rm ∧ F rq ∧ (∀ g, tv.ownBlock = some g → F g) ∧ ∀ x ∈ D, x.2 ≠ rq
structure Ce (n pr : Nat) (F : Nat → Prop) (W : World) (dc rt : Nat) (v : Value) (D : List Bq) : Prop where
  inv : Inv n pr (bks D)
  prr : 1 ≤ pr ∧ pr ≤ 8
  head : W.heap[dc]? = some (.cells #[.pointer (some ⟨rt, 0, none⟩), v, .int .i64 (pr : Int)] 72 (0, 0))
  tab : Tq n F W rt (bks D) D
  lst : En.Lies bE W v D
  mrk : ∀ x ∈ D, FRow 4 W x.2 x.1.u.length (uV x.1.u)
  dif : D.Pairwise (fun x y => x.2 ≠ y.2)
  odc : F dc
  ov : ∀ g, v.ownBlock = some g → F g
  om : ∀ x ∈ D, F x.2
  lt : ∀ i, F i → i < W.heap.size
section
variable {n pr dc rt : Nat} {F S : Nat → Prop} {W W' : World} {v : Value} {D : List Bq} {x : Bq}
theorem Rt.cha2 {B rm rq : Nat} {tv : Value} {L : List Spn} (h : Rt W B rt rm rq n tv L) (c : Cha S W W') (h1 : ¬ S rt) (h2 : ¬ S rm) (h3 : ¬ S rq) (h4 : ∀ g, tv.ownBlock = some g → ¬ S g) : Rt W' B rt rm rq n tv L := by
  refine ⟨h.good, (c.old _ h.lt h1).trans h.head, h.pg.cha c h2 h3, ?_, h.ne⟩
  rcases h.lst.2 with ⟨e, e0⟩ | ⟨g, cap, cur, e, hb, hg, k1, k2, k3, k4⟩
  · exact ⟨h.lst.1, .inl ⟨e, e0⟩⟩
  · exact ⟨h.lst.1, .inr ⟨g, cap, cur, e, hb, (c.old g (Array.getElem?_eq_some_iff.1 hg).1 (h4 g (by rw [e]; rfl))).trans hg, k1, k2, k3, k4⟩⟩
theorem Tq.cha {A : List Bk} (h : Tq n F W rt A D) (c : Cha S W W') (hs : ∀ i, F i → ¬ S i) : Tq n F W' rt A D := by
  obtain ⟨B, rm, rq, tv, L, h1, h2, h3, h4, h5, h6, h7, h8⟩ := h
  exact ⟨B, rm, rq, tv, L, h1.cha2 c (hs _ h4) (hs _ h5) (hs _ h6) (fun g hg => hs _ (h7 g hg)), h2, Nat.le_trans h3 c.size, h4, h5, h6, h7, h8⟩
theorem Ce.cha (h : Ce n pr F W dc rt v D) (c : Cha S W W') (hs : ∀ i, F i → ¬ S i) : Ce n pr F W' dc rt v D :=
  ⟨h.inv, h.prr, (c.old _ (h.lt _ h.odc) (hs _ h.odc)).trans h.head, h.tab.cha c hs, h.lst.cha c fun g hg => hs _ (h.ov g hg), fun x hx => c.row (h.mrk x hx) (hs _ (h.om x hx)), h.dif, h.odc, h.ov, h.om, fun i hi => Nat.lt_of_lt_of_le (h.lt i hi) c.size⟩
theorem Ce.same (h : Ce n pr F W dc rt v D) (c : Cha (fun _ => False) W W') : Ce n pr F W' dc rt v D := h.cha c fun _ _ f => f
theorem Ce.len (h : Ce n pr F W dc rt v D) : n ≤ 4096 ∧ D.length ≤ n := by
  obtain ⟨B, rm, rq, tv, L, h1, h2, _⟩ := h.tab
  have := h2.length h.inv h1.good
  rw [bks_len] at this
  exact ⟨h1.pg.le, this⟩
theorem Ce.c0 (h : Ce n pr F W dc rt v D) : W.cell? ⟨dc, 0, none⟩ = some (.pointer (some ⟨rt, 0, none⟩)) := cell_of_row W dc 0 _ 72 (0, 0) h.head
theorem Ce.c1 (h : Ce n pr F W dc rt v D) : W.cell? ⟨dc, 1, none⟩ = some v := cell_of_row W dc 1 _ 72 (0, 0) h.head
theorem Ce.c2 (h : Ce n pr F W dc rt v D) : W.cell? ⟨dc, 2, none⟩ = some (.int .i64 (pr : Int)) := cell_of_row W dc 2 _ 72 (0, 0) h.head
theorem Ce.free (h : Ce n pr F W dc rt v D) (i : Nat) : W.frozen? ⟨dc, i, none⟩ = false := frozen_of_row W dc i _ 72 h.head
/-- An element: its five cells; its marks. -/
structure At (W : World) (g o : Nat) (x : Bq) : Prop where
  c0 : W.cell? ⟨g, o, none⟩ = some (.int .i64 (x.1.b : Int))
  c1 : W.cell? ⟨g, o + 1, none⟩ = some (.int .i64 x.1.c)
  c2 : W.cell? ⟨g, o + 2, none⟩ = some (.int .i64 (x.1.wd : Int))
  c3 : W.cell? ⟨g, o + 3, none⟩ = some (.slice (some ⟨x.2, 0, none⟩) x.1.u.length x.1.u.length)
  c4 : W.cell? ⟨g, o + 4, none⟩ = some (.int .i64 x.1.h)
theorem Ce.at (h : Ce n pr F W dc rt v D) {i : Nat} (hi : i < D.length) : ∃ g o cap, v = .slice (some ⟨g, o, none⟩) D.length cap ∧ D.length ≤ cap ∧ cap ≤ maxLen ∧ At W g (o + i * 5) D[i] ∧ ∀ j, W.frozen? ⟨g, j, none⟩ = false := by
  obtain ⟨g, o, cap, e, h1, h2, h3, h4⟩ := h.lst.elem bE_ok hi
  exact ⟨g, o, cap, e, h1, h2, ⟨h3 0 (by decide), h3 1 (by decide), h3 2 (by decide), h3 3 (by decide), h3 4 (by decide)⟩, h4⟩
theorem Ce.form (h : Ce n pr F W dc rt v D) : ∃ a cap, v = .slice a D.length cap := by
  obtain ⟨a, cap, e, _⟩ := h.lst.form
  exact ⟨a, cap, e⟩
theorem Ce.mark (h : Ce n pr F W dc rt v D) (hx : x ∈ D) {i : Nat} {b : Bool} (hi : x.1.u[i]? = some b) : W.cell? ⟨x.2, i, none⟩ = some (.bool b) := by
  have hl := lt_of_get hi
  rw [(h.mrk x hx).cell hl]
  unfold uV
  rw [List.getD_eq_getElem?_getD, hi]
  rfl
theorem Ce.small (h : Ce n pr F W dc rt v D) (hx : x ∈ D) : 1 ≤ x.1.wd ∧ x.1.u.length ≤ 64 ∧ x.1.wd ≤ 262144 ∧ x.1.b ≤ 4096 := by
  have h1 := h.inv.fits (bks_mem hx)
  have h2 := h.inv.rng _ (bks_mem hx)
  have h3 := h.len
  omega
end

/-- free: the first free cell. -/
def fre (u : List Bool) : Int := if false ∈ u then (fi u : Int) else -1
set_option maxRecDepth 100000 in
set_option maxHeartbeats 2000000 in
theorem dfree_any {W : World} {g : Nat} (b c wd hh : Int) (u : List Bool) (hu : u.length ≤ 64) (h : FRow 4 W g u.length (uV u)) :
    Calls Tryd.prog 61 #[.agg #[.int .i64 b, .int .i64 c, .int .i64 wd, .slice (some ⟨g, 0, none⟩) u.length u.length, .int .i64 hh]] W fun e w' => e = .returned (.int .i64 (fre u)) ∧ Cha (fun _ => False) W w' := by
  have H := Lib.hid h
  have X := Lib.hid (heap_alloc_new W (.cells #[.int .i64 b, .int .i64 c, .int .i64 wd, .slice (some ⟨g, 0, none⟩) u.length u.length, .int .i64 hh] 83))
  have C : Hid (Cha (fun _ => False) W (W.alloc (.cells #[.int .i64 b, .int .i64 c, .int .i64 wd, .slice (some ⟨g, 0, none⟩) u.length u.length, .int .i64 hh] 83))) := Lib.hid ((Cha.refl _ W).alloc _)
  have H2 := Lib.hid (C.out.row h fun f => f)
  clear h
  go_enter Tryd.func61, Tryd.ntmps61
  go_wp2
  obtain ⟨b1, hb1⟩ : ∃ b1, b1 = W.heap.size := ⟨_, rfl⟩
  rw [← hb1] at X ⊢
  generalize W.alloc (.cells #[.int .i64 b, .int .i64 c, .int .i64 wd, .slice (some ⟨g, 0, none⟩) u.length u.length, .int .i64 hh] 83) = W2 at *
  clear hb1
  go_loopw [3] (fun i wr => ∃ (k : Nat), k ≤ u.length ∧ i = .int .i64 (k : Int) ∧ wr = W2 ∧ ∀ j, j < k → u[j]? = some true) (fun i _ => u.length - (intOf i).toNat)
  case atStart => exact ⟨0, Nat.zero_le _, rfl, rfl, fun j hj => by omega⟩
  case round =>
    obtain ⟨k, hk, rfl, rfl, hj⟩ := hrel
    have HJ := Lib.hid hj
    have p3 := cell_of_row wr b1 3 _ 83 (0, 0) X.out
    clear hj
    by_cases hlt : k < u.length
    · have m0 := H2.out.cell hlt
      rcases get_or hlt with e | e
      · have hv : uV u k = .bool true := by unfold uV; rw [List.getD_eq_getElem?_getD, e]; rfl
        rw [hv] at m0
        go_wp2
        go_roundw
        case rel => exact ⟨k + 1, by omega, by go_num, (by first | rfl | trivial), fun j hj => by
          by_cases c : j < k
          · exact HJ.out j c
          · obtain rfl : j = k := by omega
            exact e⟩
        case measure => simp [intOf]; omega
      · have hv : uV u k = .bool false := by unfold uV; rw [List.getD_eq_getElem?_getD, e]; rfl
        rw [hv] at m0
        have hf : fre u = (k : Int) := by
          have hm : false ∈ u := List.mem_of_getElem? e
          unfold fre
          rw [if_pos hm]
          have h1 := fi_get hm
          by_cases c : fi u < k
          · have := HJ.out _ c
            rw [h1] at this
            cases this
          · by_cases c2 : k < fi u
            · have := fi_min c2
              rw [e] at this
              cases this
            · omega
        go_wp2
        go_ret
        exact ⟨by first | trivial | (rw [hf]; done) | (rw [hf]; rfl), C.out⟩
    · have hf : fre u = -1 := by
        unfold fre
        rw [if_neg]
        intro hm
        obtain ⟨i, hi⟩ := List.mem_iff_getElem?.1 hm
        have := lt_of_get hi
        have h2 := HJ.out i (by omega)
        rw [hi] at h2
        cases h2
      go_wp2
      go_ret
      exact ⟨by first | trivial | (rw [hf]; done) | (rw [hf]; rfl), C.out⟩
end Go.Proofs.YtiboobaggpghjaaDoor

namespace Go.Proofs.YtiboobaggpghjaaDoor
open Go.ChangeShapes Go.WideShapes Go.ChangeAt Go.RowKit

/-- What find answers: a block and a cell of it, or none. -/
def FindsD (D : List Bq) (x : Int) (i j : Int) : Prop := (i = -1 ∧ j = 0 ∧ NoHit (bks D) x) ∨ ∃ (k m : Nat) (hk : k < D.length), i = (k : Int) ∧ j = (m : Int) ∧ Hit (bks D) x D[k].1 m
theorem nohit_of {D : List Bq} {x : Int} (h : ∀ k (hk : k < D.length) m, ¬ Hit (bks D) x D[k].1 m) : NoHit (bks D) x := by
  intro y m hh
  obtain ⟨z, hz, rfl⟩ := List.mem_map.1 hh.mem
  obtain ⟨k, hk, rfl⟩ := List.getElem_of_mem hz
  exact h k hk m hh
theorem At.alloc {W : World} {g o : Nat} {x : Bq} (h : At W g o x) (hg : g < W.heap.size) (ob : Obj) : At (W.alloc ob) g o x :=
  ⟨(World.cell?_alloc_past ob g _ hg).trans h.c0, (World.cell?_alloc_past ob g _ hg).trans h.c1, (World.cell?_alloc_past ob g _ hg).trans h.c2, (World.cell?_alloc_past ob g _ hg).trans h.c3, (World.cell?_alloc_past ob g _ hg).trans h.c4⟩
set_option maxRecDepth 100000 in
set_option maxHeartbeats 4000000 in
theorem dfindx_any {n pr dc rt : Nat} {F : Nat → Prop} {W : World} {v : Value} {D : List Bq} (x : Int) (hx : x ≤ 9223372036854775807) (h : Ce n pr F W dc rt v D) :
    Calls Tryd.prog 45 #[.pointer (some ⟨dc, 0, none⟩), .int .i64 x] W fun e w' => ∃ i j, e = .returned (.tuple #[.int .i64 i, .int .i64 j]) ∧ FindsD D x i j ∧ Cha (fun _ => False) W w' := by
  have H := Lib.hid h
  have hlen := h.len
  obtain ⟨a, cap, rfl⟩ := h.form
  obtain ⟨L, hL⟩ : ∃ L, L = D.length := ⟨_, rfl⟩
  have LL := Lib.hid hL
  rw [← hL] at H hlen
  clear h hL
  go_enter Tryd.func45, Tryd.ntmps45
  go_wp2
  go_loopw [6] (fun i wr => ∃ (k : Nat), k ≤ L ∧ i = .int .i64 (k : Int) ∧ Cha (fun _ => False) W wr ∧ ∀ k' (hk' : k' < D.length), k' < k → ∀ m, ¬ Hit (bks D) x D[k'].1 m) (fun i _ => L - (intOf i).toNat)
  case atStart => exact ⟨0, Nat.zero_le _, rfl, Cha.refl _ _, fun k' _ hk => by omega⟩
  case round =>
    obtain ⟨k, hk, rfl, hC, hN⟩ := hrel
    have HC := Lib.hid hC
    have HN := Lib.hid hN
    have H2 := Lib.hid (H.out.same hC)
    have d1 := H2.out.c1
    clear hC hN
    by_cases hlt : k < L
    · have hkD : k < D.length := by rw [← LL.out]; exact hlt
      obtain ⟨g, o, cap', e, _, _, hA, _⟩ := H2.out.at hkD
      cases e
      obtain ⟨y, hy⟩ : ∃ y, y = D[k] := ⟨_, rfl⟩
      have hym : y ∈ D := by rw [hy]; exact List.getElem_mem hkD
      rw [← hy] at hA
      have YK := Lib.hid hy
      obtain ⟨s1, s2, s3, s4⟩ := H2.out.small hym
      have MK := Lib.hid (H2.out.mrk y hym)
      have NX : Hid ((∀ m, ¬ Hit (bks D) x y.1 m) → ∀ k' (hk' : k' < D.length), k' < k + 1 → ∀ m, ¬ Hit (bks D) x D[k'].1 m) := Lib.hid fun q k' hk' hlt' m => by
        by_cases c : k' < k
        · exact HN.out k' hk' c m
        · obtain rfl : k' = k := by omega
          rw [← YK.out]
          exact q m
      have YM := Lib.hid hym
      have HT := Lib.hid hA
      have hg : g < wr.heap.size := block_lt_of_cell hA.c0
      obtain ⟨q0, q1, q2, q3, q4⟩ := hA
      clear hy hym
      obtain ⟨⟨yb, yk, yc, yw, yu, yh⟩, yq⟩ := y
      simp only at q0 q1 q2 q3 q4 s1 s2 s3 s4
      have KL := Lib.hid hkD
      clear hkD
      have C2 := Lib.hid (HC.out.alloc (.cells #[.int .i64 (yb : Int), .int .i64 yc, .int .i64 (yw : Int), .slice (some ⟨yq, 0, none⟩) yu.length yu.length, .int .i64 yh] 83))
      have XX := Lib.hid (heap_alloc_new wr (.cells #[.int .i64 (yb : Int), .int .i64 yc, .int .i64 (yw : Int), .slice (some ⟨yq, 0, none⟩) yu.length yu.length, .int .i64 yh] 83))
      have M2 : Hid (FRow 4 (wr.alloc (.cells #[.int .i64 (yb : Int), .int .i64 yc, .int .i64 (yw : Int), .slice (some ⟨yq, 0, none⟩) yu.length yu.length, .int .i64 yh] 83)) yq yu.length (uV yu)) := Lib.hid (((Cha.refl (fun _ => False) wr).alloc _).row MK.out fun f => f)
      by_cases c1 : x < (yb : Int) * 64
      · go_wp2
        go_roundw
        case rel => exact ⟨k + 1, by omega, by go_num, C2.out, NX.out fun m hh => by have := hh.lo; simp only at this; omega⟩
        case measure => simp [intOf]; omega
      · by_cases c2 : yu.length = 0
        · have c2' : ((yu.length : Int) == 0) = true := by rw [c2]; rfl
          have C20 := Lib.hid c2
          clear c2
          go_wp2
          go_roundw
          case rel => exact ⟨k + 1, by omega, by go_num, C2.out, NX.out fun m hh => by have := hh.lt; have := C20.out; simp only at *; omega⟩
          case measure => simp [intOf]; omega
        · have c2' : ((yu.length : Int) == 0) = false := by rw [beq_eq_false_iff_ne]; omega
          obtain ⟨m, hm⟩ : ∃ m, m = (x.toNat - yb * 64) / yw := ⟨_, rfl⟩
          have hnn : 0 ≤ x - (yb : Int) * 64 := by omega
          have hquo : (x - (yb : Int) * 64) / (yw : Int) = (m : Int) := by
            have e : x - (yb : Int) * 64 = ((x.toNat - yb * 64 : Nat) : Int) := by omega
            rw [e, ← Int.natCast_ediv, hm]
          have e1 : IntKind.i64.wrap (x - (yb : Int) * 64) = x - (yb : Int) * 64 := IntWalk.i64_in _ (by omega)
          have e2 : Int.tdiv (x - (yb : Int) * 64) (yw : Int) = (m : Int) := by rw [Int.tdiv_eq_ediv_of_nonneg hnn, hquo]
          have hml : (m : Int) ≤ x - (yb : Int) * 64 := by rw [← hquo]; exact Int.ediv_le_self _ hnn
          have e3 : IntKind.i64.wrap (m : Int) = (m : Int) := IntWalk.i64_in _ (by omega)
          have hw0 : ((yw : Int) == 0) = false := by rw [beq_eq_false_iff_ne]; omega
          have HQ : Hid (∀ m', Hit (bks D) x ⟨yb, yk, yc, yw, yu, yh⟩ m' → m' = m) := Lib.hid fun m' hh => by have := hh.quot; simp only at this; rw [hm]; exact this.symm
          have HH : Hid (yu[m]? = some true → Hit (bks D) x ⟨yb, yk, yc, yw, yu, yh⟩ m) := Lib.hid fun hu => by
            have hd := Nat.div_add_mod (x.toNat - yb * 64) yw
            have hr := Nat.mod_lt (x.toNat - yb * 64) (show 0 < yw by omega)
            rw [← hm, Nat.mul_comm] at hd
            exact ⟨bks_mem YM.out, hu, by simp only; omega, by simp only; omega⟩
          clear hm
          by_cases c3 : m < yu.length
          · have m0 := M2.out.cell c3
            rcases get_or c3 with hu | hu
            · have hv : uV yu m = .bool true := by unfold uV; rw [List.getD_eq_getElem?_getD, hu]; rfl
              rw [hv] at m0
              have HH2 := Lib.hid (HH.out hu)
              clear hu HH hv
              generalize yu.length = len at *
              go_wp2
              go_ret2
              exact ⟨_, _, rfl, .inr ⟨k, m, KL.out, rfl, rfl, by rw [← YK.out]; exact HH2.out⟩, C2.out⟩
            · have hv : uV yu m = .bool false := by unfold uV; rw [List.getD_eq_getElem?_getD, hu]; rfl
              rw [hv] at m0
              have NH : Hid (∀ m', ¬ Hit (bks D) x ⟨yb, yk, yc, yw, yu, yh⟩ m') := Lib.hid fun m' hh => by
                have e := HQ.out m' hh
                subst e
                have := hh.used
                simp only at this
                rw [hu] at this
                cases this
              clear hu HH hv
              generalize yu.length = len at *
              go_wp2
              go_roundw
              case rel => exact ⟨k + 1, by omega, by go_num, C2.out, NX.out NH.out⟩
              case measure => simp [intOf]; omega
          · have NH : Hid (∀ m', ¬ Hit (bks D) x ⟨yb, yk, yc, yw, yu, yh⟩ m') := Lib.hid fun m' hh => by
              have e := HQ.out m' hh
              subst e
              have := hh.lt
              simp only at this
              exact c3 this
            clear HH
            generalize yu.length = len at *
            go_wp2
            go_roundw
            case rel => exact ⟨k + 1, by omega, by go_num, C2.out, NX.out NH.out⟩
            case measure => simp [intOf]; omega
    · go_wp2
      go_ret2
      exact ⟨_, _, rfl, .inl ⟨rfl, rfl, nohit_of fun k' hk' m => HN.out k' hk' (by have := LL.out; omega) m⟩, HC.out⟩
end Go.Proofs.YtiboobaggpghjaaDoor

namespace Go.Proofs.YtiboobaggpghjaaDoor
open Go.ChangeShapes Go.WideShapes Go.ChangeAt Go.RowKit
section
variable {n pr dc rt : Nat} {F : Nat → Prop} {W : World} {v : Value} {D : List Bq} {y : Bk}
theorem findx_yes {x : Int} {m : Nat} (h : Ce n pr F W dc rt v D) (hx : x ≤ 9223372036854775807) (hh : Hit (bks D) x y m) :
    Calls Tryd.prog 45 #[.pointer (some ⟨dc, 0, none⟩), .int .i64 x] W fun e w' => ∃ (k : Nat) (hk : k < D.length), D[k].1 = y ∧ e = .returned (.tuple #[.int .i64 (k : Int), .int .i64 (m : Int)]) ∧ Cha (fun _ => False) W w' :=
  (dfindx_any x hx h).mono fun e w' ⟨i, j, he, hf, hc⟩ => by
    rcases hf with ⟨_, _, hn⟩ | ⟨k, m', hk, rfl, rfl, hh'⟩
    · exact absurd hh (hn y m)
    · obtain ⟨e1, e2⟩ := hh'.one hh h.inv
      subst e2
      exact ⟨k, hk, e1, he, hc⟩
theorem findx_no {x : Int} (h : Ce n pr F W dc rt v D) (hx : x ≤ 9223372036854775807) (hn : NoHit (bks D) x) :
    Calls Tryd.prog 45 #[.pointer (some ⟨dc, 0, none⟩), .int .i64 x] W fun e w' => e = .returned (.tuple #[.int .i64 (-1), .int .i64 0]) ∧ Cha (fun _ => False) W w' :=
  (dfindx_any x hx h).mono fun e w' ⟨i, j, he, hf, hc⟩ => by
    rcases hf with ⟨rfl, rfl, _⟩ | ⟨k, m', hk, rfl, rfl, hh'⟩
    · exact ⟨he, hc⟩
    · exact absurd hh' (hn _ _)
set_option maxRecDepth 100000 in
set_option maxHeartbeats 2000000 in
theorem dFind_no {x : Int} (h : Ce n pr F W dc rt v D) (hx : x ≤ 9223372036854775807) (hn : NoHit (bks D) x) :
    Calls Tryd.prog 26 #[.pointer (some ⟨dc, 0, none⟩), .int .i64 x] W fun e w' => e = .returned (.tuple #[.int .i64 0, .int .i64 0, .bool false]) ∧ Cha (fun _ => False) W w' := by
  have C := Lib.hid (findx_no h hx hn)
  clear h hn
  go_enter Tryd.func26, Tryd.ntmps26
  go_wp2_with (go_at_call 45; ((with_reducible refine (C.out).mono ?_); rintro e w1 ⟨rfl, hc⟩; have HC := Lib.hid hc; clear hc))
  go_ret3
  exact ⟨rfl, HC.out⟩
set_option maxRecDepth 100000 in
set_option maxHeartbeats 2000000 in
theorem dFind_yes {x : Int} {m : Nat} (h : Ce n pr F W dc rt v D) (hx : x ≤ 9223372036854775807) (hh : Hit (bks D) x y m) :
    Calls Tryd.prog 26 #[.pointer (some ⟨dc, 0, none⟩), .int .i64 x] W fun e w' => e = .returned (.tuple #[.int .i64 ((y.b * 64 + m * y.wd : Nat) : Int), .int .i64 (y.wd : Int), .bool true]) ∧ Cha (fun _ => False) W w' := by
  have C := Lib.hid (findx_yes h hx hh)
  have H := Lib.hid h
  have hml := hh.lt
  obtain ⟨P, hP⟩ : ∃ P, P = m * y.wd := ⟨_, rfl⟩
  have hPl : P ≤ 262144 := by
    have h1 := (h.inv.fits hh.mem).2.2.2 m hml
    have h2 := h.inv.rng _ hh.mem
    have h3 := h.len
    omega
  have hmw : (m : Int) * (y.wd : Int) = (P : Int) := by rw [hP]; simp
  have hmw1 : IntKind.i64.wrap ((m : Int) * (y.wd : Int)) = (P : Int) := by rw [hmw]; exact IntWalk.i64_in _ (by omega)
  have hmw2 : ((y.b : Int) * 64 + (P : Int)) = ((y.b * 64 + m * y.wd : Nat) : Int) := by rw [hP]; simp
  have HW2 := Lib.hid hmw2
  clear hmw hmw2 hP
  obtain ⟨a, cap, rfl⟩ := h.form
  have hlen := h.len
  clear h hh
  go_enter Tryd.func26, Tryd.ntmps26
  go_wp2_with (go_at_call 45; ((with_reducible refine (C.out).mono ?_); rintro e w1 ⟨k, hk, hy, rfl, hc⟩; go_loud (have HC := Lib.hid hc; have H1 := Lib.hid (H.out.same hc); have d1 := H1.out.c1; obtain ⟨g, o, cap', e, _, _, hA, _⟩ := H1.out.at hk; cases e; obtain ⟨s1, s2, s3, s4⟩ := H1.out.small (List.getElem_mem hk); rw [hy] at s1 s2 s3 s4; have hkl : k < D.length := hk; obtain ⟨q0, q1, q2, q3, q4⟩ := hA; rw [hy] at q0 q2 q3; have hg := block_lt_of_cell q0; obtain ⟨cc, hcc⟩ : ∃ cc, cc = D[k].1.c := ⟨_, rfl⟩; obtain ⟨ch, hch⟩ : ∃ ch, ch = D[k].1.h := ⟨_, rfl⟩; obtain ⟨yq, hyq⟩ : ∃ yq, yq = D[k].2 := ⟨_, rfl⟩; rw [← hcc] at q1; rw [← hch] at q4; rw [← hyq] at q3; clear hc hcc hch hyq)))
  go_region
  all_goals
    go_wp2
    go_ret3
    exact ⟨by rw [← HW2.out]; rfl, (HC.out.alloc _).drew⟩
theorem lk_cov {A : List Bk} {L : List Spn} {tg : Bk → Int} {page : Int} (hl : Lk tg L A) (hg : Good n L) : (atP L n page).2 = covI A page := by
  by_cases c : ∃ y ∈ A, Cov y page
  · obtain ⟨y, hy, hc⟩ := c
    rw [covI_yes hy hc, atP_hit hg ((hl _).2 ⟨y, hy, rfl⟩) hc.1 (by have := hc.2; simp only; omega)]
  · rw [covI_no fun y hy hc => c ⟨y, hy, hc⟩, atP_miss fun s hs hc => ?_]
    obtain ⟨y, hy, rfl⟩ := (hl s).1 hs
    exact c ⟨y, hy, hc.1, by have := hc.2; simp only at this; omega⟩
set_option maxRecDepth 100000 in
set_option maxHeartbeats 2000000 in
theorem dUsed_any (page : Int) (hp : page ≤ 9223372036854775807) (h : Ce n pr F W dc rt v D) :
    Calls Tryd.prog 28 #[.pointer (some ⟨dc, 0, none⟩), .int .i64 page] W fun e w' => e = .returned (.bool (covI (bks D) page)) ∧ Cha (fun _ => False) W w' := by
  obtain ⟨B, rm, rq, tv, L, hR, hL, _⟩ := h.tab
  have d0 := h.c0
  have C := Lib.hid (rfind_any page hp hR)
  rw [← lk_cov hL hR.good]
  obtain ⟨s, hs⟩ : ∃ s, s = atP L n page := ⟨_, rfl⟩
  rw [← hs] at C ⊢
  clear h hR hL hs
  obtain ⟨⟨sb, sk, st⟩, b⟩ := s
  unfold sv at C
  simp only at C ⊢
  go_enter Tryd.func28, Tryd.ntmps28
  go_wp2_with (go_at_call 47; ((with_reducible refine (C.out).mono ?_); rintro e w1 ⟨rfl, hc⟩; have HC := Lib.hid hc; clear hc))
  go_ret
  exact ⟨rfl, HC.out.alloc _⟩
end
end Go.Proofs.YtiboobaggpghjaaDoor

namespace Go.Proofs.YtiboobaggpghjaaDoor
open Go.ChangeShapes Go.WideShapes Go.ChangeAt Go.RowKit
theorem sumA_take {f : Bk → Nat} {D : List Bq} {k : Nat} (hk : k < D.length) : sumA f (bks (D.take (k + 1))) = sumA f (bks (D.take k)) + f D[k].1 := by
  rw [List.take_add_one, List.getElem?_eq_getElem hk, Option.toList_some, bks_app]
  unfold sumA bks
  simp
theorem cnt_take {u : List Bool} {j : Nat} {b : Bool} (h : u[j]? = some b) : cnt (u.take (j + 1)) = cnt (u.take j) + (if b then 1 else 0) := by
  rw [List.take_add_one, h, Option.toList_some]
  unfold cnt
  rw [List.count_append]
  cases b <;> simp
section
variable {n pr dc rt : Nat} {F : Nat → Prop} {W : World} {v : Value} {D : List Bq} {y : Bk}
set_option maxRecDepth 100000 in
set_option maxHeartbeats 4000000 in
theorem dCounts_any (h : Ce n pr F W dc rt v D) :
    Calls Tryd.prog 30 #[.pointer (some ⟨dc, 0, none⟩)] W fun e w' => e = .returned (.tuple #[.int .i64 (sumA fC (bks D) : Int), .int .i64 (sumA fW (bks D) : Int), .int .i64 (cntF (isU (covA (bks D)) n) n : Nat)]) ∧ Cha (fun _ => False) W w' := by
  have H := Lib.hid h
  obtain ⟨B, rm, rq, tv, L, hR, hL, _⟩ := h.tab
  have hpt := hR.ptr0
  have C := Lib.hid (rcounts_any hR.pg)
  rw [hL.cov] at C
  have hlen := h.len
  have d0 := h.c0
  have d1 := h.c1
  obtain ⟨a, cap, rfl⟩ := h.form
  have BC : Hid (∀ k, k ≤ D.length → sumA fC (bks (D.take k)) ≤ 4096 * 64 ∧ sumA fW (bks (D.take k)) ≤ 4096 * (64 * 262144)) := Lib.hid fun k hk => by
    have hm : ∀ z ∈ bks (D.take k), fC z ≤ 64 ∧ fW z ≤ 64 * 262144 := fun z hz => by
      obtain ⟨q, hq, rfl⟩ := List.mem_map.1 hz
      obtain ⟨s1, s2, s3, s4⟩ := H.out.small (List.mem_of_mem_take hq)
      have := cnt_le q.1.u
      exact ⟨by unfold fC; omega, by unfold fW; exact Nat.mul_le_mul (by omega) s3⟩
    have l1 := sumA_le fun z hz => (hm z hz).1
    have l2 := sumA_le fun z hz => (hm z hz).2
    rw [bks_len, List.length_take, Nat.min_eq_left hk] at l1 l2
    have := Nat.mul_le_mul_right 64 (show k ≤ 4096 by omega)
    have := Nat.mul_le_mul_right (64 * 262144) (show k ≤ 4096 by omega)
    omega
  clear h hR hL
  go_enter Tryd.func30, Tryd.ntmps30
  go_wp2
  go_loopw [5, 6, 7] (fun s1 s2 i wr => ∃ (k : Nat), k ≤ D.length ∧ i = .int .i64 (k : Int) ∧ s1 = .int .i64 ((sumA fC (bks (D.take k)) : Nat) : Int) ∧ s2 = .int .i64 ((sumA fW (bks (D.take k)) : Nat) : Int) ∧ wr = W) (fun _ _ i _ => D.length - (intOf i).toNat)
  case atStart => exact ⟨0, Nat.zero_le _, rfl, rfl, rfl, rfl⟩
  case round =>
    obtain ⟨k, hk, rfl, rfl, rfl, rfl⟩ := hrel
    by_cases hlt : k < D.length
    · obtain ⟨g, o, cap', e, _, _, hA, _⟩ := H.out.at hlt
      cases e
      have BK := BC.out k (by omega)
      have ST := Lib.hid (sumA_take (f := fC) hlt)
      have SW := Lib.hid (sumA_take (f := fW) hlt)
      have hmem := List.getElem_mem hlt
      obtain ⟨s1, s2, s3, s4⟩ := H.out.small hmem
      have MK := Lib.hid (H.out.mrk _ hmem)
      obtain ⟨q0, q1, q2, q3, q4⟩ := hA
      clear hmem
      obtain ⟨z, hz⟩ : ∃ z, z = D[k] := ⟨_, rfl⟩
      rw [← hz] at q0 q1 q2 q3 q4 s1 s2 s3 s4 MK ST SW
      clear hz
      obtain ⟨⟨yb, yk, yc, yw, yu, yh⟩, yq⟩ := z
      simp only at q0 q1 q2 q3 q4 s1 s2 s3 s4
      obtain ⟨C0, hC0⟩ : ∃ c, c = sumA fC (bks (D.take k)) := ⟨_, rfl⟩
      obtain ⟨W0, hW0⟩ : ∃ c, c = sumA fW (bks (D.take k)) := ⟨_, rfl⟩
      rw [← hC0] at ST BK ⊢
      rw [← hW0] at SW BK ⊢
      clear hC0 hW0
      obtain ⟨b1, b2⟩ := BK
      go_wp2
      go_loopw [5, 6, 8] (fun s1 s2 i w => ∃ (j : Nat), j ≤ yu.length ∧ i = .int .i64 (j : Int) ∧ s1 = .int .i64 ((C0 + cnt (yu.take j) : Nat) : Int) ∧ s2 = .int .i64 ((W0 + cnt (yu.take j) * yw : Nat) : Int) ∧ w = wr) (fun _ _ i _ => yu.length - (intOf i).toNat)
      case atStart => exact ⟨0, Nat.zero_le _, rfl, by simp [cnt], by simp [cnt], rfl⟩
      case round =>
        obtain ⟨j, hj, rfl, rfl, rfl, rfl⟩ := hrel
        have hcj : cnt (yu.take j) ≤ 64 := Nat.le_trans (cnt_le _) (by rw [List.length_take]; omega)
        have hcw : cnt (yu.take j) * yw ≤ 64 * 262144 := Nat.mul_le_mul hcj s3
        by_cases hlj : j < yu.length
        · have m0 := MK.out.cell hlj
          rcases get_or hlj with hu | hu
          · have hv : uV yu j = .bool true := by unfold uV; rw [List.getD_eq_getElem?_getD, hu]; rfl
            rw [hv] at m0
            have T1 := Lib.hid (cnt_take hu)
            obtain ⟨c1, hc1⟩ : ∃ c, c = cnt (yu.take j) := ⟨_, rfl⟩
            obtain ⟨p1, hp1⟩ : ∃ c, c = c1 * yw := ⟨_, rfl⟩
            rw [← hc1] at hcj hcw T1 ⊢
            rw [← hp1] at hcw ⊢
            have P1 := Lib.hid hp1
            clear hc1 hp1 hu hv
            go_wp2
            go_roundw
            case rel => exact ⟨j + 1, by omega, by go_num, by rw [T1.out]; congr 1, by rw [T1.out, if_pos rfl, Nat.succ_mul, ← P1.out]; congr 1; omega, (by first | rfl | trivial)⟩
            case measure => simp [intOf]; omega
          · have hv : uV yu j = .bool false := by unfold uV; rw [List.getD_eq_getElem?_getD, hu]; rfl
            rw [hv] at m0
            have T1 := Lib.hid (cnt_take hu)
            clear hu hv
            go_wp2
            go_roundw
            case rel => exact ⟨j + 1, by omega, by go_num, by rw [T1.out]; rfl, by rw [T1.out]; rfl, (by first | rfl | trivial)⟩
            case measure => simp [intOf]; omega
        · have ej : yu.take j = yu := List.take_of_length_le (by omega)
          have EJ := Lib.hid ej
          clear ej
          go_wp2
          go_roundw
          case rel => exact ⟨k + 1, by omega, by go_num, by rw [ST.out, EJ.out]; rfl, by rw [SW.out, EJ.out]; rfl, (by first | rfl | trivial)⟩
          case measure => simp [intOf]; omega
    · have ek : D.take k = D := List.take_of_length_le (by omega)
      rw [ek] at *
      clear ek
      go_wp2_with (go_at_call 49; ((with_reducible refine (C.out).mono ?_); rintro e w1 ⟨rfl, rfl⟩))
      go_ret3
      exact ⟨rfl, Cha.refl _ _⟩
end
end Go.Proofs.YtiboobaggpghjaaDoor
