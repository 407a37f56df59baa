/- Contracts of chans: who leaves a list (slices.DeleteFunc). -/
import Derived.Test.YtnhjkmkocpjkmaaI
namespace Go.Proofs.Ytnhjkmkocpjkmaa
open Go.ChangeShapes Go.WideShapes Go.ChangeAt Go.RowKit

section
variable {α : Type} {E : Enc α}
/-- A list that is being pressed together: i have stayed of the first j. -/
structure Del (E : Enc α) (w : World) (g o cap : Nat) (L : List α) (q : α → Bool) (i j : Nat) : Prop where
  len : i = ((L.take j).filter q).length
  lt : i < j
  row : ∃ cur, w.heap[g]? = some (.cells cur E.e (0, 0)) ∧ o + cap * E.k ≤ cur.size ∧ (∀ k, k < i * E.k → cur[o + k]? = (E.cs ((L.take j).filter q))[k]?) ∧ ∀ k, j * E.k ≤ k → k < L.length * E.k → cur[o + k]? = (E.cs L)[k]?
theorem filter_take (q : α → Bool) (L : List α) {j : Nat} (h : j < L.length) : (L.take (j + 1)).filter q = (L.take j).filter q ++ (if q L[j] = true then [L[j]] else []) := by
  rw [List.take_succ_eq_append_getElem h, List.filter_append]
  congr 1
  simp [List.filter_cons]
variable {w W : World} {g o cap i j : Nat} {L : List α} {q : α → Bool}
theorem Del.start (ok : E.Ok) (h : Lies E w (.slice (some ⟨g, o, none⟩) L.length cap) L) (d : α) (f : First (fun x => !q x) L d i) (hi : i < L.length) (c : Cha (fun _ => False) w W) : Del E W g o cap L q i (i + 1) := by
  have e0 : (L.take i).filter q = L.take i := by
    apply List.filter_eq_self.2
    intro x hx
    obtain ⟨k, hk, rfl⟩ := List.mem_take_iff_getElem.1 hx
    have := f.lo k (by omega)
    simpa [List.getD, List.getElem?_eq_getElem (show k < L.length by omega)] using this
  have e1 : q L[i] = false := by
    have := f.hi hi
    simpa [List.getD, List.getElem?_eq_getElem hi] using this
  have e2 : (L.take (i + 1)).filter q = L.take i := by rw [filter_take q L hi, e0, e1]; simp
  rcases h with ⟨rfl, _⟩ | ⟨g', o', cap', cur, e, h1, h2, h3, h4, h5⟩
  · cases hi
  · cases e
    refine ⟨by rw [e2, List.length_take]; omega, Nat.lt_succ_self _, cur, (c.old g (Array.getElem?_eq_some_iff.1 h3).1 (fun f => f)).trans h3, h4, fun k hk => ?_, fun k _ hk => h5 k hk⟩
    have hk2 : k < L.length * E.k := Nat.lt_of_lt_of_le hk (Nat.mul_le_mul_right _ (by omega))
    rw [e2, h5 k hk2]
    conv => lhs; rw [← List.take_append_drop i L, Enc.cs_app]
    rw [List.getElem?_append_left (by rw [ok.cs_len, List.length_take]; rw [Nat.min_eq_left (by omega)]; exact hk)]
theorem Del.same (h : Del E w g o cap L q i j) (c : Cha (fun _ => False) w W) : Del E W g o cap L q i j := by
  obtain ⟨cur, a, b⟩ := h.row
  exact ⟨h.len, h.lt, cur, (c.old g (Array.getElem?_eq_some_iff.1 a).1 (fun f => f)).trans a, b⟩
theorem Del.drop (h : Del E w g o cap L q i j) (hj : j < L.length) (hq : q L[j] = false) : Del E w g o cap L q i (j + 1) := by
  obtain ⟨cur, a, b, c, d⟩ := h.row
  have e : (L.take (j + 1)).filter q = (L.take j).filter q := by rw [filter_take q L hj, hq]; simp
  exact ⟨by rw [e]; exact h.len, Nat.lt_succ_of_lt h.lt, cur, a, b, by rw [e]; exact c, fun k h1 h2 => d k (Nat.le_trans (Nat.mul_le_mul_right _ (Nat.le_succ j)) h1) h2⟩
theorem Del.keep (ok : E.Ok) (h : Del E w g o cap L q i j) (hj : j < L.length) (hc : L.length ≤ cap) (hq : q L[j] = true) : Del E (w.setCells g (o + i * E.k) (E.ce L[j])) g o cap L q (i + 1) (j + 1) := by
  obtain ⟨cur, a, b, c, d⟩ := h.row
  have e : (L.take (j + 1)).filter q = (L.take j).filter q ++ [L[j]] := by rw [filter_take q L hj, hq]; simp
  have hl := ok.len L[j]
  have hij := h.lt
  have h1 : i * E.k + E.k ≤ j * E.k := by rw [← Nat.succ_mul]; exact Nat.mul_le_mul_right _ hij
  have h2 : j * E.k ≤ cap * E.k := Nat.mul_le_mul_right _ (by omega)
  obtain ⟨cur', a', b', c'⟩ := heap_setCells_same g E.e (E.ce L[j]) (o + i * E.k) w cur a (by rw [hl]; omega)
  have hlen := h.len
  refine ⟨by rw [e, List.length_append, ← hlen]; rfl, by omega, cur', a', by rw [b']; exact b, fun k hk => ?_, fun k k1 k2 => ?_⟩
  · rw [Nat.succ_mul] at hk
    have hcl : (E.cs ((L.take j).filter q)).length = i * E.k := by rw [ok.cs_len, ← hlen]
    rw [c', e, Enc.cs_app, hl]
    by_cases hk2 : k < i * E.k
    · rw [if_neg (by omega), List.getElem?_append_left (by rw [hcl]; exact hk2), c k hk2]
    · rw [if_pos (by omega), List.getElem?_append_right (by rw [hcl]; omega), hcl]
      simp only [Enc.cs, List.flatMap_cons, List.flatMap_nil, List.append_nil]
      congr 1
      omega
  · rw [Nat.succ_mul] at k1
    rw [c', if_neg (by rw [hl]; omega)]
    exact d k (by omega) k2
/-- The rest is wiped. -/
theorem Del.done (h : Del E w g o cap L q i L.length) (hc : L.length ≤ cap) (hm : cap ≤ maxLen) (Z : List Value) (hZ : Z.length = (L.length - i) * E.k) : Lies E (w.setCells g (o + i * E.k) Z) (.slice (some ⟨g, o, none⟩) i cap) (L.filter q) := by
  obtain ⟨cur, a, b, c, d⟩ := h.row
  have hlen := h.len
  have hij := h.lt
  rw [List.take_length] at hlen c
  have h1 : i * E.k + (L.length - i) * E.k = L.length * E.k := by rw [← Nat.add_mul]; congr 1; omega
  have h2 : L.length * E.k ≤ cap * E.k := Nat.mul_le_mul_right _ hc
  obtain ⟨cur', a', b', c'⟩ := heap_setCells_same g E.e Z (o + i * E.k) w cur a (by rw [hZ]; omega)
  refine .inr ⟨g, o, cap, cur', by rw [← hlen], by omega, hm, a', by rw [b']; exact b, fun k hk => ?_⟩
  rw [← hlen] at hk
  rw [c', if_neg (by omega)]
  exact c k hk
/-- What wipes. -/
theorem zero_len (ok : E.Ok) (n : Nat) : (Builtin.zeroCells E.z.cells n).toList.length = n * E.k := by
  rw [Array.length_toList, size_zeroCells, ok.zk]
theorem run_clear (ok : E.Ok) (hz1 : ∀ n, ∀ u ∈ (Builtin.zeroCells E.z.cells n).toList, u.oneCell' = true) (w : World) (ty : TypeId) (b o n c : Nat) (hn : 0 < n) (hc : ∀ j, j < n * E.k → (w.cell? ⟨b, o + j, none⟩).isSome = true) (hf : ∀ j, j < n * E.k → w.frozen? ⟨b, o + j, none⟩ = false) :
    (Builtin.clear_ #[E.s] ty #[.slice (some ⟨b, o, none⟩) n c]).run Try.prog w = .ok (.tuple #[]) (w.setCells b o (Builtin.zeroCells E.z.cells n).toList) := by
  have hst := run_storeCells_cells (P := Try.prog) b o (Builtin.zeroCells E.z.cells n).toList 0 w (by rw [zero_len ok]; simpa using hc) (by rw [zero_len ok]; simpa using hf) (hz1 n)
  simp only [Nat.add_zero] at hst
  obtain ⟨i, hi, hz0, hz2, hz3⟩ := info_parts ok.inf
  obtain ⟨m, rfl⟩ : ∃ m, n = m + 1 := ⟨n - 1, by omega⟩
  have hv : ∀ w, (zeroValue E.e).run Try.prog w = .ok E.z w := fun w => by simp [zeroValue, typeInfo, hi, hz0]
  simp [Builtin.clear_, run_underlying ok.und, hv, hst]
variable {ops : Array Oper} {rest : List Oper} {op : Oper} {a : Act} {Q : Exit → Act → World → Prop}
theorem wpList_clear (ok : E.Ok) (hz1 : ∀ n, ∀ u ∈ (Builtin.zeroCells E.z.cells n).toList, u.oneCell' = true) (hgd : op.guard = none) (s : Operand) (ho : op.op = .call { callee := .builtin .clear, args := #[s], argTypes := #[E.s] }) (b o n c : Nat) (hs : a.eval s = .slice (some ⟨b, o, none⟩) n c) (hn : 0 < n)
    (hc : ∀ j, j < n * E.k → (w.cell? ⟨b, o + j, none⟩).isSome = true) (hf : ∀ j, j < n * E.k → w.frozen? ⟨b, o + j, none⟩ = false)
    {Z : List Value} (hZ : Z = (Builtin.zeroCells E.z.cells n).toList) (h : wpList Try.prog ops Q rest (a.put op.dst (.tuple #[])) (w.setCells b o Z)) : wpList Try.prog ops Q (op :: rest) a w := by
  subst hZ
  refine wpList_plain hgd fun _ hK => ?_
  unfold Oper.wp execOp
  simp only [ho, resolve, invoke, builtin, Sem.run_bind, Sem.run_pure, Result.andThen_ok, List.map_toArray, List.map_cons, List.map_nil, hs, run_clear ok hz1 w op.type b o n c hn hc hf]
  exact hK _ _ h
end
theorem zero_one (n : Nat) : ∀ u ∈ (Builtin.zeroCells sndE.z.cells n).toList, u.oneCell' = true := by
  intro u hu
  unfold Builtin.zeroCells at hu
  simp only [Array.toList_map, List.mem_map] at hu
  obtain ⟨i, _, rfl⟩ := hu
  show ((#[Value.int .i64 0, Value.int .u64 0])[i % 2]!).oneCell' = true
  have h : i % 2 < 2 := Nat.mod_lt _ (by decide)
  generalize i % 2 = k at *
  have : k = 0 ∨ k = 1 := by omega
  rcases this with e | e <;> rw [e] <;> rfl
theorem zero_one_i (n : Nat) : ∀ u ∈ (Builtin.zeroCells intE.z.cells n).toList, u.oneCell' = true := by
  intro u hu
  unfold Builtin.zeroCells at hu
  simp only [Array.toList_map, List.mem_map] at hu
  obtain ⟨i, _, rfl⟩ := hu
  show ((#[Value.int .i64 0])[i % 1]!).oneCell' = true
  rw [Nat.mod_one]
  rfl
end Go.Proofs.Ytnhjkmkocpjkmaa
