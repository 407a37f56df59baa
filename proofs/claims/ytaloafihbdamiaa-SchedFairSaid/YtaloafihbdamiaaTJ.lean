/- Timers: slices.Delete of a list's beginning. -/
import Derived.Test.YtaloafihbdamiaaTH
import Derived.Handy
namespace Go.Proofs.Ytaloafihbdamiaa
open Go.ChangeShapes Go.WideShapes Go.ChangeAt Go.RowKit
variable {w w' : World} {v : Value} {E N : List Ent} {y : Ent}

theorem one_zero (n : Nat) : ∀ u ∈ (Builtin.zeroCells zero90.cells n).toList, u.oneCell' = true := by
  intro u hu
  unfold Builtin.zeroCells at hu
  simp only [Array.toList_map, List.mem_map] at hu
  obtain ⟨i, _, rfl⟩ := hu
  show ((#[Value.int .u64 0, .int .u64 0, .int .i64 0])[i % 3]!).oneCell' = true
  have h : i % 3 < 3 := Nat.mod_lt _ (by decide)
  generalize i % 3 = k at *
  have : k = 0 ∨ k = 1 ∨ k = 2 := by omega
  rcases this with e | e | e <;> rw [e] <;> rfl
theorem zero_len (n : Nat) : (Builtin.zeroCells zero90.cells n).toList.length = n * 3 := by
  rw [Array.length_toList, size_zeroCells]; rfl
theorem run_clear3 (w : World) (ty : TypeId) (b o n c : Nat) (hn : 0 < n) (hc : ∀ j, j < n * 3 → (w.cell? ⟨b, o + j, none⟩).isSome = true) (hf : ∀ j, j < n * 3 → w.frozen? ⟨b, o + j, none⟩ = false) :
    (Builtin.clear_ #[95] ty #[.slice (some ⟨b, o, none⟩) n c]).run Try.prog w = .ok (.tuple #[]) (w.setCells b o (Builtin.zeroCells zero90.cells n).toList) := by
  have hst := run_storeCells_cells (P := Try.prog) b o (Builtin.zeroCells zero90.cells n).toList 0 w (by rw [zero_len]; simpa using hc) (by rw [zero_len]; simpa using hf) (one_zero n)
  simp only [Nat.add_zero] at hst
  obtain ⟨i, hi, hz0, hz1, hz2⟩ := info_parts info90
  obtain ⟨m, rfl⟩ : ∃ m, n = m + 1 := ⟨n - 1, by omega⟩
  have hv : ∀ w, (zeroValue 93).run Try.prog w = .ok zero90 w := fun w => by simp [zeroValue, typeInfo, hi, hz0, zero90]
  simp [Builtin.clear_, run_underlying Try.underlying95, hv, hst]
/-- append of a list's end onto its beginning. -/
theorem run_shift (W : World) (ty : TypeId) (g n cap j c2 so : Nat) (cur : Array Value) (hn : n = E.length) (hj : j ≤ n) (hc : n ≤ cap) (hg : W.heap[g]? = some (.cells cur 93 (0, 0))) (hs : cur.size = cap * 3) (ht : cur.toList.take (n * 3) = ecs E) (hso : j < n → so = j * 3) :
    (Builtin.append_ #[95, 95] ty #[.slice (some ⟨g, 0, none⟩) 0 cap, .slice (some ⟨g, so, none⟩) (n - j) c2]).run Try.prog W = .ok (.slice (some ⟨g, 0, none⟩) (n - j) cap) (W.setCells g 0 ((ecs E).drop (j * 3))) := by
  obtain ⟨i, hi, hz0, hz1, hz2⟩ := info_parts info90
  have hE := ecs_len E
  have hd : ((ecs E).drop (j * 3)).length = (n - j) * 3 := by rw [List.length_drop, hE, ← hn]; omega
  have hcl : ∀ k, W.cell? ⟨g, k, none⟩ = cur[k]? := fun k => cell_of_row W g k cur 93 (0, 0) hg
  have hcur : ∀ k, k < n * 3 → cur[k]? = (ecs E)[k]? := fun k hk => by rw [← ht, List.getElem?_take, if_pos hk, Array.getElem?_toList]
  have hr := run_append_room_cells (P := Try.prog) W 95 ty 93 i Try.underlying95 hi g 0 0 cap ⟨g, so, none⟩ (n - j) c2 ((ecs E).drop (j * 3)) (by rw [hz1]; exact hd) (fun k u hk => by
      have hkl : k < (n - j) * 3 := by rw [← hd]; exact (List.getElem?_eq_some_iff.1 hk).1
      rw [Addr.add_lit, hcl, hso (by omega), hcur _ (by omega), ← hk, List.getElem?_drop]) (fun u hu => one_ec E u (List.mem_of_mem_drop hu)) (by omega)
    (fun k hk => by rw [hd] at hk; rw [hcl, hz1, Array.getElem?_eq_getElem (by omega)]; rfl) (fun k _ => frozen_of_row W g _ cur 93 hg)
  simpa using hr
end Go.Proofs.Ytaloafihbdamiaa
