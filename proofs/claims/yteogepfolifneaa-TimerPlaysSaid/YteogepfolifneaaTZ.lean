/- TimerOrder: two processors; a place of a list is written. -/
import Derived.Test.YteogepfolifneaaTY
namespace Go.Proofs.Yteogepfolifneaa
open Go.ChangeShapes Go.WideShapes Go.ChangeAt Go.RowKit
variable {w0 w w' : World} {bt bp p q n j : Nat} {P : List (List Ent)} {a b now : Int} {L M L' : List Ent} {e x y : Ent} {z : Nat → Int} {v u l v' : Value} {A B N : List Int}

theorem Lies.spot (h : Lies w v A) {i : Nat} (hi : i < A.length) (x : Int) : ∃ g o cap, v = .slice (some ⟨g, o, none⟩) A.length cap ∧ w.cell? ⟨g, o + i, none⟩ = some (.int .i64 (A.getD i 0)) ∧ w.frozen? ⟨g, o + i, none⟩ = false ∧ A.length ≤ cap ∧ cap ≤ maxLen ∧ IApp w (w.setCell ⟨g, o + i, none⟩ (.int .i64 x)) v (A.set i x) v := by
  rcases h with ⟨rfl, _⟩ | ⟨g, o, cap, cur, rfl, h1, h2, h3, h4, h5⟩
  · cases hi
  · refine ⟨g, o, cap, rfl, by rw [cell_of_row w g _ cur 3 (0, 0) h3]; exact h5 i hi, frozen_of_row w g _ cur 3 h3, h1, h2, .inr ⟨g, o, cap, _, by rw [List.length_set], by rw [List.length_set]; exact h1, h2, heap_setCell_same w g (o + i) _ _ _ h3, by rw [Array.size_setIfInBounds]; exact h4, fun m hm => ?_⟩, (Cha.refl (fun i => (Value.slice (some ⟨g, o, none⟩) A.length cap).ownBlock = some i) w).setCell (p := ⟨g, o + i, none⟩) (fun _ => rfl) _, fun g' hg => .inl hg⟩
    rw [List.length_set] at hm
    rw [Array.getElem?_setIfInBounds]
    by_cases e : i = m
    · subst e
      rw [if_pos rfl, if_pos (by omega)]
      simp [List.getD, hm]
    · rw [if_neg (by omega), h5 m hm]
      simp [List.getD, hm, List.getElem_set_ne e]
theorem App.iapp {g o cap : Nat} (h : App w w' v A N g o cap) : IApp w w' v (A ++ N) (.slice (some ⟨g, o, none⟩) (A.length + N.length) cap) :=
  ⟨h.lies, h.cha, fun g' hg => by cases hg; exact h.at'⟩
/-- The timer of the j-th byte. -/
def nthOf (z : Nat → Int) (i : Nat) : Ent := ⟨z i, (i : Int), (i : Int)⟩
/-- Two processors to which the first n were added in turn. -/
def Pair2 (w0 w : World) (bt bp : Nat) (z : Nat → Int) (n : Nat) : Prop :=
  ∃ A B, Neat [A, B] (n : Int) ∧ Tl w0 w bt bp [A, B] (n : Int) ∧ A.length + B.length = n ∧ (∀ x ∈ A, ∃ i, i < n ∧ x = nthOf z i) ∧ ∀ x ∈ B, ∃ i, i < n ∧ x = nthOf z i
theorem many2 (A B : List Ent) : many [A, B] = A.length + B.length := by simp [many]
theorem fit_more {L : List Ent} (h : ∀ x ∈ L, ∃ i, i < n ∧ x = nthOf z i) (hA : Added L (nthOf z n) L') : ∀ x ∈ L', ∃ i, i < n + 1 ∧ x = nthOf z i := fun x hx => by
  rcases (hA.mem x).1 hx with rfl | hx
  · exact ⟨n, by omega, rfl⟩
  · obtain ⟨i, h1, h2⟩ := h x hx
    exact ⟨i, by omega, h2⟩
theorem pair_add (h : Pair2 w0 w bt bp z n) (hn : n < 1024) :
    Calls Try.prog 26 #[.pointer (some ⟨bt, 0, none⟩), .int .i64 ((n % 2 : Nat) : Int), .int .u64 (z n), .int .i64 (n : Int)] w fun e w' => e = .returned (.int .i64 0) ∧ Pair2 w0 w' bt bp z (n + 1) := by
  obtain ⟨A, B, hN, hT, hl, hA, hB⟩ := h
  rcases (by omega : n % 2 = 0 ∨ n % 2 = 1) with e | e
  · rw [e]
    refine (tl_put (p := 0) hT hN rfl (by rw [many2]; omega) (by omega) (by omega) (z n) n).mono fun e w' ⟨q1, L', k1, k2, k3⟩ => ⟨q1, L', B, k2, k3, by rw [k1.len]; omega, fit_more hA k1, fun x hx => ?_⟩
    obtain ⟨i, h1, h2⟩ := hB x hx
    exact ⟨i, by omega, h2⟩
  · rw [e]
    refine (tl_put (p := 1) hT hN rfl (by rw [many2]; omega) (by omega) (by omega) (z n) n).mono fun e w' ⟨q1, L', k1, k2, k3⟩ => ⟨q1, A, L', k2, k3, by rw [k1.len]; omega, fun x hx => ?_, fit_more hB k1⟩
    obtain ⟨i, h1, h2⟩ := hA x hx
    exact ⟨i, by omega, h2⟩
/-- All of them on one. -/
structure One (z : Nat → Int) (n : Nat) (M : List Ent) : Prop where
  len : M.length = n
  up : Rises M
  fit : ∀ x ∈ M, ∃ i, i < n ∧ x = nthOf z i
theorem pair_move (h : Pair2 w0 w bt bp z n) (hn : n ≤ 1024) :
    Calls Try.prog 31 #[.pointer (some ⟨bt, 0, none⟩), .int .i64 1, .int .i64 0] w fun e w' => e = .returned (.int .i64 0) ∧ ∃ M, One z n M ∧ Tl w0 w' bt bp [M, []] (n : Int) := by
  obtain ⟨A, B, hN, hT, hl, hA, hB⟩ := h
  refine (tl_move (p := 1) (q := 0) hT rfl rfl (by decide) (by rw [many2]; omega)).mono fun e w' ⟨q1, M, m1, m2, hT⟩ => ⟨q1, M, ⟨?_, ?_, fun x hx => ?_⟩, hT⟩
  · rw [m1.length_eq, List.length_append]; omega
  · exact (hN.move (p := 1) (q := 0) rfl rfl (by decide) m1 m2).tidy.up 0 M rfl
  · rcases List.mem_append.1 (m1.mem_iff.1 hx) with hx | hx
    · exact hB x hx
    · exact hA x hx
theorem same_any (x y : Int) (w : World) : Calls Try.prog 36 #[.int .i64 x, .int .i64 y] w fun e w' => e = .returned (.bool (x.tmod 2 == y.tmod 2)) ∧ w' = w := by
  go_enter Try.func36, Try.ntmps36
  go_wp2
  go_ret
  exact ⟨rfl, rfl⟩
theorem One.at (h : One z n M) {k : Nat} (hk : k < n) : ∃ i, i < n ∧ M.getD k ⟨0, 0, 0⟩ = nthOf z i := by
  have hkM : k < M.length := by rw [h.len]; exact hk
  have e : M.getD k ⟨0, 0, 0⟩ = M[k] := by simp [List.getD, hkM]
  rw [e]
  exact h.fit _ (List.getElem_mem hkM)
theorem One.step (h : One z n M) {k i m : Nat} (hk : k < n) (h0 : 0 < k) (e1 : M.getD k ⟨0, 0, 0⟩ = nthOf z i) (e2 : M.getD (k - 1) ⟨0, 0, 0⟩ = nthOf z m) : z m < z i ∨ (z m = z i ∧ m < i) := by
  have := h.up.at (show k - 1 < k by omega) (by rw [h.len]; exact hk)
  rw [e1, e2] at this
  unfold Ent.lt nthOf at this
  dsimp only at this
  omega
theorem upto_at (h : Upto M now p) (hr : Rises M) {k : Nat} (hk : k < M.length) : (M.getD k ⟨0, 0, 0⟩).when ≤ now ↔ k < p := by
  constructor
  · intro h1
    by_cases e : k < p
    · exact e
    · exfalso
      have h2 := h.hi (by omega)
      by_cases e2 : k = p
      · rw [← e2] at h2; omega
      · have := hr.at (show p < k by omega) hk
        unfold Ent.lt at this
        omega
  · exact h.lo k
theorem join_all (h : Keep w0 w bt bp P a v A u B) (hb : A.length + B.length ≤ 4096) : ∃ s8 n8 c8 w8 s9 c9 w9, (Builtin.append_ #[43, 43] 43 #[.slice none 0 0, v]).run Try.prog w = .ok (.slice s8 n8 c8) w8 ∧
    (Builtin.append_ #[43, 43] 43 #[.slice s8 n8 c8, u]).run Try.prog w8 = .ok (.slice s9 (A.length + B.length) c9) w9 ∧ Keep w0 w9 bt bp P a v A (.slice s9 (A.length + B.length) c9) (A ++ B) := by
  obtain ⟨l8, w8, r8, k8⟩ := run_iapp 43 (Lies.nil w) h.lv (by simp only [List.length_nil]; omega)
  rw [List.nil_append] at k8
  have c8 : Cha (fun _ => False) w w8 := k8.cha.mono fun i _ e => by cases e
  obtain ⟨l9, w9, r9, k9⟩ := run_iapp 43 k8.lies (h.ll.cha c8 (fun _ _ f => f)) (by omega)
  have K := h.join k8 k9
  obtain ⟨s8, c8', e8, _⟩ := k8.lies.form
  obtain ⟨s9, c9', e9, _⟩ := k9.lies.form
  subst e8 e9
  rw [List.length_append] at r9 K
  exact ⟨s8, _, _, w8, s9, _, w9, r8, r9, K⟩
end Go.Proofs.Yteogepfolifneaa
