/- TimerMoves: what the law's calls do. -/
import Derived.Test.YteogepfolifneaaTU
import Derived.Test.YteogepfolifneaaAB
namespace Go.Proofs.Yteogepfolifneaa
open Go.ChangeShapes Go.WideShapes Go.ChangeAt Go.RowKit
variable {w0 w w' : World} {bt bp p q na nb : Nat} {P : List (List Ent)} {a b : Int} {L A B C M L' : List Ent} {e x y : Ent} {za zb : Nat → Int}

theorem tl_put (h : Tl w0 w bt bp P a) (hN : Neat P a) (hp : P[p]? = some L) (hm : many P < 1024) (ha : 0 ≤ a) (ha2 : a < 2 ^ 63) (t n : Int) :
    Calls Try.prog 26 #[.pointer (some ⟨bt, 0, none⟩), .int .i64 (p : Int), .int .u64 t, .int .i64 n] w fun e w' => e = .returned (.int .i64 0) ∧ ∃ L', Added L ⟨t, a, n⟩ L' ∧ Neat (P.set p L') (a + 1) ∧ Tl w0 w' bt bp (P.set p L') (a + 1) :=
  (tl_add h hN.tidy hp hm ha ha2 t n).mono fun e w' ⟨q1, L', hA, hT⟩ => ⟨q1, L', hA, hN.add hp hA rfl, hT⟩
/-- The j first of one list were added, as z says, with numbers from k on. -/
def From (z : Nat → Int) (k j : Nat) (A : List Ent) : Prop := A.length = j ∧ ∀ x ∈ A, ∃ i, i < j ∧ x.id = ((k + i : Nat) : Int) ∧ x.when = z i
theorem From.more {k j : Nat} (h : From za k j A) (hA : Added A ⟨za j, b, ((k + j : Nat) : Int)⟩ L') : From za k (j + 1) L' := by
  refine ⟨by rw [hA.len, h.1], fun x hx => ?_⟩
  rcases (hA.mem x).1 hx with rfl | hx
  · exact ⟨j, by omega, rfl, rfl⟩
  · obtain ⟨i, h1, h2⟩ := h.2 x hx
    exact ⟨i, by omega, h2⟩
theorem from_none (z : Nat → Int) (k : Nat) : From z k 0 [] := ⟨rfl, fun x hx => by cases hx⟩
/-- Three processors, with these lists. -/
def Tri (w0 w : World) (bt bp : Nat) (A B C : List Ent) (n : Nat) : Prop := Neat [A, B, C] (n : Int) ∧ Tl w0 w bt bp [A, B, C] (n : Int)
theorem many3 (A B C : List Ent) : many [A, B, C] = A.length + B.length + C.length := by simp [many]; omega
theorem tri_add0 {j : Nat} (h : Tri w0 w bt bp A B C j) (hm : A.length + B.length + C.length < 1024) (hj : j < 1024) (t n : Int) :
    Calls Try.prog 26 #[.pointer (some ⟨bt, 0, none⟩), .int .i64 0, .int .u64 t, .int .i64 n] w fun e w' => e = .returned (.int .i64 0) ∧ ∃ L', Added A ⟨t, j, n⟩ L' ∧ Tri w0 w' bt bp L' B C (j + 1) :=
  (tl_put (p := 0) h.2 h.1 rfl (by rw [many3]; exact hm) (by omega) (by omega) t n).mono fun e w' ⟨q1, L', hA, hN, hT⟩ => ⟨q1, L', hA, hN, hT⟩
theorem tri_add1 {j : Nat} (h : Tri w0 w bt bp A B C j) (hm : A.length + B.length + C.length < 1024) (hj : j < 1024) (t n : Int) :
    Calls Try.prog 26 #[.pointer (some ⟨bt, 0, none⟩), .int .i64 1, .int .u64 t, .int .i64 n] w fun e w' => e = .returned (.int .i64 0) ∧ ∃ L', Added B ⟨t, j, n⟩ L' ∧ Tri w0 w' bt bp A L' C (j + 1) :=
  (tl_put (p := 1) h.2 h.1 rfl (by rw [many3]; exact hm) (by omega) (by omega) t n).mono fun e w' ⟨q1, L', hA, hN, hT⟩ => ⟨q1, L', hA, hN, hT⟩
theorem tri_count {j : Nat} (h : Tri w0 w bt bp A B C j) (hm : A.length + B.length + C.length ≤ 1024) :
    Calls Try.prog 35 #[.pointer (some ⟨bt, 0, none⟩)] w fun e w' => e = .returned (.int .i64 ((A.length + B.length + C.length : Nat) : Int)) ∧ Cha (fun _ => False) w w' := by
  have := tl_count h.2 (by rw [many3]; exact hm)
  rw [many3] at this
  exact this
theorem Tri.same {j : Nat} (h : Tri w0 w bt bp A B C j) (c : Cha (fun _ => False) w w') : Tri w0 w' bt bp A B C j := ⟨h.1, h.2.same c⟩
theorem tri_move0 {j : Nat} (h : Tri w0 w bt bp A B C j) (hm : A.length + B.length + C.length ≤ 1024) :
    Calls Try.prog 31 #[.pointer (some ⟨bt, 0, none⟩), .int .i64 0, .int .i64 2] w fun e w' => e = .returned (.int .i64 0) ∧ ∃ M, M.Perm (A ++ C) ∧ Tri w0 w' bt bp [] B M j :=
  (tl_move (p := 0) (q := 2) h.2 rfl rfl (by decide) (by rw [many3]; omega)).mono fun e w' ⟨q1, M, m1, m2, hT⟩ => ⟨q1, M, m1, h.1.move (p := 0) (q := 2) rfl rfl (by decide) m1 m2, hT⟩
theorem tri_move1 {j : Nat} (h : Tri w0 w bt bp A B C j) (hm : A.length + B.length + C.length ≤ 1024) :
    Calls Try.prog 31 #[.pointer (some ⟨bt, 0, none⟩), .int .i64 1, .int .i64 2] w fun e w' => e = .returned (.int .i64 0) ∧ ∃ M, M.Perm (B ++ C) ∧ Tri w0 w' bt bp A [] M j :=
  (tl_move (p := 1) (q := 2) h.2 rfl rfl (by decide) (by rw [many3]; omega)).mono fun e w' ⟨q1, M, m1, m2, hT⟩ => ⟨q1, M, m1, h.1.move (p := 1) (q := 2) rfl rfl (by decide) m1 m2, hT⟩
theorem tri_self {j : Nat} (h : Tri w0 w bt bp A B C j) : Calls Try.prog 31 #[.pointer (some ⟨bt, 0, none⟩), .int .i64 2, .int .i64 2] w fun e w' => e = .returned (.int .i64 0) ∧ w = w' := tl_self (p := 2) h.2 (by show 2 < 3; decide)
theorem tri_due0 {j : Nat} (h : Tri w0 w bt bp [] B C j) (now : Int) : Calls Try.prog 29 #[.pointer (some ⟨bt, 0, none⟩), .int .i64 0, .int .u64 now] w fun e w' => ∃ s c, e = .returned (.slice s 0 c) ∧ Tri w0 w' bt bp [] B C j :=
  (tl_due (p := 0) h.2 rfl (by decide) now).mono fun e w' ⟨k, s, c, q1, hu, hT⟩ => by
    have hk : k = 0 := by have := hu.le; simpa using this
    subst hk
    exact ⟨s, c, q1, h.1, hT.tl⟩
theorem tri_due1 {j : Nat} (h : Tri w0 w bt bp A [] C j) (now : Int) : Calls Try.prog 29 #[.pointer (some ⟨bt, 0, none⟩), .int .i64 1, .int .u64 now] w fun e w' => ∃ s c, e = .returned (.slice s 0 c) ∧ Tri w0 w' bt bp A [] C j :=
  (tl_due (p := 1) h.2 rfl (by decide) now).mono fun e w' ⟨k, s, c, q1, hu, hT⟩ => by
    have hk : k = 0 := by have := hu.le; simpa using this
    subst hk
    exact ⟨s, c, q1, h.1, hT.tl⟩
theorem upto_all {k : Nat} {now : Int} (h : Upto L now k) (ha : ∀ x ∈ L, x.when ≤ now) : k = L.length := by
  by_cases e : k < L.length
  · have h1 := h.hi e
    have h2 : L.getD k ⟨0, 0, 0⟩ = L[k] := by simp [List.getD, e]
    rw [h2] at h1
    have := ha _ (List.getElem_mem e)
    omega
  · have := h.le; omega
theorem tri_due2 {j : Nat} (h : Tri w0 w bt bp [] [] C j) (hl : C.length ≤ 1024) (ha : ∀ x ∈ C, x.when ≤ 999) :
    Calls Try.prog 29 #[.pointer (some ⟨bt, 0, none⟩), .int .i64 2, .int .u64 999] w fun e w' => ∃ s c, e = .returned (.slice s C.length c) ∧ Tri w0 w' bt bp [] [] [] j ∧ Lies w' (.slice s C.length c) (C.map Ent.id) :=
  (tl_due (p := 2) h.2 rfl hl 999).mono fun e w' ⟨k, s, c, q1, hu, hT⟩ => by
    obtain rfl := upto_all hu ha
    have hN := h.1.cut (p := 2) rfl C.length
    rw [List.take_length, List.drop_length] at hT
    rw [List.drop_length] at hN
    exact ⟨s, c, q1, ⟨hN, hT.tl⟩, hT.lies⟩
theorem nums_keep {k : IntKind} {a : Option Addr} {n : Nat} {z : Nat → Int} (h : 0 < n → ∃ b o, a = some ⟨b, o, none⟩ ∧ ∀ i, i < n → w.cell? ⟨b, o + i, none⟩ = some (.int k (z i))) (c : Cha (fun _ => False) w w') :
    0 < n → ∃ b o, a = some ⟨b, o, none⟩ ∧ ∀ i, i < n → w'.cell? ⟨b, o + i, none⟩ = some (.int k (z i)) := fun hp => by
  obtain ⟨b, o, e, hz⟩ := h hp
  refine ⟨b, o, e, fun i hi => ?_⟩
  have h1 := hz i hi
  exact (World.cell?_of_block (c.old b (block_lt_of_cell h1) (fun f => f))).trans h1
/-- Everybody's number tells the time. -/
def Fits (za zb : Nat → Int) (na nb : Nat) (x : Ent) : Prop := (∃ i, i < na ∧ x.id = (i : Int) ∧ x.when = za i) ∨ ∃ i, i < nb ∧ x.id = 1000 + (i : Int) ∧ x.when = zb i
def lastAt (M : List Ent) (j : Nat) : Int := if j = 0 then -1 else (M.getD (j - 1) ⟨0, 0, 0⟩).when
theorem last_le (hr : Rises M) {j : Nat} (hj : j < M.length) (h0 : ∀ x ∈ M, 0 ≤ x.when) : lastAt M j ≤ (M.getD j ⟨0, 0, 0⟩).when := by
  unfold lastAt
  have h2 : M.getD j ⟨0, 0, 0⟩ = M[j] := by simp [List.getD, hj]
  by_cases e : j = 0
  · rw [if_pos e, h2]
    have := h0 _ (List.getElem_mem hj)
    omega
  · rw [if_neg e]
    have := hr.at (show j - 1 < j by omega) hj
    unfold Ent.lt at this
    omega
theorem nums_u8 {a : Option Addr} {n : Nat} (h : Nums .u8 w a n) : ∃ z : Nat → Int, (0 < n → ∃ g o, a = some ⟨g, o, none⟩ ∧ ∀ i, i < n → w.cell? ⟨g, o + i, none⟩ = some (.int .u8 (z i))) ∧ ∀ i, i < n → 0 ≤ z i ∧ z i ≤ 255 := by
  by_cases hn : 0 < n
  · obtain ⟨b, o, z, e, hz⟩ := h.2 hn
    exact ⟨z, fun _ => ⟨b, o, e, fun i hi => (hz i hi).1⟩, fun i hi => ⟨u8_lo (hz i hi).2, u8_hi (hz i hi).2⟩⟩
  · exact ⟨fun _ => 0, fun h => absurd h hn, fun i hi => by omega⟩
end Go.Proofs.Yteogepfolifneaa
