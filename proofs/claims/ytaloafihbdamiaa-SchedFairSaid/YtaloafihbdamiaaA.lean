/- Queues, plainly and in memory: numbers in a block, rings, a list that grows behind and goes at its head. -/
import Derived.Test.YtaloafihbdamiaaW
import Derived.ArgAppend
namespace Go.Proofs.Ytaloafihbdamiaa
open Go.ChangeShapes Go.WideShapes Go.ChangeAt Go.RowKit

def up (z : Nat → Int) (i : Nat) (v : Int) : Nat → Int := fun x => if x = i then v else z x
theorem up_same (z : Nat → Int) (i : Nat) (v : Int) : up z i v i = v := by simp [up]
theorem up_other (z : Nat → Int) {i j : Nat} (v : Int) (h : j ≠ i) : up z i v j = z j := by simp [up, h]

/-- A block of m numbers. -/
def Ints (t : TypeId) (w : World) (b m : Nat) (z : Nat → Int) : Prop := FRow t w b m (fun i => .int .i64 (z i))
section
variable {t : TypeId} {w w' : World} {b m : Nat} {z : Nat → Int} {S : Nat → Prop}
theorem Ints.cell (h : Ints t w b m z) {i : Nat} (hi : i < m) : w.cell? ⟨b, i, none⟩ = some (.int .i64 (z i)) := FRow.cell h hi
theorem Ints.free (h : Ints t w b m z) (i : Nat) : w.frozen? ⟨b, i, none⟩ = false := FRow.free h i
theorem Ints.lt (h : Ints t w b m z) : b < w.heap.size := FRow.lt h
theorem Ints.set (h : Ints t w b m z) (i : Nat) (v : Int) : Ints t (w.setCell ⟨b, i, none⟩ (.int .i64 v)) b m (up z i v) :=
  (FRow.set (i := i) h (.int .i64 v)).congr fun x _ => by unfold up; split <;> rfl
theorem Ints.cha (h : Ints t w b m z) (c : Cha S w w') (hs : ¬ S b) : Ints t w' b m z := c.row h hs
theorem Ints.of (h : Ints t w b m z) (e : w'.heap[b]? = w.heap[b]?) : Ints t w' b m z := e.trans h
end

/-- A ring at o: its eight places, its first one, how many. -/
structure Ring (z : Nat → Int) (o f : Nat) (L : List Int) : Prop where
  f8 : f < 8
  n8 : L.length ≤ 8
  fst : z (o + 8) = f
  len : z (o + 9) = L.length
  el : ∀ i, i < L.length → z (o + (f + i) % 8) = L.getD i 0
section
variable {z z' : Nat → Int} {o f : Nat} {L l : List Int} {g : Int}
theorem Ring.congr (h : Ring z o f L) (e : ∀ i, o ≤ i → i < o + 10 → z' i = z i) : Ring z' o f L :=
  ⟨h.f8, h.n8, by rw [e _ (by omega) (by omega)]; exact h.fst, by rw [e _ (by omega) (by omega)]; exact h.len, fun i hi => by rw [e _ (by omega) (by omega)]; exact h.el i hi⟩
theorem Ring.push (h : Ring z o f L) (hl : L.length < 8) (g : Int) : Ring (up (up z (o + (f + L.length) % 8) g) (o + 9) ((L.length : Int) + 1)) o f (L ++ [g]) := by
  have h8 := h.f8
  refine ⟨h.f8, by simp; omega, ?_, ?_, fun i hi => ?_⟩
  · rw [up_other _ _ (by omega), up_other _ _ (by omega)]; exact h.fst
  · rw [up_same]; simp
  · rw [up_other _ _ (by omega)]
    simp only [List.length_append, List.length_singleton] at hi
    by_cases e : i = L.length
    · subst e; rw [up_same]; simp [List.getD]
    · rw [up_other _ _ (by omega), h.el i (by omega)]
      simp [List.getD, List.getElem?_append_left (show i < L.length by omega)]
theorem Ring.pop (h : Ring z o f (g :: l)) : Ring (up (up z (o + 8) (((f + 1) % 8 : Nat) : Int)) (o + 9) (l.length : Int)) o ((f + 1) % 8) l := by
  have h8 := h.f8
  have h9 := h.n8
  simp only [List.length_cons] at h9
  refine ⟨by omega, by omega, ?_, ?_, fun i hi => ?_⟩
  · rw [up_other _ _ (by omega), up_same]
  · rw [up_same]
  · rw [up_other _ _ (by omega), up_other _ _ (by omega)]
    have := h.el (i + 1) (by simp; omega)
    rw [show (f + (i + 1)) % 8 = ((f + 1) % 8 + i) % 8 by omega] at this
    rw [this]; rfl
theorem Ring.head (h : Ring z o f (g :: l)) : z (o + f) = g := by
  have := h.el 0 (by simp)
  have h8 := h.f8
  rw [show (f + 0) % 8 = f by omega] at this
  rw [this]; rfl
end

/-- What a call that turns a ring leaves. -/
def Turned (t : TypeId) (b m o : Nat) (z : Nat → Int) (L : List Int) (w w' : World) : Prop :=
  ∃ z' f, Ints t w' b m z' ∧ Ring z' o f L ∧ (∀ i, i < o ∨ o + 10 ≤ i → z' i = z i) ∧ Cha (· = b) w w'
/-- Of two rings of one block. -/
theorem Turned.other {o o2 f2 : Nat} {z z' : Nat → Int} {L2 : List Int} (e : ∀ i, i < o ∨ o + 10 ≤ i → z' i = z i) (h : Ring z o2 f2 L2) (ho : o2 + 10 ≤ o ∨ o + 10 ≤ o2) : Ring z' o2 f2 L2 :=
  h.congr fun i _ _ => e i (by omega)

/-- A list of numbers that may begin anywhere in its block. -/
def Lies (w : World) (v : Value) (A : List Int) : Prop :=
  (A = [] ∧ v = .slice none 0 0) ∨ ∃ g o cap cur, v = .slice (some ⟨g, o, none⟩) A.length cap ∧ A.length ≤ cap ∧ cap ≤ maxLen ∧ w.heap[g]? = some (.cells cur 3 (0, 0)) ∧ o + cap ≤ cur.size ∧
    ∀ i, i < A.length → cur[o + i]? = some (.int .i64 (A.getD i 0))
section
variable {w w' : World} {v : Value} {A N : List Int} {S : Nat → Prop}
theorem Lies.lt (h : Lies w v A) {g : Nat} (hg : v.ownBlock = some g) : g < w.heap.size := by
  rcases h with ⟨_, rfl⟩ | ⟨g', o, cap, cur, rfl, _, _, hr, _⟩
  · cases hg
  · have e : g' = g := by simpa [Value.ownBlock] using hg
    subst e
    exact (Array.getElem?_eq_some_iff.1 hr).1
theorem Lies.cha (h : Lies w v A) (c : Cha S w w') (hs : ∀ g, v.ownBlock = some g → ¬ S g) : Lies w' v A := by
  have hl := fun g hg => h.lt (g := g) hg
  rcases h with ⟨h1, h2⟩ | ⟨g', o, cap, cur, rfl, h1, h2, h3, h4, h5⟩
  · exact .inl ⟨h1, h2⟩
  · exact .inr ⟨g', o, cap, cur, rfl, h1, h2, (c.old g' (hl g' rfl) (hs g' rfl)).trans h3, h4, h5⟩
theorem Lies.nil (w : World) : Lies w (.slice none 0 0) [] := .inl ⟨rfl, rfl⟩
theorem Lies.form (h : Lies w v A) : ∃ a cap, v = .slice a A.length cap ∧ A.length ≤ cap := by
  rcases h with ⟨rfl, rfl⟩ | ⟨g', o, cap, cur, rfl, h1, _⟩
  · exact ⟨none, 0, rfl, Nat.le_refl _⟩
  · exact ⟨_, cap, rfl, h1⟩
theorem Lies.at (h : Lies w v A) {i : Nat} (hi : i < A.length) : ∃ g o cap, v = .slice (some ⟨g, o, none⟩) A.length cap ∧ w.cell? ⟨g, o + i, none⟩ = some (.int .i64 (A.getD i 0)) ∧ A.length ≤ cap ∧ cap ≤ maxLen := by
  rcases h with ⟨rfl, rfl⟩ | ⟨g', o, cap, cur, rfl, h1, h2, h3, h4, h5⟩
  · cases hi
  · exact ⟨g', o, cap, rfl, by rw [cell_of_row w g' _ cur 3 (0, 0) h3]; exact h5 i hi, h1, h2⟩
/-- The head goes. -/
theorem Lies.tail {g : Nat} {o n cap : Nat} {x : Int} (h : Lies w (.slice (some ⟨g, o, none⟩) n cap) (x :: A)) : Lies w (.slice (some ⟨g, if cap = 1 then o else o + 1, none⟩) (n - 1) (cap - 1)) A := by
  rcases h with ⟨h, _⟩ | ⟨g', o', cap', cur, e, h1, h2, h3, h4, h5⟩
  · cases h
  · cases e
    simp only [List.length_cons] at h1 h5 ⊢
    refine .inr ⟨g, _, cap - 1, cur, by rw [Nat.add_sub_cancel], by omega, by omega, h3, by split <;> omega, fun i hi => ?_⟩
    have := h5 (i + 1) (by omega)
    rw [if_neg (by omega), show o + 1 + i = o + (i + 1) by omega, this]
    rfl
end
end Go.Proofs.Ytaloafihbdamiaa
