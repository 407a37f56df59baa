/- Layer 5's state, plainly: spans, rising; the span in which a page lies. -/
import Derived.Test.YtiboobaggpghjaaDoorP
namespace Go.Proofs.YtiboobaggpghjaaDoor

/-- A span: where it begins, its pages, its mark. -/
structure Spn where
  b : Nat
  k : Nat
  t : Int
deriving DecidableEq
def noS : Spn := ⟨0, 0, 0⟩
def Spn.has (s : Spn) (i : Nat) : Bool := decide (s.b ≤ i) && decide (i < s.b + s.k)
theorem has_iff {s : Spn} {i : Nat} : s.has i = true ↔ s.b ≤ i ∧ i < s.b + s.k := by unfold Spn.has; simp
/-- Spans that lie one behind the other. -/
structure Good (n : Nat) (L : List Spn) : Prop where
  up : L.Pairwise fun s r => s.b + s.k ≤ r.b
  rng : ∀ s ∈ L, 1 ≤ s.k ∧ s.b + s.k ≤ n
/-- The span in which a page lies. -/
def fOf (L : List Spn) (i : Nat) : Spn := (L.find? (·.has i)).getD noS
def uOf (L : List Spn) (i : Nat) : Bool := (L.find? (·.has i)).isSome
variable {n : Nat} {L : List Spn}
theorem Good.nil (n : Nat) : Good n [] := ⟨List.Pairwise.nil, fun _ h => by cases h⟩
theorem Good.tail {s : Spn} (h : Good n (s :: L)) : Good n L := ⟨(List.pairwise_cons.1 h.up).2, fun r hr => h.rng r (List.mem_cons_of_mem _ hr)⟩
theorem Good.head {s : Spn} (h : Good n (s :: L)) : ∀ r ∈ L, s.b + s.k ≤ r.b := (List.pairwise_cons.1 h.up).1
/-- A page lies in one span at most. -/
theorem Good.one : ∀ {L : List Spn}, Good n L → ∀ {s : Spn} {i : Nat}, s ∈ L → s.has i = true → L.find? (·.has i) = some s
  | [], _, _, _, hs, _ => by cases hs
  | r :: L, h, s, i, hs, hi => by
    rw [List.find?_cons]
    rcases List.mem_cons.1 hs with rfl | hs
    · rw [hi]
    · have h1 := h.head s hs
      have h2 := has_iff.1 hi
      have h3 := h.rng r (List.mem_cons_self ..)
      have : r.has i = false := by
        cases hr : r.has i
        · rfl
        · have := has_iff.1 hr; omega
      rw [this]
      exact Good.one h.tail hs hi
theorem find_is {L : List Spn} {s : Spn} {i : Nat} (h : L.find? (·.has i) = some s) : s ∈ L ∧ s.has i = true := ⟨List.mem_of_find?_eq_some h, by have := List.find?_some h; simpa using this⟩
theorem uOf_iff {i : Nat} : uOf L i = true ↔ ∃ s ∈ L, s.has i = true := by
  unfold uOf
  rw [List.find?_isSome]
theorem Good.uOf_lt (h : Good n L) {i : Nat} (hu : uOf L i = true) : i < n := by
  obtain ⟨s, hs, hi⟩ := uOf_iff.1 hu
  have := h.rng s hs
  have := has_iff.1 hi
  omega
theorem Good.fOf_yes (h : Good n L) {s : Spn} {i : Nat} (hs : s ∈ L) (hi : s.has i = true) : fOf L i = s := by unfold fOf; rw [h.one hs hi]; rfl
theorem fOf_no {i : Nat} (h : uOf L i = false) : fOf L i = noS := by
  unfold fOf
  unfold uOf at h
  cases hf : L.find? (·.has i) with
  | none => rfl
  | some s => rw [hf] at h; cases h
theorem fOf_mem {i : Nat} (h : uOf L i = true) : fOf L i ∈ L ∧ (fOf L i).has i = true := by
  unfold fOf
  unfold uOf at h
  cases hf : L.find? (·.has i) with
  | none => rw [hf] at h; cases h
  | some s => exact find_is hf

/-! ### A span comes -/
/-- The document's way: ahead of the first one that begins behind it. -/
def ins (s : Spn) : List Spn → List Spn
  | [] => [s]
  | r :: L => if s.b < r.b then s :: r :: L else r :: ins s L
theorem mem_ins {s r : Spn} : ∀ {L : List Spn}, r ∈ ins s L ↔ r = s ∨ r ∈ L
  | [] => by simp [ins]
  | x :: L => by
    unfold ins
    split
    · simp
    · rw [List.mem_cons, mem_ins, List.mem_cons]
      constructor
      · rintro (h | h | h)
        · exact .inr (.inl h)
        · exact .inl h
        · exact .inr (.inr h)
      · rintro (h | h | h)
        · exact .inr (.inl h)
        · exact .inl h
        · exact .inr (.inr h)
theorem Good.ins {s : Spn} : ∀ {L : List Spn}, Good n L → 1 ≤ s.k → s.b + s.k ≤ n → (∀ i, s.has i = true → uOf L i = false) → Good n (ins s L)
  | [], _, h1, h2, _ => ⟨List.pairwise_singleton _ _, fun r hr => by
      have : r = s := by simpa [YtiboobaggpghjaaDoor.ins] using hr
      subst this; exact ⟨h1, h2⟩⟩
  | x :: L, h, h1, h2, h3 => by
    have hx := h.rng x (List.mem_cons_self ..)
    have apart : ∀ r ∈ x :: L, s.b + s.k ≤ r.b ∨ r.b + r.k ≤ s.b := fun r hr => by
      have hr2 := h.rng r hr
      by_cases c : s.b + s.k ≤ r.b
      · exact .inl c
      · by_cases d : r.b + r.k ≤ s.b
        · exact .inr d
        · exfalso
          have hm : s.has (max s.b r.b) = true := has_iff.2 (by omega)
          have hm2 : r.has (max s.b r.b) = true := has_iff.2 (by omega)
          have := uOf_iff.2 ⟨r, hr, hm2⟩
          rw [h3 _ hm] at this; cases this
    unfold YtiboobaggpghjaaDoor.ins
    split
    · rename_i c
      refine ⟨List.pairwise_cons.2 ⟨fun r hr => ?_, h.up⟩, fun r hr => ?_⟩
      · rcases apart r hr with k | k
        · exact k
        · rcases List.mem_cons.1 hr with rfl | hr2
          · have := h.rng r hr; omega
          · have := h.head r hr2; omega
      · rcases List.mem_cons.1 hr with rfl | hr
        · exact ⟨h1, h2⟩
        · exact h.rng r hr
    · rename_i c
      have hi := Good.ins (s := s) h.tail h1 h2 (fun i hi => by
        cases hu : uOf L i
        · rfl
        · obtain ⟨r, hr, hri⟩ := uOf_iff.1 hu
          have := uOf_iff.2 ⟨r, List.mem_cons_of_mem x hr, hri⟩
          rw [h3 i hi] at this; cases this)
      refine ⟨List.pairwise_cons.2 ⟨fun r hr => ?_, hi.up⟩, fun r hr => ?_⟩
      · rcases mem_ins.1 hr with rfl | hr
        · rcases apart x (List.mem_cons_self ..) with k | k
          · omega
          · exact k
        · exact h.head r hr
      · rcases List.mem_cons.1 hr with rfl | hr
        · exact hx
        · exact hi.rng r hr
/-- n pages' spans behind one's coming. -/
def layF (f : Nat → Spn) (b k : Nat) (s : Spn) : Nat → Spn := fun i => if b ≤ i ∧ i < b + k then s else f i
theorem uOf_ins {s : Spn} (i : Nat) : uOf (ins s L) i = if s.b ≤ i ∧ i < s.b + s.k then true else uOf L i := by
  split
  · rename_i c
    exact uOf_iff.2 ⟨s, mem_ins.2 (.inl rfl), has_iff.2 c⟩
  · rename_i c
    cases hu : uOf L i
    · cases hv : uOf (ins s L) i
      · rfl
      · obtain ⟨r, hr, hi⟩ := uOf_iff.1 hv
        rcases mem_ins.1 hr with rfl | hr
        · exact absurd (has_iff.1 hi) c
        · have := uOf_iff.2 ⟨r, hr, hi⟩; rw [hu] at this; cases this
    · obtain ⟨r, hr, hi⟩ := uOf_iff.1 hu
      exact uOf_iff.2 ⟨r, mem_ins.2 (.inr hr), hi⟩
theorem fOf_ins {s : Spn} (h : Good n (ins s L)) (i : Nat) : fOf (ins s L) i = layF (fOf L) s.b s.k s i := by
  unfold layF
  split
  · rename_i c
    exact h.fOf_yes (mem_ins.2 (.inl rfl)) (has_iff.2 c)
  · rename_i c
    cases hu : uOf L i
    · have : uOf (ins s L) i = false := by rw [uOf_ins, if_neg c]; exact hu
      rw [fOf_no hu, fOf_no this]
    · obtain ⟨h1, h2⟩ := fOf_mem hu
      exact h.fOf_yes (mem_ins.2 (.inr h1)) h2

/-! ### A span goes -/
def del (b : Nat) (L : List Spn) : List Spn := L.filter fun s => !decide (s.b = b)
theorem mem_del {b : Nat} {s : Spn} : s ∈ del b L ↔ s ∈ L ∧ s.b ≠ b := by unfold del; simp
theorem Good.del (h : Good n L) (b : Nat) : Good n (del b L) := ⟨h.up.filter _, fun r hr => h.rng r (mem_del.1 hr).1⟩
theorem uOf_del {s : Spn} (h : Good n L) (hs : s ∈ L) (i : Nat) : uOf (del s.b L) i = if s.b ≤ i ∧ i < s.b + s.k then false else uOf L i := by
  have hone : ∀ r ∈ L, r.b = s.b → r = s := fun r hr e => by
    have h1 := h.one hr (i := r.b) (has_iff.2 (by have := h.rng r hr; omega))
    have h2 := h.one hs (i := r.b) (has_iff.2 (by have := h.rng s hs; omega))
    rw [h1] at h2; cases h2; rfl
  split
  · rename_i c
    cases hu : uOf (del s.b L) i
    · rfl
    · obtain ⟨r, hr, hi⟩ := uOf_iff.1 hu
      obtain ⟨h1, h2⟩ := mem_del.1 hr
      have h3 := h.one h1 hi
      have h4 := h.one hs (i := i) (has_iff.2 c)
      rw [h3] at h4; cases h4
      exact absurd rfl h2
  · rename_i c
    cases hu : uOf L i
    · cases hv : uOf (del s.b L) i
      · rfl
      · obtain ⟨r, hr, hi⟩ := uOf_iff.1 hv
        have := uOf_iff.2 ⟨r, (mem_del.1 hr).1, hi⟩; rw [hu] at this; cases this
    · obtain ⟨r, hr, hi⟩ := uOf_iff.1 hu
      refine uOf_iff.2 ⟨r, mem_del.2 ⟨hr, fun e => ?_⟩, hi⟩
      have := hone r hr e
      subst this
      exact c (has_iff.1 hi)
theorem fOf_del {s : Spn} (h : Good n L) (hs : s ∈ L) (i : Nat) : fOf (del s.b L) i = layF (fOf L) s.b s.k noS i := by
  unfold layF
  split
  · rename_i c
    exact fOf_no (by rw [uOf_del h hs, if_pos c])
  · rename_i c
    cases hu : uOf L i
    · rw [fOf_no hu, fOf_no (by rw [uOf_del h hs, if_neg c]; exact hu)]
    · obtain ⟨h1, h2⟩ := fOf_mem hu
      refine (h.del s.b).fOf_yes (mem_del.2 ⟨h1, fun e => ?_⟩) h2
      have h3 := h.one h1 (i := s.b) (has_iff.2 (by have := h.rng _ h1; omega))
      have h4 := h.one hs (i := s.b) (has_iff.2 (by have := h.rng s hs; omega))
      rw [h3] at h4; cases h4
      exact c (has_iff.1 h2)

/-! ### Which span begins at a page -/
theorem begins {i : Nat} (h : Good n L) : (uOf L i = true ∧ (fOf L i).b = i ↔ ∃ s ∈ L, s.b = i) := by
  constructor
  · intro ⟨h1, h2⟩; exact ⟨_, (fOf_mem h1).1, h2⟩
  · intro ⟨s, hs, e⟩
    have hi : s.has i = true := has_iff.2 (by have := h.rng s hs; omega)
    exact ⟨uOf_iff.2 ⟨s, hs, hi⟩, by rw [h.fOf_yes hs hi]; exact e⟩
/-- The spans that begin ahead of a page, by looking at each page. -/
def begs (L : List Spn) : Nat → List Spn
  | 0 => []
  | i + 1 => if uOf L i = true ∧ (fOf L i).b = i then begs L i ++ [fOf L i] else begs L i
theorem begs_length (L : List Spn) : ∀ i, (begs L i).length ≤ i
  | 0 => by simp [begs]
  | i + 1 => by
    have := begs_length L i
    unfold begs
    split
    · simp; omega
    · omega
theorem begs_filter (h : Good n L) : ∀ i, begs L i = L.filter fun s => decide (s.b < i)
  | 0 => by simp [begs]
  | i + 1 => by
    have ih := begs_filter h i
    unfold begs
    have key : ∀ {L : List Spn}, Good n L → ∀ i, (L.filter fun s => decide (s.b < i + 1)) = (L.filter fun s => decide (s.b < i)) ++ (L.filter fun s => decide (s.b = i)) := by
      intro L
      induction L with
      | nil => intro _ _; rfl
      | cons s L ihL =>
        intro hg i
        have hh := hg.head
        have hk := hg.rng s (List.mem_cons_self ..)
        by_cases c : s.b < i
        · rw [List.filter_cons_of_pos (by simp; omega), List.filter_cons_of_pos (by simp; omega), List.filter_cons_of_neg (by simp; omega), ihL hg.tail i]; rfl
        · have e0 : (L.filter fun s => decide (s.b < i)) = [] := List.filter_eq_nil_iff.2 fun r hr => by have := hh r hr; simp; omega
          by_cases d : s.b = i
          · rw [List.filter_cons_of_pos (by simp; omega), List.filter_cons_of_neg (by simp; omega), List.filter_cons_of_pos (by simp; omega), ihL hg.tail i, e0]; rfl
          · rw [List.filter_cons_of_neg (by simp; omega), List.filter_cons_of_neg (by simp; omega), List.filter_cons_of_neg (by simp; omega), ihL hg.tail i]
    rw [key h i, ih]
    split
    · rename_i c
      congr 1
      obtain ⟨h1, h2⟩ := fOf_mem c.1
      have : ∀ {L : List Spn} {s : Spn}, Good n L → s ∈ L → (L.filter fun r => decide (r.b = s.b)) = [s] := by
        intro L
        induction L with
        | nil => intro s _ hs; cases hs
        | cons x L ihL =>
          intro s hg hs
          have hh := hg.head
          have hk := hg.rng x (List.mem_cons_self ..)
          rcases List.mem_cons.1 hs with rfl | hs
          · rw [List.filter_cons_of_pos (by simp), List.filter_eq_nil_iff.2 fun r hr => by have := hh r hr; simp; omega]
          · have := hh s hs
            rw [List.filter_cons_of_neg (by simp; omega)]
            exact ihL hg.tail hs
      have h3 := this h h1
      rw [c.2] at h3
      exact h3.symm
    · rename_i c
      have : (L.filter fun s => decide (s.b = i)) = [] := List.filter_eq_nil_iff.2 fun r hr => by
        simp
        intro e
        exact c ((begins h).2 ⟨r, hr, e⟩)
      rw [this, List.append_nil]
theorem begs_all (h : Good n L) : begs L n = L := by
  rw [begs_filter h]
  refine List.filter_eq_self.2 fun s hs => ?_
  have := h.rng s hs
  simp; omega
theorem good_length (h : Good n L) : L.length ≤ n := by
  have := begs_length L n
  rwa [begs_all h] at this
end Go.Proofs.YtiboobaggpghjaaDoor
