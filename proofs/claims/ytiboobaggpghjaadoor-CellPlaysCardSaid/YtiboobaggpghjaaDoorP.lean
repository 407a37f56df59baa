/- Rows of free pages, plainly. g i: the page i is used, or isn't there. -/
import Derived.Lib.Hide
namespace Go.Proofs.YtiboobaggpghjaaDoor

/-- A page that is used, or isn't there. -/
def isU (us : Nat → Bool) (n i : Nat) : Bool := decide (n ≤ i) || us i
theorem isU_end (us : Nat → Bool) (n : Nat) : isU us n n = true := by simp [isU]
theorem isU_lt {us : Nat → Bool} {n i : Nat} (h : i < n) : isU us n i = us i := by unfold isU; rw [decide_eq_false (by omega)]; rfl
theorem isU_ge {us : Nat → Bool} {n i : Nat} (h : n ≤ i) : isU us n i = true := by unfold isU; rw [decide_eq_true h]; rfl
theorem isU_false {us : Nat → Bool} {n i : Nat} : isU us n i = false ↔ i < n ∧ us i = false := by
  unfold isU; rw [Bool.or_eq_false_iff, decide_eq_false_iff_not, Nat.not_le]
/-- n pages from b on get a state. -/
def fil (us : Nat → Bool) (b k : Nat) (v : Bool) : Nat → Bool := fun i => if b ≤ i ∧ i < b + k then v else us i

/-- How many free pages follow one another ahead of k. -/
def tl (g : Nat → Bool) : Nat → Nat
  | 0 => 0
  | k + 1 => if g k = true then 0 else tl g k + 1
/-- The rows that have ended ahead of k. -/
def rws (g : Nat → Bool) : Nat → List (Nat × Nat)
  | 0 => []
  | k + 1 => if g k = true ∧ 0 < tl g k then rws g k ++ [(k - tl g k, tl g k)] else rws g k
/-- How many free pages there are ahead of k. -/
def cntF (g : Nat → Bool) : Nat → Nat
  | 0 => 0
  | k + 1 => if g k = true then cntF g k else cntF g k + 1
variable {g : Nat → Bool}
theorem tl_used {k : Nat} (h : g k = true) : tl g (k + 1) = 0 := by unfold tl; rw [if_pos h]
theorem tl_free {k : Nat} (h : g k = false) : tl g (k + 1) = tl g k + 1 := by unfold tl; rw [if_neg (by rw [h]; simp)]; cases k <;> rfl
theorem rws_free {k : Nat} (h : g k = false) : rws g (k + 1) = rws g k := by
  rw [rws, if_neg (by rw [h]; simp)]
theorem rws_none {k : Nat} (h : tl g k = 0) : rws g (k + 1) = rws g k := by
  rw [rws, if_neg (by omega)]
theorem rws_row {k : Nat} (h : g k = true) (ht : 0 < tl g k) : rws g (k + 1) = rws g k ++ [(k - tl g k, tl g k)] := by
  rw [rws, if_pos ⟨h, ht⟩]
theorem cntF_used {k : Nat} (h : g k = true) : cntF g (k + 1) = cntF g k := by unfold cntF; rw [if_pos h]; cases k <;> rfl
theorem cntF_free {k : Nat} (h : g k = false) : cntF g (k + 1) = cntF g k + 1 := by unfold cntF; rw [if_neg (by rw [h]; simp)]; cases k <;> rfl
theorem cntF_le : ∀ k, cntF g k ≤ k
  | 0 => Nat.le_refl _
  | k + 1 => by
    have := cntF_le k
    cases h : g k
    · rw [cntF_free h]; omega
    · rw [cntF_used h]; omega
theorem tl_le : ∀ k, tl g k ≤ k
  | 0 => Nat.le_refl _
  | k + 1 => by
    have := tl_le k
    cases h : g k
    · rw [tl_free h]; omega
    · rw [tl_used h]; omega
theorem tl_in : ∀ k i, k - tl g k ≤ i → i < k → g i = false
  | 0, i, _, h => absurd h (by omega)
  | k + 1, i, h1, h2 => by
    have hl := tl_le (g := g) k
    cases h : g k
    · rw [tl_free h] at h1
      by_cases e : i = k
      · subst e; exact h
      · exact tl_in k i (by omega) (by omega)
    · rw [tl_used h] at h1; omega
theorem tl_ahead : ∀ k, tl g k < k → g (k - tl g k - 1) = true
  | 0, h => absurd h (by omega)
  | k + 1, h1 => by
    have hl := tl_le (g := g) k
    cases h : g k
    · rw [tl_free h] at h1 ⊢
      have := tl_ahead k (by omega)
      rwa [show k + 1 - (tl g k + 1) - 1 = k - tl g k - 1 by omega]
    · rw [tl_used h]; exact h
theorem tl_ge {b : Nat} : ∀ e, b ≤ e → (∀ i, b ≤ i → i < e → g i = false) → e - b ≤ tl g e
  | 0, _, _ => by omega
  | e + 1, h1, h2 => by
    by_cases c : b = e + 1
    · omega
    · have := tl_ge e (by omega) (fun i hi hj => h2 i hi (by omega))
      rw [tl_free (h2 e (by omega) (by omega))]
      omega
/-- K free pages follow one another from a on, and no more. -/
def FR (g : Nat → Bool) (a K : Nat) : Prop := (∀ i, i < K → g (a + i) = false) ∧ g (a + K) = true
theorem FR.one {a K L : Nat} (h : FR g a K) (k : FR g a L) : K = L := by
  by_cases c : K < L
  · have := k.1 K c; rw [h.2] at this; cases this
  · by_cases d : L < K
    · have := h.1 L d; rw [k.2] at this; cases this
    · omega
theorem FR.ex {c : Nat} (hc : g c = true) : ∀ (m a : Nat), c - a = m → a ≤ c → ∃ K, FR g a K ∧ a + K ≤ c
  | 0, a, hm, ha => by
    have : a = c := by omega
    subst this
    exact ⟨0, ⟨fun i hi => absurd hi (by omega), hc⟩, by omega⟩
  | m + 1, a, hm, ha => by
    cases h : g a
    · obtain ⟨K, hK, hl⟩ := FR.ex hc m (a + 1) (by omega) (by omega)
      refine ⟨K + 1, ⟨fun i hi => ?_, ?_⟩, by omega⟩
      · cases i with
        | zero => exact h
        | succ i => rw [show a + (i + 1) = a + 1 + i by omega]; exact hK.1 i (by omega)
      · rw [show a + (K + 1) = a + 1 + K by omega]; exact hK.2
    · exact ⟨0, ⟨fun i hi => absurd hi (by omega), h⟩, by omega⟩
theorem FR.tls {a K : Nat} (h : FR g a K) (ha : tl g a = 0) : ∀ j, j ≤ K → tl g (a + j) = j ∧ rws g (a + j) = rws g a
  | 0, _ => ⟨ha, rfl⟩
  | j + 1, hj => by
    obtain ⟨h1, h2⟩ := FR.tls h ha j (by omega)
    have hf := h.1 j (by omega)
    rw [show a + (j + 1) = a + j + 1 by omega, tl_free hf, rws_free hf, h1, h2]
    exact ⟨rfl, rfl⟩
theorem FR.step {a K : Nat} (h : FR g a K) (ha : tl g a = 0) : rws g (a + K + 1) = (if 0 < K then rws g a ++ [(a, K)] else rws g a) ∧ tl g (a + K + 1) = 0 := by
  obtain ⟨h1, h2⟩ := h.tls ha K (Nat.le_refl _)
  refine ⟨?_, tl_used h.2⟩
  split
  · rename_i c
    rw [rws_row h.2 (by omega), h1, h2, show a + K - K = a by omega]
  · rename_i c
    rw [rws_none (by omega), h2]
/-- A row of free pages that can't be longer. -/
structure IsRow (g : Nat → Bool) (b l : Nat) : Prop where
  pos : 0 < l
  fr : FR g b l
  first : b = 0 ∨ g (b - 1) = true
theorem row_of_tl {k : Nat} (h : g k = true) (ht : 0 < tl g k) : IsRow g (k - tl g k) (tl g k) := by
  have hl := tl_le (g := g) k
  refine ⟨ht, ⟨fun i hi => tl_in k _ (by omega) (by omega), by rwa [show k - tl g k + tl g k = k by omega]⟩, ?_⟩
  by_cases c : tl g k < k
  · right; exact tl_ahead k c
  · left; omega
theorem rws_mem : ∀ k e, e < k → g e = true → 0 < tl g e → (e - tl g e, tl g e) ∈ rws g k
  | 0, e, h, _, _ => absurd h (by omega)
  | k + 1, e, h, hg, ht => by
    by_cases c : e = k
    · subst c; rw [rws_row hg ht]; simp
    · have := rws_mem k e (by omega) hg ht
      rw [rws]
      split
      · exact List.mem_append.2 (.inl this)
      · exact this
theorem rws_is : ∀ k x, x ∈ rws g k → IsRow g x.1 x.2 ∧ x.1 + x.2 < k
  | 0, x, h => by simp [rws] at h
  | k + 1, x, h => by
    rw [rws] at h
    split at h
    · rename_i c
      rcases List.mem_append.1 h with h | h
      · have := rws_is k x h; exact ⟨this.1, by omega⟩
      · have hx : x = (k - tl g k, tl g k) := by simpa using h
        have hl := tl_le (g := g) k
        subst hx
        exact ⟨row_of_tl c.1 c.2, by show k - tl g k + tl g k < k + 1; omega⟩
    · have := rws_is k x h; exact ⟨this.1, by omega⟩
theorem rws_length : ∀ k, (rws g k).length ≤ k
  | 0 => by simp [rws]
  | k + 1 => by
    have := rws_length k
    rw [rws]
    split
    · simp; omega
    · omega
/-- A free row of some pages lies in a row that can't be longer. -/
theorem row_over {b e : Nat} (hb : b < e) (he : g e = true) (hf : ∀ i, b ≤ i → i < e → g i = false) {k : Nat} (hk : e < k) : ∃ x ∈ rws g k, e - b ≤ x.2 := by
  have := tl_ge e (by omega) hf
  exact ⟨_, rws_mem k e hk he (by omega), this⟩

/-! ### The first row of so many -/
theorem find_some {m : Nat} (hm : 1 ≤ m) : ∀ k x, (rws g k).find? (fun x => decide (m ≤ x.2)) = some x → IsRow g x.1 x.2 ∧ m ≤ x.2 ∧ x.1 + x.2 < k ∧ ∀ b, b < x.1 → ∃ i, i < m ∧ g (b + i) = true
  | 0, x, h => by simp [rws] at h
  | k + 1, x, h => by
    rw [rws] at h
    split at h
    · rename_i c
      rw [List.find?_append] at h
      cases hf : (rws g k).find? (fun x => decide (m ≤ x.2)) with
      | some y =>
        rw [hf] at h
        have e : y = x := by simpa using h
        subst e
        obtain ⟨h1, h2, h3, h4⟩ := find_some hm k y hf
        exact ⟨h1, h2, by omega, h4⟩
      | none =>
        rw [hf] at h
        have hx : x = (k - tl g k, tl g k) ∧ m ≤ tl g k := by
          by_cases d : m ≤ tl g k
          · simp [d] at h; exact ⟨h.symm, d⟩
          · simp [d] at h
        obtain ⟨rfl, hml⟩ := hx
        have hl := tl_le (g := g) k
        have hr := row_of_tl c.1 c.2
        refine ⟨hr, hml, by show k - tl g k + tl g k < k + 1; omega, fun b hb => ?_⟩
        have hb : b < k - tl g k := hb
        have hg1 : g (k - tl g k - 1) = true := tl_ahead k (by omega)
        obtain ⟨K, hK, hle⟩ := FR.ex hg1 _ b rfl (by omega)
        by_cases d : K < m
        · exact ⟨K, d, hK.2⟩
        · exfalso
          obtain ⟨y, hy, hy2⟩ := row_over (b := b) (e := b + K) (k := k) (by omega) hK.2 (fun i h1 h2 => by have := hK.1 (i - b) (by omega); rwa [show b + (i - b) = i by omega] at this) (by omega)
          have := List.find?_eq_none.1 hf y hy
          simp at this
          omega
    · obtain ⟨h1, h2, h3, h4⟩ := find_some hm k x h
      exact ⟨h1, h2, by omega, h4⟩
theorem find_none {m n : Nat} (hn : ∀ i, n ≤ i → g i = true) (hm : 1 ≤ m) (h : (rws g (n + 1)).find? (fun x => decide (m ≤ x.2)) = none) (b : Nat) : ∃ i, i < m ∧ g (b + i) = true := by
  by_cases hb : n ≤ b
  · exact ⟨0, hm, hn _ (by omega)⟩
  · obtain ⟨K, hK, hle⟩ := FR.ex (hn n (Nat.le_refl _)) _ b rfl (by omega)
    by_cases d : K < m
    · exact ⟨K, d, hK.2⟩
    · exfalso
      obtain ⟨y, hy, hy2⟩ := row_over (b := b) (e := b + K) (k := n + 1) (by omega) hK.2 (fun i h1 h2 => by have := hK.1 (i - b) (by omega); rwa [show b + (i - b) = i by omega] at this) (by omega)
      have := List.find?_eq_none.1 h y hy
      simp at this
      omega

/-! ### Counts -/
def sumL (l : List (Nat × Nat)) : Nat := l.foldl (fun s x => s + x.2) 0
def mxL (l : List (Nat × Nat)) : Nat := l.foldl (fun s x => max s x.2) 0
theorem sumL_snoc (l : List (Nat × Nat)) (x : Nat × Nat) : sumL (l ++ [x]) = sumL l + x.2 := by simp [sumL]
theorem mxL_snoc (l : List (Nat × Nat)) (x : Nat × Nat) : mxL (l ++ [x]) = max (mxL l) x.2 := by simp [mxL]
theorem sum_rws : ∀ k, sumL (rws g k) + tl g k = cntF g k
  | 0 => rfl
  | k + 1 => by
    have ih := sum_rws k
    cases h : g k
    · rw [rws_free h, tl_free h, cntF_free h]; omega
    · rw [tl_used h, cntF_used h]
      by_cases c : 0 < tl g k
      · rw [rws_row h c, sumL_snoc]; omega
      · rw [rws_none (by omega)]; omega
theorem sum_all {n : Nat} (hn : g n = true) : sumL (rws g (n + 1)) = cntF g n := by
  have := sum_rws (g := g) (n + 1)
  rw [tl_used hn, cntF_used hn] at this
  omega
theorem mxL_is (l : List (Nat × Nat)) : (∀ x ∈ l, x.2 ≤ mxL l) ∧ (mxL l = 0 ∨ ∃ x ∈ l, x.2 = mxL l) := by
  suffices h : ∀ (l : List (Nat × Nat)) (s : Nat), s ≤ l.foldl (fun s x => max s x.2) s ∧ (∀ x ∈ l, x.2 ≤ l.foldl (fun s x => max s x.2) s) ∧ (l.foldl (fun s x => max s x.2) s = s ∨ ∃ x ∈ l, x.2 = l.foldl (fun s x => max s x.2) s) by
    obtain ⟨_, h1, h2⟩ := h l 0
    exact ⟨h1, h2⟩
  intro l
  induction l with
  | nil => exact fun s => ⟨Nat.le_refl _, fun x hx => (by cases hx), .inl rfl⟩
  | cons y l ih =>
    intro s
    obtain ⟨h1, h2, h3⟩ := ih (max s y.2)
    simp only [List.foldl_cons]
    refine ⟨by omega, fun x hx => ?_, ?_⟩
    · rcases List.mem_cons.1 hx with rfl | hx
      · omega
      · exact h2 x hx
    · rcases h3 with h3 | ⟨x, hx, h3⟩
      · by_cases c : y.2 ≤ s
        · left; omega
        · right; exact ⟨y, List.mem_cons_self .., by omega⟩
      · right; exact ⟨x, List.mem_cons_of_mem _ hx, h3⟩
/-- The longest row, by looking at each page. -/
theorem most_is {n M : Nat} (hn : ∀ i, n ≤ i → g i = true) (h1 : ∀ j, j < n → g j = false → ∀ K, FR g j K → K ≤ M) (h2 : M = 0 ∨ ∃ j, j < n ∧ FR g j M) : M = mxL (rws g (n + 1)) := by
  obtain ⟨k1, k2⟩ := mxL_is (rws g (n + 1))
  apply Nat.le_antisymm
  · rcases h2 with h2 | ⟨j, hj, hf⟩
    · omega
    · by_cases c : M = 0
      · omega
      · have hlt : j + M < n + 1 := by
          by_cases d : j + M < n + 1
          · exact d
          · have := hf.1 (n - j) (by omega); rw [hn _ (by omega)] at this; cases this
        obtain ⟨y, hy, hy2⟩ := row_over (b := j) (e := j + M) (k := n + 1) (by omega) hf.2 (fun i a b => by have := hf.1 (i - j) (by omega); rwa [show j + (i - j) = i by omega] at this) hlt
        have := k1 y hy
        omega
  · rcases k2 with k2 | ⟨x, hx, k2⟩
    · omega
    · obtain ⟨hr, hl⟩ := rws_is _ x hx
      rw [← k2]
      have hp := hr.pos
      exact h1 x.1 (by omega) (by have := hr.fr.1 0 hp; simpa using this) _ hr.fr
end Go.Proofs.YtiboobaggpghjaaDoor
