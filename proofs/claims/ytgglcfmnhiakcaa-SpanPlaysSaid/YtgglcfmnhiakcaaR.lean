/- PagesBack, plainly; a list of ints that is appended to beside another one. -/
import Derived.Test.YtgglcfmnhiakcaaN
namespace Go.Proofs.Ytgglcfmnhiakcaa
open Go.ChangeShapes Go.WideShapes Go.ChangeAt Go.RowKit

section
variable {P : Program} (w : World)
/-- Where the list lies behind an append: where it lay, or in a new block. -/
theorem run_append_where (base : Nat) (t ty e : TypeId) (i : TypeInfo) (z : Value) (size bytes : Nat) (ht : P.underlying t = some (.slice e)) (hi : P.info? e = some i) (hz : i.zero = some z)
    (hsize : i.size = size) (hby : i.bytes = bytes) (hzs : z.cells.size = size) (hsz : 0 < size)
    (v : Value) (n : Nat) (xs : List Value) (hown : w.ownsRow base e size v n xs)
    (a : Addr) (m c : Nat) (news : List Value) (hl : news.length = m * size) (hnews : ∀ j u, news[j]? = some u → w.cell? (a.add j) = some u) (h1 : ∀ u ∈ news, u.oneCell' = true)
    (h63 : n + m ≤ maxLen) (hbytes : (n + m) * bytes ≤ 140737488355328) (hbase : base ≤ w.heap.size) :
    ∃ v' w', (Builtin.append_ #[t, t] ty #[v, .slice (some a) m c]).run P w = .ok v' w' ∧ w'.ownsRow base e size v' (n + m) (xs ++ news) ∧ w.grownBy w' v.ownBlock ∧
      (v'.ownBlock = v.ownBlock ∨ ∀ g, v'.ownBlock = some g → w.heap.size ≤ g) := by
  obtain ⟨v', w', hr, h2, h3, h4⟩ := run_append_own (P := P) w base t ty e i z size bytes ht hi hz hsize hby hzs hsz v n xs hown a m c news hl hnews h1 h63 hbytes hbase
  refine ⟨v', w', hr, h2, h3, ?_⟩
  rcases hown.2 with ⟨rfl, rfl⟩ | ⟨g, cap, cur, rfl, hb, hg, hnc, hcm, hcs, htk⟩
  · have hx : xs = [] := List.eq_nil_of_length_eq_zero (by simpa using hown.1)
    subst hx
    obtain ⟨v2, w2, hr2, o2, _⟩ := run_append_own (P := P) w w.heap.size t ty e i z size bytes ht hi hz hsize hby hzs hsz (.slice none 0 0) 0 [] (World.ownsRow_nil _ _ _ _) a m c news hl hnews h1 h63 hbytes (Nat.le_refl _)
    rw [hr] at hr2
    cases hr2
    exact .inr fun g hg => (o2.lt g hg).1
  · by_cases hroom : n + m ≤ cap
    · obtain ⟨w2, hr2, _⟩ := run_append_fits (P := P) w base t ty e i size ht hi hsize g n cap xs hown a m c news hl hnews h1 hroom
      rw [hr] at hr2
      cases hr2
      exact .inl rfl
    · subst hsize
      subst hby
      have holds : ∀ j u, xs[j]? = some u → w.cell? ((⟨g, 0, none⟩ : Addr).add j) = some u := hown.cells (g := g) rfl
      have hsmall : n + m ≤ 9223372036854775807 := by simp only [maxLen] at h63; omega
      have hr2 := run_append_grow (P := P) w t ty e i z ht hi hz ⟨g, 0, none⟩ n cap xs hown.1 holds a m c news hl hnews (by omega) (by omega) (growslice_fits (by omega) hbytes)
      rw [hr] at hr2
      cases hr2
      exact .inr fun g' hg' => by simp [Value.ownBlock] at hg'; omega
theorem wpList_append_where {ops : Array Oper} {rest : List Oper} {o : Oper} {a : Act} {Q : Exit → Act → World → Prop} (hgd : o.guard = none) (s x : Operand) (t : TypeId)
    (ho : o.op = .call { callee := .builtin .append, args := #[s, x], argTypes := #[t, t] })
    (base : Nat) (e : TypeId) (i : TypeInfo) (z : Value) (size bytes : Nat) (ht : P.underlying t = some (.slice e)) (hi : P.info? e = some i) (hz : i.zero = some z)
    (hsize : i.size = size) (hby : i.bytes = bytes) (hzs : z.cells.size = size) (hsz : 0 < size)
    (v : Value) (n : Nat) (xs : List Value) (hs : a.eval s = v) (hown : w.ownsRow base e size v n xs)
    (ad : Addr) (m c : Nat) (news : List Value) (hx : a.eval x = .slice (some ad) m c) (hl : news.length = m * size) (hnews : ∀ j u, news[j]? = some u → w.cell? (ad.add j) = some u) (h1 : ∀ u ∈ news, u.oneCell' = true)
    (h63 : n + m ≤ maxLen) (hbytes : (n + m) * bytes ≤ 140737488355328) (hbase : base ≤ w.heap.size)
    (h : ∀ v' w', w'.ownsRow base e size v' (n + m) (xs ++ news) → w.grownBy w' v.ownBlock → (v'.ownBlock = v.ownBlock ∨ ∀ g, v'.ownBlock = some g → w.heap.size ≤ g) → wpList P ops Q rest (a.put o.dst v') w') : wpList P ops Q (o :: rest) a w :=
  wpList_plain hgd fun K hK => by
    obtain ⟨v', w', hr, h2, h3, h4⟩ := run_append_where (P := P) w base t o.type e i z size bytes ht hi hz hsize hby hzs hsz v n xs hown ad m c news hl hnews h1 h63 hbytes hbase
    unfold Oper.wp execOp
    simp only [ho, resolve, invoke, builtin, Sem.run_bind, Sem.run_pure, Result.andThen_ok, List.map_toArray, List.map_cons, List.map_nil, hs, hx, hr]
    exact hK _ _ (h v' w' h2 h3 h4)
end

/-- A list of ints as cells. -/
def ils (A : Nat → Nat) (j : Nat) : List Value := (List.range j).map fun i => .int .i64 (A i : Int)
theorem ils_step (A : Nat → Nat) (j : Nat) : ils A (j + 1) = ils A j ++ [.int .i64 (A j : Int)] := by
  unfold ils; rw [List.range_succ, List.map_append]; rfl
/-- Two lists beside one another. -/
structure Pair2 (W : World) (B : Nat) (u v : Value) (j k : Nat) (A S : Nat → Nat) : Prop where
  l : W.ownsRow B 3 1 u j (ils A j)
  r : W.ownsRow B 3 1 v k (ils S k)
  far : ∀ g, u.ownBlock = some g → v.ownBlock = some g → False
theorem Pair2.cha {W W' : World} {B j k : Nat} {u v : Value} {A S : Nat → Nat} {T : Nat → Prop} (h : Pair2 W B u v j k A S) (c : Cha T W W') (hs : ∀ i, B ≤ i → ¬ T i) : Pair2 W' B u v j k A S := ⟨owns_cha h.l c hs, owns_cha h.r c hs, h.far⟩
theorem Pair2.left {W W' : World} {B j k : Nat} {u v u' : Value} {A S : Nat → Nat} {o : Obj} (h : Pair2 W B u v j k A S) (h1 : W'.ownsRow B 3 1 u' (j + 1) (ils A j ++ [.int .i64 (A j : Int)])) (hg : (W.alloc o).grownBy W' u.ownBlock)
    (hw : u'.ownBlock = u.ownBlock ∨ ∀ g, u'.ownBlock = some g → (W.alloc o).heap.size ≤ g) : Pair2 W' B u' v (j + 1) k A S := by
  refine ⟨by rw [ils_step]; exact h1, (h.r.alloc o).kept hg ?_, fun g h1 h2 => ?_⟩
  · cases hv : v.ownBlock with
    | none => exact .inl rfl
    | some g => exact .inr fun e => h.far g e.symm hv
  · rcases hw with hw | hw
    · exact h.far g (hw ▸ h1) h2
    · have := hw g h1
      have := (h.r.lt g h2).2
      rw [World.size_alloc] at *
      omega
theorem Pair2.right {W W' : World} {B j k : Nat} {u v v' : Value} {A S : Nat → Nat} {o : Obj} (h : Pair2 W B u v j k A S) (h1 : W'.ownsRow B 3 1 v' (k + 1) (ils S k ++ [.int .i64 (S k : Int)])) (hg : (W.alloc o).grownBy W' v.ownBlock)
    (hw : v'.ownBlock = v.ownBlock ∨ ∀ g, v'.ownBlock = some g → (W.alloc o).heap.size ≤ g) : Pair2 W' B u v' j (k + 1) A S := by
  refine ⟨(h.l.alloc o).kept hg ?_, by rw [ils_step]; exact h1, fun g h1 h2 => ?_⟩
  · cases hu : u.ownBlock with
    | none => exact .inl rfl
    | some g => exact .inr fun e => h.far g hu e.symm
  · rcases hw with hw | hw
    · exact h.far g h1 (hw ▸ h2)
    · have := hw g h2
      have := (h.l.lt g h1).2
      rw [World.size_alloc] at *
      omega

/-! ### Rows that are used one behind the other -/
/-- The pages ahead of a are used. -/
def pre (a : Nat) : Nat → Bool := fun i => decide (i < a)
theorem pre_zero : pre 0 = nou := by funext i; unfold pre nou; simp
theorem pre_fil (a k : Nat) : fil (pre a) a k true = pre (a + k) := by
  funext i; unfold fil pre
  by_cases c : a ≤ i ∧ i < a + k
  · rw [if_pos c, decide_eq_true (by omega)]
  · rw [if_neg c]
    by_cases d : i < a
    · rw [decide_eq_true d, decide_eq_true (by omega)]
    · rw [decide_eq_false d, decide_eq_false (by omega)]
theorem pre_alc {a k n : Nat} (hk : 1 ≤ k) (hn : a + k ≤ n) : Alc n (pre a) (k : Int) (a : Int) 0 (pre (a + k)) := by
  have hfree : ∀ i, a ≤ i → i < n → isU (pre a) n i = false := fun i h1 h2 => by rw [isU_lt h2]; unfold pre; rw [decide_eq_false (by omega)]
  have hused : ∀ i, i < a → isU (pre a) n i = true := fun i h1 => by rw [isU_lt (by omega)]; unfold pre; rw [decide_eq_true h1]
  cases hf : (rows (pre a) n).find? (fun x => decide (k ≤ x.2)) with
  | none =>
    exfalso
    obtain ⟨i, hi, hu⟩ := find_none (g := isU (pre a) n) (n := n) (fun i hi => isU_ge hi) hk hf a
    rw [hfree _ (by omega) (by omega)] at hu; cases hu
  | some x =>
    obtain ⟨h1, h2, h3, h4⟩ := find_some hk (n + 1) x hf
    have e : x.1 = a := by
      apply Nat.le_antisymm
      · by_cases c : a < x.1
        · obtain ⟨i, hi, hu⟩ := h4 _ c
          rw [hfree _ (by omega) (by omega)] at hu; cases hu
        · omega
      · by_cases c : x.1 < a
        · have := h1.fr.1 0 h1.pos
          rw [Nat.add_zero, hused _ c] at this; cases this
        · omega
    have := Alc.ok (n := n) (us := pre a) (k := (k : Int)) x (by omega) (by rw [Int.toNat_natCast]; exact hf)
    rwa [e, Int.toNat_natCast, pre_fil] at this

/-- The first j numbers' sum. -/
def smu (S : Nat → Nat) : Nat → Nat
  | 0 => 0
  | j + 1 => smu S j + S j
theorem smu_le {S : Nat → Nat} {c : Nat} : ∀ j, (∀ i, i < j → S i ≤ c) → smu S j ≤ j * c
  | 0, _ => by simp [smu]
  | j + 1, h => by
    have h1 := smu_le j (fun i hi => h i (by omega))
    have h2 := h j (by omega)
    simp only [smu, Nat.succ_mul]
    omega
theorem smu_mono {S : Nat → Nat} {i : Nat} : ∀ j, i < j → smu S i + S i ≤ smu S j
  | 0, h => absurd h (by omega)
  | j + 1, h => by
    by_cases e : i = j
    · subst e; exact Nat.le_refl _
    · have := smu_mono (S := S) j (show i < j by omega)
      simp only [smu]
      omega
theorem smu_find {S : Nat → Nat} {x : Nat} : ∀ j, x < smu S j → ∃ i, i < j ∧ smu S i ≤ x ∧ x < smu S i + S i
  | 0, h => absurd h (by simp [smu])
  | j + 1, h => by
    by_cases c : x < smu S j
    · obtain ⟨i, h1, h2⟩ := smu_find j c
      exact ⟨i, by omega, h2⟩
    · exact ⟨j, by omega, by omega, by simpa [smu] using h⟩

/-- The used pages are those of m rows that have none in common. -/
structure Covers (us : Nat → Bool) (m : Nat) (A S : Nat → Nat) : Prop where
  iff : ∀ x, x < 4096 → (us x = true ↔ ∃ i, i < m ∧ A i ≤ x ∧ x < A i + S i)
  apart : ∀ i j, i < m → j < m → i ≠ j → A i + S i ≤ A j ∨ A j + S j ≤ A i
  rng : ∀ i, i < m → 1 ≤ S i ∧ S i ≤ 20 ∧ A i + S i ≤ 4096
theorem covers_pre {S : Nat → Nat} {m : Nat} (hs : ∀ i, i < m → 1 ≤ S i ∧ S i ≤ 20) (hm : m ≤ 200) : Covers (pre (smu S m)) m (smu S) S := by
  refine ⟨fun x _ => ?_, fun i j hi hj hij => ?_, fun i hi => ?_⟩
  · unfold pre
    rw [decide_eq_true_iff]
    constructor
    · exact smu_find m
    · intro ⟨i, h1, _, h3⟩
      have := smu_mono (S := S) m h1
      omega
  · by_cases c : i < j
    · left; exact smu_mono j c
    · right; exact smu_mono i (by omega)
  · have h1 := hs i hi
    have h2 := smu_mono (S := S) m hi
    have h3 := smu_le (S := S) (c := 20) m (fun i hi => (hs i hi).2)
    omega
/-- One of them goes; the last one comes into its place. -/
def put (A : Nat → Nat) (j m : Nat) : Nat → Nat := fun i => if i = j then A m else A i
theorem Covers.drop {us : Nat → Bool} {m j : Nat} {A S : Nat → Nat} (h : Covers us (m + 1) A S) (hj : j < m + 1) : Covers (fil us (A j) (S j) false) m (put A j m) (put S j m) := by
  refine ⟨fun x hx => ?_, fun a b ha hb hab => ?_, fun i hi => ?_⟩
  · unfold fil
    by_cases c : A j ≤ x ∧ x < A j + S j
    · rw [if_pos c]
      constructor
      · intro e; cases e
      · intro ⟨i, h1, h2, h3⟩
        exfalso
        unfold put at h2 h3
        by_cases e : i = j
        · rw [if_pos e] at h2
          rw [if_pos e, if_pos e] at h3
          have := h.apart j m hj (by omega) (by omega)
          omega
        · rw [if_neg e] at h2
          rw [if_neg e, if_neg e] at h3
          have := h.apart i j (by omega) hj e
          omega
    · rw [if_neg c, h.iff x hx]
      constructor
      · intro ⟨i, h1, h2, h3⟩
        have hij : i ≠ j := fun e => c (by rw [← e]; exact ⟨h2, h3⟩)
        by_cases e : i = m
        · exact ⟨j, by omega, by unfold put; rw [if_pos rfl, ← e]; exact h2, by unfold put; rw [if_pos rfl, if_pos rfl, ← e]; exact h3⟩
        · exact ⟨i, by omega, by unfold put; rw [if_neg hij]; exact h2, by unfold put; rw [if_neg hij, if_neg hij]; exact h3⟩
      · intro ⟨i, h1, h2, h3⟩
        unfold put at h2 h3
        by_cases e : i = j
        · rw [if_pos e] at h2
          rw [if_pos e, if_pos e] at h3
          exact ⟨m, by omega, h2, h3⟩
        · rw [if_neg e] at h2
          rw [if_neg e, if_neg e] at h3
          exact ⟨i, by omega, h2, h3⟩
  · unfold put
    by_cases e : a = j
    · rw [if_pos e, if_pos e, if_neg (by omega), if_neg (by omega)]
      exact h.apart m b (by omega) (by omega) (by omega)
    · rw [if_neg e, if_neg e]
      by_cases f : b = j
      · rw [if_pos f, if_pos f]
        exact h.apart a m (by omega) (by omega) (by omega)
      · rw [if_neg f, if_neg f]
        exact h.apart a b (by omega) (by omega) hab
  · unfold put
    by_cases e : i = j
    · rw [if_pos e, if_pos e]; exact h.rng m (by omega)
    · rw [if_neg e, if_neg e]; exact h.rng i (by omega)
theorem Covers.chn {us : Nat → Bool} {m j : Nat} {A S : Nat → Nat} (h : Covers us m A S) (hj : j < m) :
    Chn 4096 us (A j : Int) (S j : Int) false 0 (fil us (A j) (S j) false) ∧ Chn 4096 (fil us (A j) (S j) false) (A j : Int) (S j : Int) false 5 (fil us (A j) (S j) false) := by
  obtain ⟨h1, h2, h3⟩ := h.rng j hj
  refine ⟨.ok _ _ rfl rfl h1 h3 fun i hi => ?_, .state _ _ 0 rfl rfl h3 (by omega) ?_⟩
  · exact (h.iff _ (by omega)).2 ⟨j, hj, by omega, by omega⟩
  · unfold fil; rw [if_pos (by omega)]
theorem none_used {us : Nat → Bool} {A S : Nat → Nat} (h : Covers us 0 A S) : cntF (isU us 4096) 4096 = 4096 ∧ mxL (rows us 4096) = 4096 := by
  have hf : ∀ x, x < 4096 → isU us 4096 x = false := fun x hx => by
    rw [isU_lt hx]
    cases hu : us x
    · rfl
    · obtain ⟨i, hi, _⟩ := (h.iff x hx).1 hu; omega
  refine ⟨?_, ?_⟩
  · have : ∀ k, k ≤ 4096 → cntF (isU us 4096) k = k := by
      intro k
      induction k with
      | zero => exact fun _ => rfl
      | succ k ih => intro hk; rw [cntF_free (hf k (by omega)), ih (by omega)]
    exact this 4096 (Nat.le_refl _)
  · refine (most_is (n := 4096) (M := 4096) (fun i hi => isU_ge hi) (fun j hj _ K hK => ?_) (.inr ⟨0, by omega, fun i hi => by rw [Nat.zero_add]; exact hf i hi, isU_ge (by omega)⟩)).symm
    by_cases c : K ≤ 4096
    · exact c
    · have h0 : isU us 4096 (j + (4096 - j)) = false := hK.1 (4096 - j) (by omega)
      rw [isU_ge (show 4096 ≤ j + (4096 - j) by omega)] at h0; cases h0
end Go.Proofs.Ytgglcfmnhiakcaa
