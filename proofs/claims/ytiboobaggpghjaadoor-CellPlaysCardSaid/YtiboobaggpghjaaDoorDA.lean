/- Layer 7's state, plainly: blocks of cells, in the order in which the document has them. -/
import Derived.Test.YtiboobaggpghjaaDoorSA
import Derived.Test.YtiboobaggpghjaaDoorCA
namespace Go.Proofs.YtiboobaggpghjaaDoor

/-- A block: its first page, its pages, its class (-1: a great cell, -2: pages alone), its cells' words, which are used, who holds it. -/
structure Bk where
  b : Nat
  k : Nat
  c : Int
  wd : Nat
  u : List Bool
  h : Int
deriving DecidableEq
def Bk.kind (pr : Nat) (x : Bk) : Prop :=
  (x.c = -2 ∧ x.wd = 1 ∧ x.u = [] ∧ x.h = -1) ∨ (x.c = -1 ∧ x.wd = x.k * 64 ∧ x.u.length = 1 ∧ x.h = -1) ∨
  (∃ j : Nat, j < 16 ∧ x.c = (j : Int) ∧ x.k = cpg j ∧ x.wd = cw j ∧ x.u.length = ccl j ∧ -1 ≤ x.h ∧ x.h < (pr : Int))
structure Inv (n pr : Nat) (A : List Bk) : Prop where
  apart : A.Pairwise (fun x y => x.b + x.k ≤ y.b ∨ y.b + y.k ≤ x.b)
  rng : ∀ x ∈ A, 1 ≤ x.k ∧ x.b + x.k ≤ n
  kind : ∀ x ∈ A, x.kind pr
  one : ∀ x ∈ A, ∀ y ∈ A, 0 ≤ x.h → x.h = y.h → x.c = y.c → x.b = y.b
/-- A block that isn't given back. -/
def keep (x : Bk) : Bool := decide (x.c = -2) || decide (0 ≤ x.h) || x.u.any id
def Live (A : List Bk) : Prop := ∀ x ∈ A, keep x = true
def cnt (u : List Bool) : Nat := u.count true
variable {n pr : Nat} {A : List Bk} {x y z : Bk}

theorem pair_of {α : Type} {R : α → α → Prop} (hs : ∀ a b, R a b → R b a) : ∀ {l : List α}, l.Pairwise R → ∀ {a b : α}, a ∈ l → b ∈ l → a = b ∨ R a b
  | [], _, _, _, h, _ => by cases h
  | x :: l, h, a, b, ha, hb => by
    obtain ⟨h1, h2⟩ := List.pairwise_cons.1 h
    rcases List.mem_cons.1 ha with e1 | ha'
    · rcases List.mem_cons.1 hb with e2 | hb'
      · exact .inl (e1.trans e2.symm)
      · exact .inr (e1 ▸ h1 b hb')
    · rcases List.mem_cons.1 hb with e2 | hb'
      · exact .inr (hs _ _ (e2 ▸ h1 a ha'))
      · exact pair_of hs h2 ha' hb'
theorem Inv.sep (h : Inv n pr A) (hx : x ∈ A) (hy : y ∈ A) : x = y ∨ x.b + x.k ≤ y.b ∨ y.b + y.k ≤ x.b :=
  pair_of (R := fun x y : Bk => x.b + x.k ≤ y.b ∨ y.b + y.k ≤ x.b) (fun _ _ e => e.symm) h.apart hx hy
theorem Inv.inj (h : Inv n pr A) (hx : x ∈ A) (hy : y ∈ A) (e : x.b = y.b) : x = y := by
  rcases h.sep hx hy with r | r
  · exact r
  · have := h.rng x hx; have := h.rng y hy; omega
theorem Inv.fits (h : Inv n pr A) (hx : x ∈ A) : 1 ≤ x.wd ∧ x.u.length ≤ 64 ∧ x.wd ≤ x.k * 64 ∧ ∀ i, i < x.u.length → i * x.wd + x.wd ≤ x.k * 64 := by
  have hr := h.rng x hx
  rcases h.kind x hx with ⟨_, h2, h3, _⟩ | ⟨_, h2, h3, _⟩ | ⟨j, hj, _, h2, h3, h4, _⟩
  · rw [h2, h3]; exact ⟨by omega, by simp, by omega, fun i hi => by simp at hi⟩
  · refine ⟨by omega, by omega, by omega, fun i hi => ?_⟩
    · obtain rfl : i = 0 := by omega
      omega
  · obtain ⟨k1, k2, k3, k4, k5, k6, k7, k8⟩ := cw_ok j hj
    refine ⟨by omega, by omega, by omega, fun i hi => ?_⟩
    rw [h2, h3]
    have : (i + 1) * cw j ≤ ccl j * cw j := Nat.mul_le_mul_right _ (by omega)
    rw [Nat.succ_mul] at this
    omega

/-- The word lies in the used cell i of the block y. -/
structure Hit (A : List Bk) (a : Int) (y : Bk) (i : Nat) : Prop where
  mem : y ∈ A
  used : y.u[i]? = some true
  lo : ((y.b * 64 + i * y.wd : Nat) : Int) ≤ a
  hi : a < ((y.b * 64 + i * y.wd + y.wd : Nat) : Int)
theorem lt_of_get {α : Type} {u : List α} {i : Nat} {v : α} (h : u[i]? = some v) : i < u.length := by
  by_cases c : i < u.length
  · exact c
  · rw [List.getElem?_eq_none (by omega)] at h; cases h
theorem Hit.lt {a : Int} {i : Nat} (h : Hit A a y i) : i < y.u.length := lt_of_get h.used
theorem Hit.page {a : Int} {i : Nat} (h : Hit A a y i) (hi : Inv n pr A) : ((y.b * 64 : Nat) : Int) ≤ a ∧ a < ((y.b * 64 + y.k * 64 : Nat) : Int) := by
  obtain ⟨_, _, _, f⟩ := hi.fits h.mem
  have := f i h.lt
  have h1 := h.lo
  have h2 := h.hi
  omega
/-- Where a word lies in a block's cells. -/
theorem quot_is {wd i d : Nat} (h1 : i * wd ≤ d) (h2 : d < i * wd + wd) : d / wd = i := by
  have hw : 0 < wd := by omega
  apply Nat.le_antisymm
  · have : d / wd < i + 1 := (Nat.div_lt_iff_lt_mul hw).2 (by rw [Nat.succ_mul]; exact h2)
    omega
  · exact (Nat.le_div_iff_mul_le hw).2 h1
theorem Hit.quot {a : Int} {i : Nat} (h : Hit A a y i) : (a.toNat - y.b * 64) / y.wd = i := by
  have h1 := h.lo
  have h2 := h.hi
  exact quot_is (by omega) (by omega)
theorem Hit.one {a : Int} {i j : Nat} (h : Hit A a y i) (k : Hit A a z j) (hi : Inv n pr A) : y = z ∧ i = j := by
  have p1 := h.page hi
  have p2 := k.page hi
  have e : y = z := by
    rcases hi.sep h.mem k.mem with r | r
    · exact r
    · omega
  subst e
  exact ⟨rfl, by rw [← h.quot, k.quot]⟩

/-! ### The first free cell -/
def fi (u : List Bool) : Nat := u.findIdx (fun x => !x)
theorem fi_lt {u : List Bool} (h : false ∈ u) : fi u < u.length := List.findIdx_lt_length_of_exists ⟨false, h, rfl⟩
theorem fi_get {u : List Bool} (h : false ∈ u) : u[fi u]? = some false := by
  have hl := fi_lt h
  have := List.findIdx_getElem (p := fun x : Bool => !x) (w := hl)
  rw [List.getElem?_eq_getElem hl]
  congr 1
  have e : (!(u[fi u]'hl)) = true := this
  cases hv : u[fi u]'hl
  · rfl
  · rw [hv] at e; cases e
theorem fi_min {u : List Bool} {j : Nat} (h : j < fi u) : u[j]? = some true := by
  have hl : j < u.length := Nat.lt_of_lt_of_le h List.findIdx_le_length
  have := List.not_of_lt_findIdx (p := fun x : Bool => !x) h
  rw [List.getElem?_eq_getElem hl]
  congr 1
  cases hv : u[j]'hl
  · rw [hv] at this; cases this
  · rfl
theorem get_or {u : List Bool} {i : Nat} (h : i < u.length) : u[i]? = some true ∨ u[i]? = some false := by
  rw [List.getElem?_eq_getElem h]
  cases u[i]
  · exact .inr rfl
  · exact .inl rfl
theorem cnt_le (u : List Bool) : cnt u ≤ u.length := List.count_le_length
theorem cnt_full {u : List Bool} : cnt u = u.length ↔ false ∉ u := by
  unfold cnt
  rw [List.count_eq_length]
  constructor
  · intro h hf; have := h false hf; cases this
  · intro h b hb; cases b
    · exact absurd hb h
    · rfl
theorem cnt_pos {u : List Bool} : 0 < cnt u ↔ u.any id = true := by
  unfold cnt
  rw [List.count_pos_iff, List.any_eq_true]
  constructor
  · intro h; exact ⟨true, h, rfl⟩
  · rintro ⟨b, hb, h⟩; cases b
    · cases h
    · exact hb
theorem cnt_set {v : Bool} : ∀ {u : List Bool} {i : Nat}, u[i]? = some (!v) → cnt (u.set i v) + (if v then 0 else 1) = cnt u + (if v then 1 else 0) := by
  intro u
  induction u with
  | nil => intro i h; simp at h
  | cons a u ih =>
    intro i h
    cases i with
    | zero =>
      simp at h; subst h
      cases v <;> simp [cnt]
    | succ i =>
      have := ih (i := i) (by simpa using h)
      unfold cnt at this ⊢
      rw [List.set_cons_succ, List.count_cons, List.count_cons]
      omega

/-! ### Which pages are used -/
def covA (A : List Bk) (i : Nat) : Bool := A.any fun x => decide (x.b ≤ i) && decide (i < x.b + x.k)
theorem covA_iff {i : Nat} : covA A i = true ↔ ∃ x ∈ A, x.b ≤ i ∧ i < x.b + x.k := by
  unfold covA; rw [List.any_eq_true]; simp
/-- The spans are the blocks'. -/
def Lk (tg : Bk → Int) (L : List Spn) (A : List Bk) : Prop := ∀ s, s ∈ L ↔ ∃ x ∈ A, s = ⟨x.b, x.k, tg x⟩
theorem Lk.cov {tg : Bk → Int} {L : List Spn} (h : Lk tg L A) : uOf L = covA A := by
  funext i
  rw [Bool.eq_iff_iff, uOf_iff, covA_iff]
  constructor
  · rintro ⟨s, hs, hi⟩
    obtain ⟨x, hx, rfl⟩ := (h s).1 hs
    exact ⟨x, hx, has_iff.1 hi⟩
  · rintro ⟨x, hx, hi⟩
    exact ⟨_, (h _).2 ⟨x, hx, rfl⟩, has_iff.2 hi⟩
theorem Lk.length {tg : Bk → Int} {L : List Spn} (h : Lk tg L A) (hi : Inv n pr A) (hg : Good n L) : A.length ≤ n := by
  have h1 : (A.map fun x => (⟨x.b, x.k, tg x⟩ : Spn)).Nodup := by
    rw [List.nodup_iff_pairwise_ne, List.pairwise_map]
    have hr := hi.rng
    have ha := hi.apart
    clear hi h
    induction A with
    | nil => exact List.Pairwise.nil
    | cons a A ih =>
      obtain ⟨h1, h2⟩ := List.pairwise_cons.1 ha
      refine List.pairwise_cons.2 ⟨fun b hb e => ?_, ih (fun x hx => hr x (List.mem_cons_of_mem _ hx)) h2⟩
      have q1 := h1 b hb
      have q2 := hr a (List.mem_cons_self ..)
      have q3 := hr b (List.mem_cons_of_mem _ hb)
      have e1 : a.b = b.b := congrArg Spn.b e
      omega
  have h2 : L.Nodup := by
    rw [List.nodup_iff_pairwise_ne]
    have hr := hg.rng
    have hu := hg.up
    clear h1 hg h
    induction L with
    | nil => exact List.Pairwise.nil
    | cons a L ih =>
      obtain ⟨k1, k2⟩ := List.pairwise_cons.1 hu
      refine List.pairwise_cons.2 ⟨fun b hb e => ?_, ih (fun x hx => hr x (List.mem_cons_of_mem _ hx)) k2⟩
      have q1 := k1 b hb
      have q2 := hr a (List.mem_cons_self ..)
      subst e
      omega
  have hp : (A.map fun x => (⟨x.b, x.k, tg x⟩ : Spn)).Perm L := (List.perm_ext_iff_of_nodup h1 h2).2 fun s => by
    rw [h s, List.mem_map]
    constructor
    · rintro ⟨x, hx, e⟩; exact ⟨x, hx, e.symm⟩
    · rintro ⟨x, hx, e⟩; exact ⟨x, hx, e.symm⟩
  have := hp.length_eq
  rw [List.length_map] at this
  rw [this]
  exact good_length hg
end Go.Proofs.YtiboobaggpghjaaDoor
