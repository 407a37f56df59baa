/- A graph that is marked and swept while it is changed, plainly: what is kept, and that marking ends. -/
import Derived.Test.YtllefljimkmbhaaB
import Derived.RowKit
namespace Go.Proofs.Ytllefljimkmbhaa

def up {α : Type} (f : Nat → α) (i : Nat) (v : α) : Nat → α := fun x => if x = i then v else f x
theorem up_same {α : Type} (f : Nat → α) (i : Nat) (v : α) : up f i v i = v := by simp [up]
theorem up_other {α : Type} (f : Nat → α) {i j : Nat} (v : α) (h : j ≠ i) : up f i v j = f j := by simp [up, h]

/-- How many of 1 to n. -/
def cnt (p : Nat → Bool) : Nat → Nat
  | 0 => 0
  | n + 1 => cnt p n + (if p (n + 1) then 1 else 0)
theorem cnt_le (p : Nat → Bool) : ∀ n, cnt p n ≤ n
  | 0 => Nat.le_refl _
  | n + 1 => by have := cnt_le p n; unfold cnt; split <;> omega
theorem cnt_congr {p q : Nat → Bool} : ∀ {n : Nat}, (∀ i, 1 ≤ i → i ≤ n → p i = q i) → cnt p n = cnt q n
  | 0, _ => rfl
  | n + 1, h => by unfold cnt; rw [cnt_congr (n := n) (fun i a b => h i a (by omega)), h (n + 1) (by omega) (Nat.le_refl _)]
theorem cnt_up {p q : Nat → Bool} {x : Nat} : ∀ {n : Nat}, 1 ≤ x → x ≤ n → p x = true → q x = false → (∀ i, i ≠ x → p i = q i) → cnt p n = cnt q n + 1
  | 0, h1, h2, _, _, _ => by omega
  | n + 1, h1, h2, hp, hq, h => by
    unfold cnt
    by_cases e : x = n + 1
    · subst e
      rw [hp, hq, cnt_congr (p := p) (q := q) (n := n) fun i _ b => h i (by omega)]
      simp
    · rw [cnt_up (n := n) h1 (by omega) hp hq h, h (n + 1) (fun c => e c.symm)]
      split <;> omega
theorem len_le_cnt : ∀ {L : List Nat} {n : Nat}, L.Nodup → (∀ x ∈ L, 1 ≤ x ∧ x ≤ n) → L.length ≤ cnt (fun i => decide (i ∈ L)) n
  | [], _, _, _ => Nat.zero_le _
  | a :: l, n, h, k => by
    have hn := List.nodup_cons.1 h
    have ih := len_le_cnt hn.2 (fun x hx => k x (List.mem_cons_of_mem _ hx))
    have := cnt_up (n := n) (p := fun i => decide (i ∈ a :: l)) (q := fun i => decide (i ∈ l)) (k a (by simp)).1 (k a (by simp)).2 (by simp) (by simp [hn.1]) (fun i hi => by simp [hi])
    rw [this, List.length_cons]
    omega
theorem len_le {L : List Nat} {n : Nat} (h : L.Nodup) (k : ∀ x ∈ L, 1 ≤ x ∧ x ≤ n) : L.length ≤ n := Nat.le_trans (len_le_cnt h k) (cnt_le _ _)

/-- A graph: of each number up to n the object's colour (0 gone, 1 white, 2 grey, 3 black) and where its fields lead (if it is gone: where they led). -/
structure Gr where
  ph : Nat
  cyc : Int
  n : Nat
  col : Nat → Nat
  fs : Nat → List Nat
  roots : List Nat
  thr : Nat
  greys : List Nat
  swp : Nat
def Gr.new : Gr := ⟨0, 0, 0, fun _ => 0, fun _ => [], [], 0, [], 0⟩
def Gr.live (g : Gr) : Nat := cnt (fun i => g.col i != 0) g.n
def Gr.shade (g : Gr) (id : Nat) : Gr := if g.ph = 1 ∧ id ≠ 0 ∧ g.col id = 1 then { g with col := up g.col id 2, greys := g.greys ++ [id] } else g
def Gr.shades (g : Gr) (L : List Nat) : Gr := L.foldl Gr.shade g
def Gr.isRoot (g : Gr) (id : Int) : Bool := decide (0 ≤ id) && g.roots.contains id.toNat
def Gr.get (g : Gr) (id f : Int) : Int × Int :=
  if g.isRoot id then (if f < 0 ∨ ((g.fs id.toNat).length : Int) ≤ f then (0, 1) else (((g.fs id.toNat).getD f.toNat 0 : Nat), 0)) else (0, 4)
def Gr.add (g : Gr) (k : Nat) : Gr := { g with n := g.n + 1, col := up g.col (g.n + 1) (if g.ph = 0 then 1 else 3), fs := up g.fs (g.n + 1) (List.replicate k 0), roots := g.roots ++ [g.n + 1] }
def Gr.addR (g : Gr) (k : Int) : (Int × Int) × Gr := if k < 0 ∨ 16 < k then ((0, 1), g) else if g.n = 4096 then ((0, 3), g) else (((g.n + 1 : Nat), 0), g.add k.toNat)
def Gr.erase (g : Gr) (a : Nat) : Gr := { g with roots := g.roots.eraseIdx a, thr := if a < g.thr then g.thr - 1 else g.thr }
def Gr.drop (g : Gr) (a : Nat) : Gr := (g.shade (g.roots.getD a 0)).erase a
def Gr.dropR (g : Gr) (a : Int) : Int × Gr := if a < 0 ∨ (g.roots.length : Int) ≤ a then (1, g) else (0, g.drop a.toNat)
def Gr.lay (g : Gr) (to : Nat) : Gr := { g with roots := g.roots ++ [to] }
def Gr.rootR (g : Gr) (id f : Int) : Int × Gr :=
  if (g.get id f).2 = 0 then (if (g.get id f).1 = 0 then (4, g) else if 4096 ≤ g.roots.length then (3, g) else (0, (g.lay (g.get id f).1.toNat).shade (g.get id f).1.toNat)) else ((g.get id f).2, g)
def Gr.write (g : Gr) (x f to : Nat) : Gr := { g with fs := up g.fs x ((g.fs x).set f to) }
def Gr.set (g : Gr) (x f to : Nat) : Gr := ((g.shade ((g.fs x).getD f 0)).shade to).write x f to
def Gr.setR (g : Gr) (id f to : Int) : Int × Gr :=
  if g.isRoot id = true ∧ (to = 0 ∨ g.isRoot to = true) then (if f < 0 ∨ ((g.fs id.toNat).length : Int) ≤ f then (1, g) else (0, g.set id.toNat f.toNat to.toNat)) else (4, g)
def Gr.startR (g : Gr) : Int × Gr := if g.ph = 0 then (0, { g with ph := 1, thr := 0, greys := [], swp := 0 }) else (5, g)
def Gr.scan (g : Gr) : Gr := { g with thr := g.thr + 1 }
def Gr.black (g : Gr) (x : Nat) (l : List Nat) : Gr := { g with col := up g.col x 3, greys := l }
def Gr.turn (g : Gr) : Gr := { g with ph := 2, swp := 0 }
def Gr.blacken (g : Gr) (x : Nat) (l : List Nat) : Gr := let s := ({ g with greys := l } : Gr).shades (g.fs x); s.black x s.greys
def Gr.mark (g : Gr) : Gr :=
  if g.thr < g.roots.length then (g.shade (g.roots.getD g.thr 0)).scan else match g.greys with | [] => g.turn | x :: l => g.blacken x l
def Gr.next (g : Gr) : Gr := { g with col := if g.col (g.swp + 1) = 0 then g.col else up g.col (g.swp + 1) 1, swp := g.swp + 1 }
def Gr.free (g : Gr) : Gr := { g with col := up g.col (g.swp + 1) 0, swp := g.swp + 1 }
abbrev wrap64 (x : Int) : Int := Go.RowKit.wrap64 x
def Gr.ends (g : Gr) : Gr := { g with ph := 0, cyc := wrap64 (g.cyc + 1) }
def Gr.sweepN : Nat → Gr → Int × Gr
  | 0, g => (0, g.ends)
  | k + 1, g => if g.col (g.swp + 1) = 1 then ((g.swp + 1 : Nat), g.free) else Gr.sweepN k g.next
def Gr.sweep (g : Gr) : Int × Gr := Gr.sweepN (g.n - g.swp) g
def Gr.workR (g : Gr) : (Int × Int) × Gr := if g.ph = 0 then ((0, 5), g) else if g.ph = 1 then ((0, 0), g.mark) else ((g.sweep.1, 0), g.sweep.2)

/-- What roots reach. -/
inductive Reach (g : Gr) : Nat → Prop
  | root {r : Nat} : r ∈ g.roots → Reach g r
  | step {a t : Nat} : Reach g a → t ∈ g.fs a → t ≠ 0 → Reach g t
/-- What marking will come to. -/
inductive Prot (g : Gr) : Nat → Prop
  | grey {a : Nat} : a ∈ g.greys → Prot g a
  | root {r : Nat} : r ∈ g.roots.drop g.thr → Prot g r
  | step {a t : Nat} : Prot g a → g.col a ≠ 3 → t ∈ g.fs a → t ≠ 0 → Prot g t
theorem Prot.mono {g g' : Gr} {a : Nat} (hp : Prot g a) (hc : ∀ a, g'.col a ≤ 3) (hg : ∀ a, a ∈ g'.greys ↔ g'.col a = 2) (h1 : ∀ a ∈ g.greys, 2 ≤ g'.col a) (h2 : ∀ r ∈ g.roots.drop g.thr, r ∈ g'.roots.drop g'.thr ∨ 2 ≤ g'.col r)
    (h3 : ∀ a, g.col a ≠ 3 → ∀ t ∈ g.fs a, t ≠ 0 → 2 ≤ g'.col t ∨ (g'.col a ≠ 3 ∧ t ∈ g'.fs a)) : Prot g' a ∨ g'.col a = 3 := by
  have dark : ∀ t, 2 ≤ g'.col t → Prot g' t ∨ g'.col t = 3 := fun t ht => by
    have := hc t
    by_cases e : g'.col t = 3
    · exact .inr e
    · exact .inl (.grey ((hg t).2 (by omega)))
  induction hp with
  | grey h => exact dark _ (h1 _ h)
  | root h =>
    rcases h2 _ h with k | k
    · exact .inl (.root k)
    · exact dark _ k
  | step h c m z ih =>
    rcases h3 _ c _ m z with k | ⟨k1, k2⟩
    · exact dark _ k
    · rcases ih with i | i
      · exact .inl (.step i k1 k2 z)
      · exact absurd i k1

/-- K is what this cycle keeps: what was reached when it began, and what has been made since. -/
structure Inv (g : Gr) (K : Nat → Prop) : Prop where
  n4 : g.n ≤ 4096
  r8 : g.roots.length ≤ 4096 + g.n
  thr : g.thr ≤ g.roots.length
  swp : g.swp ≤ g.n
  ph : g.ph ≤ 2
  out : ∀ id, g.col id ≠ 0 → 1 ≤ id ∧ id ≤ g.n
  c3 : ∀ id, g.col id ≤ 3
  f16 : ∀ id, (g.fs id).length ≤ 16
  big : ∀ id, g.n < id → K id
  kin : ∀ id, K id → 1 ≤ id → id ≤ g.n → g.col id ≠ 0
  kroot : ∀ r ∈ g.roots, K r ∧ 1 ≤ r ∧ r ≤ g.n
  kfs : ∀ id, K id → id ≤ g.n → ∀ t ∈ g.fs id, t ≠ 0 → K t ∧ t ≤ g.n
  ft : ∀ id, ∀ t ∈ g.fs id, t ≤ g.n
  fout : ∀ id, g.n < id → g.fs id = []
  gry : ∀ id, id ∈ g.greys ↔ g.col id = 2
  gnd : g.greys.Nodup
  off : g.ph ≠ 1 → g.greys = []
  s0 : g.ph = 1 → g.swp = 0
  white : g.ph = 0 → ∀ id, g.col id ≠ 0 → g.col id = 1
  prot : g.ph = 1 → ∀ id, K id → g.col id = 1 → Prot g id
  dark : g.ph ≠ 0 → ∀ id, 2 ≤ g.col id → K id
  blk : g.ph = 2 → ∀ id, K id → g.swp < id → id ≤ g.n → g.col id = 3
  swn : g.ph = 2 → ∀ id, id ≤ g.swp → g.col id ≠ 0 → g.col id = 1 ∧ K id
section
variable {g g' : Gr} {K : Nat → Prop}
theorem Inv.reach (h : Inv g K) {id : Nat} (r : Reach g id) : K id ∧ 1 ≤ id ∧ id ≤ g.n := by
  induction r with
  | root hr => exact h.kroot _ hr
  | step _ ht hz ih => have := h.kfs _ ih.1 ih.2.2 _ ht hz; exact ⟨this.1, by omega, this.2⟩
theorem Inv.greys_le (h : Inv g K) : g.greys.length ≤ 4096 := Nat.le_trans (len_le h.gnd fun x hx => h.out x (by rw [(h.gry x).1 hx]; decide)) h.n4
theorem Inv.present (h : Inv g K) {id : Nat} (r : Reach g id) : g.col id ≠ 0 := by
  obtain ⟨a, b, c⟩ := h.reach r
  exact h.kin id a b c
theorem inv_new : Inv Gr.new (fun id => 0 < id) := by
  exact { n4 := by decide, r8 := by decide, thr := by decide, swp := by decide, ph := by decide, out := fun _ h => absurd rfl h, c3 := fun _ => Nat.zero_le _, f16 := fun _ => Nat.zero_le _, big := fun _ h => h, kin := fun id _ a b => by { have b : id ≤ 0 := b; omega }, kroot := fun r h => by { cases h }, kfs := fun _ _ _ t h => by { cases h }, ft := fun _ t h => by { cases h }, fout := fun _ _ => rfl, gry := fun id => ⟨fun h => by { cases h }, fun h => by { cases h }⟩, gnd := List.nodup_nil, off := fun _ => rfl, s0 := fun h => by { cases h }, white := fun _ _ h => absurd rfl h, prot := fun h => by { cases h }, dark := fun h => absurd rfl h, blk := fun h => by { cases h }, swn := fun h => by { cases h } }

/-! ### shading -/
theorem shade_ph (id : Nat) : (g.shade id).ph = g.ph := by unfold Gr.shade; split <;> rfl
theorem shade_n (id : Nat) : (g.shade id).n = g.n := by unfold Gr.shade; split <;> rfl
theorem shade_cyc (id : Nat) : (g.shade id).cyc = g.cyc := by unfold Gr.shade; split <;> rfl
theorem shade_fs (id : Nat) : (g.shade id).fs = g.fs := by unfold Gr.shade; split <;> rfl
theorem shade_roots (id : Nat) : (g.shade id).roots = g.roots := by unfold Gr.shade; split <;> rfl
theorem shade_thr (id : Nat) : (g.shade id).thr = g.thr := by unfold Gr.shade; split <;> rfl
theorem shade_swp (id : Nat) : (g.shade id).swp = g.swp := by unfold Gr.shade; split <;> rfl
theorem shade_zero : g.shade 0 = g := by unfold Gr.shade; rw [if_neg (by simp)]
theorem shade_off (h : g.ph ≠ 1) (id : Nat) : g.shade id = g := by unfold Gr.shade; rw [if_neg (fun c => h c.1)]
theorem shade_zero_iff (id j : Nat) : (g.shade id).col j = 0 ↔ g.col j = 0 := by
  unfold Gr.shade
  split
  · rename_i c
    show up g.col id 2 j = 0 ↔ _
    unfold up
    split
    · rename_i e; subst e; constructor <;> intro k <;> omega
    · rfl
  · rfl
theorem shade_live (id : Nat) : (g.shade id).live = g.live := by
  unfold Gr.live
  rw [shade_n]
  refine cnt_congr fun i _ _ => ?_
  have := shade_zero_iff (g := g) id i
  show ((g.shade id).col i != 0) = (g.col i != 0)
  by_cases e : g.col i = 0
  · rw [e, this.2 e]
  · have e2 : ¬ (g.shade id).col i = 0 := fun c => e (this.1 c)
    exact (bne_iff_ne.2 e2).trans (bne_iff_ne.2 e).symm
theorem shade_dark {id j : Nat} (h : 2 ≤ g.col j) : 2 ≤ (g.shade id).col j := by
  unfold Gr.shade
  split
  · show 2 ≤ up g.col id 2 j
    unfold up; split <;> omega
  · exact h
theorem shade_self {id : Nat} (hp : g.ph = 1) (h0 : id ≠ 0) (hc : g.col id ≠ 0) : 2 ≤ (g.shade id).col id := by
  unfold Gr.shade
  split
  · show 2 ≤ up g.col id 2 id
    rw [up_same]; omega
  · rename_i c
    have : ¬ g.col id = 1 := fun e => c ⟨hp, h0, e⟩
    omega
theorem Inv.shade (h : Inv g K) {id : Nat} (hk : id = 0 ∨ K id) : Inv (g.shade id) K := by
  by_cases c : g.ph = 1 ∧ id ≠ 0 ∧ g.col id = 1
  · have e : g.shade id = { g with col := up g.col id 2, greys := g.greys ++ [id] } := by unfold Gr.shade; rw [if_pos c]
    obtain ⟨c1, c2, c3⟩ := c
    have hk : K id := hk.resolve_left c2
    have hc : ∀ j, (g.shade id).col j = if j = id then 2 else g.col j := fun j => by rw [e]; rfl
    have hgr : ∀ j, j ∈ (g.shade id).greys ↔ (g.shade id).col j = 2 := fun j => by
      rw [hc, e]
      show j ∈ g.greys ++ [id] ↔ _
      rw [List.mem_append, List.mem_singleton, h.gry]
      split <;> simp_all
    have hc3 : ∀ j, (g.shade id).col j ≤ 3 := fun j => by rw [hc]; have := h.c3 j; split <;> omega
    refine ⟨by rw [shade_n]; exact h.n4, by rw [shade_roots, shade_n]; exact h.r8, by rw [shade_thr, shade_roots]; exact h.thr, by rw [shade_swp, shade_n]; exact h.swp, by rw [shade_ph]; exact h.ph, fun j hj => ?_, hc3, by rw [shade_fs]; exact h.f16, by rw [shade_n]; exact h.big, fun j a b d => ?_, by rw [shade_roots, shade_n]; exact h.kroot, by rw [shade_n, shade_fs]; exact h.kfs, by rw [shade_n, shade_fs]; exact h.ft, by rw [shade_n, shade_fs]; exact h.fout, hgr, ?_, fun k => ?_, fun _ => by rw [shade_swp]; exact h.s0 c1, fun k => ?_, fun _ j a b => ?_, fun _ j a => ?_, fun k => ?_, fun k => ?_⟩
    · rw [shade_n]; exact h.out j (fun z => hj ((shade_zero_iff id j).2 z))
    · rw [shade_n] at d; exact fun z => h.kin j a b d ((shade_zero_iff id j).1 z)
    · rw [e]
      show (g.greys ++ [id]).Nodup
      refine List.nodup_append.2 ⟨h.gnd, by simp, fun x hx y hy => ?_⟩
      rw [List.mem_singleton] at hy
      subst hy
      intro z
      subst z
      have := (h.gry _).1 hx
      omega
    · rw [shade_ph] at k; exact absurd c1 k
    · rw [shade_ph] at k; omega
    · have b' : g.col j = 1 := by
        rw [hc] at b
        split at b
        · omega
        · exact b
      rcases (h.prot c1 j a b').mono hc3 hgr (fun x hx => shade_dark (by rw [(h.gry x).1 hx]; exact Nat.le_refl 2)) (fun r hr => .inl (by rw [shade_roots, shade_thr]; exact hr)) (fun x hx t ht _ => .inr ⟨by rw [hc]; split; decide; exact hx, by rw [shade_fs]; exact ht⟩) with p | p
      · exact p
      · omega
    · rw [hc] at a
      split at a
      · rename_i z; rw [z]; exact hk
      · exact h.dark (by omega) j a
    · rw [shade_ph] at k; omega
    · rw [shade_ph] at k; omega
  · have e : g.shade id = g := by unfold Gr.shade; rw [if_neg c]
    rw [e]; exact h
theorem shades_ph (L : List Nat) : (g.shades L).ph = g.ph := by
  unfold Gr.shades
  induction L generalizing g with
  | nil => rfl
  | cons a l ih => rw [List.foldl_cons, ih, shade_ph]
theorem shades_fs (L : List Nat) : (g.shades L).fs = g.fs := by
  unfold Gr.shades
  induction L generalizing g with
  | nil => rfl
  | cons a l ih => rw [List.foldl_cons, ih, shade_fs]
theorem shades_dark {L : List Nat} {j : Nat} (h : 2 ≤ g.col j) : 2 ≤ (g.shades L).col j := by
  unfold Gr.shades
  induction L generalizing g with
  | nil => exact h
  | cons a l ih => rw [List.foldl_cons]; exact ih (shade_dark h)
theorem Inv.shades (h : Inv g K) {L : List Nat} (hk : ∀ t ∈ L, t = 0 ∨ K t) : Inv (g.shades L) K := by
  unfold Gr.shades
  induction L generalizing g with
  | nil => exact h
  | cons a l ih => rw [List.foldl_cons]; exact ih (h.shade (hk a (by simp))) fun t ht => hk t (List.mem_cons_of_mem _ ht)
theorem shades_self {L : List Nat} (hp : g.ph = 1) {t : Nat} (ht : t ∈ L) (h0 : t ≠ 0) (hc : g.col t ≠ 0) : 2 ≤ (g.shades L).col t := by
  unfold Gr.shades
  induction L generalizing g with
  | nil => cases ht
  | cons a l ih =>
    rw [List.foldl_cons]
    rcases List.mem_cons.1 ht with e | e
    · subst e; exact shades_dark (L := l) (shade_self hp h0 hc)
    · exact ih (by rw [shade_ph]; exact hp) e (fun z => hc ((shade_zero_iff a t).1 z))
/-- Shading lays behind: the head may go ahead of it or behind it. -/
theorem shade_pop {x : Nat} {l : List Nat} (e : g.greys = x :: l) (id : Nat) : ({ g with greys := l } : Gr).shade id = { g.shade id with greys := (g.shade id).greys.tail } ∧ ∃ m, (g.shade id).greys = x :: m := by
  unfold Gr.shade
  by_cases c : g.ph = 1 ∧ id ≠ 0 ∧ g.col id = 1
  · rw [if_pos c, if_pos c]
    refine ⟨?_, l ++ [id], by simp [e]⟩
    simp [e]
  · rw [if_neg c, if_neg c]
    refine ⟨?_, l, e⟩
    simp [e]
theorem shades_pop {x : Nat} : ∀ {g : Gr} {l : List Nat} (_ : g.greys = x :: l) (L : List Nat), ({ g with greys := l } : Gr).shades L = { g.shades L with greys := (g.shades L).greys.tail } ∧ ∃ m, (g.shades L).greys = x :: m
  | g, l, e, [] => ⟨by show ({ g with greys := l } : Gr) = { g with greys := g.greys.tail }; rw [e]; rfl, l, e⟩
  | g, l, e, a :: L => by
    obtain ⟨h1, m, h2⟩ := shade_pop e a
    have h3 : (g.shade a).greys.tail = m := by rw [h2]; rfl
    rw [h3] at h1
    have := shades_pop h2 L
    unfold Gr.shades at this ⊢
    rw [List.foldl_cons, List.foldl_cons, h1]
    exact this
end
end Go.Proofs.Ytllefljimkmbhaa
