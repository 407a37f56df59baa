/- A graph that is marked and swept, plainly: a cycle begins, and ends; what it leaves; how what can be reached is found. -/
import Derived.Test.YtllefljimkmbhaaPB
namespace Go.Proofs.Ytllefljimkmbhaa
variable {g : Gr} {K : Nat → Prop}

theorem Inv.start (h : Inv g K) (hp : g.ph = 0) : Inv g.startR.2 (fun id => Reach g id ∨ g.n < id) := by
  have e : g.startR.2 = { g with ph := 1, thr := 0, greys := [], swp := 0 } := by unfold Gr.startR; rw [if_pos hp]
  rw [e]
  have hg := h.off (by omega)
  have hno : ∀ j, 2 ≤ g.col j → False := fun j k => by have := h.white hp j (by omega); omega
  exact { n4 := h.n4, r8 := h.r8, thr := Nat.zero_le _, swp := Nat.zero_le _, ph := by { show 1 ≤ 2; decide }, out := h.out, c3 := h.c3, f16 := h.f16, ft := h.ft, fout := h.fout,
          big := fun id k => .inr k,
          kin := fun id a b c => by {
            rcases a with a | a
            · exact h.present a
            · have c : id ≤ g.n := c; omega },
          kroot := fun r hr => ⟨.inl (.root hr), (h.kroot r hr).2⟩,
          kfs := fun id a b t ht z => by {
            have b : id ≤ g.n := b
            rcases a with a | a
            · exact ⟨.inl (.step a ht z), (h.reach (.step a ht z)).2.2⟩
            · omega },
          gry := fun j => by { show j ∈ [] ↔ g.col j = 2; exact ⟨fun k => by { cases k }, fun k => (hno j (by omega)).elim⟩ },
          gnd := List.nodup_nil, off := fun _ => rfl, s0 := fun _ => rfl, white := fun k => by { cases k },
          dark := fun _ j k => (hno j k).elim, blk := fun k => by { cases k }, swn := fun k => by { cases k },
          prot := fun _ id a c => by {
            rcases a with a | a
            · clear c
              induction a with
              | root hr => exact .root hr
              | @step a t ra ht z ih => exact .step ih (by { show g.col a ≠ 3; intro e; exact hno a (by omega) }) ht z
            · have c : g.col id = 1 := c
              have := (h.out id (by omega)).2
              omega } }
/-! ### what work leaves -/
theorem shades_n (L : List Nat) : (g.shades L).n = g.n := by
  unfold Gr.shades
  induction L generalizing g with
  | nil => rfl
  | cons a l ih => rw [List.foldl_cons, ih, shade_n]
theorem shades_roots (L : List Nat) : (g.shades L).roots = g.roots := by
  unfold Gr.shades
  induction L generalizing g with
  | nil => rfl
  | cons a l ih => rw [List.foldl_cons, ih, shade_roots]
theorem shades_thr (L : List Nat) : (g.shades L).thr = g.thr := by
  unfold Gr.shades
  induction L generalizing g with
  | nil => rfl
  | cons a l ih => rw [List.foldl_cons, ih, shade_thr]
theorem shades_cyc (L : List Nat) : (g.shades L).cyc = g.cyc := by
  unfold Gr.shades
  induction L generalizing g with
  | nil => rfl
  | cons a l ih => rw [List.foldl_cons, ih, shade_cyc]
theorem shades_swp (L : List Nat) : (g.shades L).swp = g.swp := by
  unfold Gr.shades
  induction L generalizing g with
  | nil => rfl
  | cons a l ih => rw [List.foldl_cons, ih, shade_swp]
/-- What marking and sweeping leave alone. -/
structure Kept (g g' : Gr) : Prop where
  n : g'.n = g.n
  roots : g'.roots = g.roots
  fs : g'.fs = g.fs
theorem Kept.refl (g : Gr) : Kept g g := ⟨rfl, rfl, rfl⟩
theorem Kept.trans {a b c : Gr} (h : Kept a b) (k : Kept b c) : Kept a c := ⟨k.n.trans h.n, k.roots.trans h.roots, k.fs.trans h.fs⟩
theorem Kept.reach {a b : Gr} (h : Kept a b) (id : Nat) : Reach b id ↔ Reach a id := by
  constructor
  · intro r
    induction r with
    | root hr => rw [h.roots] at hr; exact .root hr
    | step _ ht z ih => rw [h.fs] at ht; exact .step ih ht z
  · intro r
    induction r with
    | root hr => rw [← h.roots] at hr; exact .root hr
    | step _ ht z ih => rw [← h.fs] at ht; exact .step ih ht z
theorem mark_kept : Kept g g.mark := by
  unfold Gr.mark
  split
  · exact ⟨shade_n _, shade_roots _, shade_fs _⟩
  · split
    · exact ⟨rfl, rfl, rfl⟩
    · exact ⟨shades_n _, shades_roots _, shades_fs _⟩
theorem sweepN_kept : ∀ (k : Nat) (g : Gr), Kept g (Gr.sweepN k g).2
  | 0, g => ⟨rfl, rfl, rfl⟩
  | k + 1, g => by
    unfold Gr.sweepN
    split
    · exact ⟨rfl, rfl, rfl⟩
    · exact Kept.trans (b := g.next) ⟨rfl, rfl, rfl⟩ (sweepN_kept k g.next)
theorem work_kept : Kept g g.workR.2 := by
  unfold Gr.workR
  split
  · exact .refl g
  · split
    · exact mark_kept
    · exact sweepN_kept _ g
/-- The cycle that is counted. -/
def Cy (g : Gr) (c d : Int) : Prop := (g.ph = 0 → g.cyc = d) ∧ (g.ph ≠ 0 → g.cyc = c)
theorem sweepN_cy : ∀ (k : Nat) (g : Gr), g.ph = 2 → ((Gr.sweepN k g).2.ph = 0 ∧ (Gr.sweepN k g).2.cyc = wrap64 (g.cyc + 1)) ∨ ((Gr.sweepN k g).2.ph = 2 ∧ (Gr.sweepN k g).2.cyc = g.cyc)
  | 0, g, h => .inl ⟨rfl, rfl⟩
  | k + 1, g, h => by
    unfold Gr.sweepN
    split
    · exact .inr ⟨h, rfl⟩
    · exact sweepN_cy k g.next h
theorem Cy.work {c : Int} (h : Cy g c (wrap64 (c + 1))) (hp : g.ph ≤ 2) : Cy g.workR.2 c (wrap64 (c + 1)) := by
  unfold Gr.workR
  split
  · exact h
  · rename_i h0
    have hc := h.2 h0
    split
    · rename_i h1
      have : g.mark.ph ≠ 0 ∧ g.mark.cyc = g.cyc := by
        unfold Gr.mark
        split
        · exact ⟨by show (g.shade _).ph ≠ 0; rw [shade_ph]; exact h0, shade_cyc _⟩
        · split
          · exact ⟨by show 2 ≠ 0; decide, rfl⟩
          · exact ⟨by show (Gr.shades _ _).ph ≠ 0; rw [shades_ph]; exact h0, shades_cyc _⟩
      exact ⟨fun e => absurd e this.1, fun _ => this.2.trans hc⟩
    · rename_i h1
      rcases sweepN_cy (g.n - g.swp) g (by omega) with ⟨a, b⟩ | ⟨a, b⟩
      · exact ⟨fun _ => by show (Gr.sweepN _ g).2.cyc = _; rw [b, hc], fun e => absurd a e⟩
      · exact ⟨fun e => by have e : (Gr.sweepN (g.n - g.swp) g).2.ph = 0 := e; omega, fun _ => b.trans hc⟩
/-! ### marking ends -/
def Gr.pale (g : Gr) : Nat := cnt (fun i => g.col i == 1 || g.col i == 2) g.n
def Gr.mu (g : Gr) : Nat := if g.ph = 0 then 0 else if g.ph = 1 then (g.roots.length - g.thr) + g.pale + g.n + 2 else g.n - g.swp + 1
theorem shade_pale (id : Nat) : (g.shade id).pale = g.pale := by
  unfold Gr.pale
  rw [shade_n]
  refine cnt_congr fun i _ _ => ?_
  unfold Gr.shade
  split
  · rename_i c
    show (up g.col id 2 i == 1 || up g.col id 2 i == 2) = _
    unfold up
    split
    · rename_i e; subst e; rw [c.2.2]; rfl
    · rfl
  · rfl
theorem shades_pale (L : List Nat) : (g.shades L).pale = g.pale := by
  unfold Gr.shades
  induction L generalizing g with
  | nil => rfl
  | cons a l ih => rw [List.foldl_cons, ih, shade_pale]
theorem sweepN_mu : ∀ (k : Nat) (g : Gr), g.ph = 2 → g.swp + k = g.n → (Gr.sweepN k g).2.mu ≤ k
  | 0, g, h, hs => Nat.le_refl 0
  | k + 1, g, h, hs => by
    unfold Gr.sweepN
    split
    · show Gr.mu g.free ≤ _
      unfold Gr.mu
      rw [if_neg (show ¬ g.free.ph = 0 by show ¬ g.ph = 0; omega), if_neg (show ¬ g.free.ph = 1 by show ¬ g.ph = 1; omega)]
      show g.n - (g.swp + 1) + 1 ≤ k + 1
      omega
    · have := sweepN_mu k g.next h (by show g.swp + 1 + k = g.n; omega)
      omega
theorem Inv.mu_work (h : Inv g K) (hp : g.ph ≠ 0) : g.workR.2.mu + 1 ≤ g.mu := by
  have h2 := h.ph
  unfold Gr.workR
  rw [if_neg hp]
  split
  · rename_i h1
    have hm : g.mu = (g.roots.length - g.thr) + g.pale + g.n + 2 := by unfold Gr.mu; rw [if_neg hp, if_pos h1]
    rw [hm]
    show g.mark.mu + 1 ≤ _
    unfold Gr.mark
    split
    · rename_i ht
      unfold Gr.mu
      have hq : ((g.shade (g.roots.getD g.thr 0)).scan).ph = 1 := by show (g.shade _).ph = 1; rw [shade_ph]; exact h1
      rw [hq, if_neg (by decide), if_pos rfl]
      show (g.shade _).roots.length - ((g.shade _).thr + 1) + (g.shade _).pale + (g.shade _).n + 2 + 1 ≤ _
      rw [shade_roots, shade_thr, shade_pale, shade_n]
      omega
    · split
      · rename_i hg
        unfold Gr.mu
        rw [if_neg (show ¬ g.turn.ph = 0 by show ¬ 2 = 0; decide), if_neg (show ¬ g.turn.ph = 1 by show ¬ 2 = 1; decide)]
        show g.n - 0 + 1 + 1 ≤ _
        omega
      · rename_i x l hg
        have hx : g.col x = 2 := (h.gry x).1 (by rw [hg]; simp)
        have hxn := h.out x (by omega)
        have hph : (g.blacken x l).ph = 1 := by unfold Gr.blacken; show (Gr.shades _ _).ph = 1; rw [shades_ph]; exact h1
        have hpale : (g.blacken x l).pale + 1 = g.pale := by
          have e0 : ({ g with greys := l } : Gr).pale = g.pale := rfl
          obtain ⟨s, hs⟩ : ∃ s, s = ({ g with greys := l } : Gr).shades (g.fs x) := ⟨_, rfl⟩
          have es : s.pale = g.pale := by rw [hs, shades_pale, e0]
          have en : s.n = g.n := by rw [hs, shades_n]
          have ex : 2 ≤ s.col x := by rw [hs]; exact shades_dark (by show 2 ≤ g.col x; omega)
          have eb : g.blacken x l = s.black x s.greys := by rw [hs]; rfl
          have ex2 : s.col x = 2 := by
            have hc : ∀ (L : List Nat) (y : Gr), y.col x = 2 → (y.shades L).col x = 2 := by
              intro L
              induction L with
              | nil => exact fun _ k => k
              | cons a l ih =>
                intro y k
                unfold Gr.shades
                rw [List.foldl_cons]
                refine ih _ ?_
                unfold Gr.shade
                split
                · show up y.col a 2 x = 2
                  unfold up; split <;> first | rfl | exact k
                · exact k
            rw [hs]; exact hc _ _ hx
          rw [eb, ← es]
          unfold Gr.pale
          show cnt (fun i => up s.col x 3 i == 1 || up s.col x 3 i == 2) s.n + 1 = _
          rw [cnt_up (p := fun i => s.col i == 1 || s.col i == 2) (q := fun i => up s.col x 3 i == 1 || up s.col x 3 i == 2) (x := x) hxn.1 (by omega) (by rw [ex2]; rfl) (by rw [up_same]; rfl) fun i hi => by rw [up_other _ _ hi]]
        have hr : (g.blacken x l).roots.length - (g.blacken x l).thr = g.roots.length - g.thr := by
          unfold Gr.blacken
          show (Gr.shades _ _).roots.length - (Gr.shades _ _).thr = _
          rw [shades_roots, shades_thr]
        have hn : (g.blacken x l).n = g.n := by unfold Gr.blacken; show (Gr.shades _ _).n = _; rw [shades_n]
        unfold Gr.mu
        rw [hph, if_neg (by decide), if_pos rfl, hr, hn]
        omega
  · rename_i h1
    have hm : g.mu = g.n - g.swp + 1 := by unfold Gr.mu; rw [if_neg hp, if_neg h1]
    rw [hm]
    have := sweepN_mu (g.n - g.swp) g (by omega) (by have := h.swp; omega)
    show (Gr.sweepN (g.n - g.swp) g).2.mu + 1 ≤ _
    omega
theorem mu_le : g.mu ≤ g.roots.length + 2 * g.n + 2 := by
  unfold Gr.mu
  have : g.pale ≤ g.n := cnt_le _ _
  split
  · omega
  · split <;> omega
def Gr.works : Nat → Gr → Gr
  | 0, g => g
  | m + 1, g => (Gr.works m g).workR.2
theorem works_kept : ∀ m, Kept g (g.works m)
  | 0 => .refl g
  | m + 1 => (works_kept m).trans work_kept
theorem Inv.works (h : Inv g K) (hd : g.ph = 0 → ∀ j, g.col j ≠ 0 → K j) : ∀ m, Inv (g.works m) K ∧ ((g.works m).ph = 0 → ∀ j, (g.works m).col j ≠ 0 → K j)
  | 0 => ⟨h, hd⟩
  | m + 1 => by
    obtain ⟨a, b⟩ := h.works hd m
    exact a.work b
theorem Inv.works' (h : Inv g K) : ∀ m, Inv (g.works m) K
  | 0 => h
  | m + 1 => (h.works' m).work'
theorem Cy.works {c : Int} (h : Cy g c (wrap64 (c + 1))) (hi : Inv g K) : ∀ m, Cy (g.works m) c (wrap64 (c + 1))
  | 0 => h
  | m + 1 => (h.works hi m).work (hi.works' m).ph
theorem Inv.works_mu (h : Inv g K) : ∀ m, (g.works m).mu + m ≤ g.mu ∨ (g.works m).ph = 0
  | 0 => .inl (Nat.le_refl _)
  | m + 1 => by
    by_cases e : (g.works m).ph = 0
    · right
      show ((g.works m).workR.2).ph = 0
      unfold Gr.workR
      rw [if_pos e]; exact e
    · left
      rcases h.works_mu m with k | k
      · have := (h.works' m).mu_work e
        show ((g.works m).workR.2).mu + (m + 1) ≤ _
        omega
      · exact absurd k e
theorem Inv.works_end (h : Inv g K) {m : Nat} (hm : g.roots.length + 2 * g.n + 2 ≤ m) : (g.works m).ph = 0 := by
  rcases h.works_mu m with k | k
  · have h1 := mu_le (g := g)
    have h0 : (g.works m).mu = 0 := by omega
    have h2 := (h.works' m).ph
    unfold Gr.mu at h0
    split at h0
    · assumption
    · split at h0 <;> omega
  · exact k
/-- A whole cycle without changes leaves just what can be reached. -/
theorem Inv.cycle (h : Inv g K) (hp : g.ph = 0) {m : Nat} (hm : g.roots.length + 2 * g.n + 2 ≤ m) (id : Nat) : (g.startR.2.works m).ph = 0 ∧ ((g.startR.2.works m).col id ≠ 0 ↔ Reach g id) := by
  have h1 := h.start hp
  have e : g.startR.2 = { g with ph := 1, thr := 0, greys := [], swp := 0 } := by unfold Gr.startR; rw [if_pos hp]
  have hq : g.startR.2.ph = 1 := by rw [e]
  have en : g.startR.2.n = g.n := by rw [e]
  have er : g.startR.2.roots = g.roots := by rw [e]
  have hend := h1.works_end (m := m) (by rw [er, en]; exact hm)
  obtain ⟨a, b⟩ := h1.works (fun k => by omega) m
  refine ⟨hend, fun k => ?_, fun k => ?_⟩
  · rcases b hend id k with q | q
    · exact q
    · have h2 := (a.out id k).2
      rw [(works_kept m).n, en] at h2
      omega
  · obtain ⟨q1, q2, q3⟩ := h.reach k
    exact a.kin id (.inl k) q2 (by rw [(works_kept m).n, en]; exact q3)
/-! ### finding what can be reached -/
structure Dfs (g : Gr) (X : Nat → Bool) (todo : List Nat) : Prop where
  sub : ∀ id, X id = true → Reach g id
  td : ∀ t ∈ todo, t = 0 ∨ Reach g t
  rts : ∀ r ∈ g.roots, X r = true ∨ r ∈ todo
  cl : ∀ id, X id = true → ∀ t ∈ g.fs id, t ≠ 0 → X t = true ∨ t ∈ todo
variable {X : Nat → Bool} {todo : List Nat} {t : Nat}
theorem Dfs.begin : Dfs g (fun _ => false) g.roots := ⟨fun _ h => (by cases h), fun _ h => .inr (.root h), fun _ h => .inr h, fun _ h => (by cases h)⟩
theorem Dfs.pass (h : Dfs g X (todo ++ [t])) (ht : t = 0 ∨ X t = true) (hr : ∀ r ∈ g.roots, r ≠ 0) : Dfs g X todo := by
  refine ⟨h.sub, fun u hu => h.td u (List.mem_append_left _ hu), fun r k => ?_, fun id k u hu z => ?_⟩
  · rcases h.rts r k with q | q
    · exact .inl q
    · rcases List.mem_append.1 q with q | q
      · exact .inr q
      · rw [List.mem_singleton] at q; subst q
        exact .inl (ht.resolve_left (hr _ k))
  · rcases h.cl id k u hu z with q | q
    · exact .inl q
    · rcases List.mem_append.1 q with q | q
      · exact .inr q
      · rw [List.mem_singleton] at q; subst q
        exact .inl (ht.resolve_left z)
theorem Dfs.take (h : Dfs g X (todo ++ [t])) (ht : t ≠ 0) : Dfs g (up X t true) (todo ++ g.fs t) := by
  have rt : Reach g t := (h.td t (by simp)).resolve_left ht
  have hX : ∀ u, X u = true → up X t true u = true := fun u k => by unfold up; split; rfl; exact k
  have hs : up X t true t = true := up_same _ _ _
  have hin : ∀ u, u ∈ todo ++ [t] → up X t true u = true ∨ u ∈ todo ++ g.fs t := fun u q => by
    rcases List.mem_append.1 q with q | q
    · exact .inr (List.mem_append_left _ q)
    · rw [List.mem_singleton] at q; subst q; exact .inl hs
  refine ⟨fun id k => ?_, fun u hu => ?_, fun r k => ?_, fun id k u hu z => ?_⟩
  · unfold up at k
    split at k
    · rename_i e; rw [e]; exact rt
    · exact h.sub id k
  · rcases List.mem_append.1 hu with q | q
    · exact h.td u (List.mem_append_left _ q)
    · by_cases z : u = 0
      · exact .inl z
      · exact .inr (.step rt q z)
  · rcases h.rts r k with q | q
    · exact .inl (hX _ q)
    · exact hin r q
  · unfold up at k
    split at k
    · rename_i e; subst e; exact .inr (List.mem_append_right _ hu)
    · rcases h.cl id k u hu z with q | q
      · exact .inl (hX _ q)
      · exact hin u q
theorem Dfs.done (h : Dfs g X []) (id : Nat) : X id = true ↔ Reach g id := by
  refine ⟨h.sub id, fun r => ?_⟩
  induction r with
  | root hr => exact (h.rts _ hr).resolve_right (by simp)
  | step _ ht z ih => exact (h.cl _ ih _ ht z).resolve_right (by simp)
/-! ### how many there are -/
theorem live_free (hc : g.col (g.swp + 1) ≠ 0) (hs : g.swp < g.n) : g.free.live + 1 = g.live := by
  unfold Gr.live
  show cnt (fun i => up g.col (g.swp + 1) 0 i != 0) g.n + 1 = _
  rw [cnt_up (p := fun i => g.col i != 0) (q := fun i => up g.col (g.swp + 1) 0 i != 0) (x := g.swp + 1) (by omega) hs (bne_iff_ne.2 hc) (by rw [up_same]; rfl) fun i hi => by rw [up_other _ _ hi]]
theorem live_next : g.next.live = g.live := by
  unfold Gr.live
  refine cnt_congr fun i _ _ => ?_
  show ((if g.col (g.swp + 1) = 0 then g.col else up g.col (g.swp + 1) 1) i != 0) = (g.col i != 0)
  split
  · rfl
  · rename_i c
    unfold up
    split
    · rename_i e; subst e; exact (bne_iff_ne.2 c).symm
    · rfl
theorem live_add (k : Nat) : (g.add k).live = g.live + 1 := by
  unfold Gr.live
  show cnt (fun i => up g.col (g.n + 1) (if g.ph = 0 then 1 else 3) i != 0) g.n + (if (up g.col (g.n + 1) (if g.ph = 0 then 1 else 3) (g.n + 1) != 0) = true then 1 else 0) = _
  rw [up_same, cnt_congr (p := fun i => up g.col (g.n + 1) (if g.ph = 0 then 1 else 3) i != 0) (q := fun i => g.col i != 0) (n := g.n) fun i _ b => by rw [up_other _ _ (by omega)]]
  split <;> rfl
theorem live_black (x : Nat) (l : List Nat) (hx : g.col x ≠ 0) : (g.black x l).live = g.live := by
  unfold Gr.live
  refine cnt_congr fun i _ _ => ?_
  show (up g.col x 3 i != 0) = (g.col i != 0)
  unfold up
  split
  · rename_i e; subst e; exact (bne_iff_ne.2 hx).symm
  · rfl
theorem live_le : g.live ≤ g.n := cnt_le _ _
end Go.Proofs.Ytllefljimkmbhaa
