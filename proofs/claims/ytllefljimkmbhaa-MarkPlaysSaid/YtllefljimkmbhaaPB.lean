/- A graph that is marked and swept, plainly: each call keeps what must be kept. -/
import Derived.Test.YtllefljimkmbhaaP
namespace Go.Proofs.Ytllefljimkmbhaa
variable {g : Gr} {K : Nat → Prop}

theorem mem_erase {L : List Nat} {a x : Nat} (h : x ∈ L.eraseIdx a) : x ∈ L := List.mem_of_mem_eraseIdx h
theorem drop_erase_lt {L : List Nat} {a k : Nat} (h : a < k) : (L.eraseIdx a).drop (k - 1) = L.drop k := by
  apply List.ext_getElem?
  intro i
  rw [List.getElem?_drop, List.getElem?_drop, List.getElem?_eraseIdx, if_neg (by omega), show k - 1 + i + 1 = k + i by omega]
theorem mem_drop_erase {L : List Nat} {a k x : Nat} (h : k ≤ a) (ha : a < L.length) (hx : x ∈ L.drop k) : x ∈ (L.eraseIdx a).drop k ∨ x = L[a] := by
  obtain ⟨i, hi, e⟩ := List.mem_iff_getElem.1 hx
  rw [List.length_drop] at hi
  rw [List.getElem_drop] at e
  have hle : (L.eraseIdx a).length = L.length - 1 := List.length_eraseIdx_of_lt ha
  by_cases c : k + i = a
  · right; subst e; congr 1
  · left
    by_cases d : k + i < a
    · refine List.mem_iff_getElem?.2 ⟨i, ?_⟩
      rw [List.getElem?_drop, List.getElem?_eraseIdx, if_pos d, List.getElem?_eq_getElem (by omega), e]
    · refine List.mem_iff_getElem?.2 ⟨i - 1, ?_⟩
      rw [List.getElem?_drop, List.getElem?_eraseIdx, if_neg (by omega), show k + (i - 1) + 1 = k + i by omega, List.getElem?_eq_getElem (by omega), e]
theorem Inv.erase (h : Inv g K) {a : Nat} (ha : a < g.roots.length) (hd : g.ph = 1 → 2 ≤ g.col g.roots[a]) : Inv (g.erase a) K := by
  have hl : (g.roots.eraseIdx a).length = g.roots.length - 1 := List.length_eraseIdx_of_lt ha
  have ht := h.thr
  exact { n4 := h.n4, r8 := by { show (g.roots.eraseIdx a).length ≤ 4096 + g.n; have := h.r8; omega }, thr := by { show (if a < g.thr then g.thr - 1 else g.thr) ≤ (g.roots.eraseIdx a).length; split <;> omega }, swp := h.swp, ph := h.ph, out := h.out, c3 := h.c3, f16 := h.f16, big := h.big, kin := h.kin,
          kroot := fun r hr => h.kroot r (mem_erase hr), kfs := h.kfs, ft := h.ft, fout := h.fout, gry := h.gry, gnd := h.gnd, off := h.off, s0 := h.s0, white := h.white, dark := h.dark, blk := h.blk, swn := h.swn,
          prot := fun k id hk hc => by {
            have hc' : g.col id = 1 := hc
            rcases (h.prot k id hk hc).mono (g' := g.erase a) h.c3 h.gry (fun x hx => by { have e := (h.gry x).1 hx; show 2 ≤ g.col x; omega }) (fun r hr => by {
              show r ∈ (g.roots.eraseIdx a).drop (if a < g.thr then g.thr - 1 else g.thr) ∨ 2 ≤ g.col r
              by_cases c : a < g.thr
              · rw [if_pos c, drop_erase_lt c]; exact .inl hr
              · rw [if_neg c]
                rcases mem_drop_erase (by omega) ha hr with q | q
                · exact .inl q
                · rw [q]; exact .inr (hd k) }) (fun x hx t ht _ => .inr ⟨hx, ht⟩) with q | q
            · exact q
            · have q : g.col id = 3 := q
              omega } }
theorem Inv.drop (h : Inv g K) {a : Nat} (ha : a < g.roots.length) : Inv (g.drop a) K := by
  have e : g.roots.getD a 0 = g.roots[a] := by simp [ha]
  obtain ⟨k1, k2, k3⟩ := h.kroot _ (List.getElem_mem ha)
  unfold Gr.drop
  rw [e]
  have h1 := h.shade (id := g.roots[a]) (.inr k1)
  refine h1.erase (by rw [shade_roots]; exact ha) fun p => ?_
  rw [shade_ph] at p
  have := shade_self (id := g.roots[a]) p (by omega) (h.kin _ k1 k2 k3)
  simpa [shade_roots] using this
theorem Inv.lay (h : Inv g K) {to : Nat} (hk : K to) (h1 : 1 ≤ to) (hn : to ≤ g.n) (hr : g.roots.length < 4096) : Inv (g.lay to) K := by
  have ht := h.thr
  have hl : (g.roots ++ [to]).length = g.roots.length + 1 := by simp
  exact { n4 := h.n4, r8 := by { show (g.roots ++ [to]).length ≤ 4096 + g.n; omega }, thr := by { show g.thr ≤ (g.roots ++ [to]).length; omega }, swp := h.swp, ph := h.ph, out := h.out, c3 := h.c3, f16 := h.f16, big := h.big, kin := h.kin,
          kroot := fun r hr => by { rcases List.mem_append.1 hr with q | q; exact h.kroot r q; rw [List.mem_singleton] at q; subst q; exact ⟨hk, h1, hn⟩ }, kfs := h.kfs, ft := h.ft, fout := h.fout, gry := h.gry, gnd := h.gnd, off := h.off, s0 := h.s0, white := h.white, dark := h.dark, blk := h.blk, swn := h.swn,
          prot := fun k id hk hc => by {
            have hc' : g.col id = 1 := hc
            rcases (h.prot k id hk hc).mono (g' := g.lay to) h.c3 h.gry (fun x hx => by { have e := (h.gry x).1 hx; show 2 ≤ g.col x; omega }) (fun r hr => .inl (by {
              show r ∈ (g.roots ++ [to]).drop g.thr
              rw [List.drop_append_of_le_length ht]
              exact List.mem_append_left _ hr })) (fun x hx t ht _ => .inr ⟨hx, ht⟩) with q | q
            · exact q
            · have q : g.col id = 3 := q
              omega } }
theorem mem_set {L : List Nat} {f v x : Nat} (h : x ∈ L.set f v) : x ∈ L ∨ x = v := List.mem_or_eq_of_mem_set h
theorem mem_set_of {L : List Nat} {f v x : Nat} (hf : f < L.length) (h : x ∈ L) : x ∈ L.set f v ∨ x = L[f] := by
  obtain ⟨i, hi, e⟩ := List.mem_iff_getElem.1 h
  by_cases c : f = i
  · subst c; exact .inr e.symm
  · refine .inl (List.mem_iff_getElem?.2 ⟨i, ?_⟩)
    rw [List.getElem?_set, if_neg c, List.getElem?_eq_getElem hi, e]
theorem Inv.write (h : Inv g K) {x f to : Nat} (hx : K x) (hxn : x ≤ g.n) (hf : f < (g.fs x).length) (hto : to = 0 ∨ (K to ∧ to ≤ g.n)) (hd : g.ph = 1 → (g.fs x)[f] ≠ 0 → 2 ≤ g.col (g.fs x)[f]) : Inv (g.write x f to) K := by
  have hm : ∀ id, ∀ t ∈ up g.fs x ((g.fs x).set f to) id, t ∈ g.fs id ∨ (id = x ∧ t = to) := fun id t ht => by
    unfold up at ht
    split at ht
    · rename_i e; subst e
      rcases mem_set ht with q | q
      · exact .inl q
      · exact .inr ⟨rfl, q⟩
    · exact .inl ht
  exact { n4 := h.n4, r8 := h.r8, thr := h.thr, swp := h.swp, ph := h.ph, out := h.out, c3 := h.c3, big := h.big, kin := h.kin, kroot := h.kroot, gry := h.gry, gnd := h.gnd, off := h.off, s0 := h.s0, white := h.white, dark := h.dark, blk := h.blk, swn := h.swn,
          f16 := fun id => by {
            show (up g.fs x ((g.fs x).set f to) id).length ≤ 16
            unfold up
            split
            · rw [List.length_set]; exact h.f16 x
            · exact h.f16 id },
          kfs := fun id k1 k2 t ht hz => by {
            rcases hm id t ht with q | ⟨_, q⟩
            · exact h.kfs id k1 k2 t q hz
            · subst q; exact hto.resolve_left hz },
          ft := fun id t ht => by {
            rcases hm id t ht with q | ⟨_, q⟩
            · exact h.ft id t q
            · subst q; show t ≤ g.n; rcases hto with e | e; omega; exact e.2 },
          fout := fun id k => by { show up g.fs x ((g.fs x).set f to) id = []; unfold up; rw [if_neg (fun e => by { have k : g.n < id := k; omega })]; exact h.fout id k },
          prot := fun k id hk hc => by {
            have hc' : g.col id = 1 := hc
            rcases (h.prot k id hk hc).mono (g' := g.write x f to) h.c3 h.gry (fun x hx => by { have e := (h.gry x).1 hx; show 2 ≤ g.col x; omega }) (fun r hr => .inl hr) (fun y hy t ht hz => by {
              show 2 ≤ g.col t ∨ (g.col y ≠ 3 ∧ t ∈ up g.fs x ((g.fs x).set f to) y)
              unfold up
              by_cases c : y = x
              · subst c
                rw [if_pos rfl]
                rcases mem_set_of (v := to) hf ht with q | q
                · exact .inr ⟨hy, q⟩
                · subst q; exact .inl (hd k hz)
              · rw [if_neg c]; exact .inr ⟨hy, ht⟩ }) with q | q
            · exact q
            · have q : g.col id = 3 := q
              omega } }
theorem Inv.set (h : Inv g K) {x f to : Nat} (hx : x ∈ g.roots) (hf : f < (g.fs x).length) (hto : to = 0 ∨ to ∈ g.roots) : Inv (g.set x f to) K := by
  obtain ⟨k1, k2, k3⟩ := h.kroot _ hx
  have e : (g.fs x).getD f 0 = (g.fs x)[f] := by simp [hf]
  have hmem := List.getElem_mem hf
  have hold : (g.fs x)[f] = 0 ∨ K (g.fs x)[f] := by
    by_cases z : (g.fs x)[f] = 0
    · exact .inl z
    · exact .inr (h.kfs x k1 k3 _ hmem z).1
  have h1 := h.shade hold
  have h2 := h1.shade (id := to) (hto.imp id fun q => (h.kroot _ q).1)
  unfold Gr.set
  rw [e]
  have ef : ((g.shade (g.fs x)[f]).shade to).fs = g.fs := by rw [shade_fs, shade_fs]
  refine h2.write k1 (by rw [shade_n, shade_n]; exact k3) (by rw [ef]; exact hf) (hto.imp id fun q => ⟨(h.kroot _ q).1, by rw [shade_n, shade_n]; exact (h.kroot _ q).2.2⟩) fun p z => ?_
  rw [shade_ph, shade_ph] at p
  simp only [ef] at z ⊢
  exact shade_dark (shade_self p z (h.kin _ (hold.resolve_left z) (by omega) (h.kfs x k1 k3 _ hmem z).2))
theorem Inv.scan (h : Inv g K) (ht : g.thr < g.roots.length) (hd : 2 ≤ g.col g.roots[g.thr]) : Inv g.scan K := by
  exact { n4 := h.n4, r8 := h.r8, thr := ht, swp := h.swp, ph := h.ph, out := h.out, c3 := h.c3, f16 := h.f16, big := h.big, kin := h.kin, kroot := h.kroot, kfs := h.kfs, ft := h.ft, fout := h.fout, gry := h.gry, gnd := h.gnd, off := h.off, s0 := h.s0, white := h.white, dark := h.dark, blk := h.blk, swn := h.swn,
          prot := fun k id hk hc => by {
            have hc' : g.col id = 1 := hc
            rcases (h.prot k id hk hc).mono (g' := g.scan) h.c3 h.gry (fun x hx => by { have e := (h.gry x).1 hx; show 2 ≤ g.col x; omega }) (fun r hr => by {
              show r ∈ g.roots.drop (g.thr + 1) ∨ 2 ≤ g.col r
              rw [List.drop_eq_getElem_cons ht] at hr
              rcases List.mem_cons.1 hr with q | q
              · rw [q]; exact .inr hd
              · exact .inl q }) (fun x hx t ht _ => .inr ⟨hx, ht⟩) with q | q
            · exact q
            · have q : g.col id = 3 := q
              omega } }
theorem Inv.black (h : Inv g K) (hp : g.ph = 1) {x : Nat} {l : List Nat} (hg : g.greys = x :: l) (hd : ∀ t ∈ g.fs x, t ≠ 0 → 2 ≤ g.col t) : Inv (g.black x l) K := by
  have hx : g.col x = 2 := (h.gry x).1 (by rw [hg]; simp)
  have hnd := List.nodup_cons.1 (by have := h.gnd; rwa [hg] at this)
  have hc : ∀ j, (g.black x l).col j = if j = x then 3 else g.col j := fun j => rfl
  have hz : ∀ j, (g.black x l).col j = 0 ↔ g.col j = 0 := fun j => by rw [hc]; split; (rename_i e; subst e; constructor <;> intro k <;> omega); rfl
  have hgr : ∀ j, j ∈ l ↔ (g.black x l).col j = 2 := fun j => by
    rw [hc]
    by_cases e : j = x
    · subst e
      rw [if_pos rfl]
      exact ⟨fun k => absurd k hnd.1, fun k => by omega⟩
    · rw [if_neg e, ← h.gry, hg]
      simp [e]
  have hc3 : ∀ j, (g.black x l).col j ≤ 3 := fun j => by rw [hc]; have := h.c3 j; split <;> omega
  have hdk : ∀ j, 2 ≤ g.col j → 2 ≤ (g.black x l).col j := fun j k => by rw [hc]; split <;> omega
  exact { n4 := h.n4, r8 := h.r8, thr := h.thr, swp := h.swp, ph := h.ph, c3 := hc3, f16 := h.f16, big := h.big, kroot := h.kroot, kfs := h.kfs, ft := h.ft, fout := h.fout, gry := hgr, gnd := hnd.2, off := fun k => absurd hp k, s0 := h.s0,
          out := fun j k => h.out j fun z => k ((hz j).2 z),
          kin := fun j a b c z => h.kin j a b c ((hz j).1 z),
          white := fun k => by { have k : g.ph = 0 := k; omega },
          dark := fun k j a => h.dark k j (by { rw [hc] at a; split at a; (rename_i e; subst e; omega); exact a }),
          blk := fun k => by { have k : g.ph = 2 := k; omega },
          swn := fun k => by { have k : g.ph = 2 := k; omega },
          prot := fun k id hk hi => by {
            have hi' : g.col id = 1 := by { rw [hc] at hi; split at hi; omega; exact hi }
            rcases (h.prot k id hk hi').mono (g' := g.black x l) hc3 hgr (fun y hy => hdk y (by rw [(h.gry y).1 hy]; exact Nat.le_refl 2)) (fun r hr => .inl hr) (fun y hy t ht z => by {
              by_cases c : y = x
              · subst c; exact .inl (hdk _ (hd t ht z))
              · exact .inr ⟨by { rw [hc, if_neg c]; exact hy }, ht⟩ }) with q | q
            · exact q
            · omega } }
theorem Inv.turn (h : Inv g K) (hp : g.ph = 1) (ht : g.roots.length ≤ g.thr) (hg : g.greys = []) : Inv g.turn K := by
  have hno : ∀ a, ¬ Prot g a := fun a p => by
    induction p with
    | grey k => rw [hg] at k; cases k
    | root k => rw [List.drop_eq_nil_of_le ht] at k; cases k
    | step _ _ _ _ ih => exact ih
  exact { n4 := h.n4, r8 := h.r8, thr := h.thr, swp := Nat.zero_le _, ph := Nat.le_refl _, out := h.out, c3 := h.c3, f16 := h.f16, big := h.big, kin := h.kin, kroot := h.kroot, kfs := h.kfs, ft := h.ft, fout := h.fout, gry := h.gry, gnd := h.gnd, off := fun _ => hg, s0 := fun _ => rfl,
          white := fun k => by { cases k }, prot := fun k => by { cases k }, dark := fun _ => h.dark (by omega),
          blk := fun _ id k a b => by {
            have a : 0 < id := a
            have c0 := h.kin id k a b
            have c1 : g.col id ≠ 1 := fun e => hno _ (h.prot hp id k e)
            have c2 : g.col id ≠ 2 := fun e => by { have := (h.gry id).2 e; rw [hg] at this; cases this }
            have c3 := h.c3 id
            show g.col id = 3
            omega },
          swn := fun _ id a b => by { have a : id ≤ 0 := a; have := (h.out id b).1; omega } }
theorem Inv.mark (h : Inv g K) (hp : g.ph = 1) : Inv g.mark K := by
  unfold Gr.mark
  split
  · rename_i ht
    have e : g.roots.getD g.thr 0 = g.roots[g.thr] := by simp [ht]
    obtain ⟨k1, k2, k3⟩ := h.kroot _ (List.getElem_mem ht)
    rw [e]
    refine (h.shade (.inr k1)).scan (by rw [shade_thr, shade_roots]; exact ht) ?_
    have := shade_self (id := g.roots[g.thr]) hp (by omega) (h.kin _ k1 k2 k3)
    simpa [shade_roots, shade_thr] using this
  · rename_i ht
    split
    · rename_i hg
      exact h.turn hp (by omega) hg
    · rename_i x l hg
      unfold Gr.blacken
      obtain ⟨e1, m, e2⟩ := shades_pop hg (g.fs x)
      rw [e1, e2]
      have hx : g.col x = 2 := (h.gry x).1 (by rw [hg]; simp)
      have kx := h.dark (by omega) x (by omega)
      have hxn := (h.out x (by omega)).2
      have h1 := h.shades (L := g.fs x) fun t ht => by
        by_cases z : t = 0
        · exact .inl z
        · exact .inr (h.kfs x kx hxn t ht z).1
      refine h1.black (by rw [shades_ph]; exact hp) (l := m) e2 fun t ht z => ?_
      rw [shades_fs] at ht
      obtain ⟨a, b⟩ := h.kfs x kx hxn t ht z
      exact shades_self hp ht z (h.kin t a (by omega) b)
theorem Inv.next (h : Inv g K) (hp : g.ph = 2) (hs : g.swp < g.n) (hc : g.col (g.swp + 1) ≠ 1) : Inv g.next K ∧ g.next.ph = 2 ∧ g.next.n = g.n ∧ g.next.swp = g.swp + 1 := by
  refine ⟨?_, hp, rfl, rfl⟩
  have hg := h.off (by omega)
  have hcol : ∀ j, g.next.col j = if j = g.swp + 1 ∧ g.col j ≠ 0 then 1 else g.col j := fun j => by
    show (if g.col (g.swp + 1) = 0 then g.col else up g.col (g.swp + 1) 1) j = _
    split
    · rename_i z
      rw [if_neg]
      rintro ⟨e, k⟩
      rw [e] at k
      exact k z
    · rename_i z
      unfold up
      split
      · rename_i e; subst e; rw [if_pos ⟨rfl, z⟩]
      · rename_i e; rw [if_neg (fun k => e k.1)]
  have h3 : g.col (g.swp + 1) = 0 ∨ g.col (g.swp + 1) = 3 := by
    have := h.c3 (g.swp + 1)
    have c2 : g.col (g.swp + 1) ≠ 2 := fun e => by have := (h.gry _).2 e; rw [hg] at this; cases this
    omega
  have hz : ∀ j, g.next.col j = 0 ↔ g.col j = 0 := fun j => by rw [hcol]; split; (rename_i e; constructor <;> intro k; omega; exact absurd k e.2); rfl
  exact { n4 := h.n4, r8 := h.r8, thr := h.thr, swp := hs, ph := h.ph, f16 := h.f16, big := h.big, kroot := h.kroot, kfs := h.kfs, ft := h.ft, fout := h.fout, gnd := h.gnd, off := h.off, s0 := fun k => by { have k : g.ph = 1 := k; omega },
          out := fun j k => h.out j fun z => k ((hz j).2 z),
          kin := fun j a b c z => h.kin j a b c ((hz j).1 z),
          c3 := fun j => by { rw [hcol]; have := h.c3 j; split <;> omega },
          gry := fun j => by { show j ∈ g.greys ↔ _; rw [hg, hcol]; have := h.gry j; rw [hg] at this; split; (constructor <;> intro k; cases k; omega); exact this },
          white := fun k => by { have k : g.ph = 0 := k; omega },
          prot := fun k => by { have k : g.ph = 1 := k; omega },
          dark := fun k j a => h.dark k j (by { rw [hcol] at a; split at a; omega; exact a }),
          blk := fun k j a b c => by { have b : g.swp + 1 < j := b; rw [hcol, if_neg (by omega)]; exact h.blk hp j a (by omega) c },
          swn := fun k j a b => by {
            have a : j ≤ g.swp + 1 := a
            have b' : g.col j ≠ 0 := fun z => b ((hz j).2 z)
            rw [hcol]
            by_cases e : j = g.swp + 1
            · rw [if_pos ⟨e, b'⟩]
              refine ⟨rfl, h.dark (by omega) j ?_⟩
              subst e; omega
            · rw [if_neg (fun k => e k.1)]
              exact h.swn hp j (by omega) b' } }
theorem Inv.free (h : Inv g K) (hp : g.ph = 2) (hs : g.swp < g.n) (hc : g.col (g.swp + 1) = 1) : Inv g.free K := by
  have hg := h.off (by omega)
  have hcol : ∀ j, g.free.col j = if j = g.swp + 1 then 0 else g.col j := fun j => rfl
  have hk : ¬ K (g.swp + 1) := fun k => by have := h.blk hp _ k (Nat.lt_succ_self _) hs; omega
  exact { n4 := h.n4, r8 := h.r8, thr := h.thr, swp := hs, ph := h.ph, f16 := h.f16, big := h.big, kroot := h.kroot, kfs := h.kfs, ft := h.ft, fout := h.fout, gnd := h.gnd, off := h.off, s0 := fun k => by { have k : g.ph = 1 := k; omega },
          out := fun j k => h.out j fun z => k (by { rw [hcol]; split; rfl; exact z }),
          kin := fun j a b c => by { rw [hcol, if_neg (fun e : j = g.swp + 1 => hk (by { rw [← e]; exact a }))]; exact h.kin j a b c },
          c3 := fun j => by { rw [hcol]; have := h.c3 j; split <;> omega },
          gry := fun j => by { show j ∈ g.greys ↔ _; rw [hg, hcol]; have := h.gry j; rw [hg] at this; split; (constructor <;> intro k; cases k; omega); exact this },
          white := fun k => by { have k : g.ph = 0 := k; omega },
          prot := fun k => by { have k : g.ph = 1 := k; omega },
          dark := fun k j a => h.dark k j (by { rw [hcol] at a; split at a; omega; exact a }),
          blk := fun k j a b c => by { have b : g.swp + 1 < j := b; rw [hcol, if_neg (by omega)]; exact h.blk hp j a (by omega) c },
          swn := fun k j a b => by {
            have a : j ≤ g.swp + 1 := a
            rw [hcol] at b ⊢
            by_cases e : j = g.swp + 1
            · rw [if_pos e] at b; exact absurd rfl b
            · rw [if_neg e] at b ⊢
              exact h.swn hp j (by omega) b } }
theorem Inv.ends (h : Inv g K) (hp : g.ph = 2) (hs : g.swp = g.n) : Inv g.ends K ∧ ∀ j, g.ends.col j ≠ 0 → K j := by
  have hw : ∀ j, g.col j ≠ 0 → g.col j = 1 ∧ K j := fun j k => h.swn hp j (by rw [hs]; exact (h.out j k).2) k
  refine ⟨{ n4 := h.n4, r8 := h.r8, thr := h.thr, swp := h.swp, ph := Nat.zero_le _, out := h.out, c3 := h.c3, f16 := h.f16, big := h.big, kin := h.kin, kroot := h.kroot, kfs := h.kfs, ft := h.ft, fout := h.fout, gry := h.gry, gnd := h.gnd, off := fun _ => h.off (by omega), s0 := fun k => by { cases k }, white := fun _ j k => (hw j k).1, prot := fun k => by { cases k }, dark := fun k => absurd rfl k, blk := fun k => by { cases k }, swn := fun k => by { cases k } }, fun j k => (hw j k).2⟩
/-- What sweeping leaves. -/
theorem Inv.sweepN : ∀ (k : Nat) {g : Gr}, Inv g K → g.ph = 2 → g.swp + k = g.n → Inv (Gr.sweepN k g).2 K ∧ ((Gr.sweepN k g).2.ph = 0 → ∀ j, (Gr.sweepN k g).2.col j ≠ 0 → K j)
  | 0, g, h, hp, hs => by
    obtain ⟨a, b⟩ := h.ends hp (by omega)
    exact ⟨a, fun _ => b⟩
  | k + 1, g, h, hp, hs => by
    unfold Gr.sweepN
    split
    · rename_i c
      refine ⟨h.free hp (by omega) c, fun e => ?_⟩
      have e : g.ph = 0 := e
      omega
    · rename_i c
      obtain ⟨a, b, d, f⟩ := h.next hp (by omega) c
      exact Inv.sweepN k a b (by omega)
theorem Inv.work (h : Inv g K) (hd : g.ph = 0 → ∀ j, g.col j ≠ 0 → K j) : Inv g.workR.2 K ∧ (g.workR.2.ph = 0 → ∀ j, g.workR.2.col j ≠ 0 → K j) := by
  unfold Gr.workR
  split
  · exact ⟨h, hd⟩
  · rename_i h0
    split
    · rename_i h1
      refine ⟨h.mark h1, fun e => ?_⟩
      exfalso
      have e : g.mark.ph = 0 := e
      unfold Gr.mark at e
      split at e
      · have e : (g.shade _).ph = 0 := e
        rw [shade_ph] at e; omega
      · split at e
        · cases e
        · unfold Gr.blacken at e
          have e : (Gr.shades _ _).ph = 0 := e
          rw [shades_ph] at e
          have e : g.ph = 0 := e
          omega
    · rename_i h1
      have h2 := h.ph
      have hp : g.ph = 2 := by omega
      exact Inv.sweepN _ h hp (by have := h.swp; omega)
theorem Inv.work' (h : Inv g K) : Inv g.workR.2 K := by
  unfold Gr.workR
  split
  · exact h
  · split
    · rename_i h1; exact h.mark h1
    · rename_i h0 h1
      have h2 := h.ph
      exact (Inv.sweepN _ h (by omega) (by have := h.swp; omega)).1
theorem Inv.add (h : Inv g K) {k : Nat} (hk : k ≤ 16) (hn : g.n < 4096) : Inv (g.add k) K := by
  have hcol : ∀ j, (g.add k).col j = if j = g.n + 1 then (if g.ph = 0 then 1 else 3) else g.col j := fun j => rfl
  have hfs : ∀ j, (g.add k).fs j = if j = g.n + 1 then List.replicate k 0 else g.fs j := fun j => rfl
  have hl : (g.roots ++ [g.n + 1]).length = g.roots.length + 1 := by simp
  have ht := h.thr
  have hr := h.r8
  have hs := h.swp
  have hz : ∀ j, g.n < j → g.col j = 0 := fun j hj => by
    by_cases c : g.col j = 0
    · exact c
    · have := (h.out j c).2; omega
  have rep : ∀ t, t ∈ List.replicate k 0 → t = 0 := fun t ht => (List.mem_replicate.1 ht).2
  have hgr : ∀ j, j ∈ g.greys ↔ (g.add k).col j = 2 := fun j => by
    rw [hcol, h.gry]
    split
    · rename_i e; subst e
      rw [hz _ (Nat.lt_succ_self _)]
      split <;> exact ⟨fun k => by omega, fun k => by omega⟩
    · rfl
  have hc3 : ∀ j, (g.add k).col j ≤ 3 := fun j => by rw [hcol]; have := h.c3 j; split; (split <;> omega); omega
  exact { n4 := hn, r8 := by { show (g.roots ++ [g.n + 1]).length ≤ 4096 + (g.n + 1); omega }, thr := by { show g.thr ≤ (g.roots ++ [g.n + 1]).length; omega }, swp := by { show g.swp ≤ g.n + 1; omega }, ph := h.ph, gnd := h.gnd, off := h.off, s0 := h.s0, gry := hgr, c3 := hc3,
          out := fun j a => by { show 1 ≤ j ∧ j ≤ g.n + 1; rw [hcol] at a; split at a; omega; have := h.out j a; omega },
          f16 := fun j => by { rw [hfs]; split; (rw [List.length_replicate]; exact hk); exact h.f16 j },
          big := fun j a => h.big j (by { have a : g.n + 1 < j := a; omega }),
          kin := fun j a b c => by {
            have c : j ≤ g.n + 1 := c
            rw [hcol]; split
            · split <;> decide
            · exact h.kin j a b (by omega) },
          kroot := fun r hr => by {
            rcases List.mem_append.1 hr with q | q
            · have := h.kroot r q
              exact ⟨this.1, this.2.1, by { show r ≤ g.n + 1; omega }⟩
            · rw [List.mem_singleton] at q; subst q
              exact ⟨h.big _ (Nat.lt_succ_self _), by omega, Nat.le_refl _⟩ },
          kfs := fun j a b t ht z => by {
            have b : j ≤ g.n + 1 := b
            rw [hfs] at ht
            split at ht
            · exact absurd (rep t ht) z
            · have := h.kfs j a (by omega) t ht z
              exact ⟨this.1, by { show t ≤ g.n + 1; omega }⟩ },
          ft := fun j t ht => by {
            show t ≤ g.n + 1
            rw [hfs] at ht
            split at ht
            · rw [rep t ht]; omega
            · have := h.ft j t ht; omega },
          fout := fun j a => by { have a : g.n + 1 < j := a; rw [hfs, if_neg (by omega)]; exact h.fout j (by omega) },
          white := fun p j a => by {
            have p : g.ph = 0 := p
            rw [hcol] at a ⊢
            split
            · first | rfl | rw [if_pos p]
            · rename_i e; rw [if_neg e] at a; exact h.white p j a },
          dark := fun p j a => by {
            rw [hcol] at a
            split at a
            · rename_i e; rw [e]; exact h.big _ (Nat.lt_succ_self _)
            · exact h.dark p j a },
          blk := fun p j a b c => by {
            have p : g.ph = 2 := p
            have c : j ≤ g.n + 1 := c
            rw [hcol]
            split
            · rw [if_neg (by omega)]
            · exact h.blk p j a b (by omega) },
          swn := fun p j a b => by {
            have a : j ≤ g.swp := a
            rw [hcol, if_neg (by omega)] at b ⊢
            exact h.swn p j a b },
          prot := fun p j a b => by {
            have p : g.ph = 1 := p
            have b' : g.col j = 1 := by { rw [hcol, if_neg (c := g.ph = 0) (by omega)] at b; split at b; omega; exact b }
            rcases (h.prot p j a b').mono (g' := g.add k) hc3 hgr (fun y hy => by {
              have e := (h.gry y).1 hy
              have e2 := (hgr y).1 hy
              omega }) (fun r hr => .inl (by {
              show r ∈ (g.roots ++ [g.n + 1]).drop g.thr
              rw [List.drop_append_of_le_length ht]
              exact List.mem_append_left _ hr })) (fun y hy t ht z => by {
              by_cases c : y = g.n + 1
              · subst c
                rw [h.fout _ (Nat.lt_succ_self _)] at ht
                cases ht
              · exact .inr ⟨by { rw [hcol, if_neg c]; exact hy }, by { rw [hfs, if_neg c]; exact ht }⟩ }) with q | q
            · exact q
            · rw [hcol] at q b
              split at q
              · rename_i e; rw [if_pos e, if_neg (by omega)] at b; omega
              · omega } }
end Go.Proofs.Ytllefljimkmbhaa
