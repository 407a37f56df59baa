/- The document's Work: sweeping. -/
import Derived.Test.YtllefljimkmbhaaEM
namespace Go.Proofs.Ytllefljimkmbhaa
open Go.ChangeShapes Go.WideShapes Go.ChangeAt Go.RowKit
variable {w w' w1 w2 W W' : World} {F S : Nat → Prop} {bd : Nat} {vo vr vq : Value} {f T : Nat → Nat} {g g' : Gr} {sw : Int} {K : Nat → Prop}

/-- An object is gone. -/
theorem Dm.wipe (h : Dm w F bd vo vr vq f T g sw) {b o n cap : Nat} (ev : vo = .slice (some ⟨b, o, none⟩) n cap) {id : Nat} (h1 : 1 ≤ id) (h2 : id ≤ g.n) :
    Dm ((w.setCell ⟨b, o + id * 2, none⟩ (.slice none 0 0)).setCell ⟨b, o + id * 2 + 1, none⟩ (.int .i64 0)) F bd vo vr vq f T { g with col := up g.col id 0 } sw ∧ Cha F w ((w.setCell ⟨b, o + id * 2, none⟩ (.slice none 0 0)).setCell ⟨b, o + id * 2 + 1, none⟩ (.int .i64 0)) := by
  have eb : vo.ownBlock = some b := by rw [ev]; rfl
  have c4 : Cha (fun i => i = b) w ((w.setCell ⟨b, o + id * 2, none⟩ (.slice none 0 0)).setCell ⟨b, o + id * 2 + 1, none⟩ (.int .i64 0)) := (Cha.at w b _ _).trans (Cha.at _ b _ _)
  have hb := h.bv eb
  have colx : ∀ j, up g.col id 0 j ≠ 0 → j ≠ id ∧ g.col j ≠ 0 := fun j hj => by
    unfold up at hj
    by_cases e : j = id
    · rw [if_pos e] at hj; exact absurd rfl hj
    · rw [if_neg e] at hj; exact ⟨e, hj⟩
  have hlo : Lies obE ((w.setCell ⟨b, o + id * 2, none⟩ (.slice none 0 0)).setCell ⟨b, o + id * 2 + 1, none⟩ (.int .i64 0)) vo (obs { g with col := up g.col id 0 } f) := by
    rcases h.lo with ⟨e, _⟩ | ⟨b', o', cap', cur, e, a1, a2, a3, a4, a5⟩
    · exact absurd e (by unfold obs; simp)
    · rw [ev] at e
      injection e with f1 f2 f3
      injection f1 with f1
      injection f1 with f1 f1' _
      subst f1 f1' f3
      have el : (obs { g with col := up g.col id 0 } f).length = (obs g f).length := by rw [obs_len, obs_len]
      have ek : obE.k = 2 := rfl
      refine .inr ⟨b, o, cap, (cur.setIfInBounds (o + id * 2) (.slice none 0 0)).setIfInBounds (o + id * 2 + 1) (.int .i64 0), by rw [el, ev, f2], by rw [el]; exact a1, a2, ?_, by rw [Array.size_setIfInBounds, Array.size_setIfInBounds]; exact a4, fun i hi => ?_⟩
      · rw [heap_setCell_same _ b _ _ _ _ (heap_setCell_same w b _ _ _ _ a3)]
      · rw [el] at hi
        rw [ek, obs_len] at hi
        rw [obs_len, ek] at a5
        have sz : o + i < cur.size := by rw [ek] at a4; rw [obs_len] at a1; omega
        obtain ⟨q, r, hr, rfl⟩ : ∃ q r, r < 2 ∧ i = q * 2 + r := ⟨i / 2, i % 2, Nat.mod_lt _ (by decide), by omega⟩
        have hq : q < g.n + 1 := by omega
        have e1 := obE_ok.cs_get (obs { g with col := up g.col id 0 } f) (i := q) (j := r) (by rw [obs_len]; exact hq) hr
        have e2 := obE_ok.cs_get (obs g f) (i := q) (j := r) (by rw [obs_len]; exact hq) hr
        rw [ek] at e1 e2
        rw [e1]
        have e3 := a5 (q * 2 + r) hi
        rw [e2] at e3
        by_cases hqi : q = id
        · subst hqi
          have g1 := obs_get (g := { g with col := up g.col q 0 }) f h1 h2
          rw [List.getElem?_eq_getElem (by rw [obs_len]; exact hq)] at g1
          injection g1 with g1
          rw [g1]
          have o1 : ob { g with col := up g.col q 0 } f q = (none, 0, 0) := by
            unfold ob
            rw [if_pos (up_same _ _ _)]
          rw [o1]
          match r, hr with
          | 0, _ =>
            rw [Array.getElem?_setIfInBounds_ne (by omega), Nat.add_zero] at *
            rw [Array.getElem?_setIfInBounds_self_of_lt sz]
            rfl
          | 1, _ =>
            rw [show o + (q * 2 + 1) = o + q * 2 + 1 by omega] at sz ⊢
            rw [Array.getElem?_setIfInBounds_self_of_lt (by rw [Array.size_setIfInBounds]; exact sz)]
            rfl
        · rw [Array.getElem?_setIfInBounds_ne (by omega), Array.getElem?_setIfInBounds_ne (by omega), e3]
          congr 1
          congr 1
          by_cases q0 : q = 0
          · subst q0; rfl
          · have g1 := obs_get (g := { g with col := up g.col id 0 }) f (show 1 ≤ q by omega) (show q ≤ g.n by omega)
            have g2 := obs_get (g := g) f (show 1 ≤ q by omega) (show q ≤ g.n by omega)
            rw [List.getElem?_eq_getElem (by rw [obs_len]; exact hq)] at g1 g2
            injection g1 with g1
            injection g2 with g2
            rw [g1, g2]
            unfold ob
            show _ = if up g.col id 0 q = 0 then _ else (_, _, up g.col id 0 q)
            rw [up_other _ _ hqi]
  refine ⟨{ head := (c4.old bd (h.old _ h.tg.2) (fun e => hb.1 e.symm)).trans h.head, lo := hlo, lr := h.lr.cha c4 fun b' e x => hb.2.2.1 (x ▸ e), lq := h.lq.cha c4 fun b' e x => hb.2.2.2 (x ▸ e),
            fld := fun j a d k => c4.row (h.fld j a d (colx j k).2) (fun e => hb.2.1 j a d (colx j k).2 e.symm), tg := h.tg, tv := h.tv, tr := h.tr, tq := h.tq, tf := fun j a d k => h.tf j a d (colx j k).2, sws := h.sws, old := fun i x => Nat.lt_of_lt_of_le (h.old i x) c4.size }, c4.mono fun i _ e => e ▸ (h.tv b eb).2⟩
/-- Where sweeping stands. -/
structure Dswp (W w1 : World) (F : Nat → Prop) (bd : Nat) (g gk : Gr) : Prop where
  goes : Goes (DmA bd gk) W w1 F
  ph : gk.ph = 2
  n : gk.n = g.n
  le : gk.swp ≤ gk.n
  grey : ∀ id, gk.col id ≠ 2 ∧ gk.col id ≤ 3
  out : g.sweep = Gr.sweepN (gk.n - gk.swp) gk
theorem sweepN_succ (k : Nat) (g : Gr) : Gr.sweepN (k + 1) g = if g.col (g.swp + 1) = 1 then (((g.swp + 1 : Nat) : Int), g.free) else Gr.sweepN k g.next := rfl
/-- What a round of the sweep finds, and may do. -/
theorem dsweep_kit (h : Dswp W w1 F bd g g') : ∃ (b o cap : Nat), w1.cell? ⟨bd, 0, none⟩ = some (.slice (some ⟨b, o, none⟩) (g.n + 1) cap) ∧ cap ≤ maxLen ∧ w1.cell? ⟨bd, 5, none⟩ = some (.int .i64 ((g'.swp : Int) + 1)) ∧ w1.frozen? ⟨bd, 5, none⟩ = false ∧
    w1.cell? ⟨bd, 3, none⟩ = some (.int .i64 2) ∧ w1.frozen? ⟨bd, 3, none⟩ = false ∧ w1.cell? ⟨bd, 6, none⟩ = some (.int .i64 g'.cyc) ∧ w1.frozen? ⟨bd, 6, none⟩ = false ∧
    (g'.swp < g'.n → bd ≠ b ∧ (∃ v, w1.cell? ⟨b, o + (g'.swp + 1) * 2, none⟩ = some v) ∧ w1.cell? ⟨b, o + (g'.swp + 1) * 2 + 1, none⟩ = some (.int .i64 (g'.col (g'.swp + 1) : Nat)) ∧ w1.frozen? ⟨b, o + (g'.swp + 1) * 2, none⟩ = false ∧ w1.frozen? ⟨b, o + (g'.swp + 1) * 2 + 1, none⟩ = false ∧
      (g'.col (g'.swp + 1) = 1 → Goes (DmA bd g'.free) W (((w1.setCell ⟨bd, 5, none⟩ (.int .i64 ((g'.swp : Int) + 2))).setCell ⟨b, o + (g'.swp + 1) * 2, none⟩ (.slice none 0 0)).setCell ⟨b, o + (g'.swp + 1) * 2 + 1, none⟩ (.int .i64 0)) F ∧ g.sweep = (((g'.swp + 1 : Nat) : Int), g'.free)) ∧
      (g'.col (g'.swp + 1) = 3 → Dswp W ((w1.setCell ⟨bd, 5, none⟩ (.int .i64 ((g'.swp : Int) + 2))).setCell ⟨b, o + (g'.swp + 1) * 2 + 1, none⟩ (.int .i64 1)) F bd g g'.next) ∧
      (g'.col (g'.swp + 1) = 0 → Dswp W (w1.setCell ⟨bd, 5, none⟩ (.int .i64 ((g'.swp : Int) + 2))) F bd g g'.next)) ∧
    (¬ g'.swp < g'.n → Goes (DmA bd g'.ends) W ((w1.setCell ⟨bd, 3, none⟩ (.int .i64 0)).setCell ⟨bd, 6, none⟩ (.int .i64 (wrap64 (g'.cyc + 1)))) F ∧ g.sweep = (0, g'.ends)) := by
  obtain ⟨F1, ⟨vo, vr, vq, f, T, sw, d⟩, c, n⟩ := h.goes
  obtain ⟨b, o, cap, ev, _, hcm, hc⟩ := d.objs
  obtain ⟨x0, x1, x2, x3, x4, x5, x6, xf⟩ := d.facts
  have hsw := d.sws h.ph
  subst hsw
  rw [ev, h.n] at x0
  rw [h.ph] at x3
  obtain ⟨b2, o2, cap2, ev2, _, _, _, bf⟩ := d.lo.elem obE_ok (i := 0) (by rw [obs_len]; omega)
  rw [ev] at ev2
  injection ev2 with q1 q2 q3
  injection q1 with q1
  injection q1 with q1 q1' _
  subst q1 q1'
  refine ⟨b, o, cap, x0, hcm, x5, xf 5, x3, xf 3, x6, xf 6, fun hlt => ?_, fun hge => ?_⟩
  · obtain ⟨y, y1⟩ := hc (g'.swp + 1) (by omega) (by omega)
    have bne := (d.bv (b := b) (by rw [ev]; rfl)).1
    have c5 := Cha.at w1 bd 5 (.int .i64 ((g'.swp : Int) + 2))
    have d5 := d.header (g' := { g' with swp := g'.swp + 1 }) (vq' := vq) (sw' := (g'.swp : Int) + 2) c5 (by rw [heap_setCell_same w1 bd 5 _ 52 _ d.head]; rfl) rfl rfl rfl rfl (.inl ⟨rfl, rfl⟩) (fun _ => by show _ = ((g'.swp + 1 : Nat) : Int) + 1; omega)
    have c5F : Cha F1 w1 (w1.setCell ⟨bd, 5, none⟩ (.int .i64 ((g'.swp : Int) + 2))) := c5.mono fun i _ e => e ▸ d.tg.2
    have hm : g'.n - g'.swp = (g'.n - (g'.swp + 1)) + 1 := by omega
    have ho := h.out
    rw [hm, sweepN_succ] at ho
    refine ⟨fun e => bne e.symm, ⟨_, y⟩, y1, bf _, bf _, fun h1 => ?_, fun h3 => ?_, fun h0 => ?_⟩
    · obtain ⟨r1, r2⟩ := d5.wipe ev (id := g'.swp + 1) (by omega) (by show _ ≤ g'.n; omega)
      rw [if_pos h1] at ho
      exact ⟨⟨F1, r1.a, c.over (c5F.trans r2) n, n⟩, ho⟩
    · obtain ⟨r1, r2⟩ := d5.paint ev (id := g'.swp + 1) (c := 1) (by omega) (by show _ ≤ g'.n; omega) (by show g'.col _ ≠ 0; omega) (by decide)
      rw [if_neg (by omega)] at ho
      have en : g'.next = { g' with col := up g'.col (g'.swp + 1) 1, swp := g'.swp + 1 } := by unfold Gr.next; rw [if_neg (by omega)]
      have eg : ∀ id, g'.next.col id ≠ 2 ∧ g'.next.col id ≤ 3 := fun id => by
        rw [en]
        show up g'.col (g'.swp + 1) 1 id ≠ 2 ∧ up g'.col (g'.swp + 1) 1 id ≤ 3
        unfold up
        split
        · exact ⟨by decide, by decide⟩
        · exact h.grey id
      rw [en] at ho eg ⊢
      exact ⟨⟨F1, r1.a, c.over (c5F.trans r2) n, n⟩, h.ph, h.n, by show g'.swp + 1 ≤ g'.n; omega, eg, ho⟩
    · rw [if_neg (by omega)] at ho
      have en : g'.next = { g' with swp := g'.swp + 1 } := by unfold Gr.next; rw [if_pos h0]
      rw [en] at ho ⊢
      exact ⟨⟨F1, d5.a, c.over c5F n, n⟩, h.ph, h.n, by show g'.swp + 1 ≤ g'.n; omega, h.grey, ho⟩
  · have ho := h.out
    rw [show g'.n - g'.swp = 0 by omega] at ho
    have c5 := (Cha.at w1 bd 3 (.int .i64 0)).trans (Cha.at _ bd 6 (.int .i64 (wrap64 (g'.cyc + 1))))
    have d5 := d.header (g' := g'.ends) (vq' := vq) (sw' := (g'.swp : Int) + 1) c5 (by rw [heap_setCell_same _ bd 6 _ 52 _ (heap_setCell_same w1 bd 3 _ 52 _ d.head)]; rfl) rfl rfl rfl rfl (.inl ⟨rfl, rfl⟩) (fun _ => rfl)
    exact ⟨⟨F1, d5.a, c.over (c5.mono fun i _ e => e ▸ d.tg.2) n, n⟩, ho⟩
end Go.Proofs.Ytllefljimkmbhaa
