/- The document's graph: single changes; Start. -/
import Derived.Test.YtllefljimkmbhaaEC
namespace Go.Proofs.Ytllefljimkmbhaa
open Go.ChangeShapes Go.WideShapes Go.ChangeAt Go.RowKit
variable {w w' w1 W W' : World} {F S : Nat → Prop} {bd : Nat} {vo vr vq : Value} {f T : Nat → Nat} {g g' : Gr} {sw : Int} {K : Nat → Prop}

theorem Dm.bdf (h : Dm w F bd vo vr vq f T g sw) {id : Nat} (a : 1 ≤ id) (b : id ≤ g.n) (k : g.col id ≠ 0) : f id ≠ bd := fun e => by have := (h.tf id a b k).1; rw [e, h.tg.1] at this; omega
theorem Dm.bv (h : Dm w F bd vo vr vq f T g sw) {b : Nat} (e : vo.ownBlock = some b) : b ≠ bd ∧ (∀ id, 1 ≤ id → id ≤ g.n → g.col id ≠ 0 → b ≠ f id) ∧ vr.ownBlock ≠ some b ∧ vq.ownBlock ≠ some b := by
  have t := (h.tv b e).1
  exact ⟨fun c => by rw [c, h.tg.1] at t; omega, fun id k l m c => by rw [c, (h.tf id k l m).1] at t; omega, fun c => by rw [(h.tr b c).1] at t; omega, fun c => by rw [(h.tq b c).1] at t; omega⟩
theorem Dm.br (h : Dm w F bd vo vr vq f T g sw) {b : Nat} (e : vr.ownBlock = some b) : b ≠ bd ∧ (∀ id, 1 ≤ id → id ≤ g.n → g.col id ≠ 0 → b ≠ f id) ∧ vo.ownBlock ≠ some b ∧ vq.ownBlock ≠ some b := by
  have t := (h.tr b e).1
  exact ⟨fun c => by rw [c, h.tg.1] at t; omega, fun id k l m c => by rw [c, (h.tf id k l m).1] at t; omega, fun c => by rw [(h.tv b c).1] at t; omega, fun c => by rw [(h.tq b c).1] at t; omega⟩
theorem Dm.bq (h : Dm w F bd vo vr vq f T g sw) {b : Nat} (e : vq.ownBlock = some b) : b ≠ bd ∧ (∀ id, 1 ≤ id → id ≤ g.n → g.col id ≠ 0 → b ≠ f id) ∧ vo.ownBlock ≠ some b ∧ vr.ownBlock ≠ some b := by
  have t := (h.tq b e).1
  exact ⟨fun c => by rw [c, h.tg.1] at t; omega, fun id k l m c => by rw [c, (h.tf id k l m).1] at t; omega, fun c => by rw [(h.tv b c).1] at t; omega, fun c => by rw [(h.tr b c).1] at t; omega⟩
theorem Dm.ff (h : Dm w F bd vo vr vq f T g sw) {id j : Nat} (a : 1 ≤ id) (b : id ≤ g.n) (k : g.col id ≠ 0) (c : 1 ≤ j) (d : j ≤ g.n) (l : g.col j ≠ 0) (e : id ≠ j) : f id ≠ f j := fun x => by have := (h.tf id a b k).1; rw [x, (h.tf j c d l).1] at this; omega
/-- Only the head changes. -/
theorem Dm.header (h : Dm w F bd vo vr vq f T g sw) (c : Cha (fun i => i = bd) w w') {vq' : Value} {sw' : Int} (hh : w'.heap[bd]? = some (.cells #[vo, vr, vq', .int .i64 g'.ph, .int .i64 g'.thr, .int .i64 sw', .int .i64 g'.cyc] 52 (0, 0)))
    (e1 : g'.n = g.n) (e2 : g'.col = g.col) (e3 : g'.fs = g.fs) (e4 : g'.roots = g.roots) (hq : (vq' = vq ∧ g'.greys = g.greys) ∨ (vq' = .slice none 0 0 ∧ g'.greys = [])) (hs : g'.ph = 2 → sw' = (g'.swp : Int) + 1) : Dm w' F bd vo vr vq' f T g' sw' := by
  have eo : obs g' f = obs g f := by unfold obs ob; rw [e1, e2, e3]
  exact { head := hh, lo := by { rw [eo]; exact h.lo.cha c fun b e x => (h.bv e).1 x }, lr := by { rw [e4]; exact h.lr.cha c fun b e x => (h.br e).1 x },
          lq := by {
            rcases hq with ⟨a, b⟩ | ⟨a, b⟩
            · rw [a, b]; exact h.lq.cha c fun b e x => (h.bq e).1 x
            · rw [a, b]; exact Lies.nil _ _ },
          fld := fun id a b k => by { rw [e1] at b; rw [e2] at k; rw [e3]; exact c.row (h.fld id a b k) (h.bdf a b k) },
          tg := h.tg, tv := h.tv, tr := h.tr, tq := fun b e => by {
            rcases hq with ⟨a, _⟩ | ⟨a, _⟩
            · rw [a] at e; exact h.tq b e
            · rw [a] at e; cases e },
          tf := fun id a b k => by { rw [e1] at b; rw [e2] at k; exact h.tf id a b k }, sws := hs, old := fun i x => Nat.lt_of_lt_of_le (h.old i x) c.size }
/-- The list of grey objects. -/
theorem Dm.onGreys (h : Dm w F bd vo vr vq f T g sw) {L : List Nat} {v' : Value} (hA : AppV inE w w1 vq L v') :
    ∃ F' T', Dm (w1.setCell ⟨bd, 2, none⟩ v') F' bd vo vr v' f T' { g with greys := L } sw ∧ Cha F w (w1.setCell ⟨bd, 2, none⟩ v') ∧ ∀ i, F' i → F i ∨ w.heap.size ≤ i := by
  have cA : Cha F w w1 := hA.cha.mono fun i _ e => (h.tq i e).2
  have c4 : Cha (fun i => i = bd) w1 (w1.setCell ⟨bd, 2, none⟩ v') := Cha.at w1 bd 2 _
  have hhead : w1.heap[bd]? = _ := (hA.cha.old bd (h.old _ h.tg.2) (fun e => (h.bq e).1 rfl)).trans h.head
  have nb : ∀ i, F i → vq.ownBlock ≠ some i → v'.ownBlock ≠ some i := fun i fi e e' => by
    rcases hA.at' i e' with k | k
    · exact e k
    · have := h.old i fi; omega
  have tt : ∀ i t, T i = t → F i → vq.ownBlock ≠ some i → (if v'.ownBlock = some i then 3 else T i) = t := fun i t e fi k => by rw [if_neg (nb i fi k)]; exact e
  refine ⟨fun i => F i ∨ v'.ownBlock = some i, fun i => if v'.ownBlock = some i then 3 else T i, { head := ?_, lo := ?_, lr := ?_, lq := ?_, fld := fun id a b k => ?_, tg := ?_, tv := fun b e => ?_, tr := fun b e => ?_, tq := fun b e => ?_, tf := fun id a b k => ?_, sws := h.sws, old := fun i x => ?_ }, cA.trans (c4.mono fun i _ e => e ▸ h.tg.2), fun i x => ?_⟩
  · rw [heap_setCell_same w1 bd 2 _ 52 _ hhead]; rfl
  · exact (h.lo.cha hA.cha fun b e x => (h.bv e).2.2.2 x).cha c4 fun b e x => (h.bv e).1 x
  · exact (h.lr.cha hA.cha fun b e x => (h.br e).2.2.2 x).cha c4 fun b e x => (h.br e).1 x
  · refine hA.lies.cha c4 fun b e x => ?_
    subst x
    exact nb _ h.tg.2 (fun k => (h.bq k).1 rfl) e
  · exact c4.row (hA.cha.row (h.fld id a b k) (fun e => (h.bq e).2.1 id a b k rfl)) (h.bdf a b k)
  · exact ⟨tt bd 0 h.tg.1 h.tg.2 (fun k => (h.bq k).1 rfl), .inl h.tg.2⟩
  · exact ⟨tt b 1 (h.tv b e).1 (h.tv b e).2 (fun k => (h.bv e).2.2.2 k), .inl (h.tv b e).2⟩
  · exact ⟨tt b 2 (h.tr b e).1 (h.tr b e).2 (fun k => (h.br e).2.2.2 k), .inl (h.tr b e).2⟩
  · exact ⟨if_pos e, .inr e⟩
  · exact ⟨tt _ _ (h.tf id a b k).1 (h.tf id a b k).2 (fun e => (h.bq e).2.1 id a b k rfl), .inl (h.tf id a b k).2⟩
  · rcases x with x | x
    · exact Nat.lt_of_lt_of_le (h.old i x) (Nat.le_trans hA.cha.size c4.size)
    · exact Nat.lt_of_lt_of_le (hA.lies.lt x) c4.size
  · rcases x with x | x
    · exact .inl x
    · exact (hA.at' i x).imp (fun e => (h.tq i e).2) id
/-- The roots' list. -/
theorem Dm.onRoots (h : Dm w F bd vo vr vq f T g sw) {L : List Nat} {v' : Value} (l : Lies inE w1 v' L) (c1 : Cha (fun i => vr.ownBlock = some i) w w1) (hat : ∀ b, v'.ownBlock = some b → vr.ownBlock = some b ∨ w.heap.size ≤ b) :
    ∃ F' T', Dm (w1.setCell ⟨bd, 1, none⟩ v') F' bd vo v' vq f T' { g with roots := L } sw ∧ Cha F w (w1.setCell ⟨bd, 1, none⟩ v') ∧ ∀ i, F' i → F i ∨ w.heap.size ≤ i := by
  have cA : Cha F w w1 := c1.mono fun i _ e => (h.tr i e).2
  have c4 : Cha (fun i => i = bd) w1 (w1.setCell ⟨bd, 1, none⟩ v') := Cha.at w1 bd 1 _
  have hhead : w1.heap[bd]? = _ := (c1.old bd (h.old _ h.tg.2) (fun e => (h.br e).1 rfl)).trans h.head
  have nb : ∀ i, F i → vr.ownBlock ≠ some i → v'.ownBlock ≠ some i := fun i fi e e' => by
    rcases hat i e' with k | k
    · exact e k
    · have := h.old i fi; omega
  have tt : ∀ i t, T i = t → F i → vr.ownBlock ≠ some i → (if v'.ownBlock = some i then 2 else T i) = t := fun i t e fi k => by rw [if_neg (nb i fi k)]; exact e
  refine ⟨fun i => F i ∨ v'.ownBlock = some i, fun i => if v'.ownBlock = some i then 2 else T i, { head := ?_, lo := ?_, lr := ?_, lq := ?_, fld := fun id a b k => ?_, tg := ?_, tv := fun b e => ?_, tr := fun b e => ?_, tq := fun b e => ?_, tf := fun id a b k => ?_, sws := h.sws, old := fun i x => ?_ }, cA.trans (c4.mono fun i _ e => e ▸ h.tg.2), fun i x => ?_⟩
  · rw [heap_setCell_same w1 bd 1 _ 52 _ hhead]; rfl
  · exact (h.lo.cha c1 fun b e x => (h.bv e).2.2.1 x).cha c4 fun b e x => (h.bv e).1 x
  · refine l.cha c4 fun b e x => ?_
    subst x
    exact nb _ h.tg.2 (fun k => (h.br k).1 rfl) e
  · exact (h.lq.cha c1 fun b e x => (h.bq e).2.2.2 x).cha c4 fun b e x => (h.bq e).1 x
  · exact c4.row (c1.row (h.fld id a b k) (fun e => (h.br e).2.1 id a b k rfl)) (h.bdf a b k)
  · exact ⟨tt bd 0 h.tg.1 h.tg.2 (fun k => (h.br k).1 rfl), .inl h.tg.2⟩
  · exact ⟨tt b 1 (h.tv b e).1 (h.tv b e).2 (fun k => (h.bv e).2.2.1 k), .inl (h.tv b e).2⟩
  · exact ⟨if_pos e, .inr e⟩
  · exact ⟨tt b 3 (h.tq b e).1 (h.tq b e).2 (fun k => (h.bq e).2.2.2 k), .inl (h.tq b e).2⟩
  · exact ⟨tt _ _ (h.tf id a b k).1 (h.tf id a b k).2 (fun e => (h.br e).2.1 id a b k rfl), .inl (h.tf id a b k).2⟩
  · rcases x with x | x
    · exact Nat.lt_of_lt_of_le (h.old i x) (Nat.le_trans c1.size c4.size)
    · exact Nat.lt_of_lt_of_le (l.lt x) c4.size
  · rcases x with x | x
    · exact .inl x
    · exact (hat i x).imp (fun e => (h.tr i e).2) id
/-- An object's colour. -/
theorem Dm.paint (h : Dm w F bd vo vr vq f T g sw) {b o n cap : Nat} (ev : vo = .slice (some ⟨b, o, none⟩) n cap) {id c : Nat} (h1 : 1 ≤ id) (h2 : id ≤ g.n) (hk : g.col id ≠ 0) (hc : c ≠ 0) :
    Dm (w.setCell ⟨b, o + id * 2 + 1, none⟩ (.int .i64 c)) F bd vo vr vq f T { g with col := up g.col id c } sw ∧ Cha F w (w.setCell ⟨b, o + id * 2 + 1, none⟩ (.int .i64 c)) := by
  have eb : vo.ownBlock = some b := by rw [ev]; rfl
  have c4 : Cha (fun i => i = b) w (w.setCell ⟨b, o + id * 2 + 1, none⟩ (.int .i64 c)) := Cha.at w b _ _
  have hb := h.bv eb
  have colx : ∀ j, up g.col id c j ≠ 0 ↔ g.col j ≠ 0 := fun j => by
    unfold up
    by_cases e : j = id
    · rw [if_pos e, e]; exact ⟨fun _ => hk, fun _ => hc⟩
    · rw [if_neg e]
  have hlo : Lies obE (w.setCell ⟨b, o + id * 2 + 1, none⟩ (.int .i64 c)) vo (obs { g with col := up g.col id c } f) := by
    rcases h.lo with ⟨e, _⟩ | ⟨b', o', cap', cur, e, a1, a2, a3, a4, a5⟩
    · exact absurd e (by unfold obs; simp)
    · rw [ev] at e
      injection e with f1 f2 f3
      injection f1 with f1
      injection f1 with f1 f1' _
      subst f1 f1' f3
      have el : (obs { g with col := up g.col id c } f).length = (obs g f).length := by rw [obs_len, obs_len]
      have ek : obE.k = 2 := rfl
      refine .inr ⟨b, o, cap, cur.setIfInBounds (o + id * 2 + 1) (.int .i64 c), by rw [el, ev, f2], by rw [el]; exact a1, a2, ?_, by rw [Array.size_setIfInBounds]; exact a4, fun i hi => ?_⟩
      · rw [heap_setCell_same w b _ _ _ _ a3]
      · rw [el] at hi
        have hi0 := hi
        rw [ek, obs_len] at hi
        rw [obs_len, ek] at a5
        have sz : o + i < cur.size := by rw [ek] at a4; rw [obs_len] at a1; omega
        obtain ⟨q, r, hr, rfl⟩ : ∃ q r, r < 2 ∧ i = q * 2 + r := ⟨i / 2, i % 2, Nat.mod_lt _ (by decide), by omega⟩
        have hq : q < g.n + 1 := by omega
        have e1 := obE_ok.cs_get (obs { g with col := up g.col id c } f) (i := q) (j := r) (by rw [obs_len]; exact hq) hr
        have e2 := obE_ok.cs_get (obs g f) (i := q) (j := r) (by rw [obs_len]; exact hq) hr
        rw [ek] at e1 e2
        rw [e1]
        have e3 := a5 (q * 2 + r) hi
        rw [e2] at e3
        by_cases hqi : q = id
        · subst hqi
          have g1 := obs_get (g := { g with col := up g.col q c }) f h1 h2
          have g2 := obs_get (g := g) f h1 h2
          rw [List.getElem?_eq_getElem (by rw [obs_len]; exact hq)] at g1 g2
          injection g1 with g1
          injection g2 with g2
          rw [g1]
          rw [g2] at e3
          have o1 : ob { g with col := up g.col q c } f q = (some (f q), (g.fs q).length, c) := by
            unfold ob
            rw [if_neg ((colx q).2 hk)]
            show (some (f q), (g.fs q).length, up g.col q c q) = _
            rw [up_same]
          have o2 : ob g f q = (some (f q), (g.fs q).length, g.col q) := by unfold ob; rw [if_neg hk]
          rw [o1]
          rw [o2] at e3
          match r, hr with
          | 0, _ =>
            rw [Array.getElem?_setIfInBounds_ne (by omega), e3]
            rfl
          | 1, _ =>
            rw [show o + (q * 2 + 1) = o + q * 2 + 1 by omega] at sz ⊢
            rw [Array.getElem?_setIfInBounds_self_of_lt sz]
            rfl
        · rw [Array.getElem?_setIfInBounds_ne (by omega), e3]
          congr 1
          congr 1
          by_cases q0 : q = 0
          · subst q0; rfl
          · have g1 := obs_get (g := { g with col := up g.col id c }) f (show 1 ≤ q by omega) (show q ≤ g.n by omega)
            have g2 := obs_get (g := g) f (show 1 ≤ q by omega) (show q ≤ g.n by omega)
            rw [List.getElem?_eq_getElem (by rw [obs_len]; exact hq)] at g1 g2
            injection g1 with g1
            injection g2 with g2
            rw [g1, g2]
            unfold ob
            show _ = if up g.col id c q = 0 then _ else (_, _, up g.col id c q)
            rw [up_other _ _ hqi]
  refine ⟨{ head := (c4.old bd (h.old _ h.tg.2) (fun e => hb.1 e.symm)).trans h.head, lo := hlo, lr := h.lr.cha c4 fun b' e x => hb.2.2.1 (x ▸ e), lq := h.lq.cha c4 fun b' e x => hb.2.2.2 (x ▸ e),
            fld := fun j a d k => c4.row (h.fld j a d ((colx j).1 k)) (fun e => hb.2.1 j a d ((colx j).1 k) e.symm), tg := h.tg, tv := h.tv, tr := h.tr, tq := h.tq, tf := fun j a d k => h.tf j a d ((colx j).1 k), sws := h.sws, old := fun i x => Nat.lt_of_lt_of_le (h.old i x) c4.size }, c4.mono fun i _ e => e ▸ (h.tv b eb).2⟩
end Go.Proofs.Ytllefljimkmbhaa
