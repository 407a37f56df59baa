/- The document's graph: an object more. -/
import Derived.Test.YtllefljimkmbhaaEI
namespace Go.Proofs.Ytllefljimkmbhaa
open Go.ChangeShapes Go.WideShapes Go.ChangeAt Go.RowKit
variable {w w' w1 w2 W W' : World} {F S : Nat → Prop} {bd : Nat} {vo vr vq : Value} {f T : Nat → Nat} {g g' : Gr} {sw : Int} {K : Nat → Prop}

/-- A graph with an object more that is no root yet. -/
def Gr.more (g : Gr) (k c : Nat) : Gr := { g with n := g.n + 1, col := up g.col (g.n + 1) c, fs := up g.fs (g.n + 1) (List.replicate k 0) }
theorem add_more (k : Nat) : g.add k = (g.more k (if g.ph = 0 then 1 else 3)).lay (g.n + 1) := rfl
theorem obs_snoc (f : Nat → Nat) (k c x : Nat) (hc : c ≠ 0) : obs (g.more k c) (up f (g.n + 1) x) = obs g f ++ [(some x, k, c)] := by
  unfold obs
  show _ :: (List.range (g.n + 1)).map _ = _
  rw [List.range_succ, List.map_append, List.cons_append]
  congr 2
  · refine List.map_congr_left fun i hi => ?_
    have hi := List.mem_range.1 hi
    have e1 : (g.more k c).col (i + 1) = g.col (i + 1) := up_other _ _ (by omega)
    have e2 : (g.more k c).fs (i + 1) = g.fs (i + 1) := up_other _ _ (by omega)
    unfold ob
    rw [e1, e2, up_other _ _ (by omega)]
  · have e1 : (g.more k c).col (g.n + 1) = c := up_same _ _ _
    have e2 : (g.more k c).fs (g.n + 1) = List.replicate k 0 := up_same _ _ _
    rw [List.map_singleton]
    unfold ob
    rw [e1, e2, up_same, if_neg hc, List.length_replicate]
theorem Dm.more (h : Dm w F bd vo vr vq f T g sw) {k c : Nat} {v' : Value} (hc : c ≠ 0) (hout : ∀ id, g.col id ≠ 0 → 1 ≤ id ∧ id ≤ g.n) (r : FRow 3 w1 w.heap.size k (rowV (List.replicate k 0))) (c1 : Cha (fun _ => False) w w1)
    (hA : AppV obE w1 w2 vo (obs g f ++ [(some w.heap.size, k, c)]) v') :
    ∃ F' f' T', Dm (w2.setCell ⟨bd, 0, none⟩ v') F' bd v' vr vq f' T' (g.more k c) sw ∧ Cha F w (w2.setCell ⟨bd, 0, none⟩ v') ∧ ∀ i, F' i → F i ∨ w.heap.size ≤ i := by
  have h1 := h.same c1
  have cA : Cha F w1 w2 := hA.cha.mono fun i _ e => (h.tv i e).2
  have c4 : Cha (fun i => i = bd) w2 (w2.setCell ⟨bd, 0, none⟩ v') := Cha.at w2 bd 0 _
  have hhead : w2.heap[bd]? = _ := (hA.cha.old bd (h1.old _ h1.tg.2) (fun e => (h1.bv e).1 rfl)).trans h1.head
  have hFn : ∀ i, F i → i ≠ w.heap.size := fun i fi e => by have := h.old i fi; omega
  have hvn : vo.ownBlock ≠ some w.heap.size := fun e => hFn _ (h.tv _ e).2 rfl
  have hv2 : ∀ b, v'.ownBlock = some b → vo.ownBlock = some b ∨ w1.heap.size ≤ b := hA.at'
  have hrl := r.lt
  have hvw : v'.ownBlock ≠ some w.heap.size := fun e => by
    rcases hv2 _ e with q | q
    · exact hvn q
    · omega
  have hcs := c1.size
  have nb : ∀ i, F i → vo.ownBlock ≠ some i → v'.ownBlock ≠ some i := fun i fi e e' => by
    rcases hv2 i e' with q | q
    · exact e q
    · have := h.old i fi; omega
  have bdn : bd ≠ w.heap.size := hFn _ h.tg.2
  obtain ⟨T', hT⟩ : ∃ T' : Nat → Nat, T' = fun i => if v'.ownBlock = some i then 1 else if i = w.heap.size then 5 + (g.n + 1) else T i := ⟨_, rfl⟩
  have tt : ∀ i t, T i = t → F i → vo.ownBlock ≠ some i → T' i = t := fun i t e fi q => by rw [hT]; dsimp only; rw [if_neg (nb i fi q), if_neg (hFn i fi)]; exact e
  have colx : ∀ id, id ≤ g.n → up g.col (g.n + 1) c id = g.col id := fun id q => up_other _ _ (by omega)
  have hsz : w1.heap.size ≤ (w2.setCell ⟨bd, 0, none⟩ v').heap.size := Nat.le_trans hA.cha.size c4.size
  refine ⟨fun i => F i ∨ i = w.heap.size ∨ v'.ownBlock = some i, up f (g.n + 1) w.heap.size, T', { head := ?_, lo := ?_, lr := ?_, lq := ?_, fld := fun id a b q => ?_, tg := ⟨tt bd 0 h.tg.1 h.tg.2 (fun q => (h.bv q).1 rfl), .inl h.tg.2⟩, tv := fun b e => ?_, tr := fun b e => ⟨tt b 2 (h.tr b e).1 (h.tr b e).2 (fun q => (h.br e).2.2.1 q), .inl (h.tr b e).2⟩, tq := fun b e => ⟨tt b 3 (h.tq b e).1 (h.tq b e).2 (fun q => (h.bq e).2.2.1 q), .inl (h.tq b e).2⟩, tf := fun id a b q => ?_, sws := h.sws, old := fun i x => ?_ }, (c1.wide.trans cA).trans (c4.mono fun i _ e => e ▸ h.tg.2), fun i x => ?_⟩
  · rw [heap_setCell_same w2 bd 0 _ 52 _ hhead]; rfl
  · rw [obs_snoc f k c _ hc]
    refine hA.lies.cha c4 fun b e x => ?_
    subst x
    exact nb _ h.tg.2 (fun q => (h.bv q).1 rfl) e
  · exact (h1.lr.cha hA.cha fun b e x => (h1.br e).2.2.1 x).cha c4 fun b e x => (h1.br e).1 x
  · exact (h1.lq.cha hA.cha fun b e x => (h1.bq e).2.2.1 x).cha c4 fun b e x => (h1.bq e).1 x
  · show FRow 3 _ (up f (g.n + 1) w.heap.size id) (up g.fs (g.n + 1) (List.replicate k 0) id).length (rowV (up g.fs (g.n + 1) (List.replicate k 0) id))
    by_cases e : id = g.n + 1
    · subst e
      rw [up_same, up_same, List.length_replicate]
      exact c4.row (hA.cha.row r (fun e => hvn e)) (fun e => bdn e.symm)
    · have b2 : id ≤ g.n := by have b : id ≤ g.n + 1 := b; omega
      have q2 : g.col id ≠ 0 := by rw [← colx id b2]; exact q
      rw [up_other _ _ e, up_other _ _ e]
      exact c4.row (hA.cha.row (h1.fld id a b2 q2) (fun e => (h1.bv e).2.1 id a b2 q2 rfl)) (h1.bdf a b2 q2)
  · exact ⟨by rw [hT]; dsimp only; rw [if_pos e], .inr (.inr e)⟩
  · by_cases e : id = g.n + 1
    · subst e
      rw [up_same]
      exact ⟨by rw [hT]; dsimp only; rw [if_neg hvw, if_pos rfl], .inr (.inl rfl)⟩
    · have b2 : id ≤ g.n := by have b : id ≤ g.n + 1 := b; omega
      have q2 : g.col id ≠ 0 := by rw [← colx id b2]; exact q
      rw [up_other _ _ e]
      exact ⟨tt _ _ (h.tf id a b2 q2).1 (h.tf id a b2 q2).2 (fun q => (h.bv q).2.1 id a b2 q2 rfl), .inl (h.tf id a b2 q2).2⟩
  · rcases x with x | x | x
    · have := h.old i x; omega
    · omega
    · exact Nat.lt_of_lt_of_le (hA.lies.lt x) c4.size
  · rcases x with x | x | x
    · exact .inl x
    · exact .inr (by omega)
    · rcases hv2 i x with q | q
      · exact .inl (h.tv i q).2
      · exact .inr (by omega)
end Go.Proofs.Ytllefljimkmbhaa
