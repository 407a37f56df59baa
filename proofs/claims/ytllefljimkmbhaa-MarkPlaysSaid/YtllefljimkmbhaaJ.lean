/- Contracts of mark: New, Add; an object that goes. -/
import Derived.Test.YtllefljimkmbhaaI
namespace Go.Proofs.Ytllefljimkmbhaa
open Go.ChangeShapes Go.WideShapes Go.ChangeAt Go.RowKit
variable {w w' w1 w2 w3 W W' : World} {F S : Nat → Prop} {bg : Nat} {vo vr vq : Value} {q f T : Nat → Nat} {g g' : Gr} {lv : Int} {rt rt' : Nat → Int} {K : Nat → Prop}

/-- An object's pointer is taken out. -/
theorem Pm.gone (h : Pm w F bg vo vr vq q f T g lv rt) {b o n cap i : Nat} (e : vo = .slice (some ⟨b, o, none⟩) n cap) (hi : i < g.n) :
    Pm (w.setCell ⟨b, o + i, none⟩ (.pointer none)) F bg vo vr vq q f T { g with col := up g.col (i + 1) 0 } lv rt ∧ Cha F w (w.setCell ⟨b, o + i, none⟩ (.pointer none)) := by
  have hz : ∀ j, up g.col (i + 1) 0 j ≠ 0 → j ≠ i + 1 ∧ g.col j ≠ 0 := fun j k => by unfold up at k; split at k; exact absurd rfl k; rename_i c; exact ⟨c, k⟩
  have ob : vo.ownBlock = some b := by rw [e]; rfl
  have cc : Cha (fun i => i = b) w (w.setCell ⟨b, o + i, none⟩ (.pointer none)) := Cha.at w b (o + i) _
  have hb := h.bo ob
  refine ⟨{ head := (cc.old bg (h.old _ h.tg.2) (fun x => hb.1 x.symm)).trans h.head, los := ?_, lrs := h.lrs.cha cc fun c k x => hb.2.2.1 (x ▸ k), lqs := h.lqs.cha cc fun c k x => hb.2.2.2 (x ▸ k), obj := fun j l => ?_, fld := fun j l => ?_, tg := h.tg, tv := h.tv, tr := h.tr, tq := h.tq, tob := fun j l => h.tob j (hz j l).2, tf := fun j l => h.tf j (hz j l).2, sz := ?_, old := fun i x => Nat.lt_of_lt_of_le (h.old i x) cc.size }, cc.mono fun i _ x => x ▸ (h.tv b ob).2⟩
  · rcases h.los with ⟨e1, _⟩ | ⟨b', o', cap', cur, e1, h1, h2, h3, h4, h5⟩
    · exfalso
      have := congrArg List.length e1
      rw [ptrs_len] at this
      simp at this
      omega
    · rw [ptrs_len] at e1 h1 h5
      rw [e] at e1
      injection e1 with a1 a2 a3
      injection a1 with a1
      injection a1 with a1 a1' _
      subst a1 a1' a3
      have e2 := heap_setCell_same w b (o + i) cur 72 (.pointer none) h3
      refine .inr ⟨b, o, cap, _, by rw [ptrs_len, e, a2], by rw [ptrs_len]; exact h1, h2, e2, by rw [Array.size_setIfInBounds]; exact h4, fun x hx => ?_⟩
      rw [ptrs_len] at hx
      have hx : x < g.n := by have : g.n * ptE.k = g.n := Nat.mul_one _; have hx' : x < g.n * ptE.k := hx; omega
      have hc : o + i < cur.size := by have : cap * ptE.k = cap := Nat.mul_one _; omega
      have ce : ∀ (c : Nat → Nat), (ptE.cs (ptrs g.n c q))[x]? = some (ptV (if c (x + 1) = 0 then none else some (q (x + 1)))) := fun c => by
        have := ptE_ok.cs_get (ptrs g.n c q) (i := x) (j := 0) (by rw [ptrs_len]; exact hx) (by decide)
        have ek : x * ptE.k + 0 = x := Nat.mul_one _
        rw [ek] at this
        rw [this]
        have hg := ptrs_get c q hx
        rw [List.getElem?_eq_getElem (by rw [ptrs_len]; exact hx)] at hg
        injection hg with hg
        rw [hg]; rfl
      rw [ce, Array.getElem?_setIfInBounds]
      by_cases c : i = x
      · subst c
        rw [if_pos rfl, if_pos hc, if_pos (up_same _ _ _)]
        rfl
      · rw [if_neg (by omega), h5 x (by have : g.n * ptE.k = g.n := Nat.mul_one _; omega), ce]
        show some (ptV (if g.col (x + 1) = 0 then none else some (q (x + 1)))) = some (ptV (if up g.col (i + 1) 0 (x + 1) = 0 then none else some (q (x + 1))))
        rw [up_other _ _ (by omega)]
  · obtain ⟨l1, l2⟩ := hz j l
    rw [cc.old _ (h.old _ (h.tob j l2).2) (fun x => (hb.2.1 j l2).1 x.symm), h.obj j l2]
    unfold Gr.cells
    show _ = some (Obj.cells #[.int .i64 ((up g.col (i + 1) 0 j - 1 : Nat) : Int), _, _] 74 (0, 0))
    rw [up_other _ _ l1]
  · exact cc.row (h.fld j (hz j l).2) (fun x => (hb.2.1 j (hz j l).2).2 x.symm)
  · have s := h.sz
    exact ⟨s.n, s.r, s.q, s.f, s.thr, s.swp, s.ph, fun j => by show up g.col (i + 1) 0 j ≤ 3; unfold up; split; exact Nat.zero_le _; exact s.c3 j, fun j l => s.out j (hz j l).2⟩
def Gr.born (g : Gr) (k c : Nat) : Gr := { g with n := g.n + 1, col := up g.col (g.n + 1) c, fs := up g.fs (g.n + 1) (List.replicate k 0) }
theorem ptrs_snoc (n : Nat) (col q : Nat → Nat) (c x : Nat) (hc : c ≠ 0) : ptrs (n + 1) (up col (n + 1) c) (up q (n + 1) x) = ptrs n col q ++ [some x] := by
  unfold ptrs
  rw [List.range_succ, List.map_append]
  congr 1
  · refine List.map_congr_left fun i hi => ?_
    have hi := List.mem_range.1 hi
    rw [up_other _ _ (by omega), up_other _ _ (by omega)]
  · show [if up col (n + 1) c (n + 1) = 0 then none else some (up q (n + 1) x (n + 1))] = _
    rw [up_same, up_same, if_neg hc]
/-- An object more: its fields' block is w's next one, its own the one behind that. -/
theorem Pm.push (h : Pm w F bg vo vr vq q f T g lv rt) {k c : Nat} {v' : Value} (hk : k ≤ 16) (hc : 1 ≤ c) (hc3 : c ≤ 3) (hn : g.n < 4096) (c2 : Cha (fun _ => False) w w2) (hsz : w2.heap.size = w.heap.size + 2)
    (r1 : FRow 3 w2 w.heap.size k (rowV (List.replicate k 0))) (r2 : w2.heap[w.heap.size + 1]? = some (.cells #[.int .i64 ((c - 1 : Nat) : Int), .slice (some ⟨w.heap.size, 0, none⟩) k k, .int .i64 (rt (g.n + 1))] 74 (0, 0)))
    (hA : AppV ptE w2 w3 vo (ptrs g.n g.col q ++ [some (w.heap.size + 1)]) v') :
    ∃ F' T', Pm (w3.setCell ⟨bg, 2, none⟩ v') F' bg v' vr vq (up q (g.n + 1) (w.heap.size + 1)) (up f (g.n + 1) w.heap.size) T' (g.born k c) lv rt ∧ Cha F w (w3.setCell ⟨bg, 2, none⟩ v') ∧ ∀ i, F' i → F i ∨ w.heap.size ≤ i := by
  have hnew : g.col (g.n + 1) = 0 := out_zero h.sz (by omega)
  have hcol : ∀ j, (g.born k c).col j ≠ 0 → (j = g.n + 1) ∨ (j ≠ g.n + 1 ∧ g.col j ≠ 0) := fun j l => by
    have l : up g.col (g.n + 1) c j ≠ 0 := l
    unfold up at l; split at l
    · rename_i e; exact .inl e
    · rename_i e; exact .inr ⟨e, l⟩
  have h2 := h.same c2
  have cA : Cha F w2 w3 := hA.cha.mono fun i _ e => (h.tv i e).2
  have c4 : Cha (fun i => i = bg) w3 (w3.setCell ⟨bg, 2, none⟩ v') := Cha.at w3 bg 2 _
  have hbl := h.old _ h.tg.2
  have hhead : w3.heap[bg]? = some (.cells (g.head lv vo vr vq) 71 (0, 0)) := (hA.cha.old bg (h2.old _ h2.tg.2) (fun e => (h2.bo e).1 rfl)).trans h2.head
  have nv : ∀ i, w.heap.size ≤ i → vo.ownBlock ≠ some i := fun i hi e => by have := h.old _ (h.tv i e).2; omega
  have at2 : ∀ i, v'.ownBlock = some i → vo.ownBlock = some i ∨ w.heap.size + 2 ≤ i := fun i e => (hA.at' i e).imp id fun k => by omega
  have nb : ∀ i, F i → vo.ownBlock ≠ some i → v'.ownBlock ≠ some i := fun i fi e e' => by
    rcases at2 i e' with k | k
    · exact e k
    · have := h.old i fi; omega
  obtain ⟨T', hT'⟩ : ∃ T' : Nat → Nat, T' = fun i => if v'.ownBlock = some i then 1 else if i = w.heap.size + 1 then 4 + 2 * (g.n + 1) else if i = w.heap.size then 5 + 2 * (g.n + 1) else T i := ⟨_, rfl⟩
  have tt : ∀ i t, T i = t → F i → vo.ownBlock ≠ some i → T' i = t := fun i t e fi l => by
    have := h.old i fi
    subst hT'
    show (if v'.ownBlock = some i then 1 else if i = w.heap.size + 1 then _ else if i = w.heap.size then _ else T i) = t
    rw [if_neg (nb i fi l), if_neg (by omega), if_neg (by omega)]; exact e
  have tq : T' (w.heap.size + 1) = 4 + 2 * (g.n + 1) := by
    subst hT'
    show (if v'.ownBlock = some (w.heap.size + 1) then 1 else if w.heap.size + 1 = w.heap.size + 1 then _ else _) = _
    rw [if_neg (fun e => by rcases at2 _ e with k | k; exact nv _ (by omega) k; omega), if_pos rfl]
  have tf : T' w.heap.size = 5 + 2 * (g.n + 1) := by
    subst hT'
    show (if v'.ownBlock = some w.heap.size then 1 else if w.heap.size = w.heap.size + 1 then _ else if w.heap.size = w.heap.size then _ else _) = _
    rw [if_neg (fun e => by rcases at2 _ e with k | k; exact nv _ (by omega) k; omega), if_neg (by omega), if_pos rfl]
  have t1 : ∀ b, v'.ownBlock = some b → T' b = 1 := fun b e => by subst hT'; show (if v'.ownBlock = some b then 1 else _) = 1; rw [if_pos e]
  refine ⟨fun i => F i ∨ v'.ownBlock = some i ∨ i = w.heap.size + 1 ∨ i = w.heap.size, T', { head := ?_, los := ?_, lrs := ?_, lqs := ?_, obj := fun j l => ?_, fld := fun j l => ?_, tg := ?_, tv := fun b e => ⟨t1 b e, .inr (.inl e)⟩, tr := fun b e => ?_, tq := fun b e => ?_, tob := fun j l => ?_, tf := fun j l => ?_, sz := ?_, old := fun i x => ?_ }, (c2.wide.trans cA).trans (c4.mono fun i _ e => e ▸ h.tg.2), fun i x => ?_⟩
  · rw [heap_setCell_same w3 bg 2 _ 71 _ hhead]; rfl
  · show Lies ptE _ v' (ptrs (g.n + 1) (up g.col (g.n + 1) c) (up q (g.n + 1) (w.heap.size + 1)))
    rw [ptrs_snoc _ _ _ _ _ (by omega)]
    refine hA.lies.cha c4 fun b e x => ?_
    subst x
    exact nb _ h.tg.2 (fun k => (h.bo k).1 rfl) e
  · exact (h2.lrs.cha hA.cha fun b e x => (h2.br e).2.2.1 x).cha c4 fun b e x => (h2.br e).1 x
  · exact (h2.lqs.cha hA.cha fun b e x => (h2.bq e).2.2.1 x).cha c4 fun b e x => (h2.bq e).1 x
  · rcases hcol j l with e | ⟨e, l'⟩
    · subst e
      rw [up_same]
      have x1 : w3.heap[w.heap.size + 1]? = _ := (hA.cha.old _ (by omega) (nv _ (by omega))).trans r2
      rw [(c4.old _ (by have := hA.cha.size; omega) (by omega)), x1]
      unfold Gr.cells Gr.born
      show _ = some (Obj.cells #[.int .i64 ((up g.col (g.n + 1) c (g.n + 1) - 1 : Nat) : Int), .slice (some ⟨up f (g.n + 1) w.heap.size (g.n + 1), 0, none⟩) (up g.fs (g.n + 1) (List.replicate k 0) (g.n + 1)).length (up g.fs (g.n + 1) (List.replicate k 0) (g.n + 1)).length, .int .i64 (rt (g.n + 1))] 74 (0, 0))
      rw [up_same, up_same, up_same, List.length_replicate]
    · rw [up_other _ _ e]
      have x1 : w3.heap[q j]? = _ := (hA.cha.old _ (h2.old _ (h2.tob j l').2) (fun y => ((h2.bo y).2.1 j l').1 rfl)).trans (h2.obj j l')
      rw [(c4.old _ (by have := h2.old _ (h2.tob j l').2; have := hA.cha.size; omega) (h.bgq l')), x1]
      unfold Gr.cells Gr.born
      show _ = some (Obj.cells #[.int .i64 ((up g.col (g.n + 1) c j - 1 : Nat) : Int), .slice (some ⟨up f (g.n + 1) w.heap.size j, 0, none⟩) (up g.fs (g.n + 1) (List.replicate k 0) j).length (up g.fs (g.n + 1) (List.replicate k 0) j).length, .int .i64 (rt j)] 74 (0, 0))
      rw [up_other _ _ e, up_other _ _ e, up_other _ _ e]
  · rcases hcol j l with e | ⟨e, l'⟩
    · subst e
      show FRow 3 _ (up f (g.n + 1) w.heap.size (g.n + 1)) (up g.fs (g.n + 1) (List.replicate k 0) (g.n + 1)).length (rowV (up g.fs (g.n + 1) (List.replicate k 0) (g.n + 1)))
      rw [up_same, up_same, List.length_replicate]
      exact c4.row (hA.cha.row r1 (nv _ (Nat.le_refl _))) (by omega)
    · show FRow 3 _ (up f (g.n + 1) w.heap.size j) (up g.fs (g.n + 1) (List.replicate k 0) j).length (rowV (up g.fs (g.n + 1) (List.replicate k 0) j))
      rw [up_other _ _ e, up_other _ _ e]
      exact c4.row (hA.cha.row (h2.fld j l') (fun y => ((h2.bo y).2.1 j l').2 rfl)) (h.bgf l')
  · exact ⟨tt bg 0 h.tg.1 h.tg.2 (fun k => (h.bo k).1 rfl), .inl h.tg.2⟩
  · exact ⟨tt b 2 (h.tr b e).1 (h.tr b e).2 (fun k => (h.br e).2.2.1 k), .inl (h.tr b e).2⟩
  · exact ⟨tt b 3 (h.tq b e).1 (h.tq b e).2 (fun k => (h.bq e).2.2.1 k), .inl (h.tq b e).2⟩
  · rcases hcol j l with e | ⟨e, l'⟩
    · subst e; rw [up_same]; exact ⟨tq, .inr (.inr (.inl rfl))⟩
    · rw [up_other _ _ e]; exact ⟨tt _ _ (h.tob j l').1 (h.tob j l').2 (fun y => ((h.bo y).2.1 j l').1 rfl), .inl (h.tob j l').2⟩
  · rcases hcol j l with e | ⟨e, l'⟩
    · subst e; rw [up_same]; exact ⟨tf, .inr (.inr (.inr rfl))⟩
    · rw [up_other _ _ e]; exact ⟨tt _ _ (h.tf j l').1 (h.tf j l').2 (fun y => ((h.bo y).2.1 j l').2 rfl), .inl (h.tf j l').2⟩
  · have s := h.sz
    refine ⟨hn, s.r, s.q, fun j => ?_, s.thr, by have := s.swp; show g.swp ≤ g.n + 1; omega, s.ph, fun j => ?_, fun j l => ?_⟩
    · show (up g.fs (g.n + 1) (List.replicate k 0) j).length ≤ 16
      unfold up; split; (rw [List.length_replicate]; exact hk); exact s.f j
    · show up g.col (g.n + 1) c j ≤ 3
      unfold up; split; exact hc3; exact s.c3 j
    · show 1 ≤ j ∧ j ≤ g.n + 1
      rcases hcol j l with e | ⟨_, e⟩
      · omega
      · have := s.out j e; omega
  · have z1 := hA.cha.size
    have z2 := c4.size
    rcases x with x | x | x | x
    · have := h.old i x; omega
    · exact Nat.lt_of_lt_of_le (hA.lies.lt x) z2
    · omega
    · omega
  · rcases x with x | x | x | x
    · exact .inl x
    · exact (at2 i x).imp (fun e => (h.tv i e).2) fun e => by omega
    · exact .inr (by omega)
    · exact .inr (by omega)
theorem new_any (W : World) : Calls Try.prog 9 #[] W fun e W' => ∃ bg, e = .returned (.pointer (some ⟨bg, 0, none⟩)) ∧ Mine W (PgA bg Gr.new) W' := by
  have HN : Hid (Mine W (PgA W.heap.size Gr.new) (W.alloc (.cells #[.int .i64 0, .int .i64 0, .slice none 0 0, .int .i64 0, .slice none 0 0, .int .i64 0, .slice none 0 0, .int .i64 0] 71))) := Lib.hid (by
    refine ⟨fun i => i = W.heap.size, ⟨⟨_, inv_new⟩, .slice none 0 0, .slice none 0 0, .slice none 0 0, fun _ => 0, fun _ => 0, fun _ => 0, { head := heap_alloc_new W _, los := Lies.nil _ _, lrs := Lies.nil _ _, lqs := Lies.nil _ _, obj := fun id k => absurd rfl k, fld := fun id k => absurd rfl k, tg := ⟨rfl, rfl⟩, tv := fun b e => by { cases e }, tr := fun b e => by { cases e }, tq := fun b e => by { cases e }, tob := fun id k => absurd rfl k, tf := fun id k => absurd rfl k, sz := inv_new.sz, old := fun i e => by { subst e; show _ < (W.heap.push _).size; simp } }⟩, (Cha.refl _ W).alloc _, fun i e => by omega⟩)
  go_enter Try.func9, Try.ntmps9
  go_wp2
  go_returns
  exact ⟨_, rfl, HN.out⟩
end Go.Proofs.Ytllefljimkmbhaa
