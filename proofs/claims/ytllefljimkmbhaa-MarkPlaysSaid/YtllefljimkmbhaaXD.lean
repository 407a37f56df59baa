/- The law's changes: what each leaves. -/
import Derived.Test.YtllefljimkmbhaaXC
namespace Go.Proofs.Ytllefljimkmbhaa
open Go.ChangeShapes Go.WideShapes Go.ChangeAt Go.RowKit
variable {w w' w1 w2 w3 W W' : World} {F S : Nat → Prop} {bg bd : Nat} {g : Gr} {K : Nat → Prop}

theorem Goes.call {P Q : Asn} {f : FuncId} {args : Array Value} {v : Ending} (h : Goes P W w' F) (k : ∀ F1, P w' F1 → Calls Try.prog f args w' fun e w2 => e = v ∧ Goes Q w' w2 F1) : Calls Try.prog f args w' fun e w2 => e = v ∧ Goes Q W w2 F := by
  obtain ⟨F1, p, c, n⟩ := h
  exact (k F1 p).mono fun _ _ ⟨a, b⟩ => ⟨a, Goes.over c n b⟩
theorem drop_kept (g : Gr) (a : Nat) : (g.drop a).n = g.n ∧ (g.drop a).fs = g.fs ∧ (g.drop a).roots = g.roots.eraseIdx a := by
  unfold Gr.drop Gr.erase
  exact ⟨shade_n _, shade_fs _, by show (g.shade _).roots.eraseIdx a = _; rw [shade_roots]⟩
/-- A root is dropped: the list is made anew. -/
theorem drop_kit (h : Duo bg bd g W F) (nn : Nat) (hn : nn < g.roots.length) :
    ∃ (bv ov cv : Nat) (f2 : Nat → Nat) (br or cr : Nat), W.cell? ⟨bd, 0, none⟩ = some (.slice (some ⟨bv, ov, none⟩) (g.n + 1) cv) ∧ W.cell? ⟨bd, 1, none⟩ = some (.slice (some ⟨br, or, none⟩) g.roots.length cr) ∧ bd < W.heap.size ∧ bv < W.heap.size ∧ br < W.heap.size ∧ cr ≤ maxLen ∧ g.roots.length ≤ cr ∧ cv ≤ maxLen ∧ g.n + 1 ≤ cv ∧
      (∀ id, 1 ≤ id → id ≤ g.n → W.cell? ⟨bv, ov + id, none⟩ = some (.slice (some ⟨f2 id, 0, none⟩) (g.fs id).length (g.fs id).length) ∧ f2 id < W.heap.size ∧ ∀ i, i < (g.fs id).length → W.cell? ⟨f2 id, i, none⟩ = some (.int .i64 (((g.fs id).getD i 0 : Nat) : Int))) ∧
      (∀ W9 (z : Int), Cha (fun _ => False) W W9 → Calls Try.prog 45 #[.pointer (some ⟨bd, 0, none⟩), .int .i64 z] W9 fun e w => e = .returned (.int .i64 (g.px z : Int)) ∧ ∃ m, w = W9.drewN m) ∧
      (∀ i, i < g.roots.length → W.cell? ⟨br, or + i, none⟩ = some (.int .i64 ((g.roots.getD i 0 : Nat) : Int))) ∧
      ∀ W9, Cha (fun _ => False) W W9 → Lies inE W9 (.slice (some ⟨br, or, none⟩) nn cr) (g.roots.take nn) ∧
        ∀ va wa, AppV inE W9 wa (.slice none 0 0) ([] ++ g.roots.take nn) va → ∃ a1 n1 c1, va = .slice a1 n1 c1 ∧ wa.cell? ⟨bd, 1, none⟩ = some (.slice (some ⟨br, or, none⟩) g.roots.length cr) ∧ Lies inE wa (.slice a1 n1 c1) ([] ++ g.roots.take nn) ∧
          Lies inE wa (.slice (some ⟨br, if cr = nn + 1 then or else or + (nn + 1), none⟩) (g.roots.length - (nn + 1)) (cr - (nn + 1))) (g.roots.drop (nn + 1)) ∧
          ∀ vb wb, AppV inE wa wb va (([] ++ g.roots.take nn) ++ g.roots.drop (nn + 1)) vb → ∃ a2 n2 c2, vb = .slice a2 n2 c2 ∧ wb.cell? ⟨bd, 1, none⟩ = some (.slice (some ⟨br, or, none⟩) g.roots.length cr) ∧ wb.frozen? ⟨bd, 1, none⟩ = false ∧
            Calls Try.prog 14 #[.pointer (some ⟨bg, 0, none⟩), .int .i64 (nn : Int)] (wb.setCell ⟨bd, 1, none⟩ (.slice a2 n2 c2)) fun e w => e = .returned (.int .i64 0) ∧ Goes (Duo bg bd (g.drop nn)) W w F := by
  obtain ⟨K, hi⟩ := duo_inv h
  obtain ⟨F2, vf, vr, f2, T, q⟩ := duo_im h
  obtain ⟨x0, x1, _⟩ := q.facts
  obtain ⟨bv, ov, cv, ev, hv1, hv2, hv3⟩ := q.sls
  obtain ⟨ar, cr, er, hr1, hr2, hr3⟩ := q.lr.ints
  obtain ⟨br, or, rfl, hr4⟩ := hr3 (by omega)
  have lbv := q.old _ (q.tv bv (by rw [ev]; rfl)).2
  have lbr := q.old _ (q.tr br (by rw [er]; rfl)).2
  have lbd := q.old _ q.tg.2
  subst ev er
  refine ⟨bv, ov, cv, f2, br, or, cr, x0, x1, lbd, lbv, lbr, hr2, hr1, hv2, hv1, fun id a b => ⟨hv3 id a b, q.old _ (q.tf id a b).2, fun i hi => (q.fc a b hi).1⟩, fun W9 z c => pick_any (q.same c) z (by omega), fun i hi => (hr4 i hi).1, fun W9 c => ?_⟩
  have q9 := q.same c
  refine ⟨q9.lr.take inE_ok (by omega), fun va wa hA => ?_⟩
  obtain ⟨a1, c1, e1, _⟩ := hA.lies.form
  have cA : Cha (fun _ => False) W9 wa := hA.cha.mono fun i _ e => by cases e
  have qa := q9.same cA
  have dr := qa.lr.drop inE_ok (i := nn + 1) (by omega)
  have ek : (nn + 1) * inE.k = nn + 1 := Nat.mul_one _
  rw [ek] at dr
  refine ⟨a1, _, c1, e1, qa.facts.2.1, e1 ▸ hA.lies, dr, fun vb wb hB => ?_⟩
  obtain ⟨a2, c2, e2, _⟩ := hB.lies.form
  have va9 : ∀ b, va.ownBlock = some b → W.heap.size ≤ b := fun b e => by
    rcases hA.at' b e with k | k
    · cases k
    · exact Nat.le_trans c.size k
  have cWa : Cha (fun _ => False) W wa := c.trans cA
  have cB : Cha (fun _ => False) W wb := (cWa.wide.over (T := fun _ => False) hB.cha fun i e => .inr (va9 i e)).mono fun _ _ x => x
  have qb := q.same cB
  obtain ⟨_, y1, y2⟩ := qb.facts
  refine ⟨a2, _, c2, e2, y1, y2 1, ?_⟩
  have el : (([] : List Nat) ++ g.roots.take nn) ++ g.roots.drop (nn + 1) = g.roots.eraseIdx nn := by rw [List.nil_append]; exact (List.eraseIdx_eq_take_drop_succ g.roots nn).symm
  have hle : (g.roots.eraseIdx nn).length = g.roots.length - 1 := List.length_eraseIdx_of_lt hn
  have r8 := q.r8
  rw [← e2]
  have hG : Goes (Star (PgA bg g) (IdA bd g.n g.fs (g.roots.eraseIdx nn))) W (wb.setCell ⟨bd, 1, none⟩ vb) F := Star.right (fit_pg _ _) (fit_id _ _ _ _) h fun F1 ⟨vf1, vr1, f1, T1, q1⟩ => by
    have hvb : ∀ b, vb.ownBlock = some b → vr1.ownBlock = some b ∨ W.heap.size ≤ b := fun b e => by
      rcases hB.at' b e with k | k
      · exact .inr (va9 b k)
      · exact .inr (Nat.le_trans cWa.size k)
    obtain ⟨F3, T3, q3, d3, n3⟩ := q1.onRoots (L := g.roots.eraseIdx nn) (el ▸ hB.lies) (cB.wide) hvb (by omega)
    exact ⟨F3, ⟨_, _, _, _, q3⟩, d3, n3⟩
  refine hG.call fun F1 st => (Star.stepL (fit_pg _ _) (fit_id _ _ _ _) st fun F3 p => drop_any p (nn : Int)).mono fun e w ⟨a, b⟩ => ?_
  have ed : g.dropR (nn : Int) = (0, g.drop nn) := by unfold Gr.dropR; rw [if_neg (by omega), Int.toNat_natCast]
  rw [ed] at a b
  obtain ⟨k1, k2, k3⟩ := drop_kept g nn
  refine ⟨a, ?_⟩
  unfold Duo
  rw [k1, k2, k3]
  exact b
end Go.Proofs.Ytllefljimkmbhaa
