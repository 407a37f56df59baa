/- The document's Set. -/
import Derived.Test.YtllefljimkmbhaaEF
namespace Go.Proofs.Ytllefljimkmbhaa
open Go.ChangeShapes Go.WideShapes Go.ChangeAt Go.RowKit
variable {w w' w1 W W' : World} {F S : Nat → Prop} {bd : Nat} {vo vr vq : Value} {f T : Nat → Nat} {g g' : Gr} {sw : Int} {K : Nat → Prop}

/-- A field of an object. -/
theorem Dm.write (h : Dm w F bd vo vr vq f T g sw) {x i t : Nat} (h1 : 1 ≤ x) (h2 : x ≤ g.n) (hk : g.col x ≠ 0) (hi : i < (g.fs x).length) :
    Dm (w.setCell ⟨f x, i, none⟩ (.int .i64 (t : Int))) F bd vo vr vq f T (g.write x i t) sw ∧ Cha F w (w.setCell ⟨f x, i, none⟩ (.int .i64 (t : Int))) := by
  have c4 : Cha (fun j => j = f x) w (w.setCell ⟨f x, i, none⟩ (.int .i64 (t : Int))) := Cha.at w (f x) i _
  have el : ∀ j, (up g.fs x ((g.fs x).set i t) j).length = (g.fs j).length := fun j => by
    unfold up
    split
    · rename_i e; rw [List.length_set, e]
    · rfl
  have eo : obs (g.write x i t) f = obs g f := by
    unfold obs ob Gr.write
    dsimp only
    congr 2
    funext j
    rw [el]
  refine ⟨{ head := (c4.old bd (h.old _ h.tg.2) (fun e => h.bdf h1 h2 hk e.symm)).trans h.head, lo := by { rw [eo]; exact h.lo.cha c4 fun b e y => (h.bv e).2.1 x h1 h2 hk y },
            lr := h.lr.cha c4 fun b e y => (h.br e).2.1 x h1 h2 hk y, lq := h.lq.cha c4 fun b e y => (h.bq e).2.1 x h1 h2 hk y,
            fld := fun j a b k => ?_, tg := h.tg, tv := h.tv, tr := h.tr, tq := h.tq, tf := h.tf, sws := h.sws, old := fun i y => Nat.lt_of_lt_of_le (h.old i y) c4.size }, c4.mono fun j _ e => e ▸ (h.tf x h1 h2 hk).2⟩
  have a : 1 ≤ j := a
  have b : j ≤ g.n := b
  have k : g.col j ≠ 0 := k
  show FRow 3 _ (f j) (up g.fs x ((g.fs x).set i t) j).length (rowV (up g.fs x ((g.fs x).set i t) j))
  by_cases e : j = x
  · subst e
    rw [up_same, List.length_set]
    refine ((h.fld j a b k).set (i := i) _).congr fun y hy => ?_
    unfold rowV
    by_cases c : y = i
    · subst c; simp [hy]
    · rw [if_neg c]; simp [List.getD, List.getElem?_set, Ne.symm c]
  · rw [up_other _ _ e]
    exact c4.row (h.fld j a b k) (h.ff a b k h1 h2 hk e)
theorem dwrite_kit (h : Goes (DmA bd g) W w1 F) {x i t : Nat} (h1 : 1 ≤ x) (h2 : x ≤ g.n) (hk : g.col x ≠ 0) (hi : i < (g.fs x).length) : ∃ (b o cap fx : Nat), w1.cell? ⟨bd, 0, none⟩ = some (.slice (some ⟨b, o, none⟩) (g.n + 1) cap) ∧
    w1.cell? ⟨b, o + x * 2, none⟩ = some (.slice (some ⟨fx, 0, none⟩) (g.fs x).length (g.fs x).length) ∧ (∃ v, w1.cell? ⟨fx, i, none⟩ = some (.int .i64 v)) ∧ w1.frozen? ⟨fx, i, none⟩ = false ∧ Goes (DmA bd (g.write x i t)) W (w1.setCell ⟨fx, i, none⟩ (.int .i64 (t : Int))) F := by
  obtain ⟨F1, ⟨vo, vr, vq, f, T, sw, d⟩, c, n⟩ := h
  obtain ⟨b, o, cap, ev, _, _, hc⟩ := d.objs
  obtain ⟨x0, _⟩ := d.facts
  rw [ev] at x0
  have y := (hc x h1 h2).1
  have eo : ob g f x = (some (f x), (g.fs x).length, g.col x) := by unfold ob; rw [if_neg hk]
  rw [eo] at y
  obtain ⟨r1, r2⟩ := d.write (t := t) h1 h2 hk hi
  exact ⟨b, o, cap, f x, x0, y, ⟨_, (d.fld x h1 h2 hk).cell hi⟩, (d.fld x h1 h2 hk).free i, F1, r1.a, c.over r2 n, n⟩
set_option maxRecDepth 100000 in
set_option maxHeartbeats 4000000 in
theorem dset_any (h : Dm W F bd vo vr vq f T g sw) (hi : Inv g K) (id i tz : Int) : Calls Try.prog 19 #[.pointer (some ⟨bd, 0, none⟩), .int .i64 id, .int .i64 i, .int .i64 tz] W fun e W' => e = .returned (.int .i64 (g.setR id i tz).1) ∧ Goes (DmA bd (g.setR id i tz).2) W W' F := by
  have r8 : g.roots.length ≤ 8192 := by have := hi.r8; have := hi.n4; omega
  have C25 := Lib.hid (dget_any h hi id i)
  have C29 := Lib.hid (dis_any h hi.n4 hi.out id)
  have C41 := Lib.hid (droot_any h r8 id)
  have D29 := Lib.hid (dis_any h hi.n4 hi.out tz)
  have D41 := Lib.hid (droot_any h r8 tz)
  have HG0 := Lib.hid h.goes0
  unfold Gr.setR
  by_cases hr : g.isRoot id = true
  · rw [hi.rootHas hr] at C29
    have hg : g.get id i = (if i < 0 ∨ ((g.fs id.toNat).length : Int) ≤ i then ((0, 1) : Int × Int) else ((((g.fs id.toNat).getD i.toNat 0 : Nat) : Int), 0)) := by unfold Gr.get; rw [if_pos hr]
    obtain ⟨p, q⟩ := isRoot_mem hr
    obtain ⟨q1, q2, q3⟩ := hi.kroot _ q
    have hcol := hi.kin _ q1 q2 q3
    rw [hr] at C41
    by_cases ht : tz = 0 ∨ g.isRoot tz = true
    · rw [if_pos ⟨hr, ht⟩]
      have htn : 0 ≤ tz ∧ tz ≤ g.n := by
        rcases ht with e | e
        · omega
        · obtain ⟨u, v⟩ := isRoot_mem e
          have := (hi.kroot _ v).2.2
          omega
      have hto : (tz ≠ 0 → g.has tz = true) ∧ (tz ≠ 0 → g.isRoot tz = true) := ⟨fun k => hi.rootHas (ht.resolve_left k), fun k => ht.resolve_left k⟩
      obtain ⟨t, rfl⟩ : ∃ t : Nat, tz = t := ⟨tz.toNat, by omega⟩
      obtain ⟨x, rfl⟩ : ∃ x : Nat, id = x := ⟨id.toNat, by omega⟩
      rw [Int.toNat_natCast] at hg q q1 q2 q3 hcol
      rw [Int.toNat_natCast, Int.toNat_natCast]
      rw [hg] at C25
      by_cases hb : i < 0 ∨ ((g.fs x).length : Int) ≤ i
      · rw [if_pos hb] at C25 ⊢
        replace C25 : Hid (Calls Try.prog 25 #[.pointer (some ⟨bd, 0, none⟩), .int .i64 (x : Int), .int .i64 i] W fun e' W' => e' = .returned (.tuple #[.int .i64 0, .int .i64 1]) ∧ W' = W) := C25
        by_cases hz : t = 0
        · subst hz
          clear h hi hr hg hb hcol ht hto q
          go_enter Try.func19, Try.ntmps19
          go_wp2_with (first
            | (go_at_call 29; ((with_reducible refine (C29.out).mono ?_); rintro e w2 ⟨rfl, rfl⟩))
            | (go_at_call 41; ((with_reducible refine (C41.out).mono ?_); rintro e w2 ⟨rfl, rfl⟩))
            | (go_at_call 25; ((with_reducible refine (C25.out).mono ?_); rintro e w2 ⟨rfl, rfl⟩)))
          go_returns
          exact ⟨rfl, HG0.out⟩
        · have hz1 : (t : Int) ≠ 0 := by omega
          rw [hto.1 hz1] at D29
          rw [hto.2 hz1] at D41
          have hz2 : ((t : Int) == 0) = false := by simpa using hz
          have hz3 : ((t : Int) != 0) = true := by simpa using hz
          clear h hi hr hg hb hcol ht hto q
          go_enter Try.func19, Try.ntmps19
          go_wp2_with (first
            | (go_at_call 29; ((with_reducible refine (C29.out).mono ?_); rintro e w2 ⟨rfl, rfl⟩))
            | (go_at_call 41; ((with_reducible refine (C41.out).mono ?_); rintro e w2 ⟨rfl, rfl⟩))
            | (go_at_call 29; ((with_reducible refine (D29.out).mono ?_); rintro e w2 ⟨rfl, rfl⟩))
            | (go_at_call 41; ((with_reducible refine (D41.out).mono ?_); rintro e w2 ⟨rfl, rfl⟩))
            | (go_at_call 25; ((with_reducible refine (C25.out).mono ?_); rintro e w2 ⟨rfl, rfl⟩)))
          go_returns
          exact ⟨rfl, HG0.out⟩
      · rw [if_neg hb] at C25 ⊢
        obtain ⟨j, rfl⟩ : ∃ j : Nat, i = j := ⟨i.toNat, by omega⟩
        rw [Int.toNat_natCast] at C25 ⊢
        have hj : j < (g.fs x).length := by omega
        have h16 := hi.f16 x
        have e : (g.fs x).getD j 0 = (g.fs x)[j] := by simp [hj]
        have ho : (g.fs x).getD j 0 ≤ g.n := by rw [e]; exact hi.ft x _ (List.getElem_mem hj)
        unfold Gr.set
        have hgr := hi.greys_le
        have hgl : (g.shade ((g.fs x).getD j 0)).greys.length ≤ g.greys.length + 1 := by unfold Gr.shade; split <;> simp
        generalize (g.fs x).getD j 0 = u at *
        replace C25 : Hid (Calls Try.prog 25 #[.pointer (some ⟨bd, 0, none⟩), .int .i64 (x : Int), .int .i64 (j : Int)] W fun e' W' => e' = .returned (.tuple #[.int .i64 (u : Int), .int .i64 0]) ∧ W' = W) := C25
        have n1 : (g.shade u).n = g.n := shade_n u
        have n2 : ((g.shade u).shade t).n = g.n := (shade_n t).trans n1
        have s2 : ((g.shade u).shade t).fs x = g.fs x := by
          have k1 : ∀ (gg : Gr) (y : Nat), (gg.shade y).fs = gg.fs := fun gg y => by unfold Gr.shade; split <;> rfl
          rw [k1, k1]
        have s3 : ((g.shade u).shade t).col x ≠ 0 := by
          have k1 : ∀ (gg : Gr) (y : Nat), gg.col x ≠ 0 → (gg.shade y).col x ≠ 0 := fun gg y hh => by
            unfold Gr.shade
            split
            · show up gg.col y 2 x ≠ 0
              unfold up
              split
              · decide
              · exact hh
            · exact hh
          exact k1 _ _ (k1 _ _ hcol)
        have C38 : Hid (Calls Try.prog 38 #[.pointer (some ⟨bd, 0, none⟩), .int .i64 (u : Int)] W fun e w1 => e = .returned (.tuple #[]) ∧
            Calls Try.prog 38 #[.pointer (some ⟨bd, 0, none⟩), .int .i64 (t : Int)] w1 fun e w2 => e = .returned (.tuple #[]) ∧ ∃ (b o cap fx : Nat), w2.cell? ⟨bd, 0, none⟩ = some (.slice (some ⟨b, o, none⟩) (g.n + 1) cap) ∧
              w2.cell? ⟨b, o + x * 2, none⟩ = some (.slice (some ⟨fx, 0, none⟩) (g.fs x).length (g.fs x).length) ∧ (∃ v, w2.cell? ⟨fx, j, none⟩ = some (.int .i64 v)) ∧ w2.frozen? ⟨fx, j, none⟩ = false ∧ Goes (DmA bd (((g.shade u).shade t).write x j t)) W (w2.setCell ⟨fx, j, none⟩ (.int .i64 (t : Int))) F) := Lib.hid ((dshade_any h u ho hi.n4 (by omega)).mono fun e w1 ⟨a, b⟩ => ⟨a, by
          obtain ⟨F1, ⟨_, _, _, _, _, _, d⟩, c, n⟩ := b
          refine (dshade_any d t (by rw [n1]; omega) (by rw [n1]; exact hi.n4) (by omega)).mono fun e w2 ⟨a2, b2⟩ => ⟨a2, ?_⟩
          have b3 : Goes (DmA bd ((g.shade u).shade t)) W w2 F := by
            obtain ⟨F2, q2, c2, m2⟩ := b2
            refine ⟨F2, q2, c.over c2 n, fun i hi => ?_⟩
            rcases m2 i hi with e | e
            · exact n i e
            · exact .inr (Nat.le_trans c.size e)
          have := dwrite_kit (t := t) b3 (x := x) (i := j) q2 (by rw [n2]; exact q3) s3 (by rw [s2]; exact hj)
          rwa [n2, s2] at this⟩)
        have k1 : (x : Int) < (g.n : Int) + 1 := by omega
        have k2 : x < g.n + 1 := by omega
        have k3 : (j : Int) < ((g.fs x).length : Int) := by omega
        clear h hi hr hg hb ht q e n1 n2 s2 s3 hcol hgl hgr ho
        generalize g.fs x = L at *
        generalize ((g.shade u).shade t).write x j t = gg at *
        by_cases hz : t = 0
        · have hz2 : ((t : Int) == 0) = true := by simpa using hz
          have hz3 : ((t : Int) != 0) = false := by simpa using hz
          clear hto hz
          go_enter Try.func19, Try.ntmps19
          go_wp2_with (first
            | (go_at_call 29; ((with_reducible refine (C29.out).mono ?_); rintro e w2 ⟨rfl, rfl⟩))
            | (go_at_call 41; ((with_reducible refine (C41.out).mono ?_); rintro e w2 ⟨rfl, rfl⟩))
            | (go_at_call 25; ((with_reducible refine (C25.out).mono ?_); rintro e w2 ⟨rfl, rfl⟩))
            | (go_at_call 38; ((with_reducible refine (C38.out).mono ?_); rintro e w5 ⟨rfl, y⟩; have E38 := Lib.hid y; clear y))
            | (go_at_call 38; ((with_reducible refine (E38.out).mono ?_); rintro e w6 ⟨rfl, b6, o6, cap6, fx, y1, y2, ⟨v6, y3⟩, y4, y5⟩; have A6 := Lib.hid y5; clear y5)))
          go_returns
          exact ⟨rfl, A6.out⟩
        · have hz1 : (t : Int) ≠ 0 := by omega
          rw [hto.1 hz1] at D29
          rw [hto.2 hz1] at D41
          have hz2 : ((t : Int) == 0) = false := by simpa using hz
          have hz3 : ((t : Int) != 0) = true := by simpa using hz
          clear hto
          go_enter Try.func19, Try.ntmps19
          go_wp2_with (first
            | (go_at_call 29; ((with_reducible refine (C29.out).mono ?_); rintro e w2 ⟨rfl, rfl⟩))
            | (go_at_call 41; ((with_reducible refine (C41.out).mono ?_); rintro e w2 ⟨rfl, rfl⟩))
            | (go_at_call 29; ((with_reducible refine (D29.out).mono ?_); rintro e w2 ⟨rfl, rfl⟩))
            | (go_at_call 41; ((with_reducible refine (D41.out).mono ?_); rintro e w2 ⟨rfl, rfl⟩))
            | (go_at_call 25; ((with_reducible refine (C25.out).mono ?_); rintro e w2 ⟨rfl, rfl⟩))
            | (go_at_call 38; ((with_reducible refine (C38.out).mono ?_); rintro e w5 ⟨rfl, y⟩; have E38 := Lib.hid y; clear y))
            | (go_at_call 38; ((with_reducible refine (E38.out).mono ?_); rintro e w6 ⟨rfl, b6, o6, cap6, fx, y1, y2, ⟨v6, y3⟩, y4, y5⟩; have A6 := Lib.hid y5; clear y5)))
          go_returns
          exact ⟨rfl, A6.out⟩
    · rw [if_neg (fun e => ht e.2)]
      have hz : tz ≠ 0 := fun e => ht (.inl e)
      have hrt : g.isRoot tz = false := by simpa using fun e => ht (.inr e)
      rw [hrt] at D41
      have hz2 : (tz == 0) = false := by simpa using hz
      have hz3 : (tz != 0) = true := by simpa using hz
      clear h hi hr hg hcol ht q hrt
      generalize g.has tz = hb at *
      cases hb <;>
      (go_enter Try.func19, Try.ntmps19
       go_wp2_with (first
        | (go_at_call 29; ((with_reducible refine (C29.out).mono ?_); rintro e w2 ⟨rfl, rfl⟩))
        | (go_at_call 41; ((with_reducible refine (C41.out).mono ?_); rintro e w2 ⟨rfl, rfl⟩))
        | (go_at_call 29; ((with_reducible refine (D29.out).mono ?_); rintro e w2 ⟨rfl, rfl⟩))
        | (go_at_call 41; ((with_reducible refine (D41.out).mono ?_); rintro e w2 ⟨rfl, rfl⟩)))
       go_returns
       exact ⟨rfl, HG0.out⟩)
  · rw [if_neg (fun e => hr e.1)]
    have hr2 : g.isRoot id = false := by simpa using hr
    rw [hr2] at C41
    clear h hi hr hr2
    generalize g.has id = hb at *
    cases hb <;>
    (go_enter Try.func19, Try.ntmps19
     go_wp2_with (first
      | (go_at_call 29; ((with_reducible refine (C29.out).mono ?_); rintro e w2 ⟨rfl, rfl⟩))
      | (go_at_call 41; ((with_reducible refine (C41.out).mono ?_); rintro e w2 ⟨rfl, rfl⟩)))
     go_returns
     exact ⟨rfl, HG0.out⟩)
end Go.Proofs.Ytllefljimkmbhaa
