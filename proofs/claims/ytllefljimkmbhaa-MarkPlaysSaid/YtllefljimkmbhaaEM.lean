/- The document's Work: a grey object is blackened. -/
import Derived.Test.YtllefljimkmbhaaEL
namespace Go.Proofs.Ytllefljimkmbhaa
open Go.ChangeShapes Go.WideShapes Go.ChangeAt Go.RowKit
variable {w w' w1 w2 W W' : World} {F S : Nat → Prop} {bd : Nat} {vo vr vq : Value} {f T : Nat → Nat} {g g' : Gr} {sw : Int} {K : Nat → Prop}

theorem take_snoc {L : List Nat} {j : Nat} (h : j < L.length) : L.take (j + 1) = L.take j ++ [L.getD j 0] := by
  rw [List.take_add_one]
  simp [List.getD, List.getElem?_eq_getElem h]
theorem shades_zero (L : List Nat) (j : Nat) : (g.shades L).col j = 0 ↔ g.col j = 0 := by
  unfold Gr.shades
  induction L generalizing g with
  | nil => rfl
  | cons a l ih => rw [List.foldl_cons, ih, shade_zero_iff]
/-- How many are grey while an object's fields are gone through. -/
theorem blk_len (hi : Inv g K) (hp : g.ph = 1) {x : Nat} {l : List Nat} (e : g.greys = x :: l) (j : Nat) : (({ g with greys := l } : Gr).shades ((g.fs x).take j)).greys.length ≤ 4096 := by
  have hx : g.col x = 2 := (hi.gry x).1 (by rw [e]; simp)
  have hK : K x := hi.dark (by omega) x (by omega)
  have hxn := (hi.out x (by omega)).2
  have h2 := hi.shades (L := (g.fs x).take j) fun t ht => by
    by_cases c : t = 0
    · exact .inl c
    · exact .inr (hi.kfs x hK hxn t (List.mem_of_mem_take ht) c).1
  obtain ⟨a, m, b⟩ := shades_pop e ((g.fs x).take j)
  rw [a]
  show (g.shades ((g.fs x).take j)).greys.tail.length ≤ _
  have := h2.greys_le
  rw [List.length_tail]
  omega
theorem dblk_start (h : Dm W F bd vo vr vq f T g sw) {x : Nat} {l : List Nat} (e : g.greys = x :: l) : ∃ gq oq cq, vq = .slice (some ⟨gq, oq, none⟩) (l.length + 1) cq ∧ l.length + 1 ≤ cq ∧ cq ≤ maxLen ∧ W.cell? ⟨gq, oq, none⟩ = some (.int .i64 (x : Int)) ∧
    Goes (DmA bd { g with greys := l }) W (W.setCell ⟨bd, 2, none⟩ (.slice (some ⟨gq, if cq = 1 then oq else oq + 1, none⟩) l.length (cq - 1))) F := by
  obtain ⟨gq, oq, cq, eq, a1, a2, a3, _⟩ := h.lq.elem inE_ok (i := 0) (by rw [e]; simp)
  have hl : g.greys.length = l.length + 1 := by rw [e]; rfl
  rw [hl] at eq a1
  refine ⟨gq, oq, cq, eq, a1, a2, ?_, ?_⟩
  · have := a3 0 (by decide)
    have e0 : g.greys[0]'(by rw [hl]; omega) = x := by simp [e]
    rw [e0] at this
    have ek : oq + 0 * inE.k + 0 = oq := by omega
    rw [ek] at this
    rw [this]
    rfl
  · have hlq := h.lq
    rw [e, eq] at hlq
    have ht := hlq.tail inE_ok
    have hk : inE.k = 1 := rfl
    rw [hk, show l.length + 1 - 1 = l.length by omega] at ht
    obtain ⟨F', T', r1, r2, r3⟩ := h.onGreys (L := l) (w1 := W) (v' := .slice (some ⟨gq, if cq = 1 then oq else oq + 1, none⟩) l.length (cq - 1)) ⟨ht, Cha.refl _ _, fun b hb => .inl (by rw [eq]; exact hb)⟩
    exact ⟨F', r1.a, r2, r3⟩
/-- What a round of the loop finds. -/
theorem dfield_kit (q : Goes (DmA bd g) W w1 F) {x : Nat} (h1 : 1 ≤ x) (h2 : x ≤ g.n) (hk : g.col x ≠ 0) : ∃ (b o cap fx : Nat), w1.cell? ⟨bd, 0, none⟩ = some (.slice (some ⟨b, o, none⟩) (g.n + 1) cap) ∧ cap ≤ maxLen ∧
    w1.cell? ⟨b, o + x * 2, none⟩ = some (.slice (some ⟨fx, 0, none⟩) (g.fs x).length (g.fs x).length) ∧ (∀ j, j < (g.fs x).length → w1.cell? ⟨fx, j, none⟩ = some (.int .i64 (((g.fs x).getD j 0 : Nat) : Int))) ∧
    (∃ v, w1.cell? ⟨b, o + x * 2 + 1, none⟩ = some (.int .i64 v)) ∧ w1.frozen? ⟨b, o + x * 2 + 1, none⟩ = false ∧
    ∀ c : Nat, c ≠ 0 → Goes (DmA bd { g with col := up g.col x c }) W (w1.setCell ⟨b, o + x * 2 + 1, none⟩ (.int .i64 c)) F := by
  obtain ⟨F1, ⟨vo, vr, vq, f, T, sw, d⟩, c, n⟩ := q
  obtain ⟨b, o, cap, ev, _, hcm, hc⟩ := d.objs
  obtain ⟨x0, _⟩ := d.facts
  rw [ev] at x0
  obtain ⟨y, y1⟩ := hc x h1 h2
  have eo : ob g f x = (some (f x), (g.fs x).length, g.col x) := by unfold ob; rw [if_neg hk]
  rw [eo] at y
  obtain ⟨b2, o2, cap2, ev2, _, _, _, bf⟩ := d.lo.elem obE_ok (i := 0) (by rw [obs_len]; omega)
  rw [ev] at ev2
  injection ev2 with q1 q2 q3
  injection q1 with q1
  injection q1 with q1 q1' _
  subst q1 q1'
  refine ⟨b, o, cap, f x, x0, hcm, y, fun j hj => (d.fld x h1 h2 hk).cell hj, ⟨_, y1⟩, bf _, fun cc hcc => ?_⟩
  obtain ⟨r1, r2⟩ := d.paint ev (id := x) (c := cc) h1 h2 hk hcc
  exact ⟨F1, r1.a, c.over r2 n, n⟩
theorem dshade_goes (q : Goes (DmA bd g) W w1 F) (id : Nat) (hid : id ≤ g.n) (n4 : g.n ≤ 4096) (hq : g.greys.length ≤ 4200) :
    Calls Try.prog 38 #[.pointer (some ⟨bd, 0, none⟩), .int .i64 (id : Int)] w1 fun e W' => e = .returned (.tuple #[]) ∧ Goes (DmA bd (g.shade id)) W W' F := by
  obtain ⟨F1, ⟨vo, vr, vq, f, T, sw, d⟩, c, n⟩ := q
  refine (dshade_any d id hid n4 hq).mono fun _ W' ⟨a, F2, p, c2, n2⟩ => ⟨a, F2, p, c.over c2 n, fun i hi => ?_⟩
  rcases n2 i hi with e | e
  · exact n i e
  · exact .inr (Nat.le_trans c.size e)
set_option maxRecDepth 100000 in
set_option maxHeartbeats 8000000 in
theorem dwork_blk (h : Dm W F bd vo vr vq f T g sw) (hi : Inv g K) (hp : g.ph = 1) (ht : ¬ g.thr < g.roots.length) {x : Nat} {l : List Nat} (hg : g.greys = x :: l) : Calls Try.prog 23 #[.pointer (some ⟨bd, 0, none⟩)] W fun e W' => e = .returned (.tuple #[.int .i64 0, .int .i64 0]) ∧ Goes (DmA bd (g.blacken x l)) W W' F := by
  obtain ⟨x0, x1, x2, x3, x4, x5, x6, xf⟩ := h.facts
  obtain ⟨ar, cr, er, hr1, hr2, hr3⟩ := h.lr.ints
  have hx : g.col x = 2 := (hi.gry x).1 (by rw [hg]; simp)
  obtain ⟨hx1, hxn⟩ := hi.out x (by omega)
  have h4 := hi.n4
  have h8 := hi.r8
  have ht8 := hi.thr
  have h16 := hi.f16 x
  have hqn := hi.greys_le
  have gs : ∀ j, ∃ s, ({ g with greys := l } : Gr).shades ((g.fs x).take j) = s ∧ s.n = g.n ∧ s.fs x = g.fs x ∧ s.col x ≠ 0 ∧ s.greys.length ≤ 4096 := fun j => ⟨_, rfl, shades_n _, by rw [shades_fs], fun e => by rw [shades_zero] at e; have e : g.col x = 0 := e; omega, blk_len hi hp hg j⟩
  have GS := Lib.hid gs
  have ft : ∀ j, j < (g.fs x).length → (g.fs x).getD j 0 ≤ g.n := fun j hj => by
    have e : (g.fs x).getD j 0 = (g.fs x)[j] := by simp [hj]
    rw [e]; exact hi.ft x _ (List.getElem_mem hj)
  have FT := Lib.hid ft
  have START : Hid (∀ W1, Cha (fun _ => False) W W1 → ∃ gq oq cq, vq = .slice (some ⟨gq, oq, none⟩) (l.length + 1) cq ∧ l.length + 1 ≤ cq ∧ cq ≤ maxLen ∧ W1.cell? ⟨gq, oq, none⟩ = some (.int .i64 (x : Int)) ∧
    Goes (DmA bd { g with greys := l }) W (W1.setCell ⟨bd, 2, none⟩ (.slice (some ⟨gq, if cq = 1 then oq else oq + 1, none⟩) l.length (cq - 1))) F) := Lib.hid fun W1 c => by
      obtain ⟨gq, oq, cq, a, b, d, e, k⟩ := dblk_start (h.same c) hg
      exact ⟨gq, oq, cq, a, b, d, e, k.before c⟩
  obtain ⟨gq, oq, cq, eq, q1, q2, q3, _⟩ := START.out W (Cha.refl _ _)
  rw [hp] at x3
  have x3 : W.cell? ⟨bd, 3, none⟩ = some (.int .i64 1) := x3
  have FIN : Hid (g.blacken x l = { (({ g with greys := l } : Gr).shades (g.fs x)) with col := up (({ g with greys := l } : Gr).shades (g.fs x)).col x 3 }) := Lib.hid rfl
  obtain ⟨k, hk⟩ : ∃ k, (g.fs x).length = k := ⟨_, rfl⟩
  have f2 := xf 2
  have k1d : decide ((g.thr : Int) < (g.roots.length : Int)) = false := decide_eq_false (by omega)
  have k1n : decide (g.thr < g.roots.length) = false := decide_eq_false ht
  have kl0 : ((l.length : Int) + 1 == 0) = false := beq_eq_false_iff_ne.2 (by omega)
  unfold maxLen at q2
  have hl : l.length ≤ 4096 := by rw [hg] at hqn; simp at hqn; omega
  have HG0 := Lib.hid hg
  clear hi hp ht hr3 xf gs ft hg
  have H := Lib.hid h
  clear h
  subst er eq
  by_cases kc : cq = 1
  all_goals
    have KC := Lib.hid kc
    have kc2 : (if cq = 1 then oq else oq + 1) = (if cq = 1 then oq else oq + 1) := rfl
    first
    | rw [if_pos kc] at kc2
    | rw [if_neg kc] at kc2
    go_enter Try.func23, Try.ntmps23
    go_wp2
    go_quiet (fail)
    go_wp2
    go_loopw [5] (fun i wr => ∃ j : Nat, j ≤ k ∧ i = .int .i64 (j : Int) ∧ Goes (DmA bd (({ g with greys := l } : Gr).shades ((g.fs x).take j))) W wr F) (fun i _ => k - (intOf i).toNat)
    case atStart =>
      refine ⟨0, Nat.zero_le _, rfl, ?_⟩
      obtain ⟨gq', oq', cq', e, _, _, _, kk⟩ := START.out (W.drewN nq) ((Cha.refl (fun _ => False) W).drewN _)
      cases e
      first
      | (rw [if_pos KC.out] at kk; have e1 := KC.out; subst e1; exact kk)
      | (rw [if_neg KC.out] at kk; exact kk)
    case round =>
      rename World => wv
      obtain ⟨j, hj, rfl, hG⟩ := hrel
      obtain ⟨s, hs, s1, s2, s3, s4⟩ := GS.out j
      rw [hs] at hG
      obtain ⟨b, o, cap, fx, y0, ym, y1, y2, ⟨cv, y3⟩, y4, y5⟩ := dfield_kit hG hx1 (by rw [s1]; exact hxn) s3
      rw [s1] at y0
      rw [s2, hk] at y1
      rw [s2] at y2
      unfold maxLen at ym
      have i1 : (x : Int) < (g.n : Int) + 1 := by omega
      have i2 : x < g.n + 1 := by omega
      by_cases hlt : j < k
      · have yj := y2 j (by rw [hk]; exact hlt)
        have ftj := FT.out j (by rw [hk]; exact hlt)
        have C38 : Hid (Calls Try.prog 38 #[.pointer (some ⟨bd, 0, none⟩), .int .i64 (((g.fs x).getD j 0 : Nat) : Int)] wv fun e W' => e = .returned (.tuple #[]) ∧ Goes (DmA bd (({ g with greys := l } : Gr).shades ((g.fs x).take (j + 1)))) W W' F) := Lib.hid (by
          have q := dshade_goes hG ((g.fs x).getD j 0) (by rw [s1]; exact ftj) (by rw [s1]; exact h4) (by omega)
          rw [take_snoc (by rw [hk]; exact hlt), shades_snoc, hs]
          exact q)
        have i3 : (j : Int) < (k : Int) := by omega
        clear hG y5 y2 hs s2 s3 s4 y3 y4 ftj
        generalize (g.fs x).getD j 0 = t at *
        go_wp2_with (go_at_call 38; (with_reducible refine (C38.out).mono ?_); rintro e w1 ⟨rfl, h⟩; have H2 := Lib.hid h; clear h)
        go_roundw
        case rel => exact ⟨j + 1, hlt, by go_num, H2.out⟩
        case measure => simp [intOf]; omega
      · obtain rfl : j = k := by omega
        have Y5 : Hid (Goes (DmA bd (g.blacken x l)) W (wv.setCell ⟨b, o + x * 2 + 1, none⟩ (.int .i64 3)) F) := Lib.hid (by
          have := y5 3 (by decide)
          rw [FIN.out]
          rw [← hs, ← hk, List.take_length] at this
          exact this)
        have i3 : ¬ (j : Int) < (j : Int) := by omega
        clear hG y5 y2 hs s2 s3 s4
        go_wp2
        go_returns
        exact ⟨rfl, Y5.out⟩
end Go.Proofs.Ytllefljimkmbhaa
