/- Contracts of mark: shade, lay. -/
import Derived.Test.YtllefljimkmbhaaE
namespace Go.Proofs.Ytllefljimkmbhaa
open Go.ChangeShapes Go.WideShapes Go.ChangeAt Go.RowKit
variable {w w' w1 w2 W W' : World} {F S : Nat → Prop} {bg : Nat} {vo vr vq : Value} {q f T : Nat → Nat} {g g' : Gr} {lv : Int} {rt rt' : Nat → Int}

/-- What a call leaves that moves no object. -/
def Shd (W W' : World) (F : Nat → Prop) (bg : Nat) (vo : Value) (q f : Nat → Nat) (g : Gr) (lv : Int) (rt : Nat → Int) : Prop :=
  ∃ F' vr vq T, Pm W' F' bg vo vr vq q f T g lv rt ∧ Cha F W W' ∧ ∀ i, F' i → F i ∨ W.heap.size ≤ i
theorem Pm.shd (h : Pm W F bg vo vr vq q f T g lv rt) : Shd W W F bg vo q f g lv rt := ⟨F, vr, vq, T, h, Cha.refl _ _, fun _ x => .inl x⟩
theorem Shd.trans (h : Shd w w1 F bg vo q f g lv rt) (k : ∀ F1 vr vq T, Pm w1 F1 bg vo vr vq q f T g lv rt → Shd w1 w2 F1 bg vo q f g' lv rt') : Shd w w2 F bg vo q f g' lv rt' := by
  obtain ⟨F1, vr, vq, T, a, c, n⟩ := h
  obtain ⟨F2, vr2, vq2, T2, a2, c2, n2⟩ := k F1 vr vq T a
  refine ⟨F2, vr2, vq2, T2, a2, c.over c2 n, fun i hi => ?_⟩
  rcases n2 i hi with e | e
  · exact n i e
  · exact .inr (Nat.le_trans c.size e)
theorem Shd.before (c : Cha (fun _ => False) w w1) (h : Shd w1 w2 F bg vo q f g lv rt) : Shd w w2 F bg vo q f g lv rt := by
  obtain ⟨F1, vr, vq, T, a, c1, n⟩ := h
  exact ⟨F1, vr, vq, T, a, c.wide.trans c1, fun i hi => (n i hi).imp id fun e => Nat.le_trans c.size e⟩
theorem Shd.goes (h : Shd w w1 F bg vo q f g lv rt) : Goes (PmX bg g lv rt) w w1 F := by
  obtain ⟨F1, vr, vq, T, a, c, n⟩ := h
  exact ⟨F1, a.x, c, n⟩
theorem Shd.of (h : ∃ F' T', Pm w1 F' bg vo vr vq q f T' g lv rt ∧ Cha F w w1 ∧ ∀ i, F' i → F i ∨ w.heap.size ≤ i) : Shd w w1 F bg vo q f g lv rt := by
  obtain ⟨F1, T, a, c, n⟩ := h
  exact ⟨F1, vr, vq, T, a, c, n⟩
theorem Shd.cast (h : Shd w w1 F bg vo q f g lv rt) (e : g = g') : Shd w w1 F bg vo q f g' lv rt := e ▸ h

theorem shade_same (h : Pm W F bg vo vr vq q f T g lv rt) (id : Nat) (hid : id = 0 ∨ g.col id ≠ 0) (hn : ¬ (g.ph = 1 ∧ id ≠ 0 ∧ g.col id = 1)) :
    Calls Try.prog 36 #[.pointer (some ⟨bg, 0, none⟩), .int .i64 (id : Int)] W fun e W' => e = .returned (.tuple #[]) ∧ W = W' := by
  obtain ⟨c0, _, c2, _⟩ := h.facts
  obtain ⟨a, cap, rfl, hc1, hc2, hp⟩ := h.pts
  have hph := h.sz.ph
  by_cases k1 : g.ph = 1
  · rw [k1] at c0
    by_cases k2 : id = 0
    · subst k2
      clear h hp hn
      go_enter Try.func36, Try.ntmps36
      go_wp2
      go_returns
      exact ⟨rfl, rfl⟩
    · have hz := hid.resolve_left k2
      obtain ⟨h1, h2⟩ := h.sz.out id hz
      have h3 := h.sz.c3 id
      have h4 := h.sz.n
      obtain ⟨b, o, rfl, hcell⟩ := hp (by omega)
      obtain ⟨y, _⟩ := h.oc hz
      have hc : g.col id ≠ 1 := fun e => hn ⟨k1, k2, e⟩
      obtain ⟨j, rfl⟩ : ∃ j, id = j + 1 := ⟨id - 1, by omega⟩
      have z := (hcell j (by omega)).1
      rw [if_neg hz] at z
      replace z : W.cell? ⟨b, o + j, none⟩ = some (.pointer (some ⟨q (j + 1), 0, none⟩)) := z
      obtain ⟨c, hcc⟩ : ∃ c : Nat, c = g.col (j + 1) - 1 := ⟨_, rfl⟩
      rw [← hcc] at y
      have e4 : ((c : Int) == 0) = false := by simp; omega
      generalize q (j + 1) = Q at *
      have e1 : IntKind.i64.wrap ((j : Int) + 1 - 1) = (j : Int) := by rw [IntWalk.i64_in _ (by omega)]; omega
      have e2 : ((j : Int) + 1 == 0) = false := by simp; omega
      unfold maxLen at hc2
      clear h hcell hp hn hid hz hcc hc h3
      go_enter Try.func36, Try.ntmps36
      go_wp2
      go_returns
      exact ⟨rfl, rfl⟩
  · have k2 : ((g.ph : Int) == 1) = false := by simp; omega
    clear h hp hn hid
    go_enter Try.func36, Try.ntmps36
    go_wp2
    go_returns
    exact ⟨rfl, rfl⟩
theorem shade_white (h : Pm W F bg vo vr vq q f T g lv rt) (id : Nat) (k1 : g.ph = 1) (hc : g.col id = 1) (hq : g.greys.length < 4200) :
    Calls Try.prog 36 #[.pointer (some ⟨bg, 0, none⟩), .int .i64 (id : Int)] W fun e W' => e = .returned (.tuple #[]) ∧ Shd W W' F bg vo q f { g with col := up g.col id 2, greys := g.greys ++ [id] } lv rt := by
  have hz : g.col id ≠ 0 := by omega
  obtain ⟨c0, _, c2, _, _, _, c6, _, cf⟩ := h.facts
  obtain ⟨a, cap, rfl, hc1, hc2, hp⟩ := h.pts
  rw [k1] at c0
  obtain ⟨h1, h2⟩ := h.sz.out id hz
  have h4 := h.sz.n
  obtain ⟨b, o, rfl, hcell⟩ := hp (by omega)
  obtain ⟨y, _, _, yf⟩ := h.oc hz
  rw [hc] at y
  obtain ⟨h5, d5⟩ := h.paint (c := 2) hz (by decide) (by decide)
  have hne := h.bgq hz
  obtain ⟨j, rfl⟩ : ∃ j, id = j + 1 := ⟨id - 1, by omega⟩
  have z := (hcell j (by omega)).1
  rw [if_neg hz] at z
  replace z : W.cell? ⟨b, o + j, none⟩ = some (.pointer (some ⟨q (j + 1), 0, none⟩)) := z
  obtain ⟨aq, capq, eq, hq1, hq2, _⟩ := h.lqs.ints
  obtain ⟨Q, hQ⟩ : ∃ Q, Q = q (j + 1) := ⟨_, rfl⟩
  rw [← hQ] at y yf z hne h5 d5
  replace h5 : Pm (W.setCell ⟨Q, 0, none⟩ (.int .i64 1)) F bg (.slice (some ⟨b, o, none⟩) g.n cap) vr vq q f T { g with col := up g.col (j + 1) 2 } lv rt := h5
  replace d5 : Cha F W (W.setCell ⟨Q, 0, none⟩ (.int .i64 1)) := d5
  have HS : Hid (∀ w3 b' o' cap', App inE ((W.setCell ⟨Q, 0, none⟩ (.int .i64 1)).alloc (.cells #[.int .i64 ((j : Int) + 1)] 3)) w3 vq g.greys [j + 1] b' o' cap' →
      w3.cell? ⟨bg, 6, none⟩ = some vq ∧ w3.frozen? ⟨bg, 6, none⟩ = false ∧ Shd W (w3.setCell ⟨bg, 6, none⟩ (.slice (some ⟨b', o', none⟩) (g.greys.length + 1) cap')) F bg (.slice (some ⟨b, o, none⟩) g.n cap) q f { g with col := up g.col (j + 1) 2, greys := g.greys ++ [j + 1] } lv rt) := Lib.hid fun w3 b' o' cap' hA => by
    have h6 := h5.same ((Cha.refl (fun _ => False) _).alloc (.cells #[.int .i64 ((j : Int) + 1)] 3))
    have s := h5.sz
    obtain ⟨F', T', r1, r2, r3⟩ := h6.onGreys hA.v ⟨s.n, s.r, by show (g.greys ++ [j + 1]).length ≤ 4200; simp; omega, s.f, s.thr, s.swp, s.ph, s.c3, s.out⟩
    have e3 : w3.heap[bg]? = _ := (hA.cha.old bg (h6.old _ h6.tg.2) (fun e => (h6.bq e).1 rfl)).trans h6.head
    refine ⟨cell_of_row w3 bg 6 _ 71 (0, 0) e3, frozen_of_row w3 bg 6 _ 71 e3, F', _, _, T', r1, d5.trans ((Cha.refl F _).alloc _ |>.trans r2), fun i hi => (r3 i hi).imp id fun e => ?_⟩
    have : W.heap.size ≤ ((W.setCell ⟨Q, 0, none⟩ (.int .i64 1)).alloc (.cells #[.int .i64 ((j : Int) + 1)] 3)).heap.size := (d5.trans ((Cha.refl F _).alloc _)).size
    omega
  have HL : Hid (Lies inE ((W.setCell ⟨Q, 0, none⟩ (.int .i64 1)).alloc (.cells #[.int .i64 ((j : Int) + 1)] 3)) vq g.greys) := Lib.hid (h5.lqs.same ((Cha.refl (fun _ => False) _).alloc _))
  have HN : Hid (∀ x u, (inE.cs [j + 1])[x]? = some u → ((W.setCell ⟨Q, 0, none⟩ (.int .i64 1)).alloc (.cells #[.int .i64 ((j : Int) + 1)] 3)).cell? ((⟨W.heap.size, 0, none⟩ : Addr).add x) = some u) := Lib.hid (by
    have r := just_new inE (W.setCell ⟨Q, 0, none⟩ (.int .i64 1)) (j + 1) 3
    rw [show (W.setCell ⟨Q, 0, none⟩ (.int .i64 1)).heap.size = W.heap.size by simp [World.setCell]] at r
    exact r)
  have B1 : Hid (g.greys.length + [j + 1].length ≤ maxLen) := Lib.hid (by unfold maxLen; simp only [List.length_singleton]; omega)
  have B2 : Hid ((g.greys.length + [j + 1].length) * inE.b ≤ 140737488355328) := Lib.hid (by show _ * 8 ≤ _; simp only [List.length_singleton]; omega)
  have e1 : IntKind.i64.wrap ((j : Int) + 1 - 1) = (j : Int) := by rw [IntWalk.i64_in _ (by omega)]; omega
  have e2 : ((j : Int) + 1 == 0) = false := by simp; omega
  unfold maxLen at hc2
  have yf0 := yf 0
  have hne2 : bg ≠ Q := fun e => hne e.symm
  subst eq
  clear h h5 d5 hcell hp hz hc hQ h1 yf cf hq1 hq2
  go_enter Try.func36, Try.ntmps36
  go_wp2_with (at_builtin; refine wpList_app inE_ok rfl (.tmp 34) (.tmp 36) rfl rfl HL.out ⟨W.heap.size, 0, none⟩ 1 1 [j + 1] rfl rfl HN.out Nat.zero_lt_one B1.out B2.out ?_; intro g3 o3 cap3 w3 hA3; obtain ⟨k5, k6, kk⟩ := HS.out w3 _ _ _ hA3; have A3 := Lib.hid kk; clear kk hA3)
  go_returns
  exact ⟨rfl, A3.out⟩
theorem shade_any (h : Pm W F bg vo vr vq q f T g lv rt) (id : Nat) (hid : id = 0 ∨ g.col id ≠ 0) (hq : g.greys.length < 4200) :
    Calls Try.prog 36 #[.pointer (some ⟨bg, 0, none⟩), .int .i64 (id : Int)] W fun e W' => e = .returned (.tuple #[]) ∧ Shd W W' F bg vo q f (g.shade id) lv rt := by
  by_cases c : g.ph = 1 ∧ id ≠ 0 ∧ g.col id = 1
  · have e : g.shade id = { g with col := up g.col id 2, greys := g.greys ++ [id] } := by unfold Gr.shade; rw [if_pos c]
    rw [e]
    exact shade_white h id c.1 c.2.2 hq
  · have e : g.shade id = g := by unfold Gr.shade; rw [if_neg c]
    rw [e]
    exact (shade_same h id hid c).mono fun _ _ ⟨a, b⟩ => ⟨a, b ▸ h.shd⟩
theorem lay_any (h : Pm W F bg vo vr vq q f T g lv rt) (id : Nat) (hz : g.col id ≠ 0) (hr : g.roots.length < 8192) (hrt : 0 ≤ rt id) (hrt2 : rt id ≤ 100000) :
    Calls Try.prog 35 #[.pointer (some ⟨bg, 0, none⟩), .int .i64 (id : Int)] W fun e W' => e = .returned (.tuple #[]) ∧ Shd W W' F bg vo q f (g.lay id) lv (up rt id (rt id + 1)) := by
  obtain ⟨_, _, c2, _, c4, _, _, _, cf⟩ := h.facts
  obtain ⟨a, cap, rfl, hc1, hc2, hp⟩ := h.pts
  obtain ⟨h1, h2⟩ := h.sz.out id hz
  have h4 := h.sz.n
  obtain ⟨b, o, rfl, hcell⟩ := hp (by omega)
  obtain ⟨aq, capq, eq, hq1, hq2, _⟩ := h.lrs.ints
  obtain ⟨j, rfl⟩ : ∃ j, id = j + 1 := ⟨id - 1, by omega⟩
  have HS : Hid (∀ w3 b' o' cap', App inE (W.alloc (.cells #[.int .i64 ((j : Int) + 1)] 3)) w3 vr g.roots [j + 1] b' o' cap' →
      w3.cell? ⟨bg, 4, none⟩ = some vr ∧ w3.frozen? ⟨bg, 4, none⟩ = false ∧ w3.cell? ⟨bg, 2, none⟩ = some (.slice (some ⟨b, o, none⟩) g.n cap) ∧ w3.cell? ⟨b, o + j, none⟩ = some (.pointer (some ⟨q (j + 1), 0, none⟩)) ∧ w3.cell? ⟨q (j + 1), 2, none⟩ = some (.int .i64 (rt (j + 1))) ∧ w3.frozen? ⟨q (j + 1), 2, none⟩ = false ∧ b ≠ bg ∧ q (j + 1) ≠ bg ∧
      Shd W ((w3.setCell ⟨bg, 4, none⟩ (.slice (some ⟨b', o', none⟩) (g.roots.length + 1) cap')).setCell ⟨q (j + 1), 2, none⟩ (.int .i64 (rt (j + 1) + 1))) F bg (.slice (some ⟨b, o, none⟩) g.n cap) q f (g.lay (j + 1)) lv (up rt (j + 1) (rt (j + 1) + 1))) := Lib.hid fun w3 b' o' cap' hA => by
    have h6 := h.same ((Cha.refl (fun _ => False) _).alloc (.cells #[.int .i64 ((j : Int) + 1)] 3))
    have s := h.sz
    obtain ⟨F', T', r1, r2, r3⟩ := h6.onRoots (thr := g.thr) hA.v rfl ⟨s.n, by show (g.roots ++ [j + 1]).length ≤ 8192; simp; omega, s.q, s.f, s.thr, s.swp, s.ph, s.c3, s.out⟩
    obtain ⟨r4, r5⟩ := r1.count (id := j + 1) hz (rt (j + 1) + 1)
    have e3 : w3.heap[bg]? = _ := (hA.cha.old bg (h6.old _ h6.tg.2) (fun e => (h6.br e).1 rfl)).trans h6.head
    have e4 : w3.heap[q (j + 1)]? = _ := (hA.cha.old _ (h6.old _ (h6.tob _ hz).2) (fun e => ((h6.br e).2.1 _ hz).1 rfl)).trans (h6.obj _ hz)
    have z := (hcell j (by omega)).1
    rw [if_neg hz] at z
    have hbo := h6.bo (b := b) rfl
    have hbl := h6.los.lt (g := b) rfl
    have z3 : w3.cell? ⟨b, o + j, none⟩ = some (.pointer (some ⟨q (j + 1), 0, none⟩)) := by
      have k1 : w3.heap[b]? = W.heap[b]? := (hA.cha.old b hbl (fun e => hbo.2.2.1 e)).trans (((Cha.refl (fun _ => False) W).alloc _).old b (h.los.lt (g := b) rfl) id)
      obtain ⟨cur, hcur⟩ : ∃ cur, W.heap[b]? = some (.cells cur 72 (0, 0)) := by
        rcases h.los with ⟨_, e⟩ | ⟨g', o', cap', cur, e, _, _, hr, _⟩
        · cases e
        · rw [ptrs_len] at e; cases e; exact ⟨cur, hr⟩
      rw [cell_of_row w3 b _ cur 72 (0, 0) (k1.trans hcur), ← cell_of_row W b _ cur 72 (0, 0) hcur]
      exact z
    refine ⟨cell_of_row w3 bg 4 _ 71 (0, 0) e3, frozen_of_row w3 bg 4 _ 71 e3, cell_of_row w3 bg 2 _ 71 (0, 0) e3, z3, cell_of_row w3 _ 2 _ 74 (0, 0) e4, frozen_of_row w3 _ 2 _ 74 e4, hbo.1, h.bgq hz, F', _, _, T', r4, ?_, fun i hi => (r3 i hi).imp id fun e => ?_⟩
    · exact ((Cha.refl F W).alloc _).trans (r2.over r5 r3)
    · have : W.heap.size ≤ (W.alloc (.cells #[.int .i64 ((j : Int) + 1)] 3)).heap.size := ((Cha.refl F W).alloc _).size
      omega
  have HL : Hid (Lies inE (W.alloc (.cells #[.int .i64 ((j : Int) + 1)] 3)) vr g.roots) := Lib.hid (h.lrs.same ((Cha.refl (fun _ => False) _).alloc _))
  have HN : Hid (∀ x u, (inE.cs [j + 1])[x]? = some u → (W.alloc (.cells #[.int .i64 ((j : Int) + 1)] 3)).cell? ((⟨W.heap.size, 0, none⟩ : Addr).add x) = some u) := Lib.hid (just_new inE W (j + 1) 3)
  have B1 : Hid (g.roots.length + [j + 1].length ≤ maxLen) := Lib.hid (by unfold maxLen; simp only [List.length_singleton]; omega)
  have B2 : Hid ((g.roots.length + [j + 1].length) * inE.b ≤ 140737488355328) := Lib.hid (by show _ * 8 ≤ _; simp only [List.length_singleton]; omega)
  have e1 : IntKind.i64.wrap ((j : Int) + 1 - 1) = (j : Int) := by rw [IntWalk.i64_in _ (by omega)]; omega
  generalize hv : rt (j + 1) = V at *
  have e5 : IntKind.i64.wrap (V + 1) = V + 1 := IntWalk.i64_in _ (by omega)
  unfold maxLen at hc2
  subst eq
  clear h hcell hp hz h1 cf hv hq1 hq2
  go_enter Try.func35, Try.ntmps35
  go_wp2_with (at_builtin; refine wpList_app inE_ok rfl (.tmp 8) (.tmp 10) rfl rfl HL.out ⟨W.heap.size, 0, none⟩ 1 1 [j + 1] rfl rfl HN.out Nat.zero_lt_one B1.out B2.out ?_; intro g3 o3 cap3 w3 hA3; obtain ⟨k5, k6, k7, k8, k9, k10, k11, k12, kk⟩ := HS.out w3 _ _ _ hA3; have A3 := Lib.hid kk; clear kk hA3)
  go_returns
  exact ⟨rfl, A3.out⟩
end Go.Proofs.Ytllefljimkmbhaa
