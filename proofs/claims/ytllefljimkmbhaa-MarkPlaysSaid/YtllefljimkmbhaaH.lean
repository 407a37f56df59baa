/- Contracts of mark: Drop, Root, Set. -/
import Derived.Test.YtllefljimkmbhaaG
namespace Go.Proofs.Ytllefljimkmbhaa
open Go.ChangeShapes Go.WideShapes Go.ChangeAt Go.RowKit
variable {w w' w1 w2 W W' : World} {F S : Nat → Prop} {bg : Nat} {vo vr vq : Value} {q f T : Nat → Nat} {g g' : Gr} {lv : Int} {rt rt' : Nat → Int} {K : Nat → Prop}

theorem Shd.pg (h : Shd W W' F bg vo q f g lv rt) (hi : Inv g K) (hl : lv = g.live) (hr : rt = cntI g.roots) : Goes (PgA bg g) W W' F := by
  subst hl hr
  obtain ⟨F1, vr, vq, T, a, c, n⟩ := h
  exact ⟨F1, ⟨⟨K, hi⟩, _, _, _, _, _, _, a⟩, c, n⟩
theorem PgA.open (h : PgA bg g W F) : ∃ K vo vr vq q f T, Inv g K ∧ Pm W F bg vo vr vq q f T g g.live (cntI g.roots) := by
  obtain ⟨⟨K, hi⟩, vo, vr, vq, q, f, T, h⟩ := h
  exact ⟨K, vo, vr, vq, q, f, T, hi, h⟩
theorem Inv.rk (h : Inv g K) : Rk g (cntI g.roots) := ⟨rfl, fun r hr => by obtain ⟨a, b, c⟩ := h.kroot r hr; exact h.kin r a b c⟩
theorem Pm.ptr (h : Pm W F bg vo vr vq q f T g lv rt) {b o n cap : Nat} (e : vo = .slice (some ⟨b, o, none⟩) n cap) {id : Nat} (k : g.col id ≠ 0) : W.cell? ⟨b, o + (id - 1), none⟩ = some (.pointer (some ⟨q id, 0, none⟩)) ∧ n = g.n := by
  obtain ⟨a, c, e2, _, _, hp⟩ := h.pts
  obtain ⟨h1, h2⟩ := h.sz.out id k
  rw [e] at e2
  injection e2 with f1 f2 f3
  obtain ⟨b2, o2, rfl, hc⟩ := hp (by omega)
  injection f1 with f1
  injection f1 with f1 f1' _
  subst f1 f1'
  have := (hc (id - 1) (by omega)).1
  rw [show id - 1 + 1 = id by omega, if_neg k] at this
  exact ⟨this, f2⟩
theorem cnt_erase {L : List Nat} {a : Nat} (ha : a < L.length) (x : Nat) : cntI (L.eraseIdx a) x = up (cntI L) L[a] (cntI L L[a] - 1) x := by
  have e : L = L.take a ++ L[a] :: L.drop (a + 1) := by rw [← List.drop_eq_getElem_cons ha, List.take_append_drop]
  have e2 : L.eraseIdx a = L.take a ++ L.drop (a + 1) := List.eraseIdx_eq_take_drop_succ L a
  generalize hy : L[a] = y at *
  unfold up cntI
  rw [e2]
  by_cases c : x = y
  · subst c
    rw [if_pos rfl]
    conv => rhs; rw [e]
    simp only [List.count_append, List.count_cons_self]
    omega
  · rw [if_neg c]
    conv => rhs; rw [e]
    simp only [List.count_append, List.count_cons_of_ne (fun z => c z.symm)]
theorem cnt_lay {L : List Nat} (id : Nat) : cntI (L ++ [id]) = up (cntI L) id (cntI L id + 1) := by
  funext x
  unfold up cntI
  rw [List.count_append]
  by_cases c : x = id
  · subst c; rw [if_pos rfl]; simp
  · rw [if_neg c, List.count_cons_of_ne (fun z => c z.symm)]; simp
theorem cnt_bound (L : List Nat) (id : Nat) : 0 ≤ cntI L id ∧ cntI L id ≤ L.length := by
  unfold cntI
  exact ⟨by omega, by exact_mod_cast List.count_le_length⟩

theorem drop_none (a : Int) (W : World) : Calls Try.prog 14 #[.pointer none, .int .i64 a] W fun e W' => e = .returned (.int .i64 5) ∧ W = W' := by
  go_enter Try.func14, Try.ntmps14
  go_wp2
  go_returns
  exact ⟨rfl, rfl⟩
theorem drop_bad (h : Pm W F bg vo vr vq q f T g lv rt) (a : Int) (ha : a < 0 ∨ (g.roots.length : Int) ≤ a) : Calls Try.prog 14 #[.pointer (some ⟨bg, 0, none⟩), .int .i64 a] W fun e W' => e = .returned (.int .i64 1) ∧ W = W' := by
  obtain ⟨_, _, _, _, c4, _⟩ := h.facts
  obtain ⟨aq, capq, rfl, hq1, hq2, _⟩ := h.lrs.ints
  clear h
  by_cases k : a < 0
  · clear ha
    go_enter Try.func14, Try.ntmps14
    go_wp2
    go_returns
    exact ⟨rfl, rfl⟩
  · have ha := ha.resolve_left k
    go_enter Try.func14, Try.ntmps14
    go_wp2
    go_returns
    exact ⟨rfl, rfl⟩
set_option maxHeartbeats 1000000 in
theorem drop_in (h : Pm W F bg vo vr vq q f T g g.live (cntI g.roots)) (hi : Inv g K) (a : Nat) (ha : a < g.roots.length) :
    Calls Try.prog 14 #[.pointer (some ⟨bg, 0, none⟩), .int .i64 (a : Int)] W fun e W' => e = .returned (.int .i64 0) ∧ Goes (PgA bg (g.drop a)) W W' F := by
  obtain ⟨_, _, _, _, c4, _⟩ := h.facts
  obtain ⟨vo', cap, eo, hc1, hc2, hp⟩ := h.pts
  have hkr := hi.kroot _ (List.getElem_mem ha)
  have hz : g.col g.roots[a] ≠ 0 := hi.kin _ hkr.1 hkr.2.1 hkr.2.2
  obtain ⟨b, o, rfl, _⟩ := hp (by omega)
  obtain ⟨aq, capq, er, hq1, hq2, hr⟩ := h.lrs.ints
  obtain ⟨br, or, rfl, hrc⟩ := hr (by omega)
  have y := (hrc a ha).1
  have hI := hi.drop ha
  have hr8 := h.sz.r
  have hth := hi.thr
  have e0 : g.roots.getD a 0 = g.roots[a] := by simp [ha]
  unfold Gr.drop at hI ⊢
  rw [e0] at y hI ⊢
  obtain ⟨id, hid⟩ : ∃ id, id = g.roots[a] := ⟨_, rfl⟩
  have hcnt : cntI (g.roots.eraseIdx a) = up (cntI g.roots) id (cntI g.roots id - 1) := by funext x; rw [hid]; exact cnt_erase ha x
  rw [← hid] at y hz hI hkr ⊢
  have CS := Lib.hid (shade_any h id (.inr hz) (by have := hi.greys_le; omega))
  have hn4 := h.sz.n
  have hbnd := cnt_bound g.roots id
  obtain ⟨j, rfl⟩ : ∃ j, id = j + 1 := ⟨id - 1, by omega⟩
  obtain ⟨Q, hQ⟩ : ∃ Q, Q = q (j + 1) := ⟨_, rfl⟩
  obtain ⟨V, hV⟩ : ∃ V, V = cntI g.roots (j + 1) := ⟨_, rfl⟩
  rw [← hV] at hbnd hcnt
  have HX : Hid (∀ w1, Shd W w1 F bg vo q f (g.shade (j + 1)) g.live (cntI g.roots) → ∃ vr1, w1.cell? ⟨bg, 2, none⟩ = some (.slice (some ⟨b, o, none⟩) g.n cap) ∧ w1.cell? ⟨b, o + j, none⟩ = some (.pointer (some ⟨Q, 0, none⟩)) ∧ w1.cell? ⟨Q, 2, none⟩ = some (.int .i64 V) ∧ w1.frozen? ⟨Q, 2, none⟩ = false ∧
      bg ≠ Q ∧ w1.cell? ⟨bg, 4, none⟩ = some vr1 ∧ Calls Try.prog 37 #[vr1, .int .i64 (a : Int), .int .i64 ((a : Int) + 1)] (w1.setCell ⟨Q, 2, none⟩ (.int .i64 (V - 1))) fun e w3 => ∃ (a' : Option Addr) (n' c' : Nat), e = .returned (.slice a' n' c') ∧ w3.cell? ⟨bg, 4, none⟩ = some vr1 ∧ w3.frozen? ⟨bg, 4, none⟩ = false ∧ w3.cell? ⟨bg, 5, none⟩ = some (.int .i64 g.thr) ∧ w3.frozen? ⟨bg, 5, none⟩ = false ∧
      Goes (PgA bg ((g.shade (j + 1)).erase a)) W (if a < g.thr then (w3.setCell ⟨bg, 4, none⟩ (.slice a' n' c')).setCell ⟨bg, 5, none⟩ (.int .i64 ((g.thr : Int) - 1)) else w3.setCell ⟨bg, 4, none⟩ (.slice a' n' c')) F) := Lib.hid fun w1 hS => by
    obtain ⟨F1, vr1, vq1, T1, h1, d1, n1⟩ := hS
    have hz1 : (g.shade (j + 1)).col (j + 1) ≠ 0 := fun z => hz ((shade_zero_iff _ _).1 z)
    obtain ⟨_, _, x2, _, x4, _⟩ := h1.facts
    obtain ⟨_, _, x6, x7⟩ := h1.oc hz1
    obtain ⟨h2, d2⟩ := h1.count hz1 (V - 1)
    rw [← hQ] at x6 x7 h2 d2
    have hlen : (g.shade (j + 1)).roots = g.roots := shade_roots _
    have hthr : (g.shade (j + 1)).thr = g.thr := shade_thr _
    have s2 := h2.sz
    refine ⟨vr1, by rw [x2, eo], ?_, by rw [x6, hV], x7 2, fun e => h1.bgq hz1 (by rw [← hQ]; exact e.symm), x4, ?_⟩
    · have := (h1.ptr eo hz1).1
      rw [← hQ] at this
      exact this
    · refine (delete_one h2.lrs a (by rw [hlen]; exact ha) (by rw [hlen]; omega)).mono fun e w3 ⟨v', he, hA⟩ => ?_
      obtain ⟨aa, cc, ev, _⟩ := hA.lies.form
      subst ev
      refine ⟨aa, _, cc, he, ?_⟩
      have e3 : w3.heap[bg]? = some (.cells ((g.shade (j + 1)).head g.live vo vr1 vq1) 71 (0, 0)) := (hA.cha.old bg (h2.old _ h2.tg.2) (fun e => (h2.br e).1 rfl)).trans h2.head
      have z5 : w3.cell? ⟨bg, 5, none⟩ = some (.int .i64 g.thr) := by rw [cell_of_row w3 bg 5 _ 71 (0, 0) e3]; show some (Value.int .i64 ((g.shade (j + 1)).thr : Nat)) = _; rw [hthr]
      have hle : ((g.shade (j + 1)).roots.eraseIdx a).length = g.roots.length - 1 := by rw [hlen, List.length_eraseIdx_of_lt ha]
      obtain ⟨F3, T3, h3, d3, n3⟩ := h2.onRoots (thr := (g.shade (j + 1)).thr) hA rfl ⟨s2.n, by show ((g.shade (j + 1)).roots.eraseIdx a).length ≤ 8192; omega, s2.q, s2.f, s2.thr, s2.swp, s2.ph, s2.c3, s2.out⟩
      refine ⟨cell_of_row w3 bg 4 _ 71 (0, 0) e3, frozen_of_row w3 bg 4 _ 71 e3, z5, frozen_of_row w3 bg 5 _ 71 e3, ?_⟩
      have hrt : up (cntI g.roots) (j + 1) (V - 1) = cntI ((g.shade (j + 1)).roots.eraseIdx a) := by rw [hlen, hcnt]
      have base : ∀ (W4 : World) (F4 : Nat → Prop), Cha F3 (w3.setCell ⟨bg, 4, none⟩ (.slice aa ((g.shade (j + 1)).roots.eraseIdx a).length cc)) W4 → (∀ i, F4 i → F3 i) → Cha F W W4 ∧ ∀ i, F4 i → F i ∨ W.heap.size ≤ i := fun W4 F4 c4 n4 => by
        refine ⟨((d1.over d2 n1).over d3 n1).over c4 (fun i hi => ?_), fun i hi => ?_⟩
        · rcases n3 i hi with k | k
          · exact n1 i k
          · exact .inr (Nat.le_trans (d1.over d2 n1).size k)
        · rcases n3 i (n4 i hi) with k | k
          · exact n1 i k
          · exact .inr (Nat.le_trans (d1.over d2 n1).size k)
      by_cases c : a < g.thr
      · rw [if_pos c]
        obtain ⟨h4, d4⟩ := h3.put (g' := (g.shade (j + 1)).erase a) (lv' := g.live) 5 (.int .i64 ((g.thr : Int) - 1)) (by
          unfold Gr.head Gr.erase
          show _ = #[_, _, _, _, _, Value.int .i64 (((if a < (g.shade (j + 1)).thr then (g.shade (j + 1)).thr - 1 else (g.shade (j + 1)).thr : Nat)) : Int), _, _]
          rw [hthr, if_pos c, show (((g.thr - 1 : Nat)) : Int) = (g.thr : Int) - 1 by omega]; rfl) rfl rfl rfl rfl rfl ⟨s2.n, by show ((g.shade (j + 1)).roots.eraseIdx a).length ≤ 8192; omega, s2.q, s2.f, by show (if a < (g.shade (j + 1)).thr then (g.shade (j + 1)).thr - 1 else (g.shade (j + 1)).thr) ≤ 8192; rw [hthr]; split <;> omega, s2.swp, s2.ph, s2.c3, s2.out⟩
        obtain ⟨r1, r2⟩ := base _ F3 d4 (fun _ x => x)
        rw [hrt] at h4
        have hlv : (g.live : Int) = ((g.shade (j + 1)).erase a).live := by show _ = ((g.shade (j + 1)).live : Int); rw [shade_live]
        rw [hlv] at h4
        exact ⟨F3, ⟨⟨K, hI⟩, _, _, _, _, _, _, h4⟩, r1, r2⟩
      · rw [if_neg c]
        obtain ⟨r1, r2⟩ := base _ F3 (Cha.refl _ _) (fun _ x => x)
        have ee : (g.shade (j + 1)).erase a = { g.shade (j + 1) with roots := (g.shade (j + 1)).roots.eraseIdx a, thr := (g.shade (j + 1)).thr } := by
          unfold Gr.erase; rw [hthr, if_neg c]
        rw [ee] at hI ⊢
        rw [hrt] at h3
        have hlv : (g.live : Int) = (({ g.shade (j + 1) with roots := (g.shade (j + 1)).roots.eraseIdx a, thr := (g.shade (j + 1)).thr } : Gr).live : Int) := by show _ = ((g.shade (j + 1)).live : Int); rw [shade_live]
        rw [hlv] at h3
        exact ⟨F3, ⟨⟨K, hI⟩, _, _, _, _, _, _, h3⟩, r1, r2⟩
  replace CS : Hid (Calls Try.prog 36 #[.pointer (some ⟨bg, 0, none⟩), .int .i64 ((j : Int) + 1)] W fun e W' => e = .returned (.tuple #[]) ∧ Shd W W' F bg vo q f (g.shade (j + 1)) g.live (cntI g.roots)) := CS
  have e1 : IntKind.i64.wrap ((j : Int) + 1 - 1) = (j : Int) := by rw [IntWalk.i64_in _ (by omega)]; omega
  have e5 : IntKind.i64.wrap (V - 1) = V - 1 := IntWalk.i64_in _ (by omega)
  have e6 : IntKind.i64.wrap ((a : Int) + 1) = (a : Int) + 1 := IntWalk.i64_in _ (by omega)
  have e7 : IntKind.i64.wrap ((g.thr : Int) - 1) = (g.thr : Int) - 1 := IntWalk.i64_in _ (by omega)
  have hjn : j < g.n := by omega
  unfold maxLen at hc2
  subst er
  clear h hi hI hp hr hrc hz hkr hid hcnt hV hQ hbnd hth eo e0
  by_cases c : a < g.thr
  · simp only [if_pos c] at HX
    go_enter Try.func14, Try.ntmps14
    go_wp2_with (first
      | (go_at_call 36; ((with_reducible refine (CS.out).mono ?_); rintro e w1 ⟨rfl, hS⟩; obtain ⟨vr1, y1, y2, y3, y4, y5, y6, hD⟩ := HX.out _ hS; have CD := Lib.hid hD; clear hS hD))
      | (go_at_call 37; ((with_reducible refine (CD.out).mono ?_); rintro e w3 ⟨a3, n3, c3, rfl, z1, z2, z3, z4, hG⟩; have HG := Lib.hid hG; clear hG)))
    go_returns
    exact ⟨rfl, HG.out⟩
  · simp only [if_neg c] at HX
    go_enter Try.func14, Try.ntmps14
    go_wp2_with (first
      | (go_at_call 36; ((with_reducible refine (CS.out).mono ?_); rintro e w1 ⟨rfl, hS⟩; obtain ⟨vr1, y1, y2, y3, y4, y5, y6, hD⟩ := HX.out _ hS; have CD := Lib.hid hD; clear hS hD))
      | (go_at_call 37; ((with_reducible refine (CD.out).mono ?_); rintro e w3 ⟨a3, n3, c3, rfl, z1, z2, z3, z4, hG⟩; have HG := Lib.hid hG; clear hG)))
    go_returns
    exact ⟨rfl, HG.out⟩
theorem drop_any (h : PgA bg g W F) (a : Int) : Calls Try.prog 14 #[.pointer (some ⟨bg, 0, none⟩), .int .i64 a] W fun e W' => e = .returned (.int .i64 (g.dropR a).1) ∧ Goes (PgA bg (g.dropR a).2) W W' F := by
  have h0 := h
  obtain ⟨K, vo, vr, vq, q, f, T, hi, h⟩ := h.open
  unfold Gr.dropR
  by_cases c : a < 0 ∨ (g.roots.length : Int) ≤ a
  · rw [if_pos c]
    exact (drop_bad h a c).mono fun _ _ ⟨a, b⟩ => ⟨a, b ▸ .refl h0⟩
  · rw [if_neg c]
    obtain ⟨n, rfl⟩ : ∃ n : Nat, a = n := ⟨a.toNat, by omega⟩
    exact drop_in h hi n (by omega)
end Go.Proofs.Ytllefljimkmbhaa
