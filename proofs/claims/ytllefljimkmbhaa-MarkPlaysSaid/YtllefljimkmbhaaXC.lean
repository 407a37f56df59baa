/- The law's changes: change. -/
import Derived.Test.YtllefljimkmbhaaXB
namespace Go.Proofs.Ytllefljimkmbhaa
open Go.ChangeShapes Go.WideShapes Go.ChangeAt Go.RowKit
variable {w w' w1 w2 w3 W W' : World} {F S : Nat → Prop} {bg bd : Nat} {g : Gr} {K : Nat → Prop}

/-- A change: which object and field. -/
def Gr.px (g : Gr) (z : Int) : Nat := g.roots.getD (rem0 z g.roots.length) 0
def Gr.change (g : Gr) (z0 z1 z2 z3 : Int) : Gr :=
  if g.roots.length = 0 ∨ Int.tmod z0 5 = 0 then g.add (rem0 z1 4)
  else if Int.tmod z0 5 = 1 ∨ Int.tmod z0 5 = -1 then g.drop (rem0 z1 g.roots.length)
  else if (g.fs (g.px z1)).length = 0 then g
  else if Int.tmod z0 5 = 2 ∨ Int.tmod z0 5 = -2 then
    (if (g.fs (g.px z1)).getD (rem0 z2 (g.fs (g.px z1)).length) 0 = 0 ∨ 4000 < g.roots.length then g else (g.lay ((g.fs (g.px z1)).getD (rem0 z2 (g.fs (g.px z1)).length) 0)).shade ((g.fs (g.px z1)).getD (rem0 z2 (g.fs (g.px z1)).length) 0))
  else g.set (g.px z1) (rem0 z2 (g.fs (g.px z1)).length) (g.px z3)
/-- Both beside one another. -/
def Duo (bg bd : Nat) (g : Gr) : Asn := Star (PgA bg g) (IdA bd g.n g.fs g.roots)
theorem fit_duo (bg bd : Nat) (g : Gr) : Fit (Duo bg bd g) := (fit_pg _ _).star (fit_id _ _ _ _)
def opV (z0 z1 z2 z3 : Int) : Value := .agg #[.int .i64 z0, .int .i64 z1, .int .i64 z2, .int .i64 z3]
theorem px_mem (hr : 0 < g.roots.length) (z : Int) : g.px z ∈ g.roots := by
  unfold Gr.px
  have h := (rem0_eq z hr).2
  have e : g.roots.getD (rem0 z g.roots.length) 0 = g.roots[rem0 z g.roots.length] := by simp [h]
  rw [e]; exact List.getElem_mem h
theorem duo_inv (h : Duo bg bd g W F) : ∃ K, Inv g K := by obtain ⟨_, _, p, _⟩ := h; exact p.1
theorem duo_im (h : Duo bg bd g W F) : ∃ F2 vf vr f T, Im W F2 bd vf vr f T g.n g.fs g.roots := by obtain ⟨_, F2, _, ⟨vf, vr, f, T, q⟩, _⟩ := h; exact ⟨F2, vf, vr, f, T, q⟩
theorem new_set (w : World) (p : Addr) (v : Value) (x : Nat) : ∀ j u, (inE.cs [x])[j]? = some u → ((w.setCell p v).alloc (.cells #[.int .i64 (x : Int)] 3)).cell? ((⟨w.heap.size, 0, none⟩ : Addr).add j) = some u := by
  have r := just_new inE (w.setCell p v) x 3
  rw [show (w.setCell p v).heap.size = w.heap.size by simp [World.setCell]] at r
  exact r
set_option maxRecDepth 100000 in
set_option maxHeartbeats 2000000 in
/-- An object more. -/
theorem change_add (h : Duo bg bd g W F) (hn : g.n < 4000) (z0 z1 z2 z3 : Int) (hc : g.roots.length = 0 ∨ Int.tmod z0 5 = 0) :
    Calls Try.prog 32 #[.pointer (some ⟨bg, 0, none⟩), .pointer (some ⟨bd, 0, none⟩), opV z0 z1 z2 z3] W fun e W' => e = .returned (.bool true) ∧ Goes (Duo bg bd (g.add (rem0 z1 4))) W W' F := by
  obtain ⟨F2, vf, vr, f, T, hI⟩ := duo_im h
  obtain ⟨_, c1, _⟩ := hI.facts
  obtain ⟨ar, cr, er, -, -, -⟩ := hI.lr.ints
  subst er
  have hbd := hI.old _ hI.tg.2
  obtain ⟨K, hi⟩ := duo_inv h
  have hr8 := hi.r8
  obtain ⟨e4, e5⟩ := rem0_eq z1 (show 0 < 4 by decide)
  obtain ⟨t0, t1⟩ := tmod_bound z1 (show 0 < 4 by decide)
  obtain ⟨k, hk⟩ : ∃ k, k = rem0 z1 4 := ⟨_, rfl⟩
  rw [← hk] at e4 e5 ⊢
  replace e4 : Int.tmod (Int.tmod z1 4 + 4) 4 = (k : Int) := e4
  replace t0 : -4 < Int.tmod z1 4 := t0
  replace t1 : Int.tmod z1 4 < 4 := t1
  have e3 : IntKind.i64.wrap (Int.tmod z1 4 + 4) = Int.tmod z1 4 + 4 := IntWalk.i64_in _ (by omega)
  -- the program's Add, behind the box of the call
  have CA : Hid (∀ W1, Cha (fun _ => False) W W1 → Calls Try.prog 12 #[.pointer (some ⟨bg, 0, none⟩), .int .i64 (k : Int)] W1 fun e W2 => e = .returned (.tuple #[.int .i64 ((g.n : Int) + 1), .int .i64 0]) ∧ Goes (Star (PgA bg (g.add k)) (IdA bd g.n g.fs g.roots)) W W2 F) := Lib.hid fun W1 c => by
    have h1 := (fit_duo bg bd g).same h c
    refine (Star.stepL (fit_pg _ _) (fit_id _ _ _ _) h1 fun F1 p => add_any p (k : Int)).mono fun e W2 ⟨a, b⟩ => ?_
    have ea : g.addR (k : Int) = ((((g.n + 1 : Nat) : Int), 0), g.add k) := by
      unfold Gr.addR
      rw [if_neg (by omega), if_neg (by omega), Int.toNat_natCast]
    rw [ea] at a b
    exact ⟨a, b.before c⟩
  have HX : Hid (∀ w2, Goes (Star (PgA bg (g.add k)) (IdA bd g.n g.fs g.roots)) W w2 F → ∃ b o cap ar cr f2, w2.cell? ⟨bd, 0, none⟩ = some (.slice (some ⟨b, o, none⟩) (g.n + 1) cap) ∧ w2.cell? ⟨bd, 1, none⟩ = some (.slice ar g.roots.length cr) ∧ bd < w2.heap.size ∧
      (∀ w', Cha (fun _ => False) w2 w' → Lies slE w' (.slice (some ⟨b, o, none⟩) (g.n + 1) cap) (flds g.n g.fs f2)) ∧
      ∀ (Wx w3 : World) b' o' cap', App slE Wx w3 (.slice (some ⟨b, o, none⟩) (g.n + 1) cap) (flds g.n g.fs f2) [(some w2.heap.size, k)] b' o' cap' →
        Wx.heap = ((w2.alloc (.cells (fcells k (rowV (List.replicate k 0))) 3)).alloc (.cells #[.slice (some ⟨w2.heap.size, 0, none⟩) k k] 50)).heap → Wx.os = w2.os → Wx.output = w2.output →
        w3.cell? ⟨bd, 0, none⟩ = some (.slice (some ⟨b, o, none⟩) (g.n + 1) cap) ∧ w3.frozen? ⟨bd, 0, none⟩ = false ∧ w3.cell? ⟨bd, 1, none⟩ = some (.slice ar g.roots.length cr) ∧ bd < w3.heap.size ∧
        Lies inE ((w3.setCell ⟨bd, 0, none⟩ (.slice (some ⟨b', o', none⟩) (g.n + 1 + 1) cap')).alloc (.cells #[.int .i64 ((g.n : Int) + 1)] 3)) (.slice ar g.roots.length cr) g.roots ∧
        ∀ (w5 : World) b2 o2 cap2, App inE ((w3.setCell ⟨bd, 0, none⟩ (.slice (some ⟨b', o', none⟩) (g.n + 1 + 1) cap')).alloc (.cells #[.int .i64 ((g.n : Int) + 1)] 3)) w5 (.slice ar g.roots.length cr) g.roots [g.n + 1] b2 o2 cap2 →
          w5.cell? ⟨bd, 1, none⟩ = some (.slice ar g.roots.length cr) ∧ w5.frozen? ⟨bd, 1, none⟩ = false ∧ w5.cell? ⟨bd, 0, none⟩ = some (.slice (some ⟨b', o', none⟩) (g.n + 1 + 1) cap') ∧
          Goes (Duo bg bd (g.add k)) W (w5.setCell ⟨bd, 1, none⟩ (.slice (some ⟨b2, o2, none⟩) (g.roots.length + 1) cap2)) F) := Lib.hid fun w2 hG => by
    obtain ⟨Fw, hst, cG, nG⟩ := hG
    have hst' := hst
    obtain ⟨F1, F2, p1, ⟨vf2, vr2, f2, T2, q⟩, dj, i1, i2, od⟩ := hst'
    obtain ⟨x0, x1, _⟩ := q.facts
    obtain ⟨b, o, cap, ev, hv1, hv2, _⟩ := q.sls
    obtain ⟨ar, cr, er, _⟩ := q.lr.ints
    subst ev er
    refine ⟨b, o, cap, ar, cr, f2, x0, x1, q.old _ q.tg.2, fun w' c => q.lf.same c, fun Wx w3 b' o' cap' hA q1 q2 q3 => ?_⟩
    have hsz : Wx.heap.size = w2.heap.size + 2 := by rw [q1, World.size_alloc, World.size_alloc]
    have cWx : Cha (fun _ => False) w2 Wx := by
      have c := ((Cha.refl (fun _ => False) w2).alloc (.cells (fcells k (rowV (List.replicate k 0))) 3)).alloc (.cells #[.slice (some ⟨w2.heap.size, 0, none⟩) k k] 50)
      exact ⟨q2, q3, by rw [q1]; exact c.size, fun i hi hs => by rw [q1]; exact c.old i hi hs⟩
    have qx := q.same cWx
    have hA3 := hA.v
    rw [flds_len] at hA3
    have e3 : w3.heap[bd]? = _ := (hA.cha.old bd (qx.old _ qx.tg.2) (fun e => (qx.bv e).1 rfl)).trans qx.head
    obtain ⟨F3, T3, h3, d3, n3⟩ := q.push (k := k) (by omega) (by omega) cWx (by omega) (by
        show Wx.heap[w2.heap.size]? = _
        rw [q1, heap_alloc_old _ _ (by rw [World.size_alloc]; omega)]
        exact heap_alloc_new w2 _) hA3.lies hA3.cha (fun b e => (hA3.at' b e).imp id fun z => by omega)
    refine ⟨cell_of_row w3 bd 0 _ 61 (0, 0) e3, frozen_of_row w3 bd 0 _ 61 e3, cell_of_row w3 bd 1 _ 61 (0, 0) e3, (Array.getElem?_eq_some_iff.1 e3).1, h3.lr.same ((Cha.refl (fun _ => False) _).alloc _), fun w5 b2 o2 cap2 hB => ?_⟩
    have h3a := h3.same ((Cha.refl (fun _ => False) _).alloc (.cells #[.int .i64 ((g.n : Int) + 1)] 3))
    have e5 : w5.heap[bd]? = _ := (hB.cha.old bd (h3a.old _ h3a.tg.2) (fun e => (h3a.br e).1 rfl)).trans h3a.head
    have hB3 := hB.v
    obtain ⟨F5, T5, h5, d5, n5⟩ := h3a.onRoots (L := g.roots ++ [g.n + 1]) hB3.lies hB3.cha hB3.at' (by simp; omega)
    refine ⟨cell_of_row w5 bd 1 _ 61 (0, 0) e5, frozen_of_row w5 bd 1 _ 61 e5, cell_of_row w5 bd 0 _ 61 (0, 0) e5, ?_⟩
    have step : Goes (Duo bg bd (g.add k)) w2 (w5.setCell ⟨bd, 1, none⟩ (.slice (some ⟨b2, o2, none⟩) (g.roots.length + 1) cap2)) Fw := by
      have cA : Cha F2 w2 (w5.setCell ⟨bd, 1, none⟩ (.slice (some ⟨b2, o2, none⟩) (g.roots.length + 1) cap2)) := d3.over (((Cha.refl F3 _).alloc _).trans d5) n3
      have pg := (fit_pg bg (g.add k)).cha p1 cA (fun i x y => dj i x y)
      have hsz3 : w2.heap.size ≤ ((w3.setCell ⟨bd, 0, none⟩ (.slice (some ⟨b', o', none⟩) (g.n + 1 + 1) cap')).alloc (.cells #[.int .i64 ((g.n : Int) + 1)] 3)).heap.size := (d3.trans ((Cha.refl F2 _).alloc _)).size
      have nn : ∀ i, F5 i → F2 i ∨ w2.heap.size ≤ i := fun i x => by
        rcases n5 i x with y | y
        · exact n3 i y
        · exact .inr (Nat.le_trans hsz3 y)
      refine ⟨fun i => Fw i ∨ F5 i, ⟨F1, F5, pg, ⟨_, _, _, _, h5⟩, fun i x y => ?_, fun i x => .inl (i1 i x), fun i x => .inr x, fun i x => ?_⟩, cA.mono fun i _ x => i2 i x, fun i x => ?_⟩
      · rcases nn i y with z | z
        · exact dj i x z
        · have := od i (i1 i x); omega
      · rcases x with x | x
        · exact Nat.lt_of_lt_of_le (od i x) cA.size
        · exact h5.old i x
      · rcases x with x | x
        · exact .inl x
        · exact (nn i x).imp (i2 i) id
    exact Goes.over cG nG step
  have e7 : IntKind.i64.wrap ((g.n : Int) + 1 + 1 - 1) = (g.n : Int) + 1 := by rw [IntWalk.i64_in _ (by omega)]; omega
  clear h hI hi hk
  unfold opV
  by_cases hl : g.roots.length = 0
  · rw [hl] at c1
    clear hc hl
    go_enter Try.func32, Try.ntmps32
    go_wp2_with (go_at_call 12; ((with_reducible refine (CA.out _ ((Cha.refl (fun _ => False) W).alloc _)).mono ?_); rintro e w2 ⟨rfl, hG⟩; obtain ⟨b, o, cap, ar2, cr2, f2, x0, x1, xb, hL, hK⟩ := HX.out _ hG; have HL := Lib.hid hL; have HK := Lib.hid hK; have LF := flds_len g.n g.fs f2; clear hG hL hK))
    have HLF := Lib.hid LF
    have NN : Hid (∀ x u, (slE.cs [(some w2.heap.size, k)])[x]? = some u → ((w2.alloc (.cells (fcells k (rowV (List.replicate k 0))) 3)).alloc (.cells #[.slice (some ⟨w2.heap.size, 0, none⟩) k k] 50)).cell? ((⟨w2.heap.size + 1, 0, none⟩ : Addr).add x) = some u) := Lib.hid (by
      have r := just_new slE (w2.alloc (.cells (fcells k (rowV (List.replicate k 0))) 3)) (some w2.heap.size, k) 50
      rw [World.size_alloc] at r
      exact r)
    have B1 : Hid ((flds g.n g.fs f2).length + [(some w2.heap.size, k)].length ≤ maxLen) := Lib.hid (by rw [LF]; unfold maxLen; simp only [List.length_singleton]; omega)
    have B2 : Hid (((flds g.n g.fs f2).length + [(some w2.heap.size, k)].length) * slE.b ≤ 140737488355328) := Lib.hid (by rw [LF]; show _ * 24 ≤ _; simp only [List.length_singleton]; omega)
    have B3 : Hid (g.roots.length + [g.n + 1].length ≤ maxLen) := Lib.hid (by unfold maxLen; simp only [List.length_singleton]; omega)
    have B4 : Hid ((g.roots.length + [g.n + 1].length) * inE.b ≤ 140737488355328) := Lib.hid (by show _ * 8 ≤ _; simp only [List.length_singleton]; omega)
    have hmk := mk_ints k (by omega)
    clear LF
    go_region_law (refine step_app slE_ok rfl (.tmp 47) (.tmp 50) rfl (v := .slice (some ⟨b, o, none⟩) (g.n + 1) cap) (A := flds g.n g.fs f2) rfl (HL.out _ ((((Cha.refl (fun _ => False) _).alloc _).alloc _).drew)) ⟨w2.heap.size + 1, 0, none⟩ 1 1 [(some w2.heap.size, k)] rfl rfl NN.out Nat.zero_lt_one B1.out B2.out ?_; intro g3 o3 cap3 w3 hA3; rw [HLF.out]; obtain ⟨k5, k6, k7, k8, hL2, hK2⟩ := HK.out _ w3 _ _ _ hA3 rfl rfl rfl; have L2 := Lib.hid hL2; have K2 := Lib.hid hK2; clear hA3 hL2 hK2)
    all_goals
      go_wp2_with (at_builtin; refine wpList_app inE_ok rfl (.tmp 58) (.tmp 60) rfl rfl L2.out ⟨w3.heap.size, 0, none⟩ 1 1 [g.n + 1] rfl rfl (new_set w3 _ _ (g.n + 1)) Nat.zero_lt_one B3.out B4.out ?_; intro g4 o4 cap4 w5 hB; obtain ⟨m5, m6, m7, hG5⟩ := K2.out _ _ _ _ hB; have G5 := Lib.hid hG5; clear hB hG5)
      go_returns
      exact ⟨by simp, G5.out⟩
  · have l1 : ((g.roots.length : Int) == 0) = false := beq_eq_false_iff_ne.2 (by omega)
    have l2 := hc.resolve_left hl
    have l3 : ¬ (g.roots.length = 0) := hl
    clear hc hl
    go_enter Try.func32, Try.ntmps32
    go_wp2_with (go_at_call 12; ((with_reducible refine (CA.out _ ((Cha.refl (fun _ => False) W).alloc _)).mono ?_); rintro e w2 ⟨rfl, hG⟩; obtain ⟨b, o, cap, ar2, cr2, f2, x0, x1, xb, hL, hK⟩ := HX.out _ hG; have HL := Lib.hid hL; have HK := Lib.hid hK; have LF := flds_len g.n g.fs f2; clear hG hL hK))
    have HLF := Lib.hid LF
    have NN : Hid (∀ x u, (slE.cs [(some w2.heap.size, k)])[x]? = some u → ((w2.alloc (.cells (fcells k (rowV (List.replicate k 0))) 3)).alloc (.cells #[.slice (some ⟨w2.heap.size, 0, none⟩) k k] 50)).cell? ((⟨w2.heap.size + 1, 0, none⟩ : Addr).add x) = some u) := Lib.hid (by
      have r := just_new slE (w2.alloc (.cells (fcells k (rowV (List.replicate k 0))) 3)) (some w2.heap.size, k) 50
      rw [World.size_alloc] at r
      exact r)
    have B1 : Hid ((flds g.n g.fs f2).length + [(some w2.heap.size, k)].length ≤ maxLen) := Lib.hid (by rw [LF]; unfold maxLen; simp only [List.length_singleton]; omega)
    have B2 : Hid (((flds g.n g.fs f2).length + [(some w2.heap.size, k)].length) * slE.b ≤ 140737488355328) := Lib.hid (by rw [LF]; show _ * 24 ≤ _; simp only [List.length_singleton]; omega)
    have B3 : Hid (g.roots.length + [g.n + 1].length ≤ maxLen) := Lib.hid (by unfold maxLen; simp only [List.length_singleton]; omega)
    have B4 : Hid ((g.roots.length + [g.n + 1].length) * inE.b ≤ 140737488355328) := Lib.hid (by show _ * 8 ≤ _; simp only [List.length_singleton]; omega)
    have hmk := mk_ints k (by omega)
    clear LF
    go_region_law (refine step_app slE_ok rfl (.tmp 47) (.tmp 50) rfl (v := .slice (some ⟨b, o, none⟩) (g.n + 1) cap) (A := flds g.n g.fs f2) rfl (HL.out _ ((((Cha.refl (fun _ => False) _).alloc _).alloc _).drew)) ⟨w2.heap.size + 1, 0, none⟩ 1 1 [(some w2.heap.size, k)] rfl rfl NN.out Nat.zero_lt_one B1.out B2.out ?_; intro g3 o3 cap3 w3 hA3; rw [HLF.out]; obtain ⟨k5, k6, k7, k8, hL2, hK2⟩ := HK.out _ w3 _ _ _ hA3 rfl rfl rfl; have L2 := Lib.hid hL2; have K2 := Lib.hid hK2; clear hA3 hL2 hK2)
    all_goals
      go_wp2_with (at_builtin; refine wpList_app inE_ok rfl (.tmp 58) (.tmp 60) rfl rfl L2.out ⟨w3.heap.size, 0, none⟩ 1 1 [g.n + 1] rfl rfl (new_set w3 _ _ (g.n + 1)) Nat.zero_lt_one B3.out B4.out ?_; intro g4 o4 cap4 w5 hB; obtain ⟨m5, m6, m7, hG5⟩ := K2.out _ _ _ _ hB; have G5 := Lib.hid hG5; clear hB hG5)
      go_returns
      exact ⟨by simp, G5.out⟩
end Go.Proofs.Ytllefljimkmbhaa
