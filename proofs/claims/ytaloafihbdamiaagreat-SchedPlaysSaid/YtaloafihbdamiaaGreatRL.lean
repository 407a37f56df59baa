/- The document's scheduler beside the program's: Due, wake. -/
import Derived.Test.YtaloafihbdamiaaGreatRG
import Derived.Deep.RegionHeld3
import Derived.Deep.RegionLaw
namespace Go.Proofs.YtaloafihbdamiaaGreat
open Go.ChangeShapes Go.WideShapes Go.ChangeAt Go.RowKit
/-- What the document's scheduler holds where the program's holds X. -/
def dx (X : Sx) (Z : List (Int × Ent)) (sc : List Int) : Dx := { Q := X.Q, D := Z.map tmOf, st := X.gs.map Prod.fst, sl := X.gs.map Prod.snd, g := X.pr.map Prod.fst, sc := sc, clk := X.clk }
theorem upto_ex (L : List Ent) (now : Int) : ∃ k, Upto L now k := by
  induction L with
  | nil => exact ⟨0, Nat.le_refl _, fun i h => absurd h (Nat.not_lt_zero i), fun h => absurd h (Nat.lt_irrefl 0)⟩
  | cons x l ih =>
    by_cases h : x.when ≤ now
    · obtain ⟨k, a, b, c⟩ := ih
      refine ⟨k + 1, by simp only [List.length_cons]; omega, fun i hi => ?_, fun hi => ?_⟩
      · cases i with
        | zero => exact h
        | succ i => exact b i (by omega)
      · exact c (by simp only [List.length_cons] at hi; omega)
    · exact ⟨0, Nat.zero_le _, fun i h => absurd h (Nat.not_lt_zero i), fun _ => by show now < x.when; omega⟩
/-- The queues' numbers are as they should be. -/
def Gd (X : Sx) : Prop := ∃ n, Good n X.Q.1 X.Q.2
theorem Gd.ok {X : Sx} (h : Gd X) (a : X.Q.2.length ≤ 1000000) : QOk X.Q := by
  obtain ⟨n, g⟩ := h
  exact ⟨g.nx, g.ln, by omega⟩
theorem Gd.rdy {X : Sx} (h : Gd X) (p g : Nat) (hp : p < X.Q.1.length) : Gd (X.rdy p g) := by
  obtain ⟨n, k⟩ := h
  exact ⟨n + 1, k.put hp (by omega)⟩
theorem Gd.wk {p : Nat} : ∀ (l : List Int) {X : Sx}, Gd X → p < X.Q.1.length → Gd (X.wk p l) := by
  intro l
  induction l with
  | nil => intro X h _; exact h
  | cons g l ih => intro X h hp; exact ih (h.rdy p g.toNat hp) (by show p < (putP X.Q p _).1.length; rw [putP_len]; exact hp)
theorem Gd.wake {X : Sx} (h : Gd X) {p : Nat} (hp : p < X.Q.1.length) : Gd (X.wake p) := Gd.wk _ (X := { X with P := X.P.set p (dueRest (X.P.getD p []) X.clk) }) h hp
section
variable {w w' : World} {F : Nat → Prop} {bd br bt n : Nat} {X : Sx} {Y : Dx} {Z : List (Int × Ent)} {sc : List Int}
theorem dc_due (h : DcA bd br bt n (dx X Z sc) w F) (M : Match X.P Z X.a) (p : Nat) (hp : p < X.P.length) (hm : many X.P ≤ 1024) (now : Int) :
    Calls Tryz.prog 79 #[.pointer (some ⟨bt, 0, none⟩), .int .i64 (p : Int), .int .u64 now] w fun e w' => ∃ v Z', e = .returned v ∧ Match (X.P.set p (dueRest (X.P.getD p []) now)) Z' X.a ∧ Goes (Star (DcA bd br bt n (dx X Z' sc)) (LiA v (dueIds (X.P.getD p []) now))) w w' F := by
  obtain ⟨F2, v, q, -, k⟩ := Dc.tim h
  have hpa := P_at hp
  have hr := M.neat.tidy.up p _ hpa
  have hlen := M.cnt
  refine (ddue_ok (p : Int) now q (by show (Z.map tmOf).length ≤ 1024; rw [List.length_map]; omega)).mono fun e w' ⟨l, A, D', e1, hs, hh, ⟨⟨F', v', t, n1, n2⟩, c, ll⟩⟩ => ?_
  obtain ⟨m, hu⟩ := upto_ex (X.P.getD p []) now
  obtain ⟨eA, Z', rfl, M'⟩ := due_match M hpa hu hs hh
  obtain ⟨q1, q2⟩ := due_cut hu hr
  rw [q1] at eA
  rw [q2] at M'
  subst eA
  exact ⟨l, Z', e1, M', k _ l _ w' ⟨fun i => F' i ∨ l.ownBlock = some i, ⟨F', fun i => l.ownBlock = some i, ⟨v', t⟩, ⟨ll, fun _ e => e, fun i e => ll.lt e⟩, fun i x y => (n2 i y).1 x, fun _ x => .inl x, fun _ x => .inr x, fun i x => x.elim (t.old i) fun e => ll.lt e⟩, c, fun i x => x.elim (n1 i) fun e => .inr (n2 i e).2⟩⟩
theorem Dc.setSS2 (h : DcA bd br bt n Y w F) {i : Nat} (hi : i < Y.st.length) : ∃ b o cap b2 o2 cap2, w.cell? ⟨bd, 0, none⟩ = some (.slice (some ⟨b, o, none⟩) Y.st.length cap) ∧ Y.st.length ≤ cap ∧ cap ≤ maxLen ∧ w.cell? ⟨b, o + i, none⟩ = some (.int .i64 (Y.st.getD i 0)) ∧ (∀ j, w.frozen? ⟨b, j, none⟩ = false) ∧
    w.cell? ⟨bd, 1, none⟩ = some (.slice (some ⟨b2, o2, none⟩) Y.st.length cap2) ∧ Y.st.length ≤ cap2 ∧ cap2 ≤ maxLen ∧ w.cell? ⟨b2, o2 + i, none⟩ = some (.bool (Y.sl.getD i false)) ∧ (∀ j, w.frozen? ⟨b2, j, none⟩ = false) ∧ b ≠ bd ∧ b2 ≠ bd ∧ b ≠ b2 ∧
    ∀ W, Cha (fun _ => False) w W → ∀ (x : Int) W2, Cha (fun _ => False) (W.setCell ⟨b, o + i, none⟩ (.int .i64 x)) W2 → ∀ (y : Bool), Goes (DcA bd br bt n { Y with st := Y.st.set i x, sl := Y.sl.set i y }) w (W2.setCell ⟨b2, o2 + i, none⟩ (.bool y)) F := by
  obtain ⟨F2, v1, v2, v3, v4, T, d, k⟩ := Dc.own h
  obtain ⟨c0, c1, c2, c3, -⟩ := d.facts
  have hs := d.s64
  have hi2 : i < Y.sl.length := by omega
  obtain ⟨b, o, cap, e, h1, h2, z, fr, up⟩ := in_at d.l1 hi
  obtain ⟨b2, o2, cap2, e2, g1, g2, z2, fr2, -⟩ := bo_at d.l2 hi2
  have t0 := d.tg.1
  have t1 := (d.t1 b (by rw [e]; rfl)).1
  have t2 := (d.t2 b2 (by rw [e2]; rfl)).1
  rw [hs] at g1 e2
  refine ⟨b, o, cap, b2, o2, cap2, by rw [← e]; exact c0, h1, h2, z, fr, by rw [← e2]; exact c1, g1, g2, z2, fr2, fun c => by rw [c] at t1; omega, fun c => by rw [c] at t2; omega, fun c => by rw [c] at t1; omega, fun W cw x W2 cw2 y => ?_⟩
  obtain ⟨l, cc⟩ := up W cw x
  obtain ⟨d1, c'⟩ := (d.same cw).up1 cc l (List.length_set ..)
  have d' := d1.same cw2
  have l2 : En.Lies boE (W2.setCell ⟨b2, o2 + i, none⟩ (.bool y)) v2 (Y.sl.set i y) := by
    have q := d'.l2
    rw [e2] at q ⊢
    rw [← hs] at q ⊢
    have := q.put boE_ok hi2 y
    rw [show i * boE.k = i from Nat.mul_one i] at this
    exact this
  have cc2 : Cha (fun j => v2.ownBlock = some j) W2 (W2.setCell ⟨b2, o2 + i, none⟩ (.bool y)) :=
    (Cha.refl (fun j => v2.ownBlock = some j) _).setCell (p := ⟨b2, o2 + i, none⟩) (fun _ => by rw [e2]; rfl) _
  obtain ⟨d2, c2'⟩ := d'.up2 cc2 l2 (List.length_set ..)
  exact k (Y.st.set i x) (Y.sl.set i y) Y.g Y.sc Y.clk _ ⟨F2, ⟨_, _, _, _, _, d2⟩, ((cw.wide.trans c').trans cw2.wide).trans c2', fun _ x => .inl x⟩
theorem dx_rdy (X : Sx) (Z : List (Int × Ent)) (sc : List Int) (p g : Nat) : ({ dx X Z sc with st := (dx X Z sc).st.set g 1, sl := (dx X Z sc).sl.set g false, Q := putP X.Q p (g : Int) } : Dx) = dx (X.rdy p g) Z sc := by
  unfold dx Sx.rdy
  simp only [List.map_set]
end
end Go.Proofs.YtaloafihbdamiaaGreat

namespace Go.Proofs.YtaloafihbdamiaaGreat
open Go.ChangeShapes Go.WideShapes Go.ChangeAt Go.RowKit
section
variable {w w' : World} {F : Nat → Prop} {bd br bt n : Nat} {X : Sx} {Y : Dx} {Z : List (Int × Ent)} {sc : List Int}
theorem Goes.dre {P : Asn} {w w1 w2 : World} {F : Nat → Prop} (h : Goes P w w1 F) (c : Cha (fun _ => False) w1 w2) (k : ∀ F1, P w1 F1 → P w2 F1) : Goes P w w2 F := h.trans fun F1 h1 => ⟨F1, k F1 h1, c.wide, fun _ x => .inl x⟩
theorem Dc.blk (h : DcA bd br bt n Y w F) : (∀ b o m c, w.cell? ⟨bd, 0, none⟩ = some (.slice (some ⟨b, o, none⟩) m c) → F b) ∧ ∀ b o m c, w.cell? ⟨bd, 1, none⟩ = some (.slice (some ⟨b, o, none⟩) m c) → F b := by
  obtain ⟨F2, ⟨v1, v2, v3, v4, T, d⟩, e, -⟩ := Star.splitR (fit_rq.star fit_dt) h
  obtain ⟨c0, c1, -⟩ := d.facts
  refine ⟨fun b o m c x => e b (d.t1 b ?_).2, fun b o m c x => e b (d.t2 b ?_).2⟩
  · rw [c0] at x; injection x with x; rw [x]; rfl
  · rw [c1] at x; injection x with x; rw [x]; rfl
/-- One goroutine is made ready, by the document. -/
theorem drdy_facts (h : DcA bd br bt n (dx X Z sc) w F) (ok : QOk X.Q) (p g : Nat) (hq : p < X.Q.1.length) (hg : g < X.gs.length) : ∃ b o cap b2 o2 cap2 z z2, w.cell? ⟨bd, 0, none⟩ = some (.slice (some ⟨b, o, none⟩) X.gs.length cap) ∧ X.gs.length ≤ cap ∧ cap ≤ maxLen ∧ w.cell? ⟨b, o + g, none⟩ = some (.int .i64 z) ∧ (∀ j, w.frozen? ⟨b, j, none⟩ = false) ∧
    w.cell? ⟨bd, 1, none⟩ = some (.slice (some ⟨b2, o2, none⟩) X.gs.length cap2) ∧ X.gs.length ≤ cap2 ∧ cap2 ≤ maxLen ∧ w.cell? ⟨b2, o2 + g, none⟩ = some (.bool z2) ∧ (∀ j, w.frozen? ⟨b2, j, none⟩ = false) ∧ b ≠ bd ∧ b2 ≠ bd ∧ b ≠ b2 ∧ w.cell? ⟨bd, 4, none⟩ = some (.pointer (some ⟨br, 0, none⟩)) ∧
    ∀ W, Cha (fun _ => False) w W → ∀ W2, Cha (fun _ => False) (W.setCell ⟨b, o + g, none⟩ (.int .i64 1)) W2 → ∀ W3, Cha (fun _ => False) (W2.setCell ⟨b2, o2 + g, none⟩ (.bool false)) W3 →
      (∃ Y', W3.cell? ⟨bd, 4, none⟩ = some (.pointer (some ⟨br, 0, none⟩)) ∧ Goes (DcA bd br bt n Y') w W3 F) ∧ Calls Tryz.prog 41 #[.pointer (some ⟨br, 0, none⟩), .int .i64 (p : Int), .int .i64 (g : Int)] W3 fun e w' => e = .returned (.int .i64 0) ∧ Goes (DcA bd br bt n (dx (X.rdy p g) Z sc)) w w' F := by
  have el : (dx X Z sc).st.length = X.gs.length := by show (X.gs.map Prod.fst).length = _; rw [List.length_map]
  have h4 := (Dc.facts h).2.2.1
  obtain ⟨b, o, cap, b2, o2, cap2, q1, q2, q3, q4, q5, q6, q7, q8, q9, q10, q11, q12, q13, up⟩ := Dc.setSS2 h (i := g) (by rw [el]; exact hg)
  rw [el] at q1 q2 q6 q7
  refine ⟨b, o, cap, b2, o2, cap2, _, _, q1, q2, q3, q4, q5, q6, q7, q8, q9, q10, q11, q12, q13, h4, fun W cw W2 cw2 W3 cw3 => ?_⟩
  have G := (up W cw 1 W2 cw2 false).dre cw3 fun F1 h1 => fit_dc.same h1 cw3
  have K := G.next fun F3 h3 => dc_put h3 ok p (g : Int) hq (by omega)
  rw [← dx_rdy]
  have G0 := G
  obtain ⟨F1, h1, -, -⟩ := G
  exact ⟨⟨_, (Dc.facts h1).2.2.1, G0⟩, K⟩
set_option maxRecDepth 100000 in
set_option maxHeartbeats 4000000 in
theorem dwake_any (h : DcA bd br bt n (dx X Z sc) w F) (M : Match X.P Z X.a) (gd : Gd X) (p : Nat) (hp : p < X.P.length) (hq : p < X.Q.1.length) (hm : many X.P ≤ 1024) (hA : X.Q.2.length ≤ 100000)
    (hid : ∀ L, X.P[p]? = some L → ∀ x ∈ L, 0 ≤ x.id ∧ x.id < X.gs.length) :
    Calls Tryz.prog 59 #[.pointer (some ⟨bd, 0, none⟩), .int .i64 (p : Int)] w fun e w' => e = .returned (.tuple #[]) ∧ ∃ Z', Match (X.wake p).P Z' X.a ∧ Goes (DcA bd br bt n (dx (X.wake p) Z' sc)) w w' F := by
  obtain ⟨ids, hids⟩ : ∃ l, l = dueIds (X.P.getD p []) X.clk := ⟨_, rfl⟩
  obtain ⟨Y, hY⟩ : ∃ Y : Sx, Y = { X with P := X.P.set p (dueRest (X.P.getD p []) X.clk) } := ⟨_, rfl⟩
  have hw : X.wake p = Y.wk p ids := by rw [hids, hY]; rfl
  have hwP : (X.wake p).P = X.P.set p (dueRest (X.P.getD p []) X.clk) := (wk_kept { X with P := X.P.set p (dueRest (X.P.getD p []) X.clk) } p (dueIds (X.P.getD p []) X.clk)).1.P
  have gdY : Gd Y := by rw [hY]; exact gd
  have hlen : ids.length ≤ 1024 := by
    have := many_at (P_at hp)
    rw [hids]; unfold dueIds
    rw [List.length_map]
    exact Nat.le_trans (List.length_filter_le _ _) (by omega)
  have hrange : ∀ j, j < ids.length → 0 ≤ ids.getD j 0 ∧ ids.getD j 0 < X.gs.length := fun j hj => by
    have hmem : ids.getD j 0 ∈ dueIds (X.P.getD p []) X.clk := by
      rw [← hids]
      simp only [List.getD, List.getElem?_eq_getElem hj, Option.getD_some]
      exact List.getElem_mem hj
    unfold dueIds at hmem
    obtain ⟨x, hx, e⟩ := List.mem_map.1 hmem
    rw [← e]
    exact hid _ (P_at hp) x (List.mem_filter.1 hx).1
  have CD : Hid (∀ W, Cha (fun _ => False) w W → Calls Tryz.prog 79 #[.pointer (some ⟨bt, 0, none⟩), .int .i64 (p : Int), .int .u64 X.clk] W fun e w' => ∃ s c Z', e = .returned (.slice s ids.length c) ∧ w'.cell? ⟨bd, 5, none⟩ = some (.pointer (some ⟨bt, 0, none⟩)) ∧ w'.cell? ⟨bd, 6, none⟩ = some (.int .u64 X.clk) ∧
      Match (X.wake p).P Z' X.a ∧ Goes (Star (DcA bd br bt n (dx (Y.wk p []) Z' sc)) (LiA (.slice s ids.length c) ids)) w w' F) := Lib.hid fun W c =>
    (dc_due (fit_dc.same h c) M p hp hm X.clk).mono fun e w' ⟨v, Z', e1, M', G⟩ => by
      rw [← hids] at G
      obtain ⟨F1, hS, c1, n1⟩ := G.before c
      obtain ⟨F3, F4, a, b, -⟩ := hS
      obtain ⟨s, cap, ev, -⟩ := b.1.form
      obtain ⟨-, -, -, o5, o6, -⟩ := Dc.facts a
      subst ev
      have ed : dx (Y.wk p []) Z' sc = dx X Z' sc := by rw [hY]; rfl
      exact ⟨s, cap, Z', e1, o5, o6, by rw [hwP]; exact M', by rw [ed]; exact G.before c⟩
  have hYq : Y.Q = X.Q := by rw [hY]
  have hYg : Y.gs = X.gs := by rw [hY]
  have CM : Hid (∀ (s : Option Addr) (c j : Nat) (Z' : List (Int × Ent)) (W : World), j < ids.length → Goes (Star (DcA bd br bt n (dx (Y.wk p (ids.take j)) Z' sc)) (LiA (.slice s ids.length c) ids)) w W F → ∃ (b0 o0 g : Nat), s = some ⟨b0, o0, none⟩ ∧ W.cell? ⟨b0, o0 + j, none⟩ = some (.int .i64 (g : Int)) ∧ ids.length ≤ c ∧ c ≤ maxLen ∧ g < X.gs.length ∧
      ∃ b o cap b2 o2 cap2 z z2, W.cell? ⟨bd, 0, none⟩ = some (.slice (some ⟨b, o, none⟩) X.gs.length cap) ∧ X.gs.length ≤ cap ∧ cap ≤ maxLen ∧ W.cell? ⟨b, o + g, none⟩ = some (.int .i64 z) ∧ (∀ j, W.frozen? ⟨b, j, none⟩ = false) ∧
      W.cell? ⟨bd, 1, none⟩ = some (.slice (some ⟨b2, o2, none⟩) X.gs.length cap2) ∧ X.gs.length ≤ cap2 ∧ cap2 ≤ maxLen ∧ W.cell? ⟨b2, o2 + g, none⟩ = some (.bool z2) ∧ (∀ j, W.frozen? ⟨b2, j, none⟩ = false) ∧ b ≠ bd ∧ b2 ≠ bd ∧ b ≠ b2 ∧ b0 ≠ b ∧ b0 ≠ b2 ∧ W.cell? ⟨bd, 4, none⟩ = some (.pointer (some ⟨br, 0, none⟩)) ∧
      ∀ W1, Cha (fun _ => False) W W1 → ∀ W2, Cha (fun _ => False) (W1.setCell ⟨b, o + g, none⟩ (.int .i64 1)) W2 → ∀ W3, Cha (fun _ => False) (W2.setCell ⟨b2, o2 + g, none⟩ (.bool false)) W3 →
        (W3.cell? ⟨bd, 4, none⟩ = some (.pointer (some ⟨br, 0, none⟩)) ∧ W3.cell? ⟨b0, o0 + j, none⟩ = some (.int .i64 (g : Int))) ∧ Calls Tryz.prog 41 #[.pointer (some ⟨br, 0, none⟩), .int .i64 (p : Int), .int .i64 (g : Int)] W3 fun e w' => e = .returned (.int .i64 0) ∧ (w'.cell? ⟨bd, 4, none⟩ = some (.pointer (some ⟨br, 0, none⟩)) ∧ w'.cell? ⟨b0, o0 + j, none⟩ = some (.int .i64 (g : Int))) ∧ Goes (Star (DcA bd br bt n (dx (Y.wk p (ids.take (j + 1))) Z' sc)) (LiA (.slice s ids.length c) ids)) w w' F) := Lib.hid fun s c j Z' W hj G => by
    obtain ⟨r1, r2⟩ := hrange j hj
    obtain ⟨F1, hS, c1, n1⟩ := G
    obtain ⟨F5, a5, -, kk⟩ := Star.split fit_li hS
    obtain ⟨F3, F4, a, b, dj, -⟩ := hS
    obtain ⟨g0, o0, cap0, ev, hz, q1, q2⟩ := lies_int b.1 hj
    injection ev with ev1 ev2 ev3
    subst ev1 ev3
    have f4 := b.2.1 g0 rfl
    have eg : ((ids.getD j 0).toNat : Int) = ids.getD j 0 := by omega
    obtain ⟨k, nn⟩ := wk_kept Y p (ids.take j)
    have hl : (ids.take j).length ≤ 1024 := by rw [List.length_take]; omega
    have egs : (Y.wk p (ids.take j)).gs.length = X.gs.length := by rw [k.gs, hYg]
    have eq1 : p < (Y.wk p (ids.take j)).Q.1.length := by rw [k.q, hYq]; exact hq
    have ok : QOk (Y.wk p (ids.take j)).Q := (Gd.wk (ids.take j) gdY (by rw [hYq]; exact hq)).ok (by rw [hYq] at nn; omega)
    have e : Y.wk p (ids.take (j + 1)) = (Y.wk p (ids.take j)).rdy p (ids.getD j 0).toNat := by
      rw [List.take_add_one, List.getElem?_eq_getElem hj, Option.toList_some, wk_snoc]
      simp only [List.getD, List.getElem?_eq_getElem hj, Option.getD_some]
    obtain ⟨b', o', cap', b2, o2, cap2, z, z2, h0, h1, h2, h3, h4, h5, h6, h7, h8, h9, h10, h11, h12, h13, up⟩ := drdy_facts a5 ok p (ids.getD j 0).toNat eq1 (by rw [egs]; omega)
    rw [egs] at h0 h1 h5 h6
    obtain ⟨m1, m2⟩ := Dc.blk a
    have f1 := m1 _ _ _ _ h0
    have f2 := m2 _ _ _ _ h5
    refine ⟨g0, o0, (ids.getD j 0).toNat, rfl, by rw [eg]; exact hz, q1, q2, by omega, b', o', cap', b2, o2, cap2, z, z2, h0, h1, h2, h3, h4, h5, h6, h7, h8, h9, h10, h11, h12, fun x => dj _ f1 (x ▸ f4), fun x => dj _ f2 (x ▸ f4), h13, fun W1 w1 W2 w2 W3 w3 => ?_⟩
    rw [e]
    obtain ⟨⟨Y', p4, G3⟩, CC⟩ := up W1 w1 W2 w2 W3 w3
    refine ⟨⟨p4, ?_⟩, ?_⟩
    · obtain ⟨F6, ⟨F7, F8, -, b7, -⟩, -, -⟩ := kk _ W3 fit_dc G3
      obtain ⟨g9, o9, cap9, ev, hz9, -⟩ := lies_int b7.1 hj
      injection ev with ev1 ev2 ev3
      injection ev1 with ev1
      injection ev1 with ev1 ev4
      subst ev1 ev4
      rw [eg]; exact hz9
    exact CC.mono fun e w' ⟨x1, G5⟩ => ⟨x1, by
      obtain ⟨F6, q, cq, nq⟩ := kk _ w' fit_dc G5
      refine ⟨?_, F6, q, c1.over cq n1, fun i hi => (nq i hi).elim (n1 i) fun e => .inr (Nat.le_trans c1.size e)⟩
      obtain ⟨F7, F8, a7, b7, -⟩ := q
      refine ⟨(Dc.facts a7).2.2.1, ?_⟩
      obtain ⟨g9, o9, cap9, ev, hz9, -⟩ := lies_int b7.1 hj
      injection ev with ev1 ev2 ev3
      injection ev1 with ev1
      injection ev1 with ev1 ev4
      subst ev1 ev4
      rw [eg]; exact hz9⟩
  have HF : Hid (∀ (s : Option Addr) (c : Nat) (Z' : List (Int × Ent)) (W : World), Goes (Star (DcA bd br bt n (dx (Y.wk p (ids.take ids.length)) Z' sc)) (LiA (.slice s ids.length c) ids)) w W F → Goes (DcA bd br bt n (dx (X.wake p) Z' sc)) w W F) := Lib.hid fun s c Z' W G => by
    rw [List.take_length, ← hw] at G
    obtain ⟨F1, ⟨F3, F4, a, b, d, e1, e2, o⟩, c1, n1⟩ := G
    exact ⟨F3, a, c1, fun i hi => n1 i (e1 i hi)⟩
  have g64 : X.gs.length ≤ 64 := by have := (Dc.n8 h).2.1; rwa [show (dx X Z sc).st.length = X.gs.length from List.length_map ..] at this
  obtain ⟨-, -, -, c5, c6, cf⟩ := Dc.facts h
  have c6 : w.cell? ⟨bd, 6, none⟩ = some (.int .u64 X.clk) := c6
  clear h hids hY hw hrange hid hm hA hq hp hYq hYg M gd gdY hwP
  have H0 : Hid (ids.take 0 = []) := Lib.hid rfl
  generalize X.clk = ck at *
  generalize hL : ids.length = L at *
  generalize X.gs.length = ng at *
  go_enter Tryz.func59, Tryz.ntmps59
  go_wp2
  go_region_held3 (fun w' => w'.cell? ⟨bd, 5, none⟩ = some (.pointer (some ⟨bt, 0, none⟩)) ∧ w'.cell? ⟨bd, 6, none⟩ = some (.int .u64 ck))
    (first
      | exact ⟨c5, c6⟩
      | go_keep)
    (first | (go_at_call 79; (with_reducible refine (CD.out _ (by first | exact (Cha.refl _ _).drew | exact (Cha.refl _ _).drewN _ | exact Cha.refl _ _)).mono ?_); rintro e w1 ⟨s, c, Z', rfl, e1, e4, hM, hG⟩; have G1 := Lib.hid hG; clear hG))
  all_goals
    go_wp2
    go_loopw [5] (fun i wr => ∃ j : Nat, j ≤ L ∧ i = .int .i64 (j : Int) ∧ Goes (Star (DcA bd br bt n (dx (Y.wk p (ids.take j)) Z' sc)) (LiA (.slice s L c) ids)) w wr F) (fun i _ => L - (intOf i).toNat)
    case atStart => exact ⟨0, Nat.zero_le _, rfl, by rw [H0.out]; first | exact G1.out | exact G1.out.drew⟩
    case round =>
      obtain ⟨j, hj, rfl, hG⟩ := hrel
      by_cases hlt : j < L
      · obtain ⟨b0, o0, g, rfl, hz, q1, q2, hg, b, o, cap, b2, o2, cap2, z, z2, r1, r2, r3, r4, r5, r6, r7, r8, r9, r10, r11, r12, r13, r14, r15, r16, C⟩ := CM.out s c j Z' wr hlt hG
        have C := Lib.hid C
        have k1 : (j : Int) < (L : Int) := by omega
        have k2 : (0 : Int) ≤ (j : Int) := by omega
        have k3 : (g : Int) < (ng : Int) := by omega
        have k4 : (0 : Int) ≤ (g : Int) := by omega
        unfold maxLen at q2
        clear hG
        go_wp2
        go_region
        all_goals
          go_wp2
          go_region
          all_goals
            go_wp2
            obtain ⟨⟨p4, p5⟩, -⟩ := C.out _ (Cha.refl _ _) _ (Cha.refl _ _) _ ((Cha.refl _ _).drew.drew.drew)
            go_region_held3 (fun w' => w'.cell? ⟨bd, 4, none⟩ = some (.pointer (some ⟨br, 0, none⟩)) ∧ w'.cell? ⟨b0, o0 + j, none⟩ = some (.int .i64 (g : Int)))
              (first
                | exact ⟨p4, p5⟩
                | exact ⟨p6, p7⟩
                | go_keep)
              (first | (go_at_call 41; (with_reducible refine ((C.out _ (Cha.refl _ _) _ (Cha.refl _ _) _ (by first | exact (Cha.refl _ _).drew.drew.drew | exact (Cha.refl _ _).drew.drew.drewN _ | exact (Cha.refl _ _).drew.drew.drew.drew | exact (Cha.refl _ _).drewN _ | exact Cha.refl _ _)).2).mono ?_); rintro e w4 ⟨rfl, ⟨p6, p7⟩, hG⟩; have HG := Lib.hid hG; clear hG))
            all_goals
              go_wp2
              go_roundw
              case rel => exact ⟨j + 1, by omega, by go_num, by first | exact HG.out | exact HG.out.drew⟩
              case measure => simp [intOf]; omega
      · obtain rfl : j = L := by omega
        have HG := Lib.hid (HF.out _ _ _ _ hG)
        clear hG
        go_wp2
        go_returns
        exact ⟨rfl, _, hM, HG.out⟩
end
end Go.Proofs.YtaloafihbdamiaaGreat

namespace Go.Proofs.YtaloafihbdamiaaGreat
open Go.ChangeShapes Go.WideShapes Go.ChangeAt Go.RowKit
/-- The document's scheduler lies where the program's would be X. -/
def Dg (bd br bt n : Nat) (sc : List Int) (X : Sx) (w W : World) (F : Nat → Prop) : Prop := ∃ Z, Match X.P Z X.a ∧ Goes (DcA bd br bt n (dx X Z sc)) w W F
def nxt : List Ent → Int × Bool
  | [] => (0, false)
  | e :: _ => (e.when, true)
theorem due_nxt (X : Sx) (p : Nat) : X.due p = ((nxt (X.P.getD p [])).2 && decide ((nxt (X.P.getD p [])).1 ≤ X.clk)) := by
  unfold Sx.due
  cases X.P.getD p [] with
  | nil => rfl
  | cons e l => show decide _ = (true && decide _); rw [Bool.true_and]; rfl
theorem getP_mod (Q : St) (p : Nat) (s : Int) : getP Q p ((s % (Q.1.length : Int)).toNat : Int) = getP Q p s := by
  unfold getP
  by_cases h : (Q.1.length : Int) = 0
  · rw [h]; simp only [Int.emod_zero, Int.toNat_natCast]
  · have h1 := Int.emod_nonneg s h
    rw [show (((s % (Q.1.length : Int)).toNat : Nat) : Int) = s % (Q.1.length : Int) by omega, Int.emod_emod_of_dvd _ (Int.dvd_refl _)]
theorem Gd.get {X : Sx} (h : Gd X) (p : Nat) (s : Int) (hp : p < X.Q.1.length) : Gd (X.got p s).2 := by
  obtain ⟨n, k⟩ := h
  exact ⟨n, k.get hp _⟩
section
variable {w W w' : World} {F : Nat → Prop} {bd br bt n : Nat} {X : Sx} {sc : List Int}
theorem Dg.ptr (g : Dg bd br bt n sc X w W F) : (∃ a c, W.cell? ⟨bd, 2, none⟩ = some (.slice a X.pr.length c)) ∧ W.cell? ⟨bd, 4, none⟩ = some (.pointer (some ⟨br, 0, none⟩)) ∧ W.cell? ⟨bd, 5, none⟩ = some (.pointer (some ⟨bt, 0, none⟩)) ∧ W.cell? ⟨bd, 6, none⟩ = some (.int .u64 X.clk) ∧ ∀ i, W.frozen? ⟨bd, i, none⟩ = false := by
  obtain ⟨Z, M, F1, h1, -, -⟩ := g
  obtain ⟨-, ⟨a, c, a2⟩, a4, a5, a6, a7⟩ := Dc.facts h1
  exact ⟨⟨a, c, by rw [a2]; show some (Value.slice a (X.pr.map Prod.fst).length c) = _; rw [List.length_map]⟩, a4, a5, a6, a7⟩
theorem Dg.wake {k : Nat} (g : Dg bd br bt n sc X w W F) (f : Fine k X) (gd : Gd X) (hk : k ≤ 100000) (p : Nat) (hp : p < X.pr.length) :
    Calls Tryz.prog 59 #[.pointer (some ⟨bd, 0, none⟩), .int .i64 (p : Int)] W fun e w' => e = .returned (.tuple #[]) ∧ Dg bd br bt n sc (X.wake p) w w' F := by
  obtain ⟨Z, M, F1, h1, c1, n1⟩ := g
  have e : (X.wake p).a = X.a := (wk_kept { X with P := X.P.set p (dueRest (X.P.getD p []) X.clk) } p (dueIds (X.P.getD p []) X.clk)).1.a
  exact (dwake_any h1 M gd p (by rw [f.lp]; exact hp) (by rw [f.lq]; exact hp) (by have := f.mny; omega) (by have := f.qa; omega) fun L hL => f.ids p L hL).mono fun e' w' ⟨a, Z', M', F6, q, cq, nq⟩ => ⟨a, Z', by rw [e]; exact M', F6, q, c1.over cq n1, fun i hi => (nq i hi).elim (n1 i) fun e => .inr (Nat.le_trans c1.size e)⟩
theorem Dg.get {k : Nat} (g : Dg bd br bt n sc X w W F) (f : Fine k X) (gd : Gd X) (hk : k ≤ 100000) (p : Nat) (s : Int) (hp : p < X.pr.length) :
    Calls Tryz.prog 60 #[.pointer (some ⟨br, 0, none⟩), .int .i64 (p : Int), .int .i64 s] W fun e w' => e = .returned (.tuple #[.int .i64 (X.got p s).1.1, .bool (X.got p s).1.2]) ∧ Dg bd br bt n sc (X.got p s).2 w w' F := by
  obtain ⟨Z, M, F1, h1, c1, n1⟩ := g
  exact (dc_get h1 (gd.ok (by have := f.qa; omega)) p s (by show p < X.Q.1.length; rw [f.lq]; exact hp)).mono fun e' w' ⟨a, F6, q, cq, nq⟩ => ⟨a, Z, M, F6, q, c1.over cq n1, fun i hi => (nq i hi).elim (n1 i) fun e => .inr (Nat.le_trans c1.size e)⟩
theorem Dg.move {k : Nat} (g : Dg bd br bt n sc X w W F) (f : Fine k X) (v p : Nat) (hv : v < X.pr.length) (hp : p < X.pr.length) (hn : X.pr.length = n) (hne : v ≠ p) :
    Calls Tryz.prog 62 #[.pointer (some ⟨bt, 0, none⟩), .int .i64 (v : Int), .int .i64 (p : Int)] W fun e w' => e = .returned (.int .i64 0) ∧ Dg bd br bt n sc (X.mv v p) w w' F := by
  obtain ⟨Z, M, F1, h1, c1, n1⟩ := g
  have hva := P_at (P := X.P) (p := v) (by rw [f.lp]; exact hv)
  have hpa := P_at (P := X.P) (p := p) (by rw [f.lp]; exact hp)
  have ho : ((X.P.getD v []) ++ (X.P.getD p [])).Pairwise (fun x y => x.order ≠ y.order) := by
    rw [List.pairwise_append]
    exact ⟨f.neat.apart hva, f.neat.apart hpa, fun x hx y hy e => hne (f.neat.own v p _ _ x y hva hpa hx hy e).1⟩
  have M' := M.move hva hpa hne (mrg_perm _ ho) (mrg_rises _ (f.neat.tidy.up p _ hpa) ho).1.not_lt
  have hc := M.cnt
  have h64 := f.mny
  exact (dc_move h1 v p (by omega) (by omega) (by show (Z.map tmOf).length ≤ 1024; rw [List.length_map]; omega)).mono fun e' w' ⟨a, F6, q, cq, nq⟩ => ⟨a, Z.map (mvX (v : Int) (p : Int)), M', F6, by
    have e : dx (X.mv v p) (Z.map (mvX (v : Int) (p : Int))) sc = { dx X Z sc with D := (dx X Z sc).D.map (mvT (v : Int) (p : Int)) } := by
      unfold dx Sx.mv
      simp only [map_mvX]
    rw [e]; exact q, c1.over cq n1, fun i hi => (nq i hi).elim (n1 i) fun e => .inr (Nat.le_trans c1.size e)⟩
theorem Dg.nxt (g : Dg bd br bt n sc X w W F) (v : Nat) (hv : v < X.P.length) (hm : many X.P ≤ 64) :
    Calls Tryz.prog 61 #[.pointer (some ⟨bt, 0, none⟩), .int .i64 (v : Int)] W fun e w' => e = .returned (.tuple #[.int .u64 (Go.Proofs.YtaloafihbdamiaaGreat.nxt (X.P.getD v [])).1, .bool (Go.Proofs.YtaloafihbdamiaaGreat.nxt (X.P.getD v [])).2]) ∧ Dg bd br bt n sc X w w' F := by
  obtain ⟨Z, M, F1, h1, c1, n1⟩ := g
  have hva := P_at hv
  have hc := M.cnt
  obtain ⟨F2, v', q, -, -⟩ := Dc.tim h1
  have hl : (dx X Z sc).D.length ≤ 1024 := by show (Z.map tmOf).length ≤ 1024; rw [List.length_map]; omega
  have fin : ∀ w', Cha (fun _ => False) W w' → Dg bd br bt n sc X w w' F := fun w' c => ⟨Z, M, F1, fit_dc.same h1 c, c1.trans (c.mono fun _ _ f => f.elim), n1⟩
  generalize hL : X.P.getD v [] = L at *
  cases L with
  | nil => exact (dnext_none (v : Int) q hl (M.none hva)).mono fun e w' ⟨a, c⟩ => ⟨a, fin w' c⟩
  | cons e l =>
    obtain ⟨b, hb, hbl, hX⟩ := M.first hva
    exact (dnext_some (v : Int) q hl b hb (by show b < (Z.map tmOf).length; rw [List.length_map]; exact hbl)).mono fun e' w' ⟨a, c⟩ => ⟨by
      rw [a]
      have e9 : ((dx X Z sc).D.getD b d0).when = e.when := by
        show ((Z.map tmOf).getD b d0).when = _
        rw [get_tm hbl, hX]; rfl
      rw [e9]; rfl, fin w' c⟩
end
end Go.Proofs.YtaloafihbdamiaaGreat

namespace Go.Proofs.YtaloafihbdamiaaGreat
open Go.ChangeShapes Go.WideShapes Go.ChangeAt Go.RowKit
section
variable {w W w' : World} {F : Nat → Prop} {bd br bt n : Nat} {X : Sx} {sc : List Int}
set_option maxRecDepth 100000 in
set_option maxHeartbeats 4000000 in
theorem dfind_any (g0 : Dg bd br bt n sc X w w F) (f : Fine 1000 X) (gd : Gd X) (p : Nat) (s : Int) (hp : p < X.pr.length) (hn : X.pr.length = n) (h8 : n ≤ 8) :
    Calls Tryz.prog 43 #[.pointer (some ⟨bd, 0, none⟩), .int .i64 (p : Int), .int .i64 s] w fun e w' => e = .returned (.tuple #[.int .i64 (X.find p s).1.1, .bool (X.find p s).1.2]) ∧ Dg bd br bt n sc (X.find p s).2 w w' F := by
  have f1 := f.wake hp
  have p1 := wake_pr X p
  have gd1 : Gd (X.wake p) := gd.wake (by rw [f.lq]; exact hp)
  obtain ⟨Y, hY⟩ : ∃ Y, Y = X.wake p := ⟨_, rfl⟩
  have CW : Hid (Calls Tryz.prog 59 #[.pointer (some ⟨bd, 0, none⟩), .int .i64 (p : Int)] w fun e w' => e = .returned (.tuple #[]) ∧ Dg bd br bt n sc Y w w' F) := Lib.hid (by rw [hY]; exact g0.wake f gd (by omega) p hp)
  rw [← hY] at f1 p1 gd1
  have CG : Hid (∀ w1, Dg bd br bt n sc Y w w1 F → Calls Tryz.prog 60 #[.pointer (some ⟨br, 0, none⟩), .int .i64 (p : Int), .int .i64 s] w1 fun e w' => e = .returned (.tuple #[.int .i64 (Y.got p s).1.1, .bool (Y.got p s).1.2]) ∧ Dg bd br bt n sc (Y.got p s).2 w w' F) := Lib.hid fun w1 G =>
    G.get f1 gd1 (by omega) p s (by rw [p1]; exact hp)
  have f2 : Fine 1320 (Y.got p s).2 := f1.get p s
  have gd2 : Gd (Y.got p s).2 := gd1.get p s (by rw [f1.lq, p1]; exact hp)
  have p2 : (Y.got p s).2.pr = X.pr := p1
  have HY := Lib.hid (find_yes (X := X) (p := p) (s := s))
  have HN := Lib.hid (find_none (X := X) (p := p) (s := s))
  have HO := Lib.hid (fun v => find_other (X := X) (p := p) (s := s) (v := v))
  rw [← hY] at HY HN HO
  have HP := Lib.hid (fun (W : World) (X : Sx) (G : Dg bd br bt n sc X w W F) => G.ptr)
  have g1 := g0.ptr
  obtain ⟨⟨⟨g, b⟩, Y1⟩, hr⟩ : ∃ r, r = Y.got p s := ⟨_, rfl⟩
  rw [← hr] at CG f2 gd2 p2 HY HN HO
  have CG : Hid (∀ w1, Dg bd br bt n sc Y w w1 F → Calls Tryz.prog 60 #[.pointer (some ⟨br, 0, none⟩), .int .i64 (p : Int), .int .i64 s] w1 fun e w' => e = .returned (.tuple #[.int .i64 g, .bool b]) ∧ Dg bd br bt n sc Y1 w w' F) := CG
  have f2 : Fine 1320 Y1 := f2
  have gd2 : Gd Y1 := gd2
  have p2 : Y1.pr = X.pr := p2
  clear hr f1 p1 gd1 hY f gd g0 g1
  cases b with
  | true =>
    have HR := Lib.hid (HY.out rfl)
    go_enter Tryz.func43, Tryz.ntmps43
    go_wp2_with (first
      | (go_at_call 59; ((with_reducible refine (CW.out).mono ?_); rintro e w1 ⟨rfl, hG⟩; obtain ⟨-, q4, -⟩ := HP.out _ _ hG; have G1 := Lib.hid hG; clear hG))
      | (go_at_call 60; ((with_reducible refine (CG.out _ G1.out).mono ?_); rintro e w2 ⟨rfl, hG⟩; have G2 := Lib.hid hG; clear hG)))
    go_returns
    rw [HR.out]
    exact ⟨rfl, G2.out⟩
  | false =>
    obtain ⟨k, hk⟩ : ∃ k, k = X.pr.length := ⟨_, rfl⟩
    have hk8 : k ≤ 8 := by omega
    have hpk : p < k := by omega
    have h1 : 1 ≤ k := by omega
    obtain ⟨r, hr⟩ : ∃ r, s.tmod (k : Int) = r := ⟨_, rfl⟩
    obtain ⟨hr1, hr2, e3⟩ := rest_of s k h1 hk8
    rw [hr] at hr1 hr2 e3
    obtain ⟨f, hf⟩ : ∃ f, f = (s % (k : Int)).toNat := ⟨_, rfl⟩
    rw [← hf] at e3
    have hfk : f < k := by
      have := Int.emod_lt_of_pos s (show (0 : Int) < k by omega)
      have := Int.emod_nonneg s (show (k : Int) ≠ 0 by omega)
      omega
    have HK : Hid (Y1.pr.length = k) := Lib.hid (by rw [p2, hk])
    have CN : Hid (∀ (v : Nat) W, v < k → Dg bd br bt n sc Y1 w W F → Calls Tryz.prog 61 #[.pointer (some ⟨bt, 0, none⟩), .int .i64 (v : Int)] W fun e w' => e = .returned (.tuple #[.int .u64 (nxt (Y1.P.getD v [])).1, .bool (nxt (Y1.P.getD v [])).2]) ∧ Dg bd br bt n sc Y1 w w' F) := Lib.hid fun v W hv G =>
      G.nxt v (by rw [f2.lp, p2, ← hk]; exact hv) f2.mny
    have HS : Hid (∀ v : Nat, v < k → v ≠ p → Y1.els p f = some v → (∀ W, Dg bd br bt n sc Y1 w W F → Calls Tryz.prog 62 #[.pointer (some ⟨bt, 0, none⟩), .int .i64 (v : Int), .int .i64 (p : Int)] W fun e w' => e = .returned (.int .i64 0) ∧ Dg bd br bt n sc (Y1.mv v p) w w' F) ∧
        (∀ W, Dg bd br bt n sc (Y1.mv v p) w W F → Calls Tryz.prog 59 #[.pointer (some ⟨bd, 0, none⟩), .int .i64 (p : Int)] W fun e w' => e = .returned (.tuple #[]) ∧ Dg bd br bt n sc ((Y1.mv v p).wake p) w w' F) ∧
        ∀ W, Dg bd br bt n sc ((Y1.mv v p).wake p) w W F → Calls Tryz.prog 60 #[.pointer (some ⟨br, 0, none⟩), .int .i64 (p : Int), .int .i64 (f : Int)] W fun e w' => e = .returned (.tuple #[.int .i64 (X.find p s).1.1, .bool (X.find p s).1.2]) ∧ Dg bd br bt n sc (X.find p s).2 w w' F) := Lib.hid fun v hv hvp he => by
      have f3 : Fine 1320 (Y1.mv v p) := f2.mv (by rw [p2, ← hk]; exact hv) (by rw [p2]; exact hp) hvp
      have gd3 : Gd (Y1.mv v p) := gd2
      have p3 : (Y1.mv v p).pr = X.pr := p2
      have f4 := f3.wake (p := p) (by rw [p3]; exact hp)
      have gd4 : Gd ((Y1.mv v p).wake p) := gd3.wake (by rw [f3.lq, p3]; exact hp)
      have p4 := (wake_pr (Y1.mv v p) p).trans p3
      refine ⟨fun W G => G.move f2 v p (by rw [p2, ← hk]; exact hv) (by rw [p2]; exact hp) (by rw [p2]; exact hn) hvp, fun W G => G.wake f3 gd3 (by omega) p (by rw [p3]; exact hp), fun W G => ?_⟩
      have := G.get f4 gd4 (by omega) p (f : Int) (by rw [p4]; exact hp)
      have eg : ((Y1.mv v p).wake p).got p (f : Int) = ((Y1.mv v p).wake p).got p s := by
        have hq : ((Y1.mv v p).wake p).Q.1.length = k := by rw [f4.lq, p4, hk]
        unfold Sx.got
        rw [hf, ← hq, getP_mod]
      rw [eg, ← HO.out v rfl (by rw [← hk, ← hf]; exact he)] at this
      exact this
    have HZ : Hid (Y1.els p f = none → X.find p s = ((0, false), Y1)) := Lib.hid fun he => HN.out rfl (by rw [← hk, ← hf]; exact he)
    have HD := Lib.hid fun v => due_nxt Y1 v
    have E0 := Lib.hid hr
    have k4 : (0 : Int) ≤ (p : Int) := by omega
    have k5 : (0 : Int) < (k : Int) := by omega
    have e5 : r < 0 → r + (k : Int) = (f : Int) := fun h => by rw [Int.emod_eq_of_lt (by omega) (by omega)] at e3; exact e3
    have e6 : ¬ r < 0 → r = (f : Int) := fun h => by
      rw [show r + (k : Int) = r + k * 1 by omega, Int.add_mul_emod_self_left, Int.emod_eq_of_lt (by omega) (by omega)] at e3
      exact e3
    clear hf f2 gd2 p2 HY HN HO hp hn e3
    have HEN : Hid ((∀ m, m < k → Y1.vic p ((f + m) % k) = false) → Y1.els p f = none) := Lib.hid fun h => els_none (by rw [HK.out]; exact h)
    have HES : Hid (∀ i, i < k → (∀ m, m < i → Y1.vic p ((f + m) % k) = false) → Y1.vic p ((f + i) % k) = true → Y1.els p f = some ((f + i) % k)) := Lib.hid fun i hi h1 h2 => by
      have := els_some (X := Y1) (p := p) (f := f) (i := i) (by rw [HK.out]; exact hi) (by rw [HK.out]; exact h1) (by rw [HK.out]; exact h2)
      rw [HK.out] at this; exact this
    have HP1 := Lib.hid fun W (G : Dg bd br bt n sc Y1 w W F) => HP.out W Y1 G
    rw [HK.out] at HP1
    generalize Y1.clk = ck at *
    clear hk HK h8
    by_cases hr0 : r < 0
    · have e7 := e5 hr0
      clear e5 e6
      go_enter Tryz.func43, Tryz.ntmps43
      go_wp2_with (first
        | (go_at_call 59; ((with_reducible refine (CW.out).mono ?_); rintro e w1 ⟨rfl, hG⟩; obtain ⟨-, q4, -⟩ := HP.out _ _ hG; have G1 := Lib.hid hG; clear hG))
        | (go_at_call 60; ((with_reducible refine (CG.out _ G1.out).mono ?_); rintro e w2 ⟨rfl, hG⟩; obtain ⟨⟨a, c, m2⟩, m4, m5, m6, -⟩ := HP1.out _ hG; have G2 := Lib.hid hG; clear hG)))
      try rw [e7]
      clear e7 hr
      go_loopw [11] (fun ix wr => ∃ i : Nat, i ≤ k ∧ ix = .int .i64 (i : Int) ∧ (∀ m, m < i → Y1.vic p ((f + m) % k) = false) ∧ Dg bd br bt n sc Y1 w wr F) (fun ix _ => k - (intOf ix).toNat)
      case atStart => exact ⟨0, Nat.zero_le _, rfl, fun m hm => absurd hm (by omega), G2.out⟩
      case round =>
        obtain ⟨i, hi, rfl, hno, hG⟩ := hrel
        have HNO := Lib.hid hno
        have GR := Lib.hid hG
        obtain ⟨-, u4, u5, u6, uf⟩ := HP1.out _ hG
        clear hno hG
        by_cases hlt : i < k
        · obtain ⟨v, hv⟩ : ∃ v, v = (f + i) % k := ⟨_, rfl⟩
          have hvk : v < k := by rw [hv]; exact Nat.mod_lt _ (by omega)
          have ev : ((f : Int) + (i : Int)) % (k : Int) = (v : Int) := by rw [hv]; simp
          have ev2 : ((f : Int) + (i : Int)).tmod (k : Int) = (v : Int) := by rw [Int.tmod_eq_emod_of_nonneg (by omega)]; exact ev
          have HV := Lib.hid hv
          clear hv
          have k6 : (v : Int) < k := by omega
          have k7 : (0 : Int) ≤ (v : Int) := by omega
          have C := CN.out v wr hvk GR.out
          have HDv := HD.out v
          generalize (nxt (Y1.P.getD v [])).1 = t at C HDv
          generalize (nxt (Y1.P.getD v [])).2 = ok at C HDv
          have C := Lib.hid C
          have HDv := Lib.hid HDv
          by_cases hit : v ≠ p ∧ ok = true ∧ t ≤ ck
          · obtain ⟨hvp, rfl, htc⟩ := hit
            have hd : Y1.els p f = some v := by rw [HV.out]; exact HES.out i hlt HNO.out (by rw [← HV.out]; unfold Sx.vic; rw [HDv.out]; simp [hvp, htc])
            obtain ⟨CM, CW2, CG2⟩ := HS.out v hvk hvp hd
            have CM := Lib.hid CM
            have CW2 := Lib.hid CW2
            have CG2 := Lib.hid CG2
            have hvp1 : (v == p) = false := by simpa using hvp
            go_wp2_with (first
              | (go_at_call 61; ((with_reducible refine (C.out).mono ?_); rintro e w1 ⟨rfl, hG⟩; obtain ⟨-, p4, p5, p6, -⟩ := HP1.out _ hG; have G3 := Lib.hid hG; clear hG))
              | (go_at_call 62; ((with_reducible refine (CM.out _ G3.out).mono ?_); rintro e w4 ⟨rfl, hG⟩; have G4 := Lib.hid hG; clear hG))
              | (go_at_call 59; ((with_reducible refine (CW2.out _ G4.out).mono ?_); rintro e w5 ⟨rfl, hG⟩; obtain ⟨-, r4, -⟩ := HP.out _ _ hG; have G5 := Lib.hid hG; clear hG))
              | (go_at_call 60; ((with_reducible refine (CG2.out _ G5.out).mono ?_); rintro e w6 ⟨rfl, hG⟩; have G6 := Lib.hid hG; clear hG)))
            go_returns
            exact ⟨rfl, G6.out⟩
          · have HN : Hid (∀ m, m < i + 1 → Y1.vic p ((f + m) % k) = false) := Lib.hid fun m hm => by
              by_cases e : m = i
              · rw [e, ← HV.out]
                unfold Sx.vic
                rw [HDv.out]
                by_cases a : v = p
                · simp [a]
                · cases ok with
                  | false => simp
                  | true =>
                    have : ¬ t ≤ ck := fun h => hit ⟨a, rfl, h⟩
                    simp [this]
              · exact HNO.out m (by omega)
            by_cases hvp : v = p
            · subst hvp
              clear hit
              go_wp2_with (go_at_call 61; ((with_reducible refine (C.out).mono ?_); rintro e w1 ⟨rfl, hG⟩; obtain ⟨-, p4, p5, p6, -⟩ := HP1.out _ hG; have G3 := Lib.hid hG; clear hG))
              go_roundw
              case rel => exact ⟨i + 1, by omega, by go_num, HN.out, G3.out⟩
              case measure => simp [intOf]; omega
            · have hvp1 : (v == p) = false := by simpa using hvp
              cases ok with
              | false =>
                clear hit
                go_wp2_with (go_at_call 61; ((with_reducible refine (C.out).mono ?_); rintro e w1 ⟨rfl, hG⟩; obtain ⟨-, p4, p5, p6, -⟩ := HP1.out _ hG; have G3 := Lib.hid hG; clear hG))
                go_roundw
                case rel => exact ⟨i + 1, by omega, by go_num, HN.out, G3.out⟩
                case measure => simp [intOf]; omega
              | true =>
                have k8 : decide (t ≤ ck) = false := by
                  rw [decide_eq_false_iff_not]; exact fun h => hit ⟨hvp, rfl, h⟩
                clear hit
                go_wp2_with (go_at_call 61; ((with_reducible refine (C.out).mono ?_); rintro e w1 ⟨rfl, hG⟩; obtain ⟨-, p4, p5, p6, -⟩ := HP1.out _ hG; have G3 := Lib.hid hG; clear hG))
                go_roundw
                case rel => exact ⟨i + 1, by omega, by go_num, HN.out, G3.out⟩
                case measure => simp [intOf]; omega
        · obtain rfl : i = k := by omega
          have HR := Lib.hid (HZ.out (HEN.out HNO.out))
          go_wp2
          go_returns
          rw [HR.out]
          exact ⟨rfl, GR.out⟩
    · have e7 := e6 hr0
      have hr9 : decide (r < 0) = false := by simpa using hr0
      clear e5 e6
      go_enter Tryz.func43, Tryz.ntmps43
      go_wp2_with (first
        | (go_at_call 59; ((with_reducible refine (CW.out).mono ?_); rintro e w1 ⟨rfl, hG⟩; obtain ⟨-, q4, -⟩ := HP.out _ _ hG; have G1 := Lib.hid hG; clear hG))
        | (go_at_call 60; ((with_reducible refine (CG.out _ G1.out).mono ?_); rintro e w2 ⟨rfl, hG⟩; obtain ⟨⟨a, c, m2⟩, m4, m5, m6, -⟩ := HP1.out _ hG; have G2 := Lib.hid hG; clear hG)))
      try rw [e7]
      clear e7 hr
      go_loopw [11] (fun ix wr => ∃ i : Nat, i ≤ k ∧ ix = .int .i64 (i : Int) ∧ (∀ m, m < i → Y1.vic p ((f + m) % k) = false) ∧ Dg bd br bt n sc Y1 w wr F) (fun ix _ => k - (intOf ix).toNat)
      case atStart => exact ⟨0, Nat.zero_le _, rfl, fun m hm => absurd hm (by omega), G2.out⟩
      case round =>
        obtain ⟨i, hi, rfl, hno, hG⟩ := hrel
        have HNO := Lib.hid hno
        have GR := Lib.hid hG
        obtain ⟨-, u4, u5, u6, uf⟩ := HP1.out _ hG
        clear hno hG
        by_cases hlt : i < k
        · obtain ⟨v, hv⟩ : ∃ v, v = (f + i) % k := ⟨_, rfl⟩
          have hvk : v < k := by rw [hv]; exact Nat.mod_lt _ (by omega)
          have ev : ((f : Int) + (i : Int)) % (k : Int) = (v : Int) := by rw [hv]; simp
          have ev2 : ((f : Int) + (i : Int)).tmod (k : Int) = (v : Int) := by rw [Int.tmod_eq_emod_of_nonneg (by omega)]; exact ev
          have HV := Lib.hid hv
          clear hv
          have k6 : (v : Int) < k := by omega
          have k7 : (0 : Int) ≤ (v : Int) := by omega
          have C := CN.out v wr hvk GR.out
          have HDv := HD.out v
          generalize (nxt (Y1.P.getD v [])).1 = t at C HDv
          generalize (nxt (Y1.P.getD v [])).2 = ok at C HDv
          have C := Lib.hid C
          have HDv := Lib.hid HDv
          by_cases hit : v ≠ p ∧ ok = true ∧ t ≤ ck
          · obtain ⟨hvp, rfl, htc⟩ := hit
            have hd : Y1.els p f = some v := by rw [HV.out]; exact HES.out i hlt HNO.out (by rw [← HV.out]; unfold Sx.vic; rw [HDv.out]; simp [hvp, htc])
            obtain ⟨CM, CW2, CG2⟩ := HS.out v hvk hvp hd
            have CM := Lib.hid CM
            have CW2 := Lib.hid CW2
            have CG2 := Lib.hid CG2
            have hvp1 : (v == p) = false := by simpa using hvp
            go_wp2_with (first
              | (go_at_call 61; ((with_reducible refine (C.out).mono ?_); rintro e w1 ⟨rfl, hG⟩; obtain ⟨-, p4, p5, p6, -⟩ := HP1.out _ hG; have G3 := Lib.hid hG; clear hG))
              | (go_at_call 62; ((with_reducible refine (CM.out _ G3.out).mono ?_); rintro e w4 ⟨rfl, hG⟩; have G4 := Lib.hid hG; clear hG))
              | (go_at_call 59; ((with_reducible refine (CW2.out _ G4.out).mono ?_); rintro e w5 ⟨rfl, hG⟩; obtain ⟨-, r4, -⟩ := HP.out _ _ hG; have G5 := Lib.hid hG; clear hG))
              | (go_at_call 60; ((with_reducible refine (CG2.out _ G5.out).mono ?_); rintro e w6 ⟨rfl, hG⟩; have G6 := Lib.hid hG; clear hG)))
            go_returns
            exact ⟨rfl, G6.out⟩
          · have HN : Hid (∀ m, m < i + 1 → Y1.vic p ((f + m) % k) = false) := Lib.hid fun m hm => by
              by_cases e : m = i
              · rw [e, ← HV.out]
                unfold Sx.vic
                rw [HDv.out]
                by_cases a : v = p
                · simp [a]
                · cases ok with
                  | false => simp
                  | true =>
                    have : ¬ t ≤ ck := fun h => hit ⟨a, rfl, h⟩
                    simp [this]
              · exact HNO.out m (by omega)
            by_cases hvp : v = p
            · subst hvp
              clear hit
              go_wp2_with (go_at_call 61; ((with_reducible refine (C.out).mono ?_); rintro e w1 ⟨rfl, hG⟩; obtain ⟨-, p4, p5, p6, -⟩ := HP1.out _ hG; have G3 := Lib.hid hG; clear hG))
              go_roundw
              case rel => exact ⟨i + 1, by omega, by go_num, HN.out, G3.out⟩
              case measure => simp [intOf]; omega
            · have hvp1 : (v == p) = false := by simpa using hvp
              cases ok with
              | false =>
                clear hit
                go_wp2_with (go_at_call 61; ((with_reducible refine (C.out).mono ?_); rintro e w1 ⟨rfl, hG⟩; obtain ⟨-, p4, p5, p6, -⟩ := HP1.out _ hG; have G3 := Lib.hid hG; clear hG))
                go_roundw
                case rel => exact ⟨i + 1, by omega, by go_num, HN.out, G3.out⟩
                case measure => simp [intOf]; omega
              | true =>
                have k8 : decide (t ≤ ck) = false := by
                  rw [decide_eq_false_iff_not]; exact fun h => hit ⟨hvp, rfl, h⟩
                clear hit
                go_wp2_with (go_at_call 61; ((with_reducible refine (C.out).mono ?_); rintro e w1 ⟨rfl, hG⟩; obtain ⟨-, p4, p5, p6, -⟩ := HP1.out _ hG; have G3 := Lib.hid hG; clear hG))
                go_roundw
                case rel => exact ⟨i + 1, by omega, by go_num, HN.out, G3.out⟩
                case measure => simp [intOf]; omega
        · obtain rfl : i = k := by omega
          have HR := Lib.hid (HZ.out (HEN.out HNO.out))
          go_wp2
          go_returns
          rw [HR.out]
          exact ⟨rfl, GR.out⟩
end
end Go.Proofs.YtaloafihbdamiaaGreat

namespace Go.Proofs.YtaloafihbdamiaaGreat
open Go.ChangeShapes Go.WideShapes Go.ChangeAt Go.RowKit
/-- What the slices of the document are beside the program's counts. -/
structure Scr (N : Int) (X : Sx) (sc : List Int) : Prop where
  len : sc.length = X.pr.length
  lo : ∀ p, 0 ≤ sc.getD p 0
  hi : ∀ p, sc.getD p 0 ≤ N
  rn : ∀ p, X.on p ≠ -1 → X.runs p = min (sc.getD p 0) 16
theorem set_fst (l : List (Int × Int)) (p : Nat) (x : Int) : (l.set p ((l.getD p (-1, 0)).1, x)).map Prod.fst = l.map Prod.fst := by
  apply List.ext_getElem?
  intro i
  simp only [List.getElem?_map, List.getElem?_set, List.getD]
  by_cases e : p = i
  · subst e
    by_cases h : p < l.length
    · simp [h]
    · simp [h]
  · simp [e]
section
variable {w W w' : World} {F : Nat → Prop} {bd br bt n : Nat} {X : Sx} {Y : Dx} {Z : List (Int × Ent)} {sc : List Int} {N : Int}
theorem Dc.setGS (h : DcA bd br bt n Y w F) {i : Nat} (hi : i < Y.g.length) : ∃ b o cap b2 o2 cap2, w.cell? ⟨bd, 2, none⟩ = some (.slice (some ⟨b, o, none⟩) Y.g.length cap) ∧ Y.g.length ≤ cap ∧ cap ≤ maxLen ∧ w.cell? ⟨b, o + i, none⟩ = some (.int .i64 (Y.g.getD i 0)) ∧ (∀ j, w.frozen? ⟨b, j, none⟩ = false) ∧
    w.cell? ⟨bd, 3, none⟩ = some (.slice (some ⟨b2, o2, none⟩) Y.g.length cap2) ∧ Y.g.length ≤ cap2 ∧ cap2 ≤ maxLen ∧ w.cell? ⟨b2, o2 + i, none⟩ = some (.int .i64 (Y.sc.getD i 0)) ∧ (∀ j, w.frozen? ⟨b2, j, none⟩ = false) ∧ b ≠ bd ∧ b2 ≠ bd ∧ b ≠ b2 ∧
    ∀ W, Cha (fun _ => False) w W → ∀ (x y : Int), Goes (DcA bd br bt n { Y with g := Y.g.set i x, sc := Y.sc.set i y }) w ((W.setCell ⟨b, o + i, none⟩ (.int .i64 x)).setCell ⟨b2, o2 + i, none⟩ (.int .i64 y)) F := by
  obtain ⟨F2, v1, v2, v3, v4, T, d, k⟩ := Dc.own h
  obtain ⟨c0, c1, c2, c3, -⟩ := d.facts
  have hs := d.c8
  have hi2 : i < Y.sc.length := by omega
  obtain ⟨b, o, cap, e, h1, h2, z, fr, up⟩ := in_at d.l3 hi
  obtain ⟨b2, o2, cap2, e2, g1, g2, z2, fr2, -⟩ := in_at d.l4 hi2
  have t0 := d.tg.1
  have t1 := (d.t3 b (by rw [e]; rfl)).1
  have t2 := (d.t4 b2 (by rw [e2]; rfl)).1
  rw [hs] at g1 e2
  refine ⟨b, o, cap, b2, o2, cap2, by rw [← e]; exact c2, h1, h2, z, fr, by rw [← e2]; exact c3, g1, g2, z2, fr2, fun c => by rw [c] at t1; omega, fun c => by rw [c] at t2; omega, fun c => by rw [c] at t1; omega, fun W cw x y => ?_⟩
  obtain ⟨l, cc⟩ := up W cw x
  obtain ⟨d', c'⟩ := (d.same cw).up3 cc l (List.length_set ..)
  have l2 : En.Lies inE ((W.setCell ⟨b, o + i, none⟩ (.int .i64 x)).setCell ⟨b2, o2 + i, none⟩ (.int .i64 y)) v4 (Y.sc.set i y) := by
    have q := d'.l4
    rw [e2] at q ⊢
    rw [← hs] at q ⊢
    have := q.put inE_ok hi2 y
    rw [show i * inE.k = i from Nat.mul_one i] at this
    exact this
  have cc2 : Cha (fun j => v4.ownBlock = some j) (W.setCell ⟨b, o + i, none⟩ (.int .i64 x)) ((W.setCell ⟨b, o + i, none⟩ (.int .i64 x)).setCell ⟨b2, o2 + i, none⟩ (.int .i64 y)) :=
    (Cha.refl (fun j => v4.ownBlock = some j) _).setCell (p := ⟨b2, o2 + i, none⟩) (fun _ => by rw [e2]; rfl) _
  obtain ⟨d2, c2'⟩ := d'.up4 cc2 l2 (List.length_set ..)
  exact k Y.st Y.sl (Y.g.set i x) (Y.sc.set i y) Y.clk _ ⟨F2, ⟨_, _, _, _, _, d2⟩, (cw.wide.trans c').trans c2', fun _ x => .inl x⟩
theorem dx_on (X : Sx) (Z : List (Int × Ent)) (sc : List Int) {p : Nat} (hp : p < X.pr.length) : (dx X Z sc).g.getD p 0 = X.on p := by
  show (X.pr.map Prod.fst).getD p 0 = _
  unfold Sx.on
  simp [List.getD, hp]
theorem dact_bad (h : DcA bd br bt n Y w F) (p s : Int) (hp : p < 0 ∨ (Y.g.length : Int) ≤ p) : Calls Tryz.prog 21 #[.pointer (some ⟨bd, 0, none⟩), .int .i64 p, .int .i64 s] w fun e w' => e = .returned (.tuple #[.int .i64 0, .int .i64 0, .int .i64 1]) ∧ w = w' := by
  have C := Lib.hid (sbad_yes h p hp)
  clear h
  go_enter Tryz.func21, Tryz.ntmps21
  go_wp2_with (go_at_call 36; ((with_reducible refine (C.out).mono ?_); rintro e w1 ⟨rfl, rfl⟩))
  go_returns
  exact ⟨rfl, rfl⟩
theorem Scr.on_up (r : Scr N X sc) {p : Nat} (hp : p < X.pr.length) : Scr (N + 1) (X.goon p).2 (if (X.goon p).1 = 4 then sc else sc.set p (sc.getD p 0 + 1)) := by
  have hl := r.len
  have h0 := r.lo p
  have h1 := r.hi p
  have key : ∀ q, (sc.set p (sc.getD p 0 + 1)).getD q 0 = if q = p then sc.getD p 0 + 1 else sc.getD q 0 := fun q => getD_set _ _ _ _ _ (by omega)
  unfold Sx.goon
  by_cases c : X.runs p < 16
  · rw [if_pos c, if_neg (show ¬ (3 : Int) = 4 by decide)]
    refine ⟨by simp only [List.length_set]; exact hl, fun q => ?_, fun q => ?_, fun q hq => ?_⟩
    · rw [key]; split
      · omega
      · exact r.lo q
    · rw [key]; split
      · omega
      · have := r.hi q; omega
    · have e : ({ X with pr := X.pr.set p (X.on p, X.runs p + 1) } : Sx).on q = X.on q ∧ ({ X with pr := X.pr.set p (X.on p, X.runs p + 1) } : Sx).runs q = if q = p then X.runs p + 1 else X.runs q := by
        unfold Sx.on Sx.runs
        dsimp only
        rw [getD_set _ _ _ _ _ hp]
        by_cases e : q = p
        · subst e; simp
        · simp [e]
      rw [e.1] at hq
      rw [e.2, key]
      by_cases e : q = p
      · subst e
        have := r.rn q hq
        simp only [if_true]
        omega
      · simp only [e, if_false]; exact r.rn q hq
  · rw [if_neg c]
    by_cases c2 : cnt (X.Q.1.getD p (-1, [])) + X.Q.2.length = 0
    · rw [if_pos c2, if_neg (show ¬ (3 : Int) = 4 by decide)]
      refine ⟨by simp only [List.length_set]; exact hl, fun q => ?_, fun q => ?_, fun q hq => ?_⟩
      · rw [key]; split
        · omega
        · exact r.lo q
      · rw [key]; split
        · omega
        · have := r.hi q; omega
      · rw [key]
        have := r.rn q hq
        by_cases e : q = p
        · subst e; simp only [if_true]; omega
        · simp only [e, if_false]; exact this
    · rw [if_neg c2, if_pos rfl]
      refine ⟨by show _ = (X.pr.set _ _).length; rw [List.length_set]; exact hl, r.lo, fun q => by have := r.hi q; omega, fun q hq => ?_⟩
      have e : (X.yld p).on q = (if q = p then -1 else X.on q) ∧ (X.yld p).runs q = X.runs q := by
        unfold Sx.yld Sx.on Sx.runs
        dsimp only
        rw [getD_set _ _ _ _ _ hp]
        by_cases e : q = p
        · subst e; simp
        · simp [e]
      rw [e.2]
      by_cases e3 : q = p
      · rw [e.1, if_pos e3] at hq; exact absurd rfl hq
      · rw [e.1, if_neg e3] at hq; exact r.rn q hq
end
end Go.Proofs.YtaloafihbdamiaaGreat
