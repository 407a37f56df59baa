/- The scheduler: wake. -/
import Derived.Test.YtaloafihbdamiaaGreatSL
namespace Go.Proofs.YtaloafihbdamiaaGreat
open Go.ChangeShapes Go.WideShapes Go.ChangeAt Go.RowKit
/-- Some goroutines are made ready, one behind the other. -/
def Sx.wk (X : Sx) (p : Nat) (l : List Int) : Sx := l.foldl (fun Y g => Y.rdy p g.toNat) X
theorem wk_snoc (X : Sx) (p : Nat) (l : List Int) (g : Int) : X.wk p (l ++ [g]) = (X.wk p l).rdy p g.toNat := by unfold Sx.wk; rw [List.foldl_append]; rfl
/-- What stays. -/
structure Kept (X Y : Sx) : Prop where
  q : Y.Q.1.length = X.Q.1.length
  P : Y.P = X.P
  a : Y.a = X.a
  pr : Y.pr = X.pr
  gs : Y.gs.length = X.gs.length
  clk : Y.clk = X.clk
theorem wk_kept (X : Sx) (p : Nat) : ∀ l, Kept X (X.wk p l) ∧ (X.wk p l).Q.2.length ≤ X.Q.2.length + 5 * l.length := by
  intro l
  induction l generalizing X with
  | nil => exact ⟨⟨rfl, rfl, rfl, rfl, rfl, rfl⟩, Nat.le_refl _⟩
  | cons g l ih =>
    obtain ⟨k, n⟩ := ih (X.rdy p g.toNat)
    have h1 : (X.rdy p g.toNat).Q.1.length = X.Q.1.length := putS_len ..
    have h2 : (X.rdy p g.toNat).Q.2.length ≤ X.Q.2.length + 5 := putS_all ..
    have h3 : (X.rdy p g.toNat).gs.length = X.gs.length := List.length_set ..
    refine ⟨⟨k.q.trans h1, k.P, k.a, k.pr, k.gs.trans h3, k.clk⟩, ?_⟩
    show ((X.rdy p g.toNat).wk p l).Q.2.length ≤ _
    rw [List.length_cons]
    omega
def Sx.wake (X : Sx) (p : Nat) : Sx := Sx.wk { X with P := X.P.set p (dueRest (X.P.getD p []) X.clk) } p (dueIds (X.P.getD p []) X.clk)
section
variable {w w' : World} {F : Nat → Prop} {bs bq bt b3 : Nat} {X : Sx}
theorem lies_int {W : World} {v : Value} {A : List Int} (h : Lies W v A) {j : Nat} (hj : j < A.length) : ∃ g o cap, v = .slice (some ⟨g, o, none⟩) A.length cap ∧ W.cell? ⟨g, o + j, none⟩ = some (.int .i64 (A.getD j 0)) ∧ A.length ≤ cap ∧ cap ≤ maxLen := h.at hj
theorem wake_any (h : ScA bs bq bt b3 X w F) (hN : Neat X.P X.a) (p : Nat) (hp : p < X.P.length) (hq : p < X.Q.1.length) (hm : many X.P ≤ 1024) (hA : X.Q.2.length ≤ 1000000)
    (hid : ∀ L, X.P[p]? = some L → ∀ x ∈ L, 0 ≤ x.id ∧ x.id < X.gs.length) :
    Calls Tryz.prog 53 #[.pointer (some ⟨bs, 0, none⟩), .int .i64 (p : Int)] w fun e w' => e = .returned (.tuple #[]) ∧ Goes (ScA bs bq bt b3 (X.wake p)) w w' F := by
  obtain ⟨ids, hids⟩ : ∃ l, l = dueIds (X.P.getD p []) X.clk := ⟨_, rfl⟩
  obtain ⟨Y, hY⟩ : ∃ Y : Sx, Y = { X with P := X.P.set p (dueRest (X.P.getD p []) X.clk) } := ⟨_, rfl⟩
  have hw : X.wake p = Y.wk p ids := by rw [hids, hY]; rfl
  have hlen : ids.length ≤ 1024 := by
    have := many_at (P_at hp)
    rw [hids]; unfold dueIds
    rw [List.length_map]
    exact Nat.le_trans (List.length_filter_le _ _) (by omega)
  have hrange : ∀ j, j < ids.length → 0 ≤ ids.getD j 0 ∧ ids.getD j 0 < X.gs.length := fun j hj => by
    have hmem : ids.getD j 0 ∈ dueIds (X.P.getD p []) X.clk := by
      rw [← hids]
      simp only [List.getD, List.getElem?_eq_getElem hj, Option.getD_some]
      exact List.getElem_mem hj
    unfold dueIds at hmem
    obtain ⟨x, hx, e⟩ := List.mem_map.1 hmem
    rw [← e]
    exact hid _ (P_at hp) x (List.mem_filter.1 hx).1
  have CD : Hid (∀ W, Cha (fun _ => False) w W → Calls Tryz.prog 73 #[.pointer (some ⟨bt, 0, none⟩), .int .i64 (p : Int), .int .u64 X.clk] W fun e w' => ∃ s c, e = .returned (.slice s ids.length c) ∧ w'.cell? ⟨bs, 1, none⟩ = some (.pointer (some ⟨bt, 0, none⟩)) ∧ w'.cell? ⟨bs, 4, none⟩ = some (.int .u64 X.clk) ∧
      Goes (Star (ScA bs bq bt b3 (Y.wk p [])) (LiA (.slice s ids.length c) ids)) w w' F) := Lib.hid fun W c =>
    (sc_due (fit_sc.same h c) hN p hp hm X.clk).mono fun e w' ⟨v, e1, G⟩ => by
      rw [← hids, ← hY] at G
      obtain ⟨F1, hS, c1, n1⟩ := G.before c
      obtain ⟨F3, F4, a, b, -⟩ := hS
      obtain ⟨s, cap, ev, -⟩ := b.1.form
      obtain ⟨_, _, o1, -, -⟩ := Sc.own a
      have hck : Y.clk = X.clk := by rw [hY]
      subst ev
      exact ⟨s, cap, e1, o1.facts.2.1, by rw [← hck]; exact o1.facts.2.2.2.2.1, G.before c⟩
  obtain ⟨-, hYq⟩ : True ∧ Y.Q = X.Q := ⟨trivial, by rw [hY]⟩
  have hYg : Y.gs = X.gs := by rw [hY]
  have CM : Hid (∀ (s : Option Addr) (c j : Nat) (W : World), j < ids.length → Goes (Star (ScA bs bq bt b3 (Y.wk p (ids.take j))) (LiA (.slice s ids.length c) ids)) w W F → ∃ (b : Nat) (o : Nat) (g : Nat), s = some ⟨b, o, none⟩ ∧ W.cell? ⟨b, o + j, none⟩ = some (.int .i64 (g : Int)) ∧ ids.length ≤ c ∧ c ≤ maxLen ∧
      Calls Tryz.prog 38 #[.pointer (some ⟨bs, 0, none⟩), .int .i64 (p : Int), .int .i64 (g : Int)] W fun e w' => e = .returned (.tuple #[]) ∧ Goes (Star (ScA bs bq bt b3 (Y.wk p (ids.take (j + 1)))) (LiA (.slice s ids.length c) ids)) w w' F) := Lib.hid fun s c j W hj G => by
    obtain ⟨r1, r2⟩ := hrange j hj
    have G0 := G
    obtain ⟨F1, hS, c1, n1⟩ := G
    obtain ⟨F3, F4, a, b, -⟩ := hS
    obtain ⟨g, o, cap, ev, hz, q1, q2⟩ := lies_int b.1 hj
    injection ev with ev1 ev2 ev3
    subst ev1 ev3
    have eg : ((ids.getD j 0).toNat : Int) = ids.getD j 0 := by omega
    refine ⟨g, o, (ids.getD j 0).toNat, rfl, by rw [eg]; exact hz, q1, q2, ?_⟩
    obtain ⟨k, n⟩ := wk_kept Y p (ids.take j)
    have hl : (ids.take j).length ≤ 1024 := by rw [List.length_take]; omega
    have e : Y.wk p (ids.take (j + 1)) = (Y.wk p (ids.take j)).rdy p (ids.getD j 0).toNat := by
      rw [List.take_add_one, List.getElem?_eq_getElem hj, Option.toList_some, wk_snoc]
      simp only [List.getD, List.getElem?_eq_getElem hj, Option.getD_some]
    rw [e]
    exact G0.next fun F1 h1 => Star.stepL fit_sc fit_li h1 fun F2 h2 => makeready_any h2 p _ (by rw [k.q, hYq]; exact hq) (by rw [k.gs, hYg]; omega) (by rw [hYq] at n; omega)
  have HF : Hid (∀ (s : Option Addr) (c : Nat) (W : World), Goes (Star (ScA bs bq bt b3 (Y.wk p (ids.take ids.length))) (LiA (.slice s ids.length c) ids)) w W F → Goes (ScA bs bq bt b3 (X.wake p)) w W F) := Lib.hid fun s c W G => by
    rw [List.take_length, ← hw] at G
    obtain ⟨F1, ⟨F3, F4, a, b, d, e1, e2, o⟩, c1, n1⟩ := G
    exact ⟨F3, a, c1, fun i hi => n1 i (e1 i hi)⟩
  obtain ⟨F2, gv, o, -, -⟩ := Sc.own h
  obtain ⟨-, c1, -, -, c4, -⟩ := o.facts
  clear h o hids hY hw hrange hid hN hm hA hq hp hYq hYg
  have H0 : Hid (ids.take 0 = []) := Lib.hid rfl
  generalize X.clk = ck at *
  generalize hL : ids.length = L at *
  go_enter Tryz.func53, Tryz.ntmps53
  go_wp2
  go_region_held3 (fun w' => w'.cell? ⟨bs, 1, none⟩ = some (.pointer (some ⟨bt, 0, none⟩)) ∧ w'.cell? ⟨bs, 4, none⟩ = some (.int .u64 ck))
    (first
      | exact ⟨c1, c4⟩
      | go_keep)
    (first | (go_at_call 73; (with_reducible refine (CD.out _ (by first | exact (Cha.refl _ _).drew | exact (Cha.refl _ _).drewN _ | exact Cha.refl _ _)).mono ?_); rintro e w1 ⟨s, c, rfl, e1, e4, hG⟩; have G1 := Lib.hid hG; clear hG))
  all_goals
    go_wp2
    go_loopw [17] (fun i wr => ∃ j : Nat, j ≤ L ∧ i = .int .i64 (j : Int) ∧ Goes (Star (ScA bs bq bt b3 (Y.wk p (ids.take j))) (LiA (.slice s L c) ids)) w wr F) (fun i _ => L - (intOf i).toNat)
    case atStart => exact ⟨0, Nat.zero_le _, rfl, by rw [H0.out]; first | exact G1.out | exact G1.out.drew⟩
    case round =>
      obtain ⟨j, hj, rfl, hG⟩ := hrel
      by_cases hlt : j < L
      · obtain ⟨b, o, g, rfl, hz, q1, q2, C⟩ := CM.out s c j wr hlt hG
        have C := Lib.hid C
        have k1 : (j : Int) < (L : Int) := by omega
        have k2 : (0 : Int) ≤ (j : Int) := by omega
        unfold maxLen at q2
        clear hG
        go_wp2_with (go_at_call 38; ((with_reducible refine (C.out).mono ?_); rintro e w3 ⟨rfl, hG⟩; have HG := Lib.hid hG; clear hG))
        go_roundw
        case rel => exact ⟨j + 1, by omega, by go_num, HG.out⟩
        case measure => simp [intOf]; omega
      · obtain rfl : j = L := by omega
        have HG := Lib.hid (HF.out _ _ _ hG)
        clear hG
        go_wp2
        go_returns
        exact ⟨rfl, HG.out⟩
end
end Go.Proofs.YtaloafihbdamiaaGreat
