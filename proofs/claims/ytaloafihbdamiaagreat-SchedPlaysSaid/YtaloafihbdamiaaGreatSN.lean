/- The scheduler: find, Act. -/
import Derived.Test.YtaloafihbdamiaaGreatSM
namespace Go.Proofs.YtaloafihbdamiaaGreat
open Go.ChangeShapes Go.WideShapes Go.ChangeAt Go.RowKit
/-- What calls of a scheduler need. -/
structure Fine (k : Nat) (X : Sx) : Prop where
  n1 : 1 ≤ X.pr.length
  lq : X.Q.1.length = X.pr.length
  lp : X.P.length = X.pr.length
  neat : Neat X.P X.a
  mny : many X.P ≤ 64
  ids : ∀ (p : Nat) (L : List Ent), X.P[p]? = some L → ∀ x ∈ L, 0 ≤ x.id ∧ x.id < X.gs.length
  qa : X.Q.2.length ≤ k
theorem rest_drop {L : List Ent} {now : Int} (hr : Rises L) : ∃ k, dueRest L now = L.drop k := by
  induction L with
  | nil => exact ⟨0, rfl⟩
  | cons x l ih =>
    unfold Rises at hr
    rw [List.pairwise_cons] at hr
    by_cases h : now < x.when
    · refine ⟨0, ?_⟩
      unfold dueRest
      rw [List.drop_zero, List.filter_eq_self]
      intro y hy
      rcases List.mem_cons.1 hy with rfl | hy
      · simpa using h
      · have := hr.1 y hy
        unfold Ent.lt at this
        simp only [decide_eq_true_eq]
        omega
    · obtain ⟨k, e⟩ := ih hr.2
      refine ⟨k + 1, ?_⟩
      unfold dueRest at e ⊢
      rw [List.filter_cons_of_neg (by simpa using h), e]
      rfl
theorem rest_len (L : List Ent) (now : Int) : (dueIds L now).length + (dueRest L now).length = L.length := by
  unfold dueIds dueRest
  rw [List.length_map]
  induction L with
  | nil => rfl
  | cons x l ih =>
    rw [List.filter_cons, List.filter_cons]
    by_cases h : x.when ≤ now
    · rw [if_pos (by simpa using h), if_neg (by simp; omega), List.length_cons, List.length_cons]; omega
    · rw [if_neg (by simpa using h), if_pos (by simp; omega), List.length_cons, List.length_cons]; omega
theorem Fine.wake {k : Nat} {X : Sx} (h : Fine k X) {p : Nat} (hp : p < X.pr.length) : Fine (k + 320) (X.wake p) := by
  have hpa := P_at (P := X.P) (p := p) (by rw [h.lp]; exact hp)
  obtain ⟨d, hd⟩ := rest_drop (now := X.clk) (h.neat.tidy.up p _ hpa)
  have hl := rest_len (X.P.getD p []) X.clk
  have hm := many_at hpa
  have hs := many_set (M := dueRest (X.P.getD p []) X.clk) hpa
  have h64 := h.mny
  obtain ⟨K, n⟩ := wk_kept { X with P := X.P.set p (dueRest (X.P.getD p []) X.clk) } p (dueIds (X.P.getD p []) X.clk)
  have eP : (X.wake p).P = X.P.set p (dueRest (X.P.getD p []) X.clk) := K.P
  have ea : (X.wake p).a = X.a := K.a
  have epr : (X.wake p).pr = X.pr := K.pr
  have egs : (X.wake p).gs.length = X.gs.length := K.gs
  have eq1 : (X.wake p).Q.1.length = X.Q.1.length := K.q
  have eq2 : (X.wake p).Q.2.length ≤ X.Q.2.length + 5 * (dueIds (X.P.getD p []) X.clk).length := n
  have hqa := h.qa
  refine ⟨by rw [epr]; exact h.n1, by rw [eq1, epr]; exact h.lq, by rw [eP, List.length_set, epr]; exact h.lp, ?_, by rw [eP]; omega, fun q L hq x hx => ?_, by omega⟩
  · rw [eP, ea, hd]; exact h.neat.cut hpa d
  · rw [egs]
    rw [eP] at hq
    rcases set_at hq with ⟨rfl, rfl⟩ | ⟨_, hq⟩
    · exact h.ids q _ hpa x (List.mem_filter.1 hx).1
    · exact h.ids q _ hq x hx
theorem getS_all (S : List Prc) (A : List Int) (p f : Nat) : (getS S A p f).2.2.length ≤ A.length := by
  unfold getS
  split
  · split
    · exact Nat.le_refl _
    · split
      · simp
      · simp
  · exact Nat.le_refl _
theorem Fine.get {k : Nat} {X : Sx} (h : Fine k X) (p : Nat) (s : Int) : Fine k { X with Q := (getP X.Q p s).2 } :=
  ⟨h.n1, (getS_len ..).trans h.lq, h.lp, h.neat, h.mny, h.ids, Nat.le_trans (getS_all ..) h.qa⟩
/-- All timers of a processor are another one's. -/
def Sx.mv (X : Sx) (v p : Nat) : Sx := { X with P := (X.P.set v []).set p (mrg (X.P.getD v []) (X.P.getD p [])) }
theorem ltb_not {x e : Ent} (h : x.order ≠ e.order) : e.ltb x = !x.ltb e := by
  unfold Ent.ltb
  by_cases c : x.when < e.when ∨ (x.when = e.when ∧ x.order < e.order)
  · rw [decide_eq_true c, decide_eq_false (by omega)]; rfl
  · rw [decide_eq_false c, decide_eq_true (by omega)]; rfl
theorem ins_perm {e : Ent} {L : List Ent} (h : ∀ y ∈ L, y.order ≠ e.order) : (insO e L).Perm (e :: L) := by
  unfold insO
  rw [List.filter_congr (p := fun x => e.ltb x) (q := fun x => !x.ltb e) fun x hx => ltb_not (h x hx)]
  exact List.perm_middle.trans ((List.filter_append_perm _ _).cons e)
theorem mrg_perm : ∀ (L1 : List Ent) {L2 : List Ent}, (L1 ++ L2).Pairwise (fun x y : Ent => x.order ≠ y.order) → (mrg L1 L2).Perm (L1 ++ L2)
  | [], L2, _ => List.Perm.refl _
  | e :: l, L2, k => by
    rw [List.cons_append, List.pairwise_cons] at k
    have ih := mrg_perm l k.2
    exact (ins_perm fun y hy c => k.1 y (ih.mem_iff.1 hy) c.symm).trans (ih.cons e)
theorem Rises.not_lt {L : List Ent} (h : Rises L) : L.Pairwise fun x y => ¬ y.lt x := h.imp fun a b => by unfold Ent.lt at *; omega
theorem Fine.mv {k : Nat} {X : Sx} (h : Fine k X) {v p : Nat} (hv : v < X.pr.length) (hp : p < X.pr.length) (hne : v ≠ p) : Fine k (X.mv v p) := by
  have hva := P_at (P := X.P) (p := v) (by rw [h.lp]; exact hv)
  have hpa := P_at (P := X.P) (p := p) (by rw [h.lp]; exact hp)
  have ho : ((X.P.getD v []) ++ (X.P.getD p [])).Pairwise (fun x y => x.order ≠ y.order) := by
    rw [List.pairwise_append]
    exact ⟨h.neat.apart hva, h.neat.apart hpa, fun x hx y hy e => hne (h.neat.own v p _ _ x y hva hpa hx hy e).1⟩
  have hm := mrg_perm _ ho
  refine ⟨h.n1, h.lq, by show ((X.P.set v []).set p _).length = _; rw [List.length_set, List.length_set]; exact h.lp, h.neat.move hva hpa hne hm (mrg_rises _ (h.neat.tidy.up p _ hpa) ho).1.not_lt, ?_, fun q L hq x hx => ?_, h.qa⟩
  · show many ((X.P.set v []).set p _) ≤ 64
    rw [many_move hva hpa hne hm]; exact h.mny
  · show 0 ≤ x.id ∧ x.id < X.gs.length
    rcases set_at hq with ⟨rfl, rfl⟩ | ⟨_, hq⟩
    · rcases List.mem_append.1 (hm.mem_iff.1 hx) with hx | hx
      · exact h.ids v _ hva x hx
      · exact h.ids q _ hpa x hx
    · rcases set_at hq with ⟨rfl, rfl⟩ | ⟨_, hq⟩
      · cases hx
      · exact h.ids q _ hq x hx
/-- A goroutine for a processor that has none. -/
def Sx.got (X : Sx) (p : Nat) (s : Int) : (Int × Bool) × Sx := ((getP X.Q p s).1, { X with Q := (getP X.Q p s).2 })
def Sx.find (X : Sx) (p : Nat) (s : Int) : (Int × Bool) × Sx :=
  if ((X.wake p).got p s).1.2 then (X.wake p).got p s
  else match ((X.wake p).got p s).2.els p (s % (X.pr.length : Int)).toNat with
    | none => ((0, false), ((X.wake p).got p s).2)
    | some v => ((((X.wake p).got p s).2.mv v p).wake p).got p s
theorem find_yes {X : Sx} {p : Nat} {s : Int} (h : ((X.wake p).got p s).1.2 = true) : X.find p s = (X.wake p).got p s := by unfold Sx.find; rw [if_pos h]
theorem find_none {X : Sx} {p : Nat} {s : Int} (h : ((X.wake p).got p s).1.2 = false) (e : ((X.wake p).got p s).2.els p (s % (X.pr.length : Int)).toNat = none) : X.find p s = ((0, false), ((X.wake p).got p s).2) := by
  unfold Sx.find; rw [if_neg (by rw [h]; exact Bool.false_ne_true), e]
theorem find_other {X : Sx} {p v : Nat} {s : Int} (h : ((X.wake p).got p s).1.2 = false) (e : ((X.wake p).got p s).2.els p (s % (X.pr.length : Int)).toNat = some v) : X.find p s = ((((X.wake p).got p s).2.mv v p).wake p).got p s := by
  unfold Sx.find; rw [if_neg (by rw [h]; exact Bool.false_ne_true), e]
theorem els_is {X : Sx} {p f v : Nat} (h : X.els p f = some v) : v < X.pr.length ∧ v ≠ p ∧ X.due v = true := by
  unfold Sx.els at h
  obtain ⟨i, hi, rfl⟩ := Option.map_eq_some_iff.1 h
  have h1 := List.find?_some hi
  have h2 := List.mem_range.1 (List.mem_of_find?_eq_some hi)
  unfold Sx.vic at h1
  simp only [Bool.and_eq_true, bne_iff_ne, ne_eq] at h1
  exact ⟨Nat.mod_lt _ (by omega), h1.1, h1.2⟩
theorem wake_pr (X : Sx) (p : Nat) : (X.wake p).pr = X.pr := (wk_kept { X with P := X.P.set p (dueRest (X.P.getD p []) X.clk) } p (dueIds (X.P.getD p []) X.clk)).1.pr
theorem wake_gs (X : Sx) (p : Nat) : (X.wake p).gs.length = X.gs.length := (wk_kept { X with P := X.P.set p (dueRest (X.P.getD p []) X.clk) } p (dueIds (X.P.getD p []) X.clk)).1.gs
section
variable {w w' : World} {F : Nat → Prop} {bs bq bt b3 : Nat} {X : Sx}
theorem sc_wake {k : Nat} (h : ScA bs bq bt b3 X w F) (f : Fine k X) (hk : k ≤ 1000000) (p : Nat) (hp : p < X.pr.length) :
    Calls Tryz.prog 53 #[.pointer (some ⟨bs, 0, none⟩), .int .i64 (p : Int)] w fun e w' => e = .returned (.tuple #[]) ∧ Goes (ScA bs bq bt b3 (X.wake p)) w w' F :=
  wake_any h f.neat p (by rw [f.lp]; exact hp) (by rw [f.lq]; exact hp) (by have := f.mny; omega) (by have := f.qa; omega) fun L hL => f.ids p L hL
theorem Goes.ptrs (G : Goes (ScA bs bq bt b3 X) w w' F) : w'.cell? ⟨bs, 0, none⟩ = some (.pointer (some ⟨bq, 0, none⟩)) ∧ w'.cell? ⟨bs, 1, none⟩ = some (.pointer (some ⟨bt, 0, none⟩)) := by
  obtain ⟨F1, h1, _, _⟩ := G
  obtain ⟨_, _, o, -, -⟩ := Sc.own h1
  exact ⟨o.facts.1, o.facts.2.1⟩
theorem find_any (h : ScA bs bq bt b3 X w F) (f : Fine 1000 X) (p : Nat) (s : Int) (hp : p < X.pr.length) :
    Calls Tryz.prog 40 #[.pointer (some ⟨bs, 0, none⟩), .int .i64 (p : Int), .int .i64 s] w fun e w' => e = .returned (.tuple #[.int .i64 (X.find p s).1.1, .bool (X.find p s).1.2]) ∧ Goes (ScA bs bq bt b3 (X.find p s).2) w w' F := by
  have f1 := f.wake hp
  have p1 := wake_pr X p
  obtain ⟨Y, hY⟩ : ∃ Y, Y = X.wake p := ⟨_, rfl⟩
  have C38 : Hid (Calls Tryz.prog 53 #[.pointer (some ⟨bs, 0, none⟩), .int .i64 (p : Int)] w fun e w' => e = .returned (.tuple #[]) ∧ Goes (ScA bs bq bt b3 Y) w w' F) := Lib.hid (by rw [hY]; exact sc_wake h f (by omega) p hp)
  rw [← hY] at f1 p1
  have C39 : Hid (∀ w1, Goes (ScA bs bq bt b3 Y) w w1 F → Calls Tryz.prog 54 #[.pointer (some ⟨bq, 0, none⟩), .int .i64 (p : Int), .int .i64 s] w1 fun e w' => e = .returned (.tuple #[.int .i64 (Y.got p s).1.1, .bool (Y.got p s).1.2]) ∧ Goes (ScA bs bq bt b3 (Y.got p s).2) w w' F) := Lib.hid fun w1 G =>
    G.next fun F1 h1 => sc_get h1 p s (by rw [f1.lq, p1]; exact hp)
  have f2 : Fine 1320 (Y.got p s).2 := f1.get p s
  have p2 : (Y.got p s).2.pr = X.pr := p1
  have HY := Lib.hid (find_yes (X := X) (p := p) (s := s))
  have HN := Lib.hid (find_none (X := X) (p := p) (s := s))
  have HO := Lib.hid (fun v => find_other (X := X) (p := p) (s := s) (v := v))
  rw [← hY] at HY HN HO
  have HP := Lib.hid (fun W X => Goes.ptrs (w' := W) (w := w) (F := F) (bs := bs) (bq := bq) (bt := bt) (b3 := b3) (X := X))
  obtain ⟨⟨⟨g, b⟩, Y1⟩, hr⟩ : ∃ r, r = Y.got p s := ⟨_, rfl⟩
  rw [← hr] at C39 f2 p2 HY HN HO
  have C39 : Hid (∀ w1, Goes (ScA bs bq bt b3 Y) w w1 F → Calls Tryz.prog 54 #[.pointer (some ⟨bq, 0, none⟩), .int .i64 (p : Int), .int .i64 s] w1 fun e w' => e = .returned (.tuple #[.int .i64 g, .bool b]) ∧ Goes (ScA bs bq bt b3 Y1) w w' F) := C39
  have f2 : Fine 1320 Y1 := f2
  have p2 : Y1.pr = X.pr := p2
  clear hr f1 p1 hY h f
  cases b with
  | true =>
    have HR := Lib.hid (HY.out rfl)
    go_enter Tryz.func40, Tryz.ntmps40
    go_wp2_with (first
      | (go_at_call 53; ((with_reducible refine (C38.out).mono ?_); rintro e w1 ⟨rfl, hG⟩; obtain ⟨q0, q1⟩ := HP.out _ _ hG; have G1 := Lib.hid hG; clear hG))
      | (go_at_call 54; ((with_reducible refine (C39.out _ G1.out).mono ?_); rintro e w2 ⟨rfl, hG⟩; have G2 := Lib.hid hG; clear hG)))
    go_returns
    rw [HR.out]
    exact ⟨rfl, G2.out⟩
  | false =>
    have C40 : Hid (∀ w2, Goes (ScA bs bq bt b3 Y1) w w2 F → Calls Tryz.prog 55 #[.pointer (some ⟨bs, 0, none⟩), .int .i64 (p : Int), .int .i64 s] w2 fun e w' => e = .returned (.tuple #[.int .i64 ((Y1.els p (s % (X.pr.length : Int)).toNat).getD 0 : Nat), .bool (Y1.els p (s % (X.pr.length : Int)).toNat).isSome]) ∧ Goes (ScA bs bq bt b3 Y1) w w' F) := Lib.hid fun w2 G =>
      G.next fun F1 h1 => by
        have := els_any h1 p s (by rw [p2]; exact hp) f2.lp
        rw [p2] at this
        exact this.mono fun e w' ⟨a, c⟩ => ⟨a, .same fit_sc h1 c⟩
    cases he : Y1.els p (s % (X.pr.length : Int)).toNat with
    | none =>
      have HR := Lib.hid (HN.out rfl he)
      rw [he] at C40
      dsimp only [Option.getD_none, Option.isSome_none] at C40
      clear he
      go_enter Tryz.func40, Tryz.ntmps40
      go_wp2_with (first
        | (go_at_call 53; ((with_reducible refine (C38.out).mono ?_); rintro e w1 ⟨rfl, hG⟩; obtain ⟨q0, q1⟩ := HP.out _ _ hG; have G1 := Lib.hid hG; clear hG))
        | (go_at_call 54; ((with_reducible refine (C39.out _ G1.out).mono ?_); rintro e w2 ⟨rfl, hG⟩; have G2 := Lib.hid hG; clear hG))
        | (go_at_call 55; ((with_reducible refine (C40.out _ G2.out).mono ?_); rintro e w3 ⟨rfl, hG⟩; have G3 := Lib.hid hG; clear hG)))
      go_returns
      rw [HR.out]
      exact ⟨rfl, G3.out⟩
    | some v =>
      obtain ⟨v1, v2, -⟩ := els_is he
      rw [p2] at v1
      have f3 : Fine 1320 (Y1.mv v p) := f2.mv (by rw [p2]; exact v1) (by rw [p2]; exact hp) v2
      have p3 : (Y1.mv v p).pr = X.pr := p2
      have f4 := f3.wake (p := p) (by rw [p3]; exact hp)
      have p4 := (wake_pr (Y1.mv v p) p).trans p3
      have HR := Lib.hid (HO.out v rfl he)
      rw [he] at C40
      dsimp only [Option.getD_some, Option.isSome_some] at C40
      have C41 : Hid (∀ w3, Goes (ScA bs bq bt b3 Y1) w w3 F → Calls Tryz.prog 56 #[.pointer (some ⟨bt, 0, none⟩), .int .i64 (v : Int), .int .i64 (p : Int)] w3 fun e w' => e = .returned (.int .i64 0) ∧ Goes (ScA bs bq bt b3 (Y1.mv v p)) w w' F) := Lib.hid fun w3 G =>
        G.next fun F1 h1 => sc_move (X := Y1) h1 f2.neat v p (by rw [f2.lp, p2]; exact v1) (by rw [f2.lp, p2]; exact hp) v2 (Nat.le_trans f2.mny (by decide))
      have C42 : Hid (∀ w3, Goes (ScA bs bq bt b3 (Y1.mv v p)) w w3 F → Calls Tryz.prog 53 #[.pointer (some ⟨bs, 0, none⟩), .int .i64 (p : Int)] w3 fun e w' => e = .returned (.tuple #[]) ∧ Goes (ScA bs bq bt b3 ((Y1.mv v p).wake p)) w w' F) := Lib.hid fun w3 G =>
        G.next fun F1 h1 => sc_wake h1 f3 (by omega) p (by rw [p3]; exact hp)
      have C43 : Hid (∀ w1, Goes (ScA bs bq bt b3 ((Y1.mv v p).wake p)) w w1 F → Calls Tryz.prog 54 #[.pointer (some ⟨bq, 0, none⟩), .int .i64 (p : Int), .int .i64 s] w1 fun e w' => e = .returned (.tuple #[.int .i64 (((Y1.mv v p).wake p).got p s).1.1, .bool (((Y1.mv v p).wake p).got p s).1.2]) ∧ Goes (ScA bs bq bt b3 (((Y1.mv v p).wake p).got p s).2) w w' F) := Lib.hid fun w1 G =>
        G.next fun F1 h1 => sc_get h1 p s (by rw [f4.lq, p4]; exact hp)
      clear he f3 p3 f4 p4 f2 p2 v1 v2
      go_enter Tryz.func40, Tryz.ntmps40
      go_wp2_with (first
        | (go_at_call 53; ((with_reducible refine (C38.out).mono ?_); rintro e w1 ⟨rfl, hG⟩; obtain ⟨q0, q1⟩ := HP.out _ _ hG; have G1 := Lib.hid hG; clear hG))
        | (go_at_call 54; ((with_reducible refine (C39.out _ G1.out).mono ?_); rintro e w2 ⟨rfl, hG⟩; have G2 := Lib.hid hG; clear hG))
        | (go_at_call 55; ((with_reducible refine (C40.out _ G2.out).mono ?_); rintro e w3 ⟨rfl, hG⟩; obtain ⟨q2, q3⟩ := HP.out _ _ hG; have G3 := Lib.hid hG; clear hG))
        | (go_at_call 56; ((with_reducible refine (C41.out _ G3.out).mono ?_); rintro e w4 ⟨rfl, hG⟩; have G4 := Lib.hid hG; clear hG))
        | (go_at_call 53; ((with_reducible refine (C42.out _ G4.out).mono ?_); rintro e w5 ⟨rfl, hG⟩; obtain ⟨q4, q5⟩ := HP.out _ _ hG; have G5 := Lib.hid hG; clear hG))
        | (go_at_call 54; ((with_reducible refine (C43.out _ G5.out).mono ?_); rintro e w6 ⟨rfl, hG⟩; have G6 := Lib.hid hG; clear hG)))
      go_returns
      rw [HR.out]
      exact ⟨rfl, G6.out⟩
end
end Go.Proofs.YtaloafihbdamiaaGreat
