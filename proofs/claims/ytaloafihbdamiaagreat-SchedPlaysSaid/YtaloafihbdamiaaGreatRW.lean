/- One call of any kind to both; what is asked of both behind it. -/
import Derived.Test.YtaloafihbdamiaaGreatRV
namespace Go.Proofs.YtaloafihbdamiaaGreat
open Go.ChangeShapes Go.WideShapes Go.ChangeAt Go.RowKit
section
variable {w0 w W W' : World} {bs bd gb n g2 : Nat} {c2 : Array Value} {N : Int} {X : Sx} {f : FuncId} {args : Array Value} {v : Ending}
theorem Du.up (h : Du w0 bs bd n g2 c2 N X W) : Du w0 bs bd n g2 c2 (N + 1) X W := by
  obtain ⟨bq, bt, b3, br, bt2, F, ⟨F5, F6, ⟨F1, F2, a, ⟨Z, sc, r, b⟩, d⟩, d2⟩, c⟩ := h
  exact ⟨bq, bt, b3, br, bt2, F, ⟨F5, F6, ⟨F1, F2, a, ⟨Z, sc, r.up, b⟩, d⟩, d2⟩, c⟩
theorem Du.same (h : Du w0 bs bd n g2 c2 N X W) (c : Cha (fun _ => False) W W') : Du w0 bs bd n g2 c2 N X W' := by
  obtain ⟨bq, bt, b3, br, bt2, m⟩ := h
  exact ⟨bq, bt, b3, br, bt2, m.same ((fit_sc.star fit_dn).star (fit_blk ..)) c⟩
theorem Du.cha (h : Du w0 bs bd n g2 c2 N X W) : Cha (fun _ => False) w0 W := by
  obtain ⟨bq, bt, b3, br, bt2, m⟩ := h
  exact m.cha
theorem Du.facts (h : Du w0 bs bd n g2 c2 N X W) : ∃ bq bt b3 br bt2 Z sc F1 F2, Rel n N X Z sc ∧ ScA bs bq bt b3 X W F1 ∧ DcA bd br bt2 n (dx X Z sc) W F2 := by
  obtain ⟨bq, bt, b3, br, bt2, F, ⟨F5, F6, ⟨F1, F2, a, ⟨Z, sc, r, b⟩, d⟩, d2⟩, c⟩ := h
  exact ⟨bq, bt, b3, br, bt2, Z, sc, F1, F2, r, a, b⟩
theorem Du.clk (h : Du w0 bs bd n g2 c2 N X W) : X.clk ≤ 1099511627776 := by
  obtain ⟨bq, bt, b3, br, bt2, Z, sc, F1, F2, r, a, b⟩ := h.facts
  obtain ⟨_, _, o, -, -⟩ := Sc.own a
  exact o.c1
theorem one_else (h : Du w0 bs bd n g2 c2 N X w) (k p m t : Int) (h0 : k ≠ 0) (h1 : k ≠ 1) (h2 : k ≠ 2) (h3 : k ≠ 3) (h4 : k ≠ 4) (h5 : k ≠ 5) (h6 : k ≠ 6) (h7 : k ≠ 7) : Calls Tryz.prog 7 #[.pointer (some ⟨bs, 0, none⟩), .pointer (some ⟨bd, 0, none⟩), .agg #[.int .i64 k, .int .i64 p, .int .i64 m, .int .u64 t]] w fun e w' => e = .returned (.bool true) ∧ ∃ X', Du w0 bs bd n g2 c2 (N + 1) X' w' := by
  have HD := Lib.hid (h.up.same ((Cha.refl (fun _ => False) w).alloc (.cells #[.int .i64 k, .int .i64 p, .int .i64 m, .int .u64 t] 33)))
  have e0 : (k == 0) = false := by simpa using h0
  have e1 : (k == 1) = false := by simpa using h1
  have e2 : (k == 2) = false := by simpa using h2
  have e3 : (k == 3) = false := by simpa using h3
  have e4 : (k == 4) = false := by simpa using h4
  have e5 : (k == 5) = false := by simpa using h5
  have e6 : (k == 6) = false := by simpa using h6
  have e7 : (k == 7) = false := by simpa using h7
  clear h h0 h1 h2 h3 h4 h5 h6 h7
  go_enter Tryz.func7, Tryz.ntmps7
  go_wp2
  go_returns
  exact ⟨rfl, _, HD.out⟩
theorem one_any (h : Du w0 bs bd n g2 c2 N X w) (hN : N < 4611686018427387904) (k p m t : Int) (t0 : 0 ≤ t) (t1 : t ≤ 18446744073709551615) : Calls Tryz.prog 7 #[.pointer (some ⟨bs, 0, none⟩), .pointer (some ⟨bd, 0, none⟩), .agg #[.int .i64 k, .int .i64 p, .int .i64 m, .int .u64 t]] w fun e w' => e = .returned (.bool true) ∧ ∃ X', Du w0 bs bd n g2 c2 (N + 1) X' w' := by
  by_cases h0 : k = 0
  · subst h0; exact one_0 h hN p m t
  by_cases h1 : k = 1
  · subst h1; exact one_1 h hN p m t
  by_cases h2 : k = 2
  · subst h2; exact one_2 h hN p m t
  by_cases h3 : k = 3
  · subst h3; exact one_3 h hN p m t
  by_cases h4 : k = 4
  · subst h4; exact one_4 h hN p m t
  by_cases h5 : k = 5
  · subst h5; exact one_5 h hN p m t
  by_cases h6 : k = 6
  · subst h6; exact one_6 h hN p m t
  by_cases h7 : k = 7
  · subst h7; exact one_7 h hN p m t t0 t1 h.clk
  exact one_else h k p m t h0 h1 h2 h3 h4 h5 h6 h7
def Sx.curR (X : Sx) (p : Int) : Int := if X.out p then -1 else X.on p.toNat
def Sx.stR (X : Sx) (g : Int) : Int := if g < 0 ∨ (X.gs.length : Int) ≤ g then 0 else (X.gs.getD g.toNat (0, false)).1
theorem l_counts (h : Du w0 bs bd n g2 c2 N X W) : Calls Tryz.prog 8 #[.pointer (some ⟨bs, 0, none⟩)] W fun e w' => e = .returned (.tuple #[.int .u64 X.clk, .int .i64 (able X.gs : Nat), .int .i64 (many X.P : Nat)]) ∧ Du w0 bs bd n g2 c2 N X w' := by
  obtain ⟨bq, bt, b3, br, bt2, Z, sc, F1, F2, r, a, b⟩ := h.facts
  exact (counts_any a (by have := r.wf.fine.mny; omega)).mono fun e w' ⟨x, c⟩ => ⟨x, h.same c⟩
theorem l_cur (h : Du w0 bs bd n g2 c2 N X W) (p : Int) : Calls Tryz.prog 10 #[.pointer (some ⟨bs, 0, none⟩), .int .i64 p] W fun e w' => e = .returned (.int .i64 (X.curR p)) ∧ W = w' := by
  obtain ⟨bq, bt, b3, br, bt2, Z, sc, F1, F2, r, a, b⟩ := h.facts
  unfold Sx.curR
  by_cases hb : X.out p
  · rw [if_pos hb]; exact current_bad a p hb
  · rw [if_neg hb]
    unfold Sx.out at hb
    obtain ⟨q, rfl⟩ : ∃ q : Nat, p = (q : Int) := ⟨p.toNat, by omega⟩
    exact current_any a q (by omega)
theorem r_cur (h : Du w0 bs bd n g2 c2 N X W) (p : Int) : Calls Tryz.prog 11 #[.pointer (some ⟨bd, 0, none⟩), .int .i64 p] W fun e w' => e = .returned (.int .i64 (X.curR p)) ∧ W = w' := by
  obtain ⟨bq, bt, b3, br, bt2, Z, sc, F1, F2, r, a, b⟩ := h.facts
  unfold Sx.curR
  by_cases hb : X.out p
  · rw [if_pos hb]; exact dcurrent_bad b p (by rw [dx_glen]; exact hb)
  · rw [if_neg hb]
    unfold Sx.out at hb
    obtain ⟨q, rfl⟩ : ∃ q : Nat, p = (q : Int) := ⟨p.toNat, by omega⟩
    have hq : q < X.pr.length := by omega
    have := dcurrent_any b q (by rw [dx_glen]; exact hq)
    rw [dx_on X Z sc hq] at this
    exact this
theorem l_st (h : Du w0 bs bd n g2 c2 N X W) (g : Int) : Calls Tryz.prog 12 #[.pointer (some ⟨bs, 0, none⟩), .int .i64 g] W fun e w' => e = .returned (.int .i64 (X.stR g)) ∧ W = w' := by
  obtain ⟨bq, bt, b3, br, bt2, Z, sc, F1, F2, r, a, b⟩ := h.facts
  unfold Sx.stR
  by_cases hb : g < 0 ∨ (X.gs.length : Int) ≤ g
  · rw [if_pos hb]; exact state_bad a g hb
  · rw [if_neg hb]
    obtain ⟨q, rfl⟩ : ∃ q : Nat, g = (q : Int) := ⟨g.toNat, by omega⟩
    exact state_any a q (by omega)
theorem r_st (h : Du w0 bs bd n g2 c2 N X W) (g : Int) : Calls Tryz.prog 13 #[.pointer (some ⟨bd, 0, none⟩), .int .i64 g] W fun e w' => e = .returned (.int .i64 (X.stR g)) ∧ W = w' := by
  obtain ⟨bq, bt, b3, br, bt2, Z, sc, F1, F2, r, a, b⟩ := h.facts
  unfold Sx.stR
  by_cases hb : g < 0 ∨ (X.gs.length : Int) ≤ g
  · rw [if_pos hb]; exact dstate_bad b g (by rw [dx_slen]; exact hb)
  · rw [if_neg hb]
    obtain ⟨q, rfl⟩ : ∃ q : Nat, g = (q : Int) := ⟨g.toNat, by omega⟩
    have := dstate_any b q (by rw [dx_slen]; omega)
    rw [dx_st] at this
    exact this
theorem dable_is (gs : List (Int × Bool)) : dable (gs.map Prod.fst) = able gs := by
  unfold dable able
  rw [List.countP_map]
  rfl
theorem r_able (h : Du w0 bs bd n g2 c2 N X W) : Calls Tryz.prog 9 #[.pointer (some ⟨bd, 0, none⟩)] W fun e w' => e = .returned (.int .i64 (able X.gs : Nat)) ∧ Cha (fun _ => False) W w' := by
  obtain ⟨bq, bt, b3, br, bt2, Z, sc, F1, F2, r, a, b⟩ := h.facts
  have := dable_any b
  rw [show dable (dx X Z sc).st = able X.gs from dable_is X.gs] at this
  exact this
theorem r_cells (h : Du w0 bs bd n g2 c2 N X W) : ∃ bt2 a c, W.cell? ⟨bd, 6, none⟩ = some (.int .u64 X.clk) ∧ W.cell? ⟨bd, 5, none⟩ = some (.pointer (some ⟨bt2, 0, none⟩)) ∧ W.cell? ⟨bt2, 1, none⟩ = some (.slice a (many X.P) c) := by
  obtain ⟨bq, bt, b3, br, bt2, Z, sc, F1, F2, r, a, b⟩ := h.facts
  obtain ⟨-, -, -, q5, q6, -⟩ := Dc.facts b
  obtain ⟨F3, v, d, -, -⟩ := Dc.tim b
  obtain ⟨s, c, e, -⟩ := d.l.form
  refine ⟨bt2, s, c, q6, q5, ?_⟩
  have := d.list
  rw [e] at this
  rw [this, r.m.cnt]
  show some (Value.slice s (Z.map tmOf).length c) = _
  rw [List.length_map]
end
end Go.Proofs.YtaloafihbdamiaaGreat
