/- The program's map: New, row, Use, Free, Counts. -/
import Derived.Test.YtlpgfdphoiideaaSB
import Derived.Carry
namespace Go.Proofs.Ytlpgfdphoiideaa
open Go.ChangeShapes Go.WideShapes Go.ChangeAt Go.RowKit
theorem info3 : (Try.prog.info? 3).map (fun i => (i.zero, i.size, i.bytes)) = some (some (.int .i64 0), 1, 8) := by kernel_rfl
theorem info85 : (Try.prog.info? 85).map (fun i => (i.zero, i.size, i.bytes)) = some (some (.int .i64 0), 1, 8) := by kernel_rfl
theorem made_one (v : Value) (hv : v.cells = #[v]) (m : Nat) : madeCells v.cells (m * 1) = fcells m fun _ => v := by
  rw [Nat.mul_one, hv]
  unfold madeCells fcells
  congr 1
  funext x
  show (#[v])[x % 1]! = _
  rw [Nat.mod_one]
  rfl
theorem mk_states (m : Nat) (hm : m ≤ 1000000) (W : World) : (Instr.makeSlice 77 (.int .i64 (m : Int)) (.int .i64 (m : Int))).run Try.prog W = .ok (.slice (some ⟨W.heap.size, 0, none⟩) m m) (W.alloc (.cells (fcells m fun _ => .int .i64 0) 85)) := by
  obtain ⟨i, hi, hz, hs, hb⟩ := info_parts info85
  have h := run_make (P := Try.prog) W 77 85 i _ Try.underlying77 hi hz .i64 .i64 (m : Int) (m : Int) (by omega) (by omega) (by rw [hb]; omega) (by omega)
  rw [hs, Int.toNat_natCast, made_one _ rfl] at h
  exact h
theorem mk_ints (m : Nat) (hm : m ≤ 1000000) (W : World) : (Instr.makeSlice 65 (.int .i64 (m : Int)) (.int .i64 (m : Int))).run Try.prog W = .ok (.slice (some ⟨W.heap.size, 0, none⟩) m m) (W.alloc (.cells (fcells m fun _ => .int .i64 0) 3)) := by
  obtain ⟨i, hi, hz, hs, hb⟩ := info_parts info3
  have h := run_make (P := Try.prog) W 65 3 i _ Try.underlying65 hi hz .i64 .i64 (m : Int) (m : Int) (by omega) (by omega) (by rw [hb]; omega) (by omega)
  rw [hs, Int.toNat_natCast, made_one _ rfl] at h
  exact h
/-- Pages that aren't there. -/
def bad (N : Nat) (base n : Int) : Bool := decide (n < 1) || decide (base < 0) || decide ((N : Int) - n < base)
/-- Which pages Use uses. -/
def useR (N : Nat) (st : Nat → Int) (base n : Int) : Int × Int :=
  if bad N base n then (0, 1) else if cn st 2 base.toNat n.toNat = 0 then ((cn st 0 base.toNat n.toNat : Nat), 0) else (0, 5)
def useS (N : Nat) (st : Nat → Int) (base n : Int) : Nat → Int :=
  if bad N base n then st else if cn st 2 base.toNat n.toNat = 0 then fil st base.toNat n.toNat 2 else st
def freR (N : Nat) (st : Nat → Int) (base n : Int) : Int :=
  if bad N base n then 1 else if cn st 2 base.toNat n.toNat = n.toNat then 0 else 5
def freS (N : Nat) (st : Nat → Int) (base n : Int) : Nat → Int :=
  if bad N base n then st else if cn st 2 base.toNat n.toNat = n.toNat then fil st base.toNat n.toNat 1 else st
theorem bad_no {N : Nat} {base n : Int} (h : bad N base n = false) : ∃ o m : Nat, base = o ∧ n = m ∧ base.toNat = o ∧ n.toNat = m ∧ 1 ≤ m ∧ o + m ≤ N := by
  unfold bad at h
  simp only [Bool.or_eq_false_iff, decide_eq_false_iff_not] at h
  exact ⟨base.toNat, n.toNat, by omega, by omega, rfl, rfl, by omega, by omega⟩
theorem bad_yes {N : Nat} {base n : Int} (h : bad N base n = true) : n < 1 ∨ (1 ≤ n ∧ base < 0) ∨ (1 ≤ n ∧ 0 ≤ base ∧ (N : Int) - n < base) := by
  unfold bad at h
  simp only [Bool.or_eq_true, decide_eq_true_eq] at h
  omega
section
variable {w w' : World} {bs bp N : Nat} {st st' : Nat → Int}
theorem snew_ok (n : Nat) (w : World) (h1 : 1 ≤ n) (h2 : n ≤ 4096) :
    Calls Try.prog 30 #[.int .i64 n] w fun e w' => e = .returned (.tuple #[.pointer (some ⟨w.heap.size + 1, 0, none⟩), .int .i64 0]) ∧ Sv 79 85 w' (w.heap.size + 1) w.heap.size n (fun _ => 0) ∧ Cha (fun _ => False) w w' := by
  have M := Lib.hid fun W => mk_states n (by omega) W
  have F : Hid (Sv 79 85 ((w.alloc (.cells (fcells n fun _ => .int .i64 0) 85)).alloc (.cells #[.slice (some ⟨w.heap.size, 0, none⟩) n n] 79)) (w.heap.size + 1) w.heap.size n (fun _ => 0) ∧ Cha (fun _ => False) w ((w.alloc (.cells (fcells n fun _ => .int .i64 0) 85)).alloc (.cells #[.slice (some ⟨w.heap.size, 0, none⟩) n n] 79))) :=
    Lib.hid ⟨⟨heap_alloc2_new w _ _, heap_alloc2_old w _ _, by omega, h1, h2⟩, ((Cha.refl _ w).alloc _).alloc _⟩
  go_enter Try.func30, Try.ntmps30
  go_wp2_with (rw [M.out])
  go_returns
  exact ⟨rfl, F.out⟩
theorem snew_bad (n : Int) (w : World) (h : n < 1 ∨ 4096 < n) :
    Calls Try.prog 30 #[.int .i64 n] w fun e w' => e = .returned (.tuple #[.pointer none, .int .i64 1]) ∧ w = w' := by
  by_cases h1 : n < 1
  · clear h
    go_enter Try.func30, Try.ntmps30
    go_wp2
    go_returns
    exact ⟨rfl, rfl⟩
  · have h2 : 4096 < n := by omega
    clear h
    go_enter Try.func30, Try.ntmps30
    go_wp2
    go_returns
    exact ⟨rfl, rfl⟩
theorem row_bad (h : Sv 79 85 w bs bp N st) (base n : Int) (hb : bad N base n = true) (b0 : -9223372036854775808 ≤ base) (b1 : base ≤ 9223372036854775807) (n0 : -9223372036854775808 ≤ n) (n1 : n ≤ 9223372036854775807) :
    Calls Try.prog 52 #[.pointer (some ⟨bs, 0, none⟩), .int .i64 base, .int .i64 n] w fun e w' => e = .returned (.tuple #[.slice none 0 0, .int .i64 1]) ∧ w = w' := by
  have c0 := h.cell
  have hn := h.n2
  clear h
  rcases bad_yes hb with k | ⟨k, k2⟩ | ⟨k, k2, k3⟩
  · clear hb
    go_enter Try.func52, Try.ntmps52
    go_wp2
    go_returns
    exact ⟨rfl, rfl⟩
  · clear hb
    go_enter Try.func52, Try.ntmps52
    go_wp2
    go_returns
    exact ⟨rfl, rfl⟩
  · have hw : IntKind.i64.wrap ((N : Int) - n) = (N : Int) - n := by rw [IntKind.wrap_i64]; omega
    clear hb
    go_enter Try.func52, Try.ntmps52
    go_wp2
    go_returns
    exact ⟨rfl, rfl⟩
theorem row_ok (h : Sv 79 85 w bs bp N st) (o m : Nat) (hm : 1 ≤ m) (ho : o + m ≤ N) :
    Calls Try.prog 52 #[.pointer (some ⟨bs, 0, none⟩), .int .i64 o, .int .i64 m] w fun e w' => e = .returned (.tuple #[.slice (some ⟨bp, o, none⟩) m (N - o), .int .i64 0]) ∧ w = w' := by
  have c0 := h.cell
  have hn := h.n2
  have hw : IntKind.i64.wrap ((N : Int) - (m : Int)) = (N : Int) - (m : Int) := by rw [IntKind.wrap_i64]; omega
  have hw2 : IntKind.i64.wrap ((o : Int) + (m : Int)) = ((o + m : Nat) : Int) := by rw [IntKind.wrap_i64]; omega
  have hx : ¬ (N - o = 0) := by omega
  clear h
  go_enter Try.func52, Try.ntmps52
  go_wp2
  go_returns
  have e : o + m - o = m := by omega
  refine ⟨?_, rfl⟩
  show Ending.returned (.tuple #[.slice (some ⟨bp, o, none⟩) (o + m - o) (N - o), .int .i64 0]) = _
  rw [e]
/-- What a call leaves of the program's map. -/
def SvL (w w' : World) (bs bp N : Nat) (st : Nat → Int) : Prop := Sv 79 85 w' bs bp N st ∧ Cha (· = bp) w w'
theorem SvL.of (h : Sv 79 85 w bs bp N st) (c : Cha (fun _ => False) w w') : SvL w w' bs bp N st := ⟨h.same c, c.wide⟩
def isI (x : Int) : Prop := -9223372036854775808 ≤ x ∧ x ≤ 9223372036854775807
theorem cn_c (h : Sv 79 85 w bs bp N st) (o m c : Nat) (x : Int) (ho : o + m ≤ N) : Calls Try.prog 53 #[.slice (some ⟨bp, o, none⟩) m c, .int .i64 x] w fun e w' => e = .returned (.int .i64 (cn st x o m : Nat)) ∧ Cha (fun _ => False) w w' :=
  count_any h.row ho h.n2
theorem use_any (h : Sv 79 85 w bs bp N st) (base n : Int) (hb : isI base) (hn : isI n) :
    Calls Try.prog 33 #[.pointer (some ⟨bs, 0, none⟩), .int .i64 base, .int .i64 n] w fun e w' => e = .returned (.tuple #[.int .i64 (useR N st base n).1, .int .i64 (useR N st base n).2]) ∧ SvL w w' bs bp N (useS N st base n) := by
  cases hbd : bad N base n with
  | true =>
    have R := Lib.hid (row_bad h base n hbd hb.1 hb.2 hn.1 hn.2)
    have E : useR N st base n = (0, 1) := if_pos hbd
    have E2 : useS N st base n = st := if_pos hbd
    rw [E, E2]
    have F := Lib.hid (SvL.of h (Cha.refl _ w))
    clear h hbd E E2
    go_enter Try.func33, Try.ntmps33
    go_wp2_with (go_at_call 52; (with_reducible refine (R.out).mono ?_); rintro e w1 ⟨rfl, rfl⟩)
    go_returns
    exact ⟨rfl, F.out⟩
  | false =>
    obtain ⟨o, m, rfl, rfl, e1, e2, m1, ho⟩ := bad_no hbd
    have R := Lib.hid (row_ok h o m m1 ho)
    have C2 := Lib.hid (cn_c h o m (N - o) 2 ho)
    have hle := cn_le st 2 o m
    have hn2 := h.n2
    by_cases hz : cn st 2 o m = 0
    · have E : useR N st o m = (((cn st 0 o m : Nat) : Int), 0) := by unfold useR; rw [hbd, e1, e2, if_neg (by simp), if_pos hz]
      have E2 : useS N st o m = fil st o m 2 := by unfold useS; rw [hbd, e1, e2, if_neg (by simp), if_pos hz]
      rw [E, E2]
      have H2 : Hid (∀ w1, Cha (fun _ => False) w w1 → Sv 79 85 w1 bs bp N st) := Lib.hid fun w1 c => h.same c
      rw [hz] at C2
      clear h hbd E E2 hz e1 e2
      go_enter Try.func33, Try.ntmps33
      go_wp2_with (first
        | (go_at_call 52; (with_reducible refine (R.out).mono ?_); rintro e w1 ⟨rfl, rfl⟩)
        | (go_at_call 53; (with_reducible refine (C2.out).mono ?_); rintro e w2 ⟨rfl, hc2⟩; have C3 := Lib.hid (cn_c (H2.out _ hc2) o m (N - o) 0 ho); have HC2 := Lib.hid hc2; clear hc2)
        | (go_at_call 53; (with_reducible refine (C3.out).mono ?_); rintro e w3 ⟨rfl, hc3⟩; have HC3 := Lib.hid (HC2.out.trans hc3); clear hc3)
        | (go_at_call 54; (with_reducible refine (fill_any (H2.out _ HC3.out).row ho hn2).mono ?_); rintro e w4 ⟨rfl, hf, hc4⟩; have HF := Lib.hid ((H2.out _ HC3.out).put hc4 hf); have HC4 := Lib.hid (HC3.out.wide.trans hc4); clear hf hc4))
      go_returns
      exact ⟨rfl, HF.out, HC4.out⟩
    · have E : useR N st o m = (0, 5) := by unfold useR; rw [hbd, e1, e2, if_neg (by simp), if_neg hz]
      have E2 : useS N st o m = st := by unfold useS; rw [hbd, e1, e2, if_neg (by simp), if_neg hz]
      rw [E, E2]
      have H2 : Hid (∀ w1, Cha (fun _ => False) w w1 → SvL w w1 bs bp N st) := Lib.hid fun w1 c => SvL.of h c
      have hz2 : 0 < cn st 2 o m := by omega
      clear h hbd E E2 e1 e2 hz
      generalize cn st 2 o m = q at *
      go_enter Try.func33, Try.ntmps33
      go_wp2_with (first
        | (go_at_call 52; (with_reducible refine (R.out).mono ?_); rintro e w1 ⟨rfl, rfl⟩)
        | (go_at_call 53; (with_reducible refine (C2.out).mono ?_); rintro e w2 ⟨rfl, hc2⟩; have HC2 := Lib.hid hc2; clear hc2))
      go_returns
      exact ⟨rfl, H2.out _ HC2.out⟩
theorem sfree_any (h : Sv 79 85 w bs bp N st) (base n : Int) (hb : isI base) (hn : isI n) :
    Calls Try.prog 35 #[.pointer (some ⟨bs, 0, none⟩), .int .i64 base, .int .i64 n] w fun e w' => e = .returned (.int .i64 (freR N st base n)) ∧ SvL w w' bs bp N (freS N st base n) := by
  cases hbd : bad N base n with
  | true =>
    have R := Lib.hid (row_bad h base n hbd hb.1 hb.2 hn.1 hn.2)
    have E : freR N st base n = 1 := if_pos hbd
    have E2 : freS N st base n = st := if_pos hbd
    rw [E, E2]
    have F := Lib.hid (SvL.of h (Cha.refl _ w))
    clear h hbd E E2
    go_enter Try.func35, Try.ntmps35
    go_wp2_with (go_at_call 52; (with_reducible refine (R.out).mono ?_); rintro e w1 ⟨rfl, rfl⟩)
    go_returns
    exact ⟨rfl, F.out⟩
  | false =>
    obtain ⟨o, m, rfl, rfl, e1, e2, m1, ho⟩ := bad_no hbd
    have R := Lib.hid (row_ok h o m m1 ho)
    have C2 := Lib.hid (cn_c h o m (N - o) 2 ho)
    have hle := cn_le st 2 o m
    have hn2 := h.n2
    by_cases hz : cn st 2 o m = m
    · have E : freR N st o m = 0 := by unfold freR; rw [hbd, e1, e2, if_neg (by simp), if_pos hz]
      have E2 : freS N st o m = fil st o m 1 := by unfold freS; rw [hbd, e1, e2, if_neg (by simp), if_pos hz]
      rw [E, E2]
      have H2 : Hid (∀ w1, Cha (fun _ => False) w w1 → Sv 79 85 w1 bs bp N st) := Lib.hid fun w1 c => h.same c
      rw [hz] at C2
      clear h hbd E E2 hz e1 e2
      go_enter Try.func35, Try.ntmps35
      go_wp2_with (first
        | (go_at_call 52; (with_reducible refine (R.out).mono ?_); rintro e w1 ⟨rfl, rfl⟩)
        | (go_at_call 53; (with_reducible refine (C2.out).mono ?_); rintro e w2 ⟨rfl, hc2⟩; have HC2 := Lib.hid hc2; clear hc2)
        | (go_at_call 54; (with_reducible refine (fill_any (H2.out _ HC2.out).row ho hn2).mono ?_); rintro e w4 ⟨rfl, hf, hc4⟩; have HF := Lib.hid ((H2.out _ HC2.out).put hc4 hf); have HC4 := Lib.hid (HC2.out.wide.trans hc4); clear hf hc4))
      go_returns
      exact ⟨rfl, HF.out, HC4.out⟩
    · have E : freR N st o m = 5 := by unfold freR; rw [hbd, e1, e2, if_neg (by simp), if_neg hz]
      have E2 : freS N st o m = st := by unfold freS; rw [hbd, e1, e2, if_neg (by simp), if_neg hz]
      rw [E, E2]
      have H2 : Hid (∀ w1, Cha (fun _ => False) w w1 → SvL w w1 bs bp N st) := Lib.hid fun w1 c => SvL.of h c
      have hz2 : cn st 2 o m < m := by omega
      clear h hbd E E2 e1 e2 hz
      generalize cn st 2 o m = q at *
      go_enter Try.func35, Try.ntmps35
      go_wp2_with (first
        | (go_at_call 52; (with_reducible refine (R.out).mono ?_); rintro e w1 ⟨rfl, rfl⟩)
        | (go_at_call 53; (with_reducible refine (C2.out).mono ?_); rintro e w2 ⟨rfl, hc2⟩; have HC2 := Lib.hid hc2; clear hc2))
      go_returns
      exact ⟨rfl, H2.out _ HC2.out⟩
theorem scounts_any (h : Sv 79 85 w bs bp N st) :
    Calls Try.prog 40 #[.pointer (some ⟨bs, 0, none⟩)] w fun e w' => e = .returned (.tuple #[.int .i64 (cn st 2 0 N : Nat), .int .i64 (cn st 1 0 N : Nat), .int .i64 (cn st 0 0 N : Nat)]) ∧ Cha (fun _ => False) w w' := by
  have c0 : w.drew.cell? ⟨bs, 0, none⟩ = some (.slice (some ⟨bp, 0, none⟩) N N) := h.cell
  have K : Hid (∀ W, Cha (fun _ => False) w.drew W → W.cell? ⟨bs, 0, none⟩ = some (.slice (some ⟨bp, 0, none⟩) N N)) := Lib.hid fun W c => (h.same (((Cha.refl _ w).drew).trans c)).cell
  have C : Hid (∀ W x, Cha (fun _ => False) w.drew W → Calls Try.prog 53 #[.slice (some ⟨bp, 0, none⟩) N N, .int .i64 x] W fun e w' => e = .returned (.int .i64 (cn st x 0 N : Nat)) ∧ Cha (fun _ => False) W w') := Lib.hid fun W x c => cn_c (h.same (((Cha.refl _ w).drew).trans c)) 0 N N x (by omega)
  have C2 : Hid (∀ W, Cha (fun _ => False) w.drew W → Calls Try.prog 53 #[.slice (some ⟨bp, 0, none⟩) N N, .int .i64 2] W fun e w' => e = .returned (.int .i64 (cn st 2 0 N : Nat)) ∧ Cha (fun _ => False) W w') := Lib.hid fun W c => C.out W 2 c
  have C1 : Hid (∀ W, Cha (fun _ => False) w.drew W → Calls Try.prog 53 #[.slice (some ⟨bp, 0, none⟩) N N, .int .i64 1] W fun e w' => e = .returned (.int .i64 (cn st 1 0 N : Nat)) ∧ Cha (fun _ => False) W w') := Lib.hid fun W c => C.out W 1 c
  have C0 : Hid (∀ W, Cha (fun _ => False) w.drew W → Calls Try.prog 53 #[.slice (some ⟨bp, 0, none⟩) N N, .int .i64 0] W fun e w' => e = .returned (.int .i64 (cn st 0 0 N : Nat)) ∧ Cha (fun _ => False) W w') := Lib.hid fun W c => C.out W 0 c
  clear h C
  generalize cn st 2 0 N = q2 at *
  generalize cn st 1 0 N = q1 at *
  generalize cn st 0 0 N = q0 at *
  have cr := Cha.refl (fun _ => False) w.drew
  have c9 : w.cell? ⟨bs, 0, none⟩ = some (.slice (some ⟨bp, 0, none⟩) N N) := c0
  go_enter Try.func40, Try.ntmps40
  go_wp2
  go_region_held3 (fun w' => w'.cell? ⟨bs, 0, none⟩ = some (.slice (some ⟨bp, 0, none⟩) N N))
    (first
      | exact c0
      | exact K.out _ (by assumption)
      | go_keep)
    (first
      | (go_at_call 53; (with_reducible refine (C2.out _ cr).mono ?_); rintro e5 w5 ⟨rfl, e5⟩)
      | (go_at_call 53; (with_reducible refine (C1.out _ e5).mono ?_); rintro e6 w6 ⟨rfl, e6⟩; have e61 := e5.trans e6)
      | (go_at_call 53; (with_reducible refine (C0.out _ e61).mono ?_); rintro e7 w7 ⟨rfl, e7⟩; have e71 := e61.trans e7))
  all_goals
    go_wp2
    go_returns
    exact ⟨rfl, ((Cha.refl _ w).drew).trans e71⟩
end
end Go.Proofs.Ytlpgfdphoiideaa
