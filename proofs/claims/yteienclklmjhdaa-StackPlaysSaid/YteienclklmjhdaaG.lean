/- Contracts of stack: follow, Load, Store, Set. -/
import Derived.Test.YteienclklmjhdaaE
namespace Go.Proofs.Yteienclklmjhdaa
open Go.ChangeShapes Go.WideShapes Go.ChangeAt Go.RowKit
variable {W : World} {F : Nat → Prop} {bs bw bm : Nat} {s : St}

/-- Where a reference leads, or why not. -/
def St.fol (s : St) (b i : Int) : Option Nat × Int :=
  match find s.fs b i with
  | none => (none, 4)
  | some d => match s.ct d with
    | .num _ => (none, 10)
    | .ref t => if (s.ct t).isRef then (none, 10) else (some t, 0)
def folV (n : Nat) (o : Option Nat × Int) : Value := match o.1 with | some t => intV ((n - t : Nat) : Int) o.2 | none => intV 0 o.2
/-- What is kept where nothing old changes. -/
theorem Sk.keep (h : Sk W F bs bw bm s) {W' : World} (c : Cha (fun _ => False) W W') : (W'.cell? ⟨bs, 0, none⟩ = some (.slice (some ⟨bw, 0, none⟩) s.n s.n) ∧ W'.cell? ⟨bs, 2, none⟩ = some (.map (some bm))) ∧ ∀ p v, W.cell? ⟨bw, p, none⟩ = some v → W'.cell? ⟨bw, p, none⟩ = some v := by
  refine ⟨⟨(h.same c).cell 0, (h.same c).cell 2⟩, fun p v hp => ?_⟩
  obtain ⟨r, r1, _⟩ := h.row
  rw [cell_of_row W' bw p _ 28 (0, 0) (c.row r1 id), ← cell_of_row W bw p _ 28 (0, 0) r1]
  exact hp
theorem follow_any (h : Sk W F bs bw bm s) (b i : Int) :
    Calls Try.prog 36 #[.pointer (some ⟨bs, 0, none⟩), .int .i64 b, .int .i64 i] W fun e W' => e = .returned (folV s.n (s.fol b i)) ∧ Cha (fun _ => False) W W' := by
  obtain ⟨c0, c1, c2, c3, c4⟩ := h.facts
  have C := Lib.hid (find_any h b i)
  have hn := h.ok.n_le
  cases hf : find s.fs b i with
  | none =>
    have hg : s.fol b i = (none, 4) := by unfold St.fol; rw [hf]
    rw [hg]
    rw [hf, foundV_none] at C
    clear h hf hg
    go_enter Try.func36, Try.ntmps36
    go_wp2_with (go_at_call 33; ((with_reducible refine (C.out).mono ?_); rintro e w1 ⟨rfl, rfl⟩))
    go_returns
    exact ⟨rfl, Cha.refl _ _⟩
  | some d =>
    have hg : s.fol b i = (match s.ct d with | .num _ => (none, 10) | .ref t => if (s.ct t).isRef then (none, 10) else (some t, 0)) := by unfold St.fol; rw [hf]
    rw [hf, foundV_some] at C
    have hs := (find_isSlot hf).ge
    have hw := h.word (e := d) (by omega) (by omega)
    have CR := Lib.hid (isRef_any h (s.n - d) (by omega))
    rw [isPlace_at h (by omega) (by omega)] at CR
    have hfit := h.ok.fit
    have hrf := h.ok.refs d
    obtain ⟨p, hp⟩ : ∃ p, p = s.n - d := ⟨_, rfl⟩
    rw [← hp] at C hw CR
    have hpn : p < s.n := by omega
    have H := Lib.hid h
    cases hc : s.ct d with
    | num v =>
      rw [hc] at hw CR hg
      rw [hg]
      clear hg h hc hw c0 hf hp hrf
      go_enter Try.func36, Try.ntmps36
      go_wp2_with (first
        | (go_at_call 33; ((with_reducible refine (C.out).mono ?_); rintro e w1 ⟨rfl, rfl⟩))
        | (go_at_call 35; ((with_reducible refine (CR.out).mono ?_); rintro e w1 ⟨rfl, hc⟩; have HC := Lib.hid hc; clear hc)))
      go_returns
      exact ⟨rfl, HC.out⟩
    | ref t =>
      rw [hc] at hw CR hg
      have ht := (hrf t (by omega) (by omega) hc).1.ge
      obtain ⟨q, hq⟩ : ∃ q, q = s.n - t := ⟨_, rfl⟩
      have hw : W.cell? ⟨bw, p, none⟩ = some (.int .u64 (q : Int)) := by rw [hw, hq]; rfl
      have hqn : q < s.n := by omega
      have CL : Hid (∀ W', Cha (fun _ => False) W W' → Calls Try.prog 38 #[.pointer (some ⟨bs, 0, none⟩), .int .i64 (p : Int)] W' fun e W2 => e = .returned (.int .i64 (q : Int)) ∧ W' = W2) := Lib.hid fun W' c => load_any (H.out.keep c).1.1 hpn ((H.out.keep c).2 _ _ hw) (by omega) (by omega)
      have CT : Hid (∀ W', Cha (fun _ => False) W W' → Calls Try.prog 35 #[.pointer (some ⟨bs, 0, none⟩), .int .i64 (q : Int)] W' fun e W2 => e = .returned (.bool (s.ct t).isRef) ∧ Cha (fun _ => False) W' W2) := Lib.hid fun W' c => by
        have := isRef_any (H.out.same c) q (by omega)
        rwa [hq, isPlace_at (H.out.same c) (by omega) (by omega), ← hq] at this
      have hv : folV s.n (some t, 0) = intV (q : Int) 0 := by rw [hq]; rfl
      have HF : Hid (∀ x, folV s.n (none, x) = intV 0 x) := Lib.hid fun x => rfl
      cases hct : (s.ct t).isRef with
      | true =>
        have hg : s.fol b i = (none, 10) := by rw [hg]; simp [hct]
        rw [hg]
        rw [hct] at CT
        clear hg h hc hw c0 hf hp hrf hct hq hv ht
        go_enter Try.func36, Try.ntmps36
        go_wp2_with (first
          | (go_at_call 33; ((with_reducible refine (C.out).mono ?_); rintro e w1 ⟨rfl, rfl⟩))
          | (go_at_call 35; ((with_reducible refine (CR.out).mono ?_); rintro e w1 ⟨rfl, hc⟩; have HC := Lib.hid hc; clear hc))
          | (go_at_call 38; ((with_reducible refine (CL.out _ HC.out).mono ?_); rintro e w1 ⟨rfl, rfl⟩))
          | (go_at_call 35; ((with_reducible refine (CT.out _ HC.out).mono ?_); rintro e w1 ⟨rfl, hc⟩; have HC2 := Lib.hid (HC.out.trans hc); clear hc)))
        go_returns
        exact ⟨rfl, HC2.out⟩
      | false =>
        have hg : s.fol b i = (some t, 0) := by rw [hg]; simp [hct]
        rw [hg, hv]
        rw [hct] at CT
        clear hg h hc hw c0 hf hp hrf hct hq hv ht
        go_enter Try.func36, Try.ntmps36
        go_wp2_with (first
          | (go_at_call 33; ((with_reducible refine (C.out).mono ?_); rintro e w1 ⟨rfl, rfl⟩))
          | (go_at_call 35; ((with_reducible refine (CR.out).mono ?_); rintro e w1 ⟨rfl, hc⟩; have HC := Lib.hid hc; clear hc))
          | (go_at_call 38; ((with_reducible refine (CL.out _ HC.out).mono ?_); rintro e w1 ⟨rfl, rfl⟩))
          | (go_at_call 35; ((with_reducible refine (CT.out _ HC.out).mono ?_); rintro e w1 ⟨rfl, hc⟩; have HC2 := Lib.hid (HC.out.trans hc); have CL2 := Lib.hid (CL.out _ HC2.out); clear hc))
          | (go_at_call 38; ((with_reducible refine (CL2.out).mono ?_); rintro e w1 ⟨rfl, rfl⟩)))
        go_returns
        exact ⟨rfl, HC2.out⟩
end Go.Proofs.Yteienclklmjhdaa
