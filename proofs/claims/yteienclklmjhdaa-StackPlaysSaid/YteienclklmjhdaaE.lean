/- Contracts of stack: Get, Load, Counts, follow. -/
import Derived.Test.YteienclklmjhdaaD
namespace Go.Proofs.Yteienclklmjhdaa
open Go.ChangeShapes Go.WideShapes Go.ChangeAt Go.RowKit
variable {W : World} {F : Nat → Prop} {bs bw bm : Nat} {s : St}

def wordV (v e : Int) : Value := .tuple #[.int .u64 v, .int .i64 e]
def intV (v e : Int) : Value := .tuple #[.int .i64 v, .int .i64 e]
/-- What Get answers. -/
def St.get (s : St) (b i : Int) : Int × Int :=
  match find s.fs b i with
  | none => (0, 4)
  | some d => match s.ct d with | .num v => (v, 0) | .ref _ => (0, 10)
theorem isPlace_at (h : Sk W F bs bw bm s) {d : Nat} (h1 : 1 ≤ d) (h2 : d ≤ pos s.fs) : s.isPlace (s.n - d) = (s.ct d).isRef := by
  have hf := h.ok.fit
  unfold St.isPlace
  rw [show s.n - (s.n - d) = d by omega, decide_eq_true (by omega), decide_eq_true (by omega)]
  rfl
theorem get_none (a b : Int) (W : World) : Calls Try.prog 21 #[.pointer none, .int .i64 a, .int .i64 b] W fun e W' => e = .returned (wordV 0 5) ∧ W = W' := by
  go_enter Try.func21, Try.ntmps21
  go_wp2
  go_returns
  exact ⟨rfl, rfl⟩
theorem load_none (a b : Int) (W : World) : Calls Try.prog 23 #[.pointer none, .int .i64 a, .int .i64 b] W fun e W' => e = .returned (wordV 0 5) ∧ W = W' := by
  go_enter Try.func23, Try.ntmps23
  go_wp2
  go_returns
  exact ⟨rfl, rfl⟩
theorem counts_none (W : World) : Calls Try.prog 25 #[.pointer none] W fun e W' => e = .returned (.tuple #[.int .i64 0, .int .i64 0, .int .i64 0]) ∧ W = W' := by
  go_enter Try.func25, Try.ntmps25
  go_wp2
  go_returns
  exact ⟨rfl, rfl⟩
theorem counts_any (h : Sk W F bs bw bm s) : Calls Try.prog 25 #[.pointer (some ⟨bs, 0, none⟩)] W fun e W' => e = .returned (.tuple #[.int .i64 (s.fs.length : Nat), .int .i64 (s.n : Nat), .int .i64 s.cop]) ∧ Cha (fun _ => False) W W' := by
  obtain ⟨c0, c1, c2, c3, c4⟩ := h.facts
  clear h
  go_enter Try.func25, Try.ntmps25
  go_wp2
  go_quiet (fail)
  go_wp2
  go_returns
  exact ⟨rfl, (Cha.refl _ _).drewN _⟩
theorem get_any (h : Sk W F bs bw bm s) (b i : Int) :
    Calls Try.prog 21 #[.pointer (some ⟨bs, 0, none⟩), .int .i64 b, .int .i64 i] W fun e W' => e = .returned (wordV (s.get b i).1 (s.get b i).2) ∧ Cha (fun _ => False) W W' := by
  obtain ⟨c0, c1, c2, c3, c4⟩ := h.facts
  have C := Lib.hid (find_any h b i)
  have hn := h.ok.n_le
  cases hf : find s.fs b i with
  | none =>
    have hg : s.get b i = (0, 4) := by unfold St.get; rw [hf]
    rw [hg]
    clear hg
    rw [hf, foundV_none] at C
    clear h hf
    go_enter Try.func21, Try.ntmps21
    go_wp2_with (go_at_call 33; ((with_reducible refine (C.out).mono ?_); rintro e w1 ⟨rfl, rfl⟩))
    go_returns
    exact ⟨rfl, Cha.refl _ _⟩
  | some d =>
    have hg : s.get b i = (match s.ct d with | .num v => (v, 0) | .ref _ => (0, 10)) := by unfold St.get; rw [hf]
    rw [hf, foundV_some] at C
    have hs := (find_isSlot hf).ge
    have hw := h.word (e := d) (by omega) (by omega)
    have CR := Lib.hid (isRef_any h (s.n - d) (by omega))
    rw [isPlace_at h (by omega) (by omega)] at CR
    obtain ⟨p, hp⟩ : ∃ p, p = s.n - d := ⟨_, rfl⟩
    rw [← hp] at C hw CR
    have hpn : p < s.n := by omega
    have H := Lib.hid h
    clear hf hp
    cases hc : s.ct d with
    | num v =>
      rw [hc] at hw CR hg
      rw [hg]
      clear hg
      have HX : Hid (∀ W', Cha (fun _ => False) W W' → W'.cell? ⟨bs, 0, none⟩ = some (.slice (some ⟨bw, 0, none⟩) s.n s.n) ∧ W'.cell? ⟨bw, p, none⟩ = some (.int .u64 v)) := Lib.hid fun W' c => ⟨(H.out.same c).cell 0, by obtain ⟨r, r1, _⟩ := H.out.row; rw [cell_of_row W' bw p _ 28 (0, 0) (c.row r1 id), ← cell_of_row W bw p _ 28 (0, 0) r1]; exact hw⟩
      clear h hc hw c0
      go_enter Try.func21, Try.ntmps21
      go_wp2_with (first
        | (go_at_call 33; ((with_reducible refine (C.out).mono ?_); rintro e w1 ⟨rfl, rfl⟩))
        | (go_at_call 35; ((with_reducible refine (CR.out).mono ?_); rintro e w1 ⟨rfl, hc⟩; obtain ⟨y0, y1⟩ := HX.out _ hc; have HC := Lib.hid hc; clear hc)))
      go_returns
      exact ⟨rfl, HC.out⟩
    | ref d2 =>
      rw [hc] at hw CR hg
      rw [hg]
      clear hg
      clear h hc hw c0
      go_enter Try.func21, Try.ntmps21
      go_wp2_with (first
        | (go_at_call 33; ((with_reducible refine (C.out).mono ?_); rintro e w1 ⟨rfl, rfl⟩))
        | (go_at_call 35; ((with_reducible refine (CR.out).mono ?_); rintro e w1 ⟨rfl, hc⟩; have HC := Lib.hid hc; clear hc)))
      go_returns
      exact ⟨rfl, HC.out⟩
end Go.Proofs.Yteienclklmjhdaa
