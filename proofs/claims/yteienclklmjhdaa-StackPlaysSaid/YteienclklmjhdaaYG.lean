/- The document's stack: Pop. -/
import Derived.Test.YteienclklmjhdaaYF
namespace Go.Proofs.Yteienclklmjhdaa
open Go.ChangeShapes Go.WideShapes Go.ChangeAt Go.RowKit
variable {w w' W W' : World} {G : Nat → Prop} {rs : Nat} {vf : Value} {A : List Fr} {sl : Nat → Nat → Sl} {s : St} {S : Nat → Prop}

theorem Dk.facts (h : Dk W G rs vf A sl s) : W.cell? ⟨rs, 0, none⟩ = some vf ∧ W.cell? ⟨rs, 1, none⟩ = some (.int .i64 (s.n : Nat)) ∧ W.cell? ⟨rs, 2, none⟩ = some (.int .i64 s.cop) ∧ ∀ i, W.frozen? ⟨rs, i, none⟩ = false :=
  ⟨cell_of_row W rs 0 _ 48 (0, 0) h.head, cell_of_row W rs 1 _ 48 (0, 0) h.head, cell_of_row W rs 2 _ 48 (0, 0) h.head, fun i => frozen_of_row W rs i _ 48 h.head⟩
theorem dpop_any (h : Dk W G rs vf A sl s) : Calls Try.prog 14 #[.pointer (some ⟨rs, 0, none⟩)] W fun e W' => e = .returned (.int .i64 s.popR.1) ∧ DLeft W W' G rs s.popR.2 := by
  obtain ⟨a, cap, rfl, hc1, hc2, _⟩ := h.open
  obtain ⟨c0, c1, c2, fz⟩ := h.facts
  have hl := h.len
  have hl64 := h.ok.len
  have hN := h.ok.n_le
  unfold St.popR
  by_cases c : s.fs.length = 0
  · rw [if_pos c]
    have HL := Lib.hid (h.left (Cha.refl _ W))
    rw [hl, c] at c0
    clear h hc1 hl
    go_enter Try.func14, Try.ntmps14
    go_wp2
    go_returns
    exact ⟨rfl, HL.out⟩
  · rw [if_neg c]
    have hp : 0 < A.length := by omega
    have H3 := Lib.hid (h.drop hp)
    have ht : pos s.fs.tail = pos s.drop.fs := rfl
    obtain ⟨l, hll⟩ : ∃ l, A.length = l + 1 := ⟨A.length - 1, by omega⟩
    rw [hll] at c0 H3 hc1
    rw [Nat.add_sub_cancel] at H3
    have hsl : ∀ w, (Instr.slice 46 (.slice a (l + 1) cap) none (some (.int .i64 (l : Int))) none).run Try.prog w = .ok (.slice a l cap) w := fun w => by
      have q := run_slice_h (P := Try.prog) w 46 a (l + 1) cap Try.underlying46 .i64 (l : Int) (by omega) (by omega)
      rw [q]
      cases a with
      | none => show Result.ok (Value.slice (if cap = 0 then none else none) (l - 0) (cap - 0)) w = _; split <;> rfl
      | some x =>
        show Result.ok (Value.slice (if cap = 0 then some x else some (x.add (0 * 1))) (l - 0) (cap - 0)) w = _
        have : x.add (0 * 1) = x := by simp [Addr.add]
        rw [this]; split <;> rfl
    have CU : Hid (∀ k, Calls Try.prog 30 #[.pointer (some ⟨rs, 0, none⟩)] ((W.setCell ⟨rs, 0, none⟩ (.slice a l cap)).drewN (1 + k)) fun e W' => e = .returned (.int .i64 (pos s.drop.fs : Nat)) ∧ ∃ n, W' = (W.setCell ⟨rs, 0, none⟩ (.slice a l cap)).drewN (1 + n)) := Lib.hid fun k =>
      (dused_any (H3.out.same ((Cha.refl _ _).drewN (1 + k)))).mono fun _ _ ⟨x, y⟩ => ⟨x, k, y.symm⟩
    have cG : Cha G W (W.setCell ⟨rs, 0, none⟩ (.slice a l cap)) := (Cha.refl G W).setCell (p := ⟨rs, 0, none⟩) (fun _ => h.gr) _
    have HN : Hid (DLeft W (W.setCell ⟨rs, 0, none⟩ (.slice a l cap)) G rs s.drop) := Lib.hid ⟨G, _, _, _, H3.out, cG, fun _ h => .inl h⟩
    unfold St.pop
    rw [ht]
    have hu := h.ok.drop.used_le
    have hp2 := h.ok.p2
    have hfit := h.ok.drop.fit
    by_cases hcut : 64 < s.n ∧ pos s.drop.fs ≤ s.n / 4
    · rw [if_pos hcut]
      obtain ⟨hc3, hc4⟩ := hcut
      have HE : Hid (∀ k, DLeft W ((((W.setCell ⟨rs, 0, none⟩ (.slice a l cap)).drewN (1 + k)).setCell ⟨rs, 1, none⟩ (.int .i64 ((s.n : Int) / 2))).setCell ⟨rs, 2, none⟩ (.int .i64 (wrap64 (s.cop + 1)))) G rs (s.drop.moved (s.n / 2))) := Lib.hid fun k => by
        have q := (H3.out.same ((Cha.refl _ _).drewN (1 + k))).moved (s.n / 2) (by omega) (by omega)
        rw [show ((s.n / 2 : Nat) : Int) = (s.n : Int) / 2 by omega] at q
        refine ⟨G, _, _, _, q, ?_, fun _ h => .inl h⟩
        exact ((cG.drewN (1 + k)).setCell (p := ⟨rs, 1, none⟩) (fun _ => h.gr) _).setCell (p := ⟨rs, 2, none⟩) (fun _ => h.gr) _
      have hc5 : ((pos s.drop.fs : Nat) : Int) ≤ (s.n : Int) / 4 := by omega
      have hl63 : l ≤ 63 := by omega
      have HQ := Lib.hid hll
      have hdec : decide (((pos s.drop.fs : Nat) : Int) ≤ (s.n : Int) / 4) = true := decide_eq_true hc5
      have hdec2 : decide ((64 : Int) < (s.n : Int)) = true := decide_eq_true (by omega)
      generalize pos s.drop.fs = u at *
      clear h hll H3 ht hp hl c hc4 hfit
      go_enter Try.func14, Try.ntmps14
      go_wp2
      go_region
      go_wp2
      go_quiet ((go_at_call 30; exact CU.out _))
      go_wp2
      go_returns
      exact ⟨rfl, HE.out _⟩
    · rw [if_neg hcut]
      have HE : Hid (∀ k, DLeft W ((W.setCell ⟨rs, 0, none⟩ (.slice a l cap)).drew.drewN k) G rs s.drop) := Lib.hid fun k => ⟨G, _, _, _, H3.out.same ((Cha.refl _ _).drew.drewN k), cG.drew.drewN k, fun _ h => .inl h⟩
      have hl63 : l ≤ 63 := by omega
      by_cases hc3 : 64 < s.n
      · have hdec : decide (((pos s.drop.fs : Nat) : Int) ≤ (s.n : Int) / 4) = false := decide_eq_false (by omega)
        have hdec2 : decide ((64 : Int) < (s.n : Int)) = true := decide_eq_true (by omega)
        generalize pos s.drop.fs = u at *
        clear h hll H3 ht hp hl c hcut hfit hp2
        go_enter Try.func14, Try.ntmps14
        go_wp2
        go_region
        go_wp2
        go_quiet ((go_at_call 30; exact CU.out _))
        go_wp2
        go_returns
        exact ⟨rfl, HE.out _⟩
      · have hdec2 : decide ((64 : Int) < (s.n : Int)) = false := decide_eq_false (by omega)
        clear h hll H3 ht hp hl c hcut hfit hp2
        go_enter Try.func14, Try.ntmps14
        go_wp2
        go_region
        go_wp2
        go_quiet ((go_at_call 30; exact CU.out _))
        go_wp2
        go_returns
        exact ⟨rfl, HE.out _⟩
end Go.Proofs.Yteienclklmjhdaa
