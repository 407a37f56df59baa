/- The document's stack: leads, Load. -/
import Derived.Test.YteienclklmjhdaaYC
namespace Go.Proofs.Yteienclklmjhdaa
open Go.ChangeShapes Go.WideShapes Go.ChangeAt Go.RowKit
variable {w w' W W' : World} {G : Nat → Prop} {rs : Nat} {vf : Value} {A : List Fr} {sl : Nat → Nat → Sl} {s : St} {S : Nat → Prop}

set_option maxHeartbeats 2000000 in
theorem dleads_any (h : Dk W G rs vf A sl s) (b i : Int) (hb : b ≤ 9223372036854775807) :
    (∀ e, s.fol b i = (none, e) → Calls Try.prog 37 #[.pointer (some ⟨rs, 0, none⟩), .int .i64 b, .int .i64 i] W fun x W' => x = .returned (.tuple #[.int .i64 0, .int .i64 0, .int .i64 e]) ∧ Cha (fun _ => False) W W') ∧
    (∀ t e, s.fol b i = (some t, e) → ∃ F K bf o cap g n : Nat, SlotAt W rs vf A sl s ((s.fs.length : Int) - 1 - (F : Int)) (K : Int) t F K bf o cap g n ∧
      Calls Try.prog 37 #[.pointer (some ⟨rs, 0, none⟩), .int .i64 b, .int .i64 i] W fun x W' => x = .returned (.tuple #[.int .i64 (F : Int), .int .i64 (K : Int), .int .i64 0]) ∧ Cha (fun _ => False) W W') := by
  have C := Lib.hid (frame_any h b i hb)
  cases hf : find s.fs b i with
  | none =>
    have hg : s.fol b i = (none, 4) := by unfold St.fol; rw [hf]
    rw [hg]
    refine ⟨fun e he => ?_, fun t e he => by cases he⟩
    cases he
    rw [frV_none hf] at C
    clear h hf hg
    go_enter Try.func37, Try.ntmps37
    go_wp2_with (go_at_call 34; ((with_reducible refine (C.out).mono ?_); rintro e w1 ⟨rfl, rfl⟩))
    go_returns
    exact ⟨rfl, Cha.refl _ _⟩
  | some d =>
    obtain ⟨F, K, bf, o, cap, g, n, q⟩ := h.slot hf
    have hg : s.fol b i = (match s.ct d with | .num _ => (none, 10) | .ref t => if (s.ct t).isRef then (none, 10) else (some t, 0)) := by unfold St.fol; rw [hf]; try rfl
    rw [frV_some hf, q.fb] at C
    have hl64 := h.ok.len
    have hfl := q.fl
    have hkn := q.kn
    have hn32 := q.n32
    have hok := q.ok
    obtain ⟨y0, y1, y2⟩ := q.cells W (Cha.refl _ _)
    have z0 := (y2 0 (by omega)).1
    have z1 := (y2 1 (by omega)).1
    have z2 := (y2 2 (by omega)).1
    have z3 := (y2 3 (by omega)).1
    rw [Nat.add_zero] at z0
    obtain rfl := q.ik
    cases hc : s.ct d with
    | num v =>
      rw [hc] at hok hg
      rw [hg]
      refine ⟨fun e he => ?_, fun t e he => by cases he⟩
      cases he
      have hx : sl F K = ⟨v, none⟩ := hok
      rw [hx] at z0 z1 z2 z3
      replace z0 : W.cell? ⟨g, K * 4, none⟩ = some (.int .u64 v) := z0
      replace z1 : W.cell? ⟨g, K * 4 + 1, none⟩ = some (.bool false) := z1
      replace z2 : W.cell? ⟨g, K * 4 + 2, none⟩ = some (.int .i64 0) := z2
      replace z3 : W.cell? ⟨g, K * 4 + 3, none⟩ = some (.int .i64 0) := z3
      clear h hf hg q y2 hok hx hc
      go_enter Try.func37, Try.ntmps37
      go_wp2_with (go_at_call 34; ((with_reducible refine (C.out).mono ?_); rintro e w1 ⟨rfl, rfl⟩))
      go_quiet (fail)
      go_wp2
      go_returns
      exact ⟨rfl, ((Cha.refl _ _).alloc _).drewN _⟩
    | ref t =>
      rw [hc] at hok hg
      obtain ⟨j, k, hj, hk, hd, hx⟩ := hok
      have hft : find s.fs (j : Int) (k : Int) = some t := by rw [find_nat hj hk, hd]
      obtain ⟨F2, K2, bf2, o2, cap2, g2, n2, q2⟩ := h.slot hft
      have hF2 : F2 = s.fs.length - 1 - j := by have := q2.fb; omega
      have hK2 : K2 = k := by have := q2.ik; omega
      rw [hx, ← hF2, ← hK2] at z0 z1 z2 z3
      replace z0 : W.cell? ⟨g, K * 4, none⟩ = some (.int .u64 0) := z0
      replace z1 : W.cell? ⟨g, K * 4 + 1, none⟩ = some (.bool true) := z1
      replace z2 : W.cell? ⟨g, K * 4 + 2, none⟩ = some (.int .i64 (F2 : Int)) := z2
      replace z3 : W.cell? ⟨g, K * 4 + 3, none⟩ = some (.int .i64 (K2 : Int)) := z3
      have hfl2 := q2.fl
      have hkn2 := q2.kn
      have hn322 := q2.n32
      have hr2 := q2.ok.isRef
      have q2' : SlotAt W rs vf A sl s ((s.fs.length : Int) - 1 - (F2 : Int)) (K2 : Int) t F2 K2 bf2 o2 cap2 g2 n2 :=
        ⟨by omega, rfl, q2.fl, q2.kn, q2.n32, q2.vf, q2.ok, q2.cells, q2.fA, q2.d⟩
      have x0 : ∀ ob, (W.alloc ob).cell? ⟨rs, 0, none⟩ = some (.slice (some ⟨bf2, o2, none⟩) s.fs.length cap2) := fun ob => (q2.cells _ ((Cha.refl _ W).alloc ob)).1
      have x1 : ∀ ob, (W.alloc ob).cell? ⟨bf2, o2 + F2, none⟩ = some (.slice (some ⟨g2, 0, none⟩) n2 n2) := fun ob => (q2.cells _ ((Cha.refl _ W).alloc ob)).2.1
      have x2 : ∀ ob, (W.alloc ob).cell? ⟨g2, K2 * 4 + 1, none⟩ = some (.bool (sl F2 K2).rf.isSome) := fun ob => ((q2.cells _ ((Cha.refl _ W).alloc ob)).2.2 1 (by omega)).1
      rw [hr2] at x2
      have Q2 := Lib.hid q2'
      cases hct : (s.ct t).isRef with
      | true =>
        have hg : s.fol b (K : Int) = (none, 10) := by rw [hg]; show (if (s.ct t).isRef = true then _ else _) = _; rw [hct, if_pos rfl]
        rw [hg]
        refine ⟨fun e he => ?_, fun t e he => by cases he⟩
        cases he
        rw [hct] at x2
        clear h hf hg q y2 hx hc hd hk hj hft hF2 hK2 q2 q2' hr2 hct
        go_enter Try.func37, Try.ntmps37
        go_wp2_with (go_at_call 34; ((with_reducible refine (C.out).mono ?_); rintro e w1 ⟨rfl, rfl⟩))
        go_quiet (fail)
        go_wp2
        go_returns
        exact ⟨rfl, ((Cha.refl _ _).alloc _).drewN _⟩
      | false =>
        have hg : s.fol b (K : Int) = (some t, 0) := by rw [hg]; show (if (s.ct t).isRef = true then _ else _) = _; rw [hct, if_neg (by simp)]
        rw [hg]
        refine ⟨fun e he => (nomatch he), fun t' e he => ?_⟩
        cases he
        refine ⟨F2, K2, bf2, o2, cap2, g2, n2, q2', ?_⟩
        rw [hct] at x2
        clear h hf hg q y2 hx hc hd hk hj hft hF2 hK2 q2 q2' hr2 hct
        go_enter Try.func37, Try.ntmps37
        go_wp2_with (go_at_call 34; ((with_reducible refine (C.out).mono ?_); rintro e w1 ⟨rfl, rfl⟩))
        go_quiet (fail)
        go_wp2
        go_quiet (fail)
        go_wp2
        go_returns
        exact ⟨rfl, (((Cha.refl _ _).alloc _).drewN _).drewN _⟩
theorem dload_any (h : Dk W G rs vf A sl s) (b i : Int) (hb : b ≤ 9223372036854775807) : Calls Try.prog 24 #[.pointer (some ⟨rs, 0, none⟩), .int .i64 b, .int .i64 i] W fun e W' => e = .returned (wordV (s.load b i).1 (s.load b i).2) ∧ Cha (fun _ => False) W W' := by
  obtain ⟨C1, C2⟩ := dleads_any h b i hb
  have hl64 := h.ok.len
  have HO := Lib.hid h.ok
  cases hf : s.fol b i with
  | mk o x =>
    cases o with
    | none =>
      have C := Lib.hid (C1 x hf)
      have hg : s.load b i = (0, x) := by unfold St.load; rw [hf]
      rw [hg]
      have hx := fol_none hf
      clear hg hf h C1 C2
      rcases hx with rfl | rfl
      all_goals
        go_enter Try.func24, Try.ntmps24
        go_wp2_with (go_at_call 37; ((with_reducible refine (C.out).mono ?_); rintro e w1 ⟨rfl, hc⟩; have HC := Lib.hid hc; clear hc))
        go_returns
        exact ⟨rfl, HC.out⟩
    | some t =>
      obtain ⟨hs, rfl, v, hv⟩ := fol_some HO.out hf
      have hg : s.load b i = (v, 0) := by unfold St.load; rw [hf]; dsimp only; rw [hv]
      rw [hg]
      obtain ⟨F, K, bf, o, cap, g, n, q, C⟩ := C2 t 0 hf
      have C := Lib.hid C
      have hok := q.ok
      rw [hv] at hok
      have hx : sl F K = ⟨v, none⟩ := hok
      have hfl := q.fl
      have hkn := q.kn
      have hn32 := q.n32
      have HX : Hid (∀ W', Cha (fun _ => False) W W' → W'.cell? ⟨rs, 0, none⟩ = some (.slice (some ⟨bf, o, none⟩) s.fs.length cap) ∧ W'.cell? ⟨bf, o + F, none⟩ = some (.slice (some ⟨g, 0, none⟩) n n) ∧ W'.cell? ⟨g, K * 4, none⟩ = some (.int .u64 v)) := Lib.hid fun W' c => by
        obtain ⟨a1, a2, a3⟩ := q.cells W' c
        have := (a3 0 (by omega)).1
        rw [hx] at this
        exact ⟨a1, a2, this⟩
      clear hg hf h C1 C2 hs hv q hok hx
      go_enter Try.func24, Try.ntmps24
      go_wp2_with (go_at_call 37; ((with_reducible refine (C.out).mono ?_); rintro e w1 ⟨rfl, hc⟩; obtain ⟨y0, y1, y2⟩ := HX.out _ hc; have HC := Lib.hid hc; clear hc))
      go_returns
      exact ⟨rfl, HC.out⟩
end Go.Proofs.Yteienclklmjhdaa
