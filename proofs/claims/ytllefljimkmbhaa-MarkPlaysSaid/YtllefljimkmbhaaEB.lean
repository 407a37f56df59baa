/- The document's Is, root. -/
import Derived.Test.YtllefljimkmbhaaEA
namespace Go.Proofs.Ytllefljimkmbhaa
open Go.ChangeShapes Go.WideShapes Go.ChangeAt Go.RowKit
variable {w w' w1 W W' : World} {F S : Nat → Prop} {bd : Nat} {vo vr vq : Value} {f T : Nat → Nat} {g : Gr} {sw : Int}

set_option maxHeartbeats 4000000 in
theorem dis_any (h : Dm W F bd vo vr vq f T g sw) (n4 : g.n ≤ 4096) (out : ∀ id, g.col id ≠ 0 → 1 ≤ id ∧ id ≤ g.n) (id : Int) : Calls Try.prog 29 #[.pointer (some ⟨bd, 0, none⟩), .int .i64 id] W fun e W' => e = .returned (.bool (g.has id)) ∧ W' = W := by
  obtain ⟨x0, _⟩ := h.facts
  obtain ⟨b, o, cap, ev, h1, h2, hc⟩ := h.objs
  unfold maxLen at h2
  subst ev
  have lbd := h.old _ h.tg.2
  clear h
  by_cases k : 0 < id
  · obtain ⟨x, rfl⟩ : ∃ x : Nat, id = x := ⟨id.toNat, by omega⟩
    by_cases kn : x ≤ g.n
    · obtain ⟨_, y⟩ := hc x (by omega) kn
      have e0 : g.has (x : Int) = decide (0 < g.col x) := by
        unfold Gr.has
        rw [Int.toNat_natCast, decide_eq_decide]
        omega
      rw [e0]
      have k1 : (x : Int) < (g.n : Int) + 1 := by omega
      have k2 : x < g.n + 1 := by omega
      clear hc out e0
      generalize g.col x = cx at *
      go_enter Try.func29, Try.ntmps29
      go_wp2
      go_returns
      exact ⟨rfl, rfl⟩
    · have e0 : g.has (x : Int) = false := by
        unfold Gr.has
        rw [decide_eq_false_iff_not, Int.toNat_natCast]
        rintro ⟨_, hq⟩
        exact kn (out x hq).2
      rw [e0]
      have k1 : ¬ (x : Int) < (g.n : Int) + 1 := by omega
      clear hc out e0
      go_enter Try.func29, Try.ntmps29
      go_wp2
      go_returns
      exact ⟨rfl, rfl⟩
  · have e0 : g.has id = false := by
      unfold Gr.has
      rw [decide_eq_false_iff_not]
      rintro ⟨hq, _⟩
      omega
    rw [e0]
    clear hc out e0
    go_enter Try.func29, Try.ntmps29
    go_wp2
    go_returns
    exact ⟨rfl, rfl⟩
set_option maxHeartbeats 4000000 in
theorem droot_any (h : Dm W F bd vo vr vq f T g sw) (r8 : g.roots.length ≤ 8192) (id : Int) : Calls Try.prog 41 #[.pointer (some ⟨bd, 0, none⟩), .int .i64 id] W fun e W' => e = .returned (.bool (g.isRoot id)) ∧ W' = W := by
  obtain ⟨_, x1, _⟩ := h.facts
  obtain ⟨ar, cr, er, hr1, hr2, hr3⟩ := h.lr.ints
  subst er
  clear h
  have hspec : g.isRoot id = true ↔ ∃ i, i < g.roots.length ∧ ((g.roots.getD i 0 : Nat) : Int) = id := by
    rw [show (g.isRoot id = true) ↔ (0 ≤ id ∧ id.toNat ∈ g.roots) by unfold Gr.isRoot; simp]
    constructor
    · rintro ⟨a, b⟩
      obtain ⟨i, hi, e⟩ := List.getElem_of_mem b
      refine ⟨i, hi, ?_⟩
      have e2 : g.roots.getD i 0 = g.roots[i] := by simp [hi]
      rw [e2, e]; omega
    · rintro ⟨i, hi, e⟩
      have e2 : g.roots.getD i 0 = g.roots[i] := by simp [hi]
      rw [e2] at e
      refine ⟨by omega, ?_⟩
      rw [← e, Int.toNat_natCast]
      exact List.getElem_mem hi
  have HSP := Lib.hid hspec
  have HC := Lib.hid hr3
  clear hspec hr3 hr2
  generalize g.isRoot id = B at *
  generalize g.roots = R at *
  go_enter Try.func41, Try.ntmps41
  go_wp2
  go_loopw [5] (fun i wr => ∃ k : Nat, k ≤ R.length ∧ i = .int .i64 (k : Int) ∧ wr = W ∧ ∀ i, i < k → ((R.getD i 0 : Nat) : Int) ≠ id) (fun i _ => R.length - (intOf i).toNat)
  case atStart => exact ⟨0, Nat.zero_le _, rfl, rfl, fun _ h => absurd h (Nat.not_lt_zero _)⟩
  case round =>
    rename World => wv
    obtain ⟨k, hk, rfl, hwv, hno⟩ := hrel
    subst hwv
    by_cases hl : k < R.length
    · obtain ⟨b, o, rfl, hcc⟩ := HC.out (by omega)
      have y := (hcc k hl).1
      have hl2 : (k : Int) < (R.length : Int) := by omega
      have HNO := Lib.hid hno
      have HX : Hid (((R.getD k 0 : Nat) : Int) ≠ id → ∀ i, i < k + 1 → ((R.getD i 0 : Nat) : Int) ≠ id) := Lib.hid fun e i hi => by
        by_cases c : i = k
        · subst c; exact e
        · exact HNO.out i (by omega)
      have HY : Hid (((R.getD k 0 : Nat) : Int) = id → B = true) := Lib.hid fun e => HSP.out.2 ⟨k, hl, e⟩
      clear hno hcc HC
      generalize R.getD k 0 = t at *
      by_cases c : (t : Int) = id
      · have HB := Lib.hid (HY.out c)
        have c2 : ((t : Int) == id) = true := by simpa using c
        clear c HX HY HSP
        go_wp2
        go_returns
        exact ⟨by rw [HB.out]; rfl, rfl⟩
      · have c2 : ((t : Int) == id) = false := by simpa using c
        have HZ := Lib.hid (HX.out c)
        clear c HX HY HSP
        go_wp2
        go_roundw
        case rel => exact ⟨k + 1, hl, by go_num, by first | rfl | trivial, HZ.out⟩
        case measure => simp [intOf]; omega
    · obtain rfl : k = R.length := by omega
      have hB : B = false := by
        cases e : B with
        | false => rfl
        | true => obtain ⟨i, hi, e2⟩ := HSP.out.1 e; exact absurd e2 (hno i hi)
      have HB := Lib.hid hB
      clear hno hB HSP HC
      have hl2 : ¬ (R.length : Int) < (R.length : Int) := by omega
      go_wp2
      go_returns
      exact ⟨by rw [HB.out]; rfl, rfl⟩
end Go.Proofs.Ytllefljimkmbhaa
