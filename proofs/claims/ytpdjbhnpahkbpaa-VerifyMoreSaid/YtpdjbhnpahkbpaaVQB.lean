/- Check: slices.Chunk of threes, and what its iterator gives. -/
import Derived.RangeFuncNested
import Derived.RangeFuncBound
import Derived.RangeFuncCalls
import Derived.RangeFuncLeaves
import Derived.Shelf.Abstract
import Derived.Shelf.RegionOpen
import Derived.WalkKit
import Derived.OwnWalkIn
import Derived.TacticsInMore
import Derived.LoopNIn
import Derived.LoopIn
import Derived.Test.YtpdjbhnpahkbpaaVP
import Derived.Deep.RegionHeld3
namespace Go.Proofs.Ytpdjbhnpahkbpaa
set_option linter.unusedVariables false
open Go.RowKit Go.Shelf Go.ChangeShapes Go.WideShapes Go.ChangeAt
attribute [local go_sem] Oper.semAt_some
/-- One of q threes. -/
def Ch (q : Nat) : Type := { j : Nat // j < q }
def encCh (b o : Nat) {q : Nat} (x : Ch q) : Array Value := #[.slice (some ⟨b, o + 3 * x.1, none⟩) 3 3]
theorem chunk_box (v : Value) (hv : ∃ a n c, v = .slice a n c) (w : World) : Calls Try.prog 118 #[v, .int .i64 3] w fun e w' =>
    e = .returned (.func (.func 126) #[] #[.pointer (some ⟨w.heap.size, 0, none⟩), .pointer (some ⟨w.heap.size + 1, 0, none⟩)]) ∧ w' = (w.alloc (.cells #[v] 50)).alloc (.cells #[.int .i64 3] 3) := by
  obtain ⟨a, n, c, rfl⟩ := hv
  go_enter Try.func118, Try.ntmps118
  go_wp2
  go_ret
  exact ⟨rfl, rfl⟩
/-- What a round keeps. -/
def Kp2 (B0 B1 : Nat) (W W' : World) : Prop := W'.heap[B0]? = W.heap[B0]? ∧ W'.heap[B1]? = W.heap[B1]?
theorem Kp2.trans {B0 B1 : Nat} {X Y Z : World} (h : Kp2 B0 B1 X Y) (k : Kp2 B0 B1 Y Z) : Kp2 B0 B1 X Z := ⟨k.1.trans h.1, k.2.trans h.2⟩
theorem Kp2.put {B0 B1 : Nat} {w : World} (h1 : B0 < w.heap.size) (h2 : B1 < w.heap.size) (W : World) (l : Nat) (o o' : Obj) (hl : w.heap.size ≤ l) (_ : W.heap[l]? = some o) (_ : o.isCells = false) (_ : o.isWalk = false) : Kp2 B0 B1 W (W.putObj l o') :=
  ⟨World.putObj_heap_other (by omega), World.putObj_heap_other (by omega)⟩
theorem range_prefix {k m : Nat} (h : k ≤ m) : List.range k <+: List.range m := by
  obtain ⟨d, rfl⟩ : ∃ d, m = k + d := ⟨m - k, by omega⟩
  rw [List.range_add]
  exact List.prefix_append _ _
set_option maxRecDepth 100000 in
set_option maxHeartbeats 2000000 in
theorem iter_in (m l B0 B1 b o q L c : Nat) (a : Option Addr) (ha : 0 < q → a = some ⟨b, o, none⟩) (hL : L = 3 * q) (hq : L ≤ 24) (hc : L ≤ c) (hm : 1 ≤ m) (J Jx : List (Ch q) → World → Prop) (hJd : ∀ pre W, J pre W → J pre W.drew)
    (hY : ∀ pre (x : Ch q) W, J pre W → pre.length < q + 1 → YieldAt Fence.wide (m - 1) Try.prog l (encCh b o x) W fun e W' =>
      (e = .returned (.bool true) ∧ J (pre ++ [x]) W' ∧ Kp2 B0 B1 W W') ∨ (e = .returned (.bool false) ∧ Jx (pre ++ [x]) W'))
    (W : World) (hB0 : W.heap[B0]? = some (.cells #[.slice a L c] 50 (0, 0))) (hB1 : W.heap[B1]? = some (.cells #[.int .i64 3] 3 (0, 0))) (h0 : J [] W) :
    CallsIn Fence.wide m Try.prog 126 #[.func (.yield l) #[] #[], .pointer (some ⟨B0, 0, none⟩), .pointer (some ⟨B1, 0, none⟩)] W fun e W' => (∃ v, e = .returned v) ∧
      ((∃ ys : List (Ch q), ys.map (·.1) = List.range q ∧ J ys W') ∨ (∃ pre : List (Ch q), pre.map (·.1) <+: List.range q ∧ Jx pre W')) := by
  have b0 := cell_of_row W B0 0 _ 50 (0, 0) hB0
  have b1 := cell_of_row W B1 0 _ 3 (0, 0) hB1
  simp only [List.getElem?_toArray, List.getElem?_cons_zero] at b0 b1
  have HB0 := Lib.hid hB0
  have HB1 := Lib.hid hB1
  have HL := Lib.hid hL
  clear hB0 hB1 hL
  refine callsIn_of_wp Try.func126 rfl trivial ?_ rfl
  simp only [Try.ntmps126, List.size_toArray, List.length_cons, List.length_nil, Nat.reduceAdd, Nat.reduceSub, Array.replicate_succ, Array.replicate_zero, List.push_toArray, List.append_toArray, List.nil_append, List.cons_append]
  gi_wp2
  gi_loopw [4] (fun i wr => ∃ (k n : Nat) (pre : List (Ch q)), k ≤ q ∧ n = 3 * k ∧ i = .int .i64 (n : Int) ∧ pre.map (·.1) = List.range k ∧ J pre wr ∧ wr.heap[B0]? = some (.cells #[.slice a L c] 50 (0, 0)) ∧ wr.heap[B1]? = some (.cells #[.int .i64 3] 3 (0, 0))) (fun i _ => L + 3 - (intOf i).toNat)
  case atStart => exact ⟨0, 0, [], Nat.zero_le _, rfl, rfl, rfl, h0, HB0.out, HB1.out⟩
  case round =>
    clear b0 b1
    obtain ⟨k, n, pre, hk, hn, rfl, hpre, hJ, hB0, hB1⟩ := hrel
    have b0 := cell_of_row wr B0 0 _ 50 (0, 0) hB0
    have b1 := cell_of_row wr B1 0 _ 3 (0, 0) hB1
    simp only [List.getElem?_toArray, List.getElem?_cons_zero] at b0 b1
    have HK0 := Lib.hid hB0
    have HK1 := Lib.hid hB1
    have HJ := Lib.hid hJ
    have HR := Lib.hid hpre
    have HN := Lib.hid hn
    clear hB0 hB1 hJ hpre
    by_cases hlt : k < q
    · obtain rfl := ha (by omega)
      obtain ⟨d, hd⟩ : ∃ d, L = n + d := ⟨L - n, by have := HL.out; omega⟩
      have hd3 : 3 ≤ d := by have := HL.out; omega
      have HD := Lib.hid hd
      have s1 : ∀ w, (Instr.slice 50 (.slice (some ⟨b, o, none⟩) L c) (some (.int .i64 (n : Int))) none none).run Try.prog w = .ok (.slice (some ⟨b, o + n, none⟩) d (c - n)) w := fun w => by
        have e := run_slice_l (P := Try.prog) w 50 (some ⟨b, o, none⟩) L c Try.underlying50 .i64 (n : Int) (by omega) (by omega)
        rw [e]
        have hs : sliced (some ⟨b, o, none⟩) n L c 1 = .slice (some ⟨b, o + n, none⟩) d (c - n) := by
          unfold sliced
          rw [if_neg (by omega), show L - n = d by omega]
          simp [Addr.add]
        rw [← hs]
        rfl
      have s2 : ∀ w, (Instr.slice 50 (.slice (some ⟨b, o, none⟩) L c) (some (.int .i64 (n : Int))) (some (.int .i64 ((n : Int) + 3))) (some (.int .i64 ((n : Int) + 3)))).run Try.prog w = .ok (.slice (some ⟨b, o + n, none⟩) 3 3) w := fun w => by
        have e := run_slice_lhm (P := Try.prog) w 50 (some ⟨b, o, none⟩) L c Try.underlying50 .i64 .i64 .i64 (n : Int) ((n : Int) + 3) ((n : Int) + 3) (by omega) (by omega) (by omega) (by omega)
        rw [e]
        have e3 : ((n : Int) + 3).toNat = n + 3 := by omega
        have hs : sliced (some ⟨b, o, none⟩) n (n + 3) (n + 3) 1 = .slice (some ⟨b, o + n, none⟩) 3 3 := by
          unfold sliced
          rw [if_neg (by omega), show n + 3 - n = 3 by omega]
          simp [Addr.add]
        rw [e3, ← hs]
        rfl
      have hw : IntKind.i64.wrap ((n : Int) + 3) = (n : Int) + 3 := by rw [IntKind.wrap_i64]; omega
      have hlt1 : (n : Int) < (L : Int) := by omega
      have hlt2 : n < L := by omega
      have hmin : min (3 : Int) (d : Int) = 3 := by omega
      have hmin2 : ¬ ((d : Int) < 3) := by omega
      have hmin3 : ¬ (d < 3) := by omega
      obtain ⟨x, hx⟩ : ∃ x : Ch q, x.1 = k := ⟨⟨k, hlt⟩, rfl⟩
      have hlen : pre.length < q + 1 := by
        have := congrArg List.length HR.out
        rw [List.length_map, List.length_range] at this
        omega
      obtain ⟨fn, tmps, assign, body, hy, hR⟩ := hY pre x wr.drew (hJd _ _ HJ.out) hlen
      have e1 : encCh b o x = #[.slice (some ⟨b, o + n, none⟩) 3 3] := by unfold encCh; rw [hx, ← HN.out]
      rw [e1] at hy
      have R : Hid ((pre ++ [x]).map (·.1) = List.range (k + 1)) := Lib.hid (by rw [List.map_append, HR.out, List.range_succ]; simp [hx])
      clear e1 hx hn hd
      gi_wp2
      gi_region
      all_goals
        gi_wp2
        refine hR.mono ?_
        rintro e W3 (⟨rfl, hJ3, hk3⟩ | ⟨rfl, hJx3⟩)
        · have HJ3 := Lib.hid hJ3
          have HB3 := Lib.hid (hk3.1.trans HK0.out)
          have HB4 := Lib.hid (hk3.2.trans HK1.out)
          have t1 := cell_of_row W3 B1 0 _ 3 (0, 0) HB4.out
          simp only [List.getElem?_toArray, List.getElem?_cons_zero] at t1
          clear hJ3 hk3
          gi_wp2
          go_roundw
          case rel => exact ⟨k + 1, n + 3, pre ++ [x], by omega, by have := HN.out; omega, by go_num, R.out, HJ3.out, HB3.out, HB4.out⟩
          case measure => simp [intOf]; omega
        · have HJ3 := Lib.hid hJx3
          clear hJx3
          gi_wp2
          refine bodyPost_ret (results_none rfl _ _ _) rfl ?_
          refine ⟨⟨_, rfl⟩, .inr ⟨pre ++ [x], ?_, HJ3.out⟩⟩
          rw [R.out]
          exact range_prefix (by omega)
    · obtain rfl : k = q := by omega
      have hge : ¬ ((n : Int) < (L : Int)) := by have := HL.out; omega
      have hge2 : ¬ (n < L) := by have := HL.out; omega
      clear hn
      gi_wp2
      go_end0
      exact ⟨⟨_, rfl⟩, .inl ⟨pre, HR.out, HJ.out⟩⟩
end Go.Proofs.Ytpdjbhnpahkbpaa

namespace Go.Proofs.Ytpdjbhnpahkbpaa
set_option linter.unusedVariables false
open Go.RowKit Go.Shelf Go.ChangeShapes Go.WideShapes Go.ChangeAt
section
variable {l n : Nat} {P : Program} {ops : Array Oper} {md : Region.Mode}
theorem uponIn_of {o : Oper} {a : Act} {K : Act → World → Prop} {Q : Exit → Act → World → Prop} {r : Result Next} (h : o.upon P a K Q r) : o.uponIn (Fence.wide.inRound l) n P a K Q r := by
  cases r with
  | ok x w' =>
    cases x with
    | value v => exact h
    | skip => exact h
    | defer d => exact h
    | enter f args => exact ⟨(fun c => by cases c), CallsIn.inRound l (callsIn_wide.2 h)⟩
    | row row args => exact ⟨(fun c => by cases c), fun c cs _ => let ⟨v, w', r, s⟩ := h c cs; ⟨v, w', r, stepsIn_wide.2 s⟩⟩
    | _ => exact h.elim
  | halt x w' =>
    cases x with
    | panic v => exact h
    | _ => exact h.elim
/-- Only by its end. -/
def Nrm (K : Act → World → Prop) : Exit → Act → World → Prop := fun e a w => e = .normal ∧ K a w
theorem wpAnyIn_of {K : Act → World → Prop} (hd : ∀ (i : Nat) (o : Oper), ops[i]? = some o → ∀ c, o.op ≠ Op.defer c) : ∀ (fuel : Nat) (listed : Array Bool) (a : Act) (w : World), wpAny P md ops (Nrm K) fuel listed a w → wpAnyIn (Fence.wide.inRound l) n P md ops (Nrm K) fuel listed a w
  | 0, _, _, _, h => h
  | fuel + 1, listed, a, w, h => ⟨h.1, fun i hi => by
    have h2 := h.2 i hi
    unfold wpOp at h2
    unfold wpOpIn
    cases ho : ops[i]? with
    | none =>
      rw [ho] at h2
      exact wpAnyIn_of hd fuel _ a w h2
    | some o =>
      rw [ho] at h2
      dsimp only at h2 ⊢
      split
      · rename_i hw
        rw [if_pos hw] at h2
        rcases h2 with h2 | ⟨_, a', w', h2, _⟩
        · refine ⟨fun _ _ => trivial, ?_⟩
          show o.uponIn _ _ _ _ _ _ ((o.semAt (some l) a.eval).run P w)
          rw [Oper.semAt_some l a.eval o (hd i o ho)]
          exact uponIn_of (Oper.wp_mono (fun a w => wpAnyIn_of hd fuel _ a w) h2)
        · cases h2
      · rename_i hw
        rw [if_neg hw] at h2
        exact ⟨fun _ _ => trivial, wpAnyIn_of hd fuel _ _ w h2⟩⟩
def noDefer (ops : Array Oper) : Bool := ops.toList.all fun o => match o.op with | .defer _ => false | _ => true
theorem noDefer_spec (h : noDefer ops = true) : ∀ (i : Nat) (o : Oper), ops[i]? = some o → ∀ c, o.op ≠ Op.defer c := fun i o ho c e => by
  unfold noDefer at h
  rw [List.all_eq_true] at h
  have h2 := h o (by rw [← Array.getElem?_toList] at ho; exact List.mem_of_getElem? ho)
  rw [e] at h2
  cases h2
theorem region_in {Q : Exit → Act → World → Prop} {S : World → Prop} {id : Nat} {a : Act} {w : World} (hm : P.follows .mixedOrders = true) (hd : ∀ (i : Nat) (o : Oper), ops[i]? = some o → ∀ c, o.op ≠ Op.defer c)
    (h : wpAnyH P .any ops (Nrm (Q .normal)) S ops.size (Array.replicate ops.size false) a w.drew) : (Code.region id ops true).wpIn (Fence.wide.inRound l) n P Q a w :=
  wpIn_mono (wpIn_region_any hm (wpAnyIn_of hd _ _ _ _ (wpAny_of_held _ _ _ _ h))) fun e a w ⟨h1, h2⟩ => h1 ▸ h2
end
end Go.Proofs.Ytpdjbhnpahkbpaa
