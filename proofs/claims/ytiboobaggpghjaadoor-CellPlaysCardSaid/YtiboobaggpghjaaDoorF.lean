/- Layer 4's Runs, and what its iterator gives. -/
import Derived.RangeFuncNested
import Derived.RangeFuncBound
import Derived.RangeFuncCalls
import Derived.RangeFuncLeaves
import Derived.Shelf.Abstract
import Derived.Shelf.RegionOpen
import Derived.WalkKit
import Derived.OwnWalkIn
import Derived.TacticsInMore
import Derived.LoopNIn
import Derived.LoopIn
import Derived.Test.YtiboobaggpghjaaDoorE
namespace Go.Proofs.YtiboobaggpghjaaDoor
open Go.RowKit Go.Shelf
attribute [local go_sem] Oper.semAt_some

/-- A row of pages, of which all are there. -/
def Rw (n : Nat) : Type := { x : Nat × Nat // x.1 + x.2 ≤ n }
def encRw {n : Nat} (x : Rw n) : Array Value := #[.int .i64 (x.1.1 : Int), .int .i64 (x.1.2 : Int)]
/-- The rows of free pages. -/
def rows (us : Nat → Bool) (n : Nat) : List (Nat × Nat) := rws (isU us n) (n + 1)
/-- What a round keeps. -/
def Kp3 (B bm bp : Nat) (W W' : World) : Prop := W'.heap[B]? = W.heap[B]? ∧ W'.heap[bm]? = W.heap[bm]? ∧ W'.heap[bp]? = W.heap[bp]?
theorem Kp3.trans {B bm bp : Nat} {X Y Z : World} (h : Kp3 B bm bp X Y) (k : Kp3 B bm bp Y Z) : Kp3 B bm bp X Z := ⟨k.1.trans h.1, k.2.1.trans h.2.1, k.2.2.trans h.2.2⟩
theorem Kp3.put {B bm bp : Nat} {w : World} (h1 : B < w.heap.size) (h2 : bm < w.heap.size) (h3 : bp < w.heap.size) (W : World) (l : Nat) (o o' : Obj) (hl : w.heap.size ≤ l) (_ : W.heap[l]? = some o) (_ : o.isCells = false) (_ : o.isWalk = false) : Kp3 B bm bp W (W.putObj l o') :=
  ⟨World.putObj_heap_other (by omega), World.putObj_heap_other (by omega), World.putObj_heap_other (by omega)⟩

theorem rws_prefix {g : Nat → Bool} {k : Nat} : ∀ {m : Nat}, k ≤ m → rws g k <+: rws g m
  | 0, h => by obtain rfl : k = 0 := by omega
               exact List.prefix_refl _
  | m + 1, h => by
    by_cases c : k = m + 1
    · subst c; exact List.prefix_refl _
    · have := rws_prefix (g := g) (k := k) (m := m) (by omega)
      refine this.trans ?_
      rw [rws]
      split
      · exact List.prefix_append _ _
      · exact List.prefix_refl _
set_option maxRecDepth 100000 in
set_option maxHeartbeats 2000000 in
theorem iter_in (m l B bm bp n : Nat) (us : Nat → Bool) (hm : 1 ≤ m) (J Jx : List (Rw n) → World → Prop)
    (hY : ∀ pre (x : Rw n) W, J pre W → pre.length < n + 1 → YieldAt Fence.wide (m - 1) Tryd.prog l (encRw x) W fun e W' =>
      (e = .returned (.bool true) ∧ J (pre ++ [x]) W' ∧ Kp3 B bm bp W W') ∨ (e = .returned (.bool false) ∧ Jx (pre ++ [x]) W'))
    (W : World) (hB : FRow 97 W B 1 (fun _ => .pointer (some ⟨bm, 0, none⟩))) (hP : Pg 113 W bm bp n us) (h0 : J [] W) :
    CallsIn Fence.wide m Tryd.prog 82 #[.func (.yield l) #[] #[], .pointer (some ⟨B, 0, none⟩)] W fun e W' => (∃ v, e = .returned v) ∧
      ((∃ ys : List (Rw n), ys.map (·.1) = rows us n ∧ J ys W') ∨ (∃ pre : List (Rw n), pre.map (·.1) <+: rows us n ∧ Jx pre W')) := by
  have hp := hP.ptr
  have hl := hP.le
  have hb := hB.cell (i := 0) (by omega)
  have HB := Lib.hid hB
  have HP := Lib.hid hP
  clear hB hP
  refine callsIn_of_wp Tryd.func82 rfl trivial ?_ rfl
  simp only [Tryd.ntmps82, List.size_toArray, List.length_cons, List.length_nil, Nat.reduceAdd, Nat.reduceSub, Array.replicate_succ, Array.replicate_zero, List.push_toArray, List.append_toArray, List.nil_append, List.cons_append]
  gi_wp2
  gi_loopw [3, 13] (fun len i wr => ∃ (k : Nat) (pre : List (Rw n)), k ≤ n + 1 ∧ len = .int .i64 (tl (isU us n) k : Nat) ∧ i = .int .i64 (k : Int) ∧ pre.map (·.1) = rws (isU us n) k ∧ J pre wr ∧ Pg 113 wr bm bp n us ∧ FRow 97 wr B 1 (fun _ => .pointer (some ⟨bm, 0, none⟩))) (fun _ i _ => n + 1 - (intOf i).toNat)
  case atStart => exact ⟨0, [], Nat.zero_le _, rfl, rfl, rfl, h0, HP.out, HB.out⟩
  case round =>
    clear hp hb
    obtain ⟨k, pre, hk, rfl, rfl, hpre, hJ, hP, hB⟩ := hrel
    have hb := hB.cell (i := 0) (by omega)
    by_cases hlt : k < n + 1
    · have C := Lib.hid (used_any (k : Int) hP)
      rw [usd_nat] at C
      have htl := tl_le (g := isU us n) k
      have htn : tl (isU us n) k ≤ 4096 := by omega
      cases hg : isU us n k
      · rw [hg] at C
        have T := Lib.hid (tl_free hg)
        have R := Lib.hid (hpre.trans (rws_free hg).symm)
        have HJ := Lib.hid hJ
        have HP := Lib.hid hP
        have HB := Lib.hid hB
        clear hpre hg hJ hP hB
        gi_wp2_with (refine ⟨trivial, ?_⟩; gi_at_call 83; refine (callsIn_wide.2 C.out).mono ?_; rintro e w1 ⟨rfl, rfl⟩)
        go_roundw
        case rel => exact ⟨k + 1, pre, by omega, by rw [T.out]; go_num, by go_num, R.out, HJ.out, HP.out, HB.out⟩
        case measure => simp [intOf]; omega
      · rw [hg] at C
        by_cases ht : tl (isU us n) k = 0
        · have T := Lib.hid (tl_used hg)
          have R := Lib.hid (hpre.trans (rws_none ht).symm)
          have HJ := Lib.hid hJ
          have HP := Lib.hid hP
          have HB := Lib.hid hB
          clear hpre hg hJ hP hB htl htn
          rw [ht]
          clear ht
          gi_wp2_with (refine ⟨trivial, ?_⟩; gi_at_call 83; refine (callsIn_wide.2 C.out).mono ?_; rintro e w1 ⟨rfl, rfl⟩)
          refine ⟨fun _ _ => trivial, ?_⟩
          gi_wp2
          go_roundw
          case rel => exact ⟨k + 1, pre, by omega, by rw [T.out]; rfl, by go_num, R.out, HJ.out, HP.out, HB.out⟩
          case measure => simp [intOf]; omega
        · have T := Lib.hid (tl_used hg)
          have hkn : k ≤ n := by omega
          obtain ⟨t, hte⟩ : ∃ t, t = tl (isU us n) k := ⟨_, rfl⟩
          rw [← hte] at ht htl htn ⊢
          obtain ⟨x, hx⟩ : ∃ x : Rw n, x.1 = (k - t, t) := ⟨⟨(k - t, t), by show k - t + t ≤ n; omega⟩, rfl⟩
          have R := hpre.trans rfl
          have R : (pre ++ [x]).map (·.1) = rws (isU us n) (k + 1) := by
            rw [rws_row hg (by omega), List.map_append, hpre, ← hte]
            simp [hx]
          have hlen : pre.length < n + 1 := by
            have := congrArg List.length hpre
            have hl2 := rws_length (g := isU us n) k
            rw [List.length_map] at this
            omega
          obtain ⟨fn, tmps, assign, body, hy, hR⟩ := hY pre x wr hJ hlen
          have e1 : encRw x = #[.int .i64 ((k : Int) - (t : Int)), .int .i64 (t : Int)] := by
            unfold encRw; rw [hx]; simp; omega
          rw [e1] at hy
          have ht1 : 0 < (t : Int) := by omega
          have ht2 : (t : Int) ≤ k := by omega
          have R := Lib.hid R
          have HP := Lib.hid hP
          have HB := Lib.hid hB
          have HX := Lib.hid hx
          have HE := Lib.hid hte
          clear hpre hg hJ hP hB hx hte e1
          gi_wp2_with (refine ⟨trivial, ?_⟩; gi_at_call 83; refine (callsIn_wide.2 C.out).mono ?_; rintro e w1 ⟨rfl, rfl⟩)
          refine hR.mono ?_
          rintro e W3 (⟨rfl, hJ3, hk3⟩ | ⟨rfl, hJx3⟩)
          · have HJ3 := Lib.hid hJ3
            have HP3 := Lib.hid (HP.out.of hk3.2.1 hk3.2.2)
            have HB3 := Lib.hid (show FRow 97 W3 B 1 _ from hk3.1.trans HB.out)
            clear hJ3 hk3
            gi_wp2
            go_roundw
            case rel => exact ⟨k + 1, pre ++ [x], by omega, by rw [T.out]; rfl, by go_num, R.out, HJ3.out, HP3.out, HB3.out⟩
            case measure => simp [intOf]; omega
          · have HJ3 := Lib.hid hJx3
            clear hJx3
            gi_wp2
            refine bodyPost_ret (results_none rfl _ _ _) rfl ?_
            refine ⟨⟨_, rfl⟩, .inr ⟨pre ++ [x], ?_, HJ3.out⟩⟩
            rw [R.out]
            exact rws_prefix (by omega)
    · obtain rfl : k = n + 1 := by omega
      have HJ := Lib.hid hJ
      have R := Lib.hid hpre
      clear hJ hpre hP hB
      gi_wp2
      go_end0
      exact ⟨⟨_, rfl⟩, .inl ⟨pre, R.out, HJ.out⟩⟩
end Go.Proofs.YtiboobaggpghjaaDoor
