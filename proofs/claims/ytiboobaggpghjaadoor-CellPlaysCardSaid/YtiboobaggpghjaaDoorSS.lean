/- Layer 5's All gives spans of the table: as elements that lie in its list. -/
import Derived.Test.YtiboobaggpghjaaDoorSH
namespace Go.Proofs.YtiboobaggpghjaaDoor
open Go.RowKit Go.Shelf
attribute [local go_sem] Oper.semAt_some

/-- A span of the list. -/
def Su (L : List Spn) : Type := { s : Spn // s ∈ L }
set_option maxRecDepth 100000 in
set_option maxHeartbeats 4000000 in
theorem iter5_su (m l B bt bm bp bs n : Nat) (L : List Spn) (hm : 1 ≤ m) (J Jx : List (Su L) → World → Prop)
    (hY : ∀ pre (x : Su L) W, J pre W → pre.length < n → YieldAt Fence.wide (m - 1) Tryd.prog l #[sv x.1] W fun e W' =>
      (e = .returned (.bool true) ∧ J (pre ++ [x]) W' ∧ Kp5 B bt bm bp bs W W') ∨ (e = .returned (.bool false) ∧ Jx (pre ++ [x]) W'))
    (W : World) (hJA : AbidesFrom W.heap.size J) (hB : FRow 59 W B 1 (fun _ => .pointer (some ⟨bt, 0, none⟩))) (hT : Tl W bt bm bp bs n L) (h0 : J [] W) :
    CallsIn Fence.wide m Tryd.prog 86 #[.func (.yield l) #[] #[], .pointer (some ⟨B, 0, none⟩)] W fun e W' => (∃ v, e = .returned v) ∧
      ((∃ ys : List (Su L), ys.map (·.1) = L ∧ J ys W') ∨ (∃ pre : List (Su L), pre.map (·.1) <+: L ∧ Jx pre W')) := by
  have hp := hT.2.ptr1
  have hl := hT.2.pg.le
  have hb := hB.cell (i := 0) (by omega)
  have HB := Lib.hid hB
  have HT := Lib.hid hT
  have HL := Lib.hid (begs_all hT.1)
  clear hB hT
  refine callsIn_of_wp Tryd.func86 rfl trivial ?_ rfl
  simp only [Tryd.ntmps86, List.size_toArray, List.length_cons, List.length_nil, Nat.reduceAdd, Nat.reduceSub, Array.replicate_succ, Array.replicate_zero, List.push_toArray, List.append_toArray, List.nil_append, List.cons_append]
  gi_wp2
  gi_loopw [13] (fun i wr => ∃ (k : Nat) (pre : List (Su L)), k ≤ n ∧ i = .int .i64 (k : Int) ∧ pre.map (·.1) = begs L k ∧ J pre wr ∧ Tl wr bt bm bp bs n L ∧ FRow 59 wr B 1 (fun _ => .pointer (some ⟨bt, 0, none⟩))) (fun i _ => n - (intOf i).toNat)
  case atStart => exact ⟨0, [], Nat.zero_le _, rfl, rfl, h0, HT.out, HB.out⟩
  case round =>
    clear hp hb
    obtain ⟨k, pre, hk, rfl, hpre, hJ, hT, hB⟩ := hrel
    have hb := hB.cell (i := 0) (by omega)
    by_cases hlt : k < n
    · have C := beg_any (k : Int) hT
      unfold begP at C
      rw [Int.toNat_natCast] at C
      have HT := Lib.hid hT
      have HB := Lib.hid hB
      have HJ := Lib.hid hJ
      by_cases hg : uOf L k = true ∧ (fOf L k).b = k
      · rw [if_pos ⟨by omega, by omega, hg⟩] at C
        obtain ⟨x, hxs⟩ : ∃ x : Su L, x.1 = fOf L k := ⟨⟨fOf L k, (fOf_mem hg.1).1⟩, rfl⟩
        have hbg : (pre ++ [x]).map (·.1) = begs L (k + 1) := by rw [begs, if_pos hg, List.map_append, hpre, ← hxs]; rfl
        have hlen : pre.length ≤ k := by
          have h1 := begs_length L k
          rw [← hpre, List.length_map] at h1; exact h1
        have HG := Lib.hid hbg
        rw [← hxs] at C
        obtain ⟨s, hs⟩ : ∃ s, s = x.1 := ⟨_, rfl⟩
        rw [← hs] at C
        have HS := Lib.hid hs
        have C := Lib.hid C
        clear hg hbg hT hB hJ hxs hpre hs
        gi_wp2_with (refine ⟨trivial, ?_⟩; gi_at_call 71; refine (callsIn_wide.2 C.out).mono ?_; rintro e w1 hgv; have hgr := gives_grown hgv; obtain ⟨rfl, hc, _⟩ := hgv; have HJ1 := Lib.hid (hJA _ _ _ none (hJA _ _ _ none HJ.out hgr (fun r e => by cases e)) (World.grownBy_alloc w1 (.cells #[.int .i64 (s.b : Int), .int .i64 (s.k : Int), .int .i64 s.t] 78) none) (fun r e => by cases e)); have HC1 := Lib.hid (hc.alloc (.cells #[.int .i64 (s.b : Int), .int .i64 (s.k : Int), .int .i64 s.t] 78)); obtain ⟨fn, tmps, assign, body, hy, hR⟩ := hY _ x _ HJ1.out (by omega); rw [← HS.out] at hy; unfold sv at hy ⊢; clear hgr hc)
        refine hR.mono ?_
        have hT1 := HT.out.2.same HC1.out
        have hB1 := HC1.out.row HB.out (fun x => x)
        rintro e W3 (⟨rfl, hJ3, hk3⟩ | ⟨rfl, hJx3⟩)
        · have HJ3 := Lib.hid hJ3
          have HT3 := Lib.hid (show Tl W3 bt bm bp bs n L from ⟨HT.out.1, hT1.of hk3.2.1 hk3.2.2.1 hk3.2.2.2.1 hk3.2.2.2.2⟩)
          have HB3 := Lib.hid (show FRow 59 W3 B 1 _ from hk3.1.trans hB1)
          clear hJ3 hk3 hT1 hB1
          gi_wp2
          go_roundw
          case rel => exact ⟨k + 1, pre ++ [x], by omega, by go_num, HG.out, HJ3.out, HT3.out, HB3.out⟩
          case measure => simp [intOf]; omega
        · have HJ3 := Lib.hid hJx3
          clear hJx3 hT1 hB1
          gi_wp2
          refine bodyPost_ret (results_none rfl _ _ _) rfl ?_
          refine ⟨⟨_, rfl⟩, .inr ⟨_, ?_, HJ3.out⟩⟩
          have h := begs_prefix (L := L) (show k + 1 ≤ n by omega)
          rw [HL.out] at h
          rw [HG.out]; exact h
      · rw [if_neg (fun c => hg c.2.2)] at C
        have hbg : pre.map (·.1) = begs L (k + 1) := by rw [begs, if_neg hg]; exact hpre
        have HG := Lib.hid hbg
        have C := Lib.hid C
        clear hg hbg hT hB hJ hpre
        gi_wp2_with (refine ⟨trivial, ?_⟩; gi_at_call 71; refine (callsIn_wide.2 C.out).mono ?_; rintro e w1 hgv; have hgr := gives_grown hgv; obtain ⟨rfl, hc, _⟩ := hgv; have HJ1 := Lib.hid (hJA _ _ _ none (hJA _ _ _ none HJ.out hgr (fun r e => by cases e)) (World.grownBy_alloc w1 (.cells #[.int .i64 0, .int .i64 0, .int .i64 0] 78) none) (fun r e => by cases e)); have HC1 := Lib.hid (hc.alloc (.cells #[.int .i64 0, .int .i64 0, .int .i64 0] 78)); unfold sv noS; clear hgr hc)
        refine ⟨fun _ _ => trivial, ?_⟩
        gi_wp2
        go_roundw
        case rel => exact ⟨k + 1, pre, by omega, by go_num, HG.out, HJ1.out, ⟨HT.out.1, HT.out.2.same HC1.out⟩, HC1.out.row HB.out (fun x => x)⟩
        case measure => simp [intOf]; omega
    · obtain rfl : k = n := by omega
      have HJ := Lib.hid hJ
      have HQ := Lib.hid hpre
      clear hJ hT hB hpre
      gi_wp2
      go_end0
      exact ⟨⟨_, rfl⟩, .inl ⟨pre, HQ.out.trans HL.out, HJ.out⟩⟩


theorem spans_su (m B bt bm bp bs n : Nat) (L : List Spn) (hm : 1 ≤ m) (w : World) (hB : FRow 59 w B 1 (fun _ => .pointer (some ⟨bt, 0, none⟩))) (hT : Tl w bt bm bp bs n L) :
    SeqStopsK Fence.wide m Tryd.prog 86 #[.pointer (some ⟨B, 0, none⟩)] (fun x : Su L => #[sv x.1]) (Kp5 B bt bm bp bs) (fun ys => ys.map (·.1) = L) (fun pre => pre.map (·.1) <+: L) n w :=
  fun l J Jx W hW hJ _ hY h0 => iter5_su m l B bt bm bp bs n L hm J Jx hY W hJ ((hW.block B hB.lt).trans hB)
    ⟨hT.1, hT.2.of (hW.block bt hT.2.lt.1) (hW.block bm hT.2.pg.lt.1) (hW.block bp hT.2.pg.lt.2) (hW.block bs hT.2.lt.2)⟩ h0
end Go.Proofs.YtiboobaggpghjaaDoor
