/- The contract of the document's Copy, where words are copied. -/
import Derived.Test.YtbkpbineagfbgaaAC
namespace Go.Proofs.Ytbkpbineagfbgaa
open Go.ChangeShapes Go.WideShapes Go.ChangeAt Go.RowKit
variable {W W' : World} {S T : Nat → Prop} {br bs bw n : Nat} {st wd : Nat → Int} {ws : Nat → Value} {bl : Nat → Nat}

/-- The pages' states behind the loading of j words from a on. -/
def ld (st : Nat → Int) (a : Nat) : Nat → Nat → Int
  | 0 => st
  | j + 1 => upd (ld st a j) ((a + j) / 64) 1
theorem ld_ne {st : Nat → Int} {a p : Nat} (h : st p ≠ 0) : ∀ j, ld st a j p ≠ 0
  | 0 => h
  | j + 1 => by
    unfold ld
    by_cases e : p = (a + j) / 64
    · rw [e, upd_same]; omega
    · rw [upd_other _ _ e]; exact ld_ne h j
/-- The list of the words that were loaded. -/
def lst (wd : Nat → Int) (f j : Nat) : List Value := (List.range j).map fun x => .int .u64 (wd (f + x))
theorem lst_step (wd : Nat → Int) (f j : Nat) : lst wd f (j + 1) = lst wd f j ++ [.int .u64 (wd (f + j))] := by
  unfold lst; rw [List.range_succ, List.map_append]; rfl

theorem rload_sum (a j : Nat) (h : Ref W T br bs bw n st wd ws bl) (ha : RThere n st (a + j)) :
    Calls Try.prog 27 #[.pointer (some ⟨br, 0, none⟩), .int .i64 ((a : Int) + (j : Int))] W fun e w' => e = .returned (.tuple #[.int .u64 (wd (a + j)), .int .i64 0]) ∧ Ref w' T br bs bw n (upd st ((a + j) / 64) 1) wd ws bl ∧ Chg T W w' := by
  have := rload_yes (a + j) h ha
  rwa [Int.natCast_add] at this
theorem rstore_sum (a j : Nat) (v : Int) (h : Ref W T br bs bw n st wd ws bl) (ha : RThere n st (a + j)) :
    Calls Try.prog 28 #[.pointer (some ⟨br, 0, none⟩), .int .i64 ((a : Int) + (j : Int)), .int .u64 v] W fun e w' => e = .returned (.int .i64 0) ∧ Ref w' T br bs bw n (upd st ((a + j) / 64) 1) (upd wd (a + j) v) ws bl ∧ Chg T W w' := by
  have := rstore_yes (a + j) v h ha
  rwa [Int.natCast_add] at this
theorem cha_of_grownBy {w w' : World} {row : Option Nat} {B : Nat} (h : w.grownBy w' row) (hr : ∀ k, row = some k → B ≤ k) : Cha (fun i => B ≤ i) w w' :=
  ⟨h.os, h.output, h.size, fun i hi hn => h.block i hi (fun e => hn (hr i e.symm))⟩
theorem own_lt {w : World} {B : Nat} {v : Value} {j : Nat} {xs : List Value} (h : w.ownsRow B 31 1 v j xs) : ∀ k, v.ownBlock = some k → B ≤ k := by
  intro k hk
  obtain ⟨_, h | ⟨g, cap, cur, rfl, hg, _⟩⟩ := h
  · rw [h.1] at hk; cases hk
  · simp [Value.ownBlock] at hk; omega
theorem ownsRow_cha {w w' : World} {B : Nat} {v : Value} {j : Nat} {xs : List Value} {S : Nat → Prop} (h : w.ownsRow B 31 1 v j xs) (c : Cha S w w') (hs : ∀ i, B ≤ i → ¬ S i) : w'.ownsRow B 31 1 v j xs := by
  obtain ⟨h0, h | ⟨g, cap, cur, h1, hg, h2, h3⟩⟩ := h
  · exact ⟨h0, .inl h⟩
  · have hl : g < w.heap.size := by
      by_cases hl : g < w.heap.size
      · exact hl
      · rw [Array.getElem?_eq_none (by omega)] at h2; cases h2
    exact ⟨h0, .inr ⟨g, cap, cur, h1, hg, (c.old g hl (hs g hg)).trans h2, h3⟩⟩
theorem own_cell {w : World} {g j i : Nat} {cur : Array Value} {wd : Nat → Int} {f : Nat} (hb : w.heap[g]? = some (.cells cur 31 (0, 0))) (hx : cur.toList.take (j * 1) = lst wd f j) (hi : i < j) : w.cell? ⟨g, i, none⟩ = some (.int .u64 (wd (f + i))) := by
  rw [cell_of_row w g i _ 31 (0, 0) hb, ← Array.getElem?_toList]
  have e : (cur.toList.take (j * 1))[i]? = cur.toList[i]? := by rw [List.getElem?_take, if_pos (by omega)]
  rw [← e, hx]
  unfold lst
  simp [hi]

theorem one_new (w : World) (x : Value) (t : TypeId) : ∀ j u, ([x] : List Value)[j]? = some u → (w.alloc (.cells #[x] t)).cell? ((⟨w.heap.size, 0, none⟩ : Addr).add j) = some u := by
  intro j u h
  cases j with
  | zero =>
    have e : (⟨w.heap.size, 0, none⟩ : Addr).add 0 = ⟨w.heap.size, 0, none⟩ := by simp [Addr.add]
    rw [e, World.cell?_alloc_new]
    simpa using h
  | succ j => simp at h
theorem one_cell (x : Int) : ∀ u ∈ ([.int .u64 x] : List Value), u.oneCell' = true := fun u h => by
  simp at h; subst h; rfl
theorem size_alloc (w : World) (o : Obj) : (w.alloc o).heap.size = w.heap.size + 1 := by show (w.heap.push o).size = _; simp

set_option maxHeartbeats 4000000 in
theorem rcopy_ok (t f k : Nat) (h : Ref W T br bs bw n st wd ws bl) (hk : 1 ≤ k) (hall : ∀ i, i < k → RThere n st (t + i) ∧ RThere n st (f + i)) :
    Calls Try.prog 30 #[.pointer (some ⟨br, 0, none⟩), .int .i64 (t : Int), .int .i64 (f : Int), .int .i64 (k : Int)] W fun e w' => e = .returned (.int .i64 0) ∧ Left W T w' br n (ld (ld st f k) t k) (cpy wd t f k) := by
  have hh := h.ptr0
  have hl := h.le
  have H := Lib.hid h
  have HA := Lib.hid hall
  have htk : t + k ≤ n * 64 := by have := (hall (k - 1) (by omega)).1.1; omega
  have hfk : f + k ≤ n * 64 := by have := (hall (k - 1) (by omega)).2.1; omega
  have ht' : (t : Int) ≤ 262144 := by omega
  have hf' : (f : Int) ≤ 262144 := by omega
  obtain ⟨i0, hi, hz0, hz1, hz2⟩ := info_parts info31
  clear h hall
  go_enter Try.func30, Try.ntmps30
  go_wp2
  go_loop [9] (fun i => ∃ j : Nat, j ≤ k ∧ i = .int .i64 (j : Int)) (fun i => k - (intOf i).toNat)
  case atStart => exact ⟨0, Nat.zero_le _, rfl⟩
  case round =>
    obtain ⟨j, hj, rfl⟩ := hrel
    by_cases hlt : j < k
    · have C1 := Lib.hid (there_sum_yes t j H.out (HA.out j hlt).1)
      have C2 := Lib.hid (there_sum_yes f j H.out (HA.out j hlt).2)
      go_wp2_with (first
        | (go_at_call 44; ((with_reducible refine (C1.out).mono ?_); rintro e w1 ⟨rfl, rfl⟩))
        | (go_at_call 44; ((with_reducible refine (C2.out).mono ?_); rintro e w1 ⟨rfl, rfl⟩)))
      go_round
      case rel => exact ⟨j + 1, by omega, by go_num⟩
      case measure => simp [intOf]; omega
    · obtain rfl : j = k := by omega
      clear hh
      go_wp2
      go_loopw [10, 11] (fun v i wr => ∃ j' : Nat, j' ≤ j ∧ i = .int .i64 (j' : Int) ∧ wr.ownsRow W.heap.size 31 1 v j' (lst wd f j') ∧ Ref wr T br bs bw n (ld st f j') wd ws bl ∧ Cha T W wr) (fun _ i _ => j - (intOf i).toNat)
      case atStart => exact ⟨0, Nat.zero_le _, rfl, World.ownsRow_nil _ _ _ _, H.out, Cha.refl _ _⟩
      case round =>
        obtain ⟨i, hij, rfl, hO, hR, hC⟩ := hrel
        by_cases hlt2 : i < j
        · have C1 := Lib.hid (rload_sum f i hR ⟨((HA.out i hlt2).2).1, ld_ne ((HA.out i hlt2).2).2 i⟩)
          have HT := Lib.hid H.out.lt
          have HO := Lib.hid hO
          have HC := Lib.hid hC
          have hs := hC.size
          clear hO hC hR
          go_wp2_with (first
            | (go_at_call 27; ((with_reducible refine (C1.out).mono ?_); rintro e w1 ⟨rfl, hR, hD⟩; have HO2 := Lib.hid (ownsRow_cha HO.out hD.cha (fun i hi c => by have := HT.out i c; omega)); have HC2 := Lib.hid (HC.out.trans hD.cha); have HR := Lib.hid hR; have hs2 := hD.size; clear hR hD))
            | (at_builtin; refine wpList_append_own _ rfl _ _ 79 rfl W.heap.size 31 i0 (.int .u64 0) 1 8 Try.underlying79 hi hz0 hz1 hz2 rfl (by decide) _ _ _ rfl (HO2.out.alloc _) ⟨w1.heap.size, 0, none⟩ 1 1 [.int .u64 (wd (f + i))] rfl rfl (one_new _ _ _) (one_cell _) (by unfold maxLen; omega) (by omega) (by rw [size_alloc]; omega) ?_; intro v' w2 hown' hgrow hnil; clear hnil; rw [← lst_step] at hown'; have HO3 := Lib.hid hown'; have HG := Lib.hid (cha_of_grownBy hgrow (own_lt HO2.out)); clear hown' hgrow))
          have HR2 : Hid (Ref w2 T br bs bw n (ld st f (i + 1)) wd ws bl) := Lib.hid ((HR.out.chg (((Chg.refl (fun _ => False) w1).alloc _ _).cha) (fun _ _ x => x)).chg HG.out (fun i hi c => by have := HT.out i hi; omega))
          have HC3 : Hid (Cha T W w2) := Lib.hid ((HC2.out.trans (((Chg.refl T w1).alloc _ _).cha)).over HG.out (fun i hi => .inr hi))
          clear HR HC2 HC HG HO2 HO
          go_roundw
          case rel => exact ⟨i + 1, by omega, by go_num, HO3.out, HR2.out, HC3.out⟩
          case measure => simp [intOf]; omega
        · obtain rfl : i = j := by omega
          obtain ⟨_, ho | ⟨g, cap, cur, rfl, hg, hcur, hcap, hcm, _, hx⟩⟩ := hO
          · omega
          · unfold maxLen at hcm
            have HT := Lib.hid H.out.lt
            have HX := Lib.hid hx
            have R3 := Lib.hid (show Ref wr T br bs bw n (ld (ld st f i) t 0) (cpy wd t f 0) ws bl by rw [cpy_zero]; exact hR)
            have C3 := Lib.hid hC
            have U3 := Lib.hid hcur
            clear hR hC hx hcur H
            go_wp2
            go_loopw [14] (fun x wx => ∃ j : Nat, j ≤ i ∧ x = .int .i64 (j : Int) ∧ Ref wx T br bs bw n (ld (ld st f i) t j) (cpy wd t f j) ws bl ∧ Cha T W wx ∧ wx.heap[g]? = some (.cells cur 31 (0, 0))) (fun x _ => i - (intOf x).toNat)
            case atStart => exact ⟨0, Nat.zero_le _, rfl, R3.out, C3.out, U3.out⟩
            case round =>
              clear R3 C3 U3
              obtain ⟨j, hj, rfl, hR, hC, hU⟩ := hrel
              by_cases hlt3 : j < i
              · have C1 := rstore_sum t j (wd (f + j)) hR ⟨((HA.out j hlt3).1).1, ld_ne (ld_ne ((HA.out j hlt3).1).2 i) j⟩
                rw [cpy_step] at C1
                have C1 := Lib.hid C1
                have hcell := own_cell hU HX.out hlt3
                have HC := Lib.hid hC
                have HU := Lib.hid hU
                clear hC hR hU
                go_wp2_with (go_at_call 28; ((with_reducible refine (C1.out).mono ?_); rintro e w1 ⟨rfl, hR, hD⟩; have HU2 := Lib.hid ((hD.old g (by have := HU.out; by_cases hl : g < wr.heap.size; exact hl; rw [Array.getElem?_eq_none (by omega)] at this; cases this) (fun c => by have := HT.out g c; omega)).trans HU.out); have HC2 := Lib.hid (HC.out.trans hD.cha); have HR := Lib.hid hR; clear hR hD))
                go_roundw
                case rel => exact ⟨j + 1, by omega, by go_num, HR.out, HC2.out, HU2.out⟩
                case measure => simp [intOf]; omega
              · obtain rfl : j = i := by omega
                have HL := Lib.hid (show Left W T wr br n (ld (ld st f j) t j) (cpy wd t f j) from ⟨T, bs, bw, ws, bl, hR, hC, fun _ h => .inl h⟩)
                clear hR hC hU
                go_wp2
                go_ret
                exact ⟨rfl, HL.out⟩
end Go.Proofs.Ytbkpbineagfbgaa
