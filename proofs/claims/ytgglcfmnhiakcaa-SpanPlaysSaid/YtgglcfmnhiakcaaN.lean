/- PagesFirst: what its search finds, plainly; a list of marks; the walk. -/
import Derived.Test.YtgglcfmnhiakcaaM
import Derived.Test.YtgglcfmnhiakcaaQ
namespace Go.Proofs.Ytgglcfmnhiakcaa
open Go.ChangeShapes Go.WideShapes Go.ChangeAt Go.RowKit

/-- Nowhere ahead of a have k free pages ended. -/
def NoneYet (g : Nat → Bool) (k a : Nat) : Prop := ∀ i, i < a → tl g i < k
theorem NoneYet.step {g : Nat → Bool} {k a : Nat} (h : NoneYet g k a) (ha : tl g a < k) : NoneYet g k (a + 1) := fun i hi => by
  by_cases e : i = a
  · subst e; exact ha
  · exact h i (by omega)
theorem none_find {us : Nat → Bool} {n k : Nat} (hk : 1 ≤ k) (h : NoneYet (isU us n) k (n + 1)) : (rows us n).find? (fun x => decide (k ≤ x.2)) = none := by
  cases hf : (rows us n).find? (fun x => decide (k ≤ x.2)) with
  | none => rfl
  | some x =>
    exfalso
    obtain ⟨h1, h2, h3, _⟩ := find_some hk (n + 1) x hf
    have := tl_ge (g := isU us n) (b := x.1) (x.1 + x.2) (by omega) (fun i a b => by have := h1.fr.1 (i - x.1) (by omega); rwa [show x.1 + (i - x.1) = i by omega] at this)
    have := h (x.1 + x.2) h3
    omega
theorem some_find {us : Nat → Bool} {n k a : Nat} (hk : 1 ≤ k) (h : NoneYet (isU us n) k a) (ha : tl (isU us n) a = k) :
    ∃ l, (rows us n).find? (fun x => decide (k ≤ x.2)) = some (a - k, l) ∧ k ≤ l ∧ a - k + l ≤ n := by
  have hle := tl_le (g := isU us n) a
  have hfree : ∀ i, i < k → isU us n (a - k + i) = false := fun i hi => tl_in a _ (by omega) (by omega)
  cases hf : (rows us n).find? (fun x => decide (k ≤ x.2)) with
  | none =>
    exfalso
    obtain ⟨i, hi, hu⟩ := find_none (g := isU us n) (n := n) (fun i hi => isU_ge hi) hk hf (a - k)
    rw [hfree i hi] at hu; cases hu
  | some x =>
    obtain ⟨h1, h2, h3, h4⟩ := find_some hk (n + 1) x hf
    have e : x.1 = a - k := by
      apply Nat.le_antisymm
      · by_cases c : a - k < x.1
        · obtain ⟨i, hi, hu⟩ := h4 _ c
          rw [hfree i hi] at hu; cases hu
        · omega
      · by_cases c : x.1 + k < a
        · have := tl_ge (g := isU us n) (b := x.1) (x.1 + k) (by omega) (fun i a b => by have := h1.fr.1 (i - x.1) (by omega); rwa [show x.1 + (i - x.1) = i by omega] at this)
          have := h _ c
          omega
        · omega
    exact ⟨x.2, by rw [← e], h2, by omega⟩

/-- The marks, the other way. -/
def bls (us : Nat → Bool) (j : Nat) : List Value := (List.range j).map fun i => .bool (!us i)
theorem bls_step (us : Nat → Bool) (j : Nat) : bls us (j + 1) = bls us j ++ [.bool (!us j)] := by
  unfold bls; rw [List.range_succ, List.map_append]; rfl
theorem one_new (w : World) (x : Value) (t : TypeId) : ∀ j u, ([x] : List Value)[j]? = some u → (w.alloc (.cells #[x] t)).cell? ((⟨w.heap.size, 0, none⟩ : Addr).add j) = some u := by
  intro j u h
  cases j with
  | zero =>
    have e : (⟨w.heap.size, 0, none⟩ : Addr).add 0 = ⟨w.heap.size, 0, none⟩ := by simp [Addr.add]
    rw [e, World.cell?_alloc_new]
    simpa using h
  | succ j => simp at h
theorem one_bool (x : Bool) : ∀ u ∈ ([.bool x] : List Value), u.oneCell' = true := fun u h => by
  simp at h; subst h; rfl
theorem one_int (x : Int) : ∀ u ∈ ([.int .i64 x] : List Value), u.oneCell' = true := fun u h => by
  simp at h; subst h; rfl

theorem free_some {w W : World} {bm bp n : Nat} {us : Nat → Bool} (h : Ow w W bm bp n us) (b k : Int) (hk : k ≤ 9223372036854775807) :
    Calls Try.prog 17 #[.pointer (some ⟨bm, 0, none⟩), .int .i64 b, .int .i64 k] W fun e W' => ∃ r us', e = .returned (.int .i64 r) ∧ Ow w W' bm bp n us' := by
  obtain ⟨r, us', c⟩ := Chn.ex n us b k false
  exact (ow_free c hk h).mono fun e W' ⟨he, h'⟩ => ⟨r, us', he, h'⟩

set_option maxRecDepth 100000 in
set_option maxHeartbeats 8000000 in
theorem first_walk (n q : Int) (a : Option Addr) (len c : Nat) (w : World) (hn : 0 ≤ n) (hn2 : n ≤ 65535) (hq : 0 ≤ q) (hq2 : q ≤ 255) (hs : Nums .u16 w a len) :
    Calls Try.prog 4 #[.int .u16 n, .slice a len c, .int .u8 q] w fun e w' => e = .returned (.bool true) ∧ Cha (fun _ => False) w w' := by
  obtain ⟨r, hr⟩ : ∃ r : Nat, n % 2000 = (r : Int) := ⟨(n % 2000).toNat, by omega⟩
  obtain ⟨s, hs0⟩ : ∃ s : Nat, q % 80 = (s : Int) := ⟨(q % 80).toNat, by omega⟩
  have hr2 : r ≤ 1999 := by omega
  have hs2 : s ≤ 79 := by omega
  obtain ⟨N, hN⟩ : ∃ N : Nat, (r : Int) + 1 = (N : Int) := ⟨r + 1, by omega⟩
  obtain ⟨k, hk⟩ : ∃ k : Nat, (s : Int) + 1 = (k : Int) := ⟨s + 1, by omega⟩
  have hN1 : 1 ≤ N := by omega
  have hN2 : N ≤ 2000 := by omega
  have hk1 : 1 ≤ k := by omega
  have hk2 : k ≤ 80 := by omega
  have A10 := Lib.hid (ow_new N (Cha.refl _ w) hN1 (by omega))
  have A12 := Lib.hid awake_any
  have A15 := Lib.hid fun (W : World) (bm bp : Nat) (h : Ow w W bm bp N nou) => ow_take (b := 0) (k := (N : Int)) (.ok 0 N rfl rfl hN1 (by omega) (fun _ _ => rfl)) (by omega) h
  have HS := Lib.hid hs
  have HQ := Lib.hid hs0
  have HK := Lib.hid hk
  clear hs hs0 hk
  go_enter Try.func4, Try.ntmps4
  go_wp2_with (first
    | (go_at_call 10; ((with_reducible refine (A10.out).mono ?_); rintro e w1 ⟨bm, bp, rfl, h⟩; have H10 := Lib.hid h; clear h))
    | (go_at_call 12; ((with_reducible refine (A12.out _).mono ?_); rintro e w2 ⟨rfl, h⟩; have H12 := Lib.hid (H10.out.same h); clear h))
    | (go_at_call 15; ((with_reducible refine (A15.out _ _ _ H12.out).mono ?_); rintro e w3 ⟨rfl, h⟩; have H15 := Lib.hid h; clear h)))
  clear hr hN A10 A12 A15 H10 H12
  have hp0 := H15.out.new.2
  go_loopw [47] (fun i wr => ∃ (j : Nat) (us : Nat → Bool), j ≤ len ∧ i = .int .i64 (j : Int) ∧ Ow w wr bm bp N us) (fun i _ => len - (intOf i).toNat)
  case atStart => exact ⟨0, _, Nat.zero_le _, rfl, H15.out⟩
  case round =>
    clear H15
    obtain ⟨j, us, hj, rfl, hO⟩ := hrel
    by_cases hlt : j < len
    · obtain ⟨b, o, z, rfl, hz⟩ := HS.out.2 (by omega)
      obtain ⟨hz1, hz2⟩ := hz j hlt
      have hc := (hO.cha.old b (block_lt_of_cell hz1) (fun x => x))
      have hcell : wr.cell? ⟨b, o + j, none⟩ = some (.int .u16 (z j)) := (World.cell?_of_block (a := ⟨b, o + j, none⟩) hc).trans hz1
      have hlo := u16_lo hz2
      have hhi := u16_hi hz2
      have hlen := HS.out.1
      have HO := Lib.hid hO
      clear hz hz1 hz2 hc hO
      generalize z j = x at *
      have C17 := Lib.hid (free_some HO.out (x % (N : Int)) (1 + x / 2048) (by omega))
      go_wp2_with (go_at_call 17; ((with_reducible refine (C17.out).mono ?_); rintro e w4 ⟨r4, us4, rfl, h⟩; have H17 := Lib.hid h; clear h))
      go_roundw
      case rel => exact ⟨j + 1, us4, by omega, by go_num, H17.out⟩
      case measure => simp [intOf]; omega
    · have HO := Lib.hid hO
      have hqk : q % 80 = (s : Int) := HQ.out
      have hsk : (s : Int) + 1 = (k : Int) := HK.out
      clear hO
      go_wp2
      clear hqk hsk
      obtain ⟨i0, hi, hz0, hz1, hz2⟩ := info_parts info4
      have hsz0 := HO.out.cha.size
      have hlt3 := HO.out.pg.lt
      obtain ⟨B0, hB0⟩ : ∃ B0, B0 = wr.heap.size := ⟨_, rfl⟩
      rw [← hB0] at hsz0 hlt3
      have HB0 : Hid (B0 ≤ wr.heap.size) := Lib.hid (by omega)
      clear hB0
      go_loopw [13, 14] (fun v i wx => ∃ j : Nat, j ≤ N ∧ i = .int .i64 (j : Int) ∧ wx.ownsRow B0 4 1 v j (bls us j) ∧ Ow w wx bm bp N us ∧ B0 ≤ wx.heap.size) (fun _ i _ => N - (intOf i).toNat)
      case atStart => exact ⟨0, Nat.zero_le _, rfl, World.ownsRow_nil _ _ _ _, HO.out, HB0.out⟩
      case round =>
        obtain ⟨j, hj, rfl, hR, hO, hsz⟩ := hrel
        by_cases hlt2 : j < N
        · have C20 := Lib.hid (ow_used (j : Int) (b := us j) (by rw [usd_nat, isU_lt hlt2]) hO)
          have HR := Lib.hid hR
          have HX := Lib.hid hO
          clear hR hO
          go_wp2_with (first
            | (go_at_call 20; ((with_reducible refine (C20.out).mono ?_); rintro e w5 ⟨rfl, rfl⟩))
            | (at_builtin; refine wpList_append_own _ rfl _ _ 50 rfl B0 4 i0 (.bool false) 1 1 Try.underlying50 hi hz0 hz1 hz2 rfl (by decide) _ _ _ rfl (HR.out.alloc _) ⟨wr.heap.size, 0, none⟩ 1 1 [.bool (!us j)] rfl rfl (one_new _ _ _) (one_bool _) (by unfold maxLen; omega) (by omega) (by rw [World.size_alloc]; omega) ?_; intro v' w6 hown' hgrow hnil; clear hnil; rw [← bls_step] at hown'; have HR3 := Lib.hid hown'; have HG := Lib.hid (Cha.of_grownBy (S := fun i => B0 ≤ i) hgrow (own_base HR.out)); clear hown' hgrow))
          go_roundw
          case rel =>
            have hg := HG.out
            refine ⟨j + 1, by omega, by go_num, HR3.out, ⟨(HX.out.pg.same ((Cha.refl _ _).alloc _)).cha hg (by omega) (by omega), (HX.out.cha.alloc _).over hg (fun i hi => .inr (by omega)), HX.out.new⟩, ?_⟩
            have := hg.size; rw [World.size_alloc] at this; omega
          case measure => simp [intOf]; omega
        · obtain rfl : j = N := by omega
          obtain ⟨_, ho | ⟨g, cap, cur, rfl, hg, hcur, hcap, hcm, _, hx⟩⟩ := hR
          · omega
          · unfold maxLen at hcm
            have HCU : Hid (∀ i, i < j → wr.cell? ⟨g, i, none⟩ = some (.bool (!us i))) := Lib.hid fun i hi => by
              rw [cell_of_row wr g i _ 4 (0, 0) hcur, ← Array.getElem?_toList]
              have e : (cur.toList.take (j * 1))[i]? = cur.toList[i]? := by rw [List.getElem?_take, if_pos (by omega)]
              rw [← e, hx]
              unfold bls
              simp [hi]
            have HX := Lib.hid hO
            clear hO hx hcur
            generalize wr = w9 at *
            go_wp2
            go_loopw [15, 16, 17] (fun r f i wy => wy = w9 ∧ ∃ a : Nat, a ≤ j ∧ i = .int .i64 (a : Int) ∧ NoneYet (isU us j) k a ∧
              ((f = .int .i64 (-1) ∧ r = .int .i64 (tl (isU us j) a : Nat) ∧ tl (isU us j) a < k) ∨ (k ≤ a ∧ f = .int .i64 ((a - k : Nat) : Int) ∧ r = .int .i64 (k : Int) ∧ tl (isU us j) a = k))) (fun _ _ i _ => j - (intOf i).toNat)
            case atStart => exact ⟨rfl, 0, Nat.zero_le _, rfl, fun i hi => absurd hi (by omega), .inl ⟨rfl, rfl, by show 0 < k; omega⟩⟩
            case round =>
              obtain ⟨rfl, a, ha, rfl, hny, hst⟩ := hrel
              have HNY := Lib.hid hny
              clear hny
              rcases hst with ⟨rfl, rfl, hlt4⟩ | ⟨hka, rfl, rfl, htl⟩
              · by_cases hlt5 : a < j
                · have hcl := HCU.out a hlt5
                  have htle := tl_le (g := isU us j) a
                  cases hu : us a
                  · have hg0 : isU us j a = false := by rw [isU_lt hlt5]; exact hu
                    rw [hu] at hcl
                    have T := Lib.hid (tl_free hg0)
                    clear hu hg0
                    by_cases hek : tl (isU us j) a + 1 = k
                    · have hk5 : ((tl (isU us j) a : Nat) : Int) + 1 = (k : Int) := by omega
                      have hak : k ≤ a + 1 := by omega
                      have HEK := Lib.hid hek
                      clear hek
                      have HNS := Lib.hid (HNY.out.step hlt4)
                      generalize tl (isU us j) a = t at *
                      go_wp2
                      go_roundw
                      case rel =>
                        refine ⟨trivial, a + 1, by omega, by go_num, HNS.out, .inr ⟨hak, ?_, rfl, ?_⟩⟩
                        · go_num
                        · rw [T.out]; exact HEK.out
                      case measure => simp [intOf]; omega
                    · have hk5 : (((tl (isU us j) a : Nat) : Int) + 1 == (k : Int)) = false := by rw [beq_eq_false_iff_ne]; omega
                      have hk6 : tl (isU us j) a + 1 < k := by omega
                      clear hek
                      go_wp2
                      go_roundw
                      case rel => exact ⟨trivial, a + 1, by omega, by go_num, HNY.out.step hlt4, .inl ⟨rfl, by rw [T.out]; go_num, by rw [T.out]; exact hk6⟩⟩
                      case measure => simp [intOf]; omega
                  · have hg0 : isU us j a = true := by rw [isU_lt hlt5]; exact hu
                    rw [hu] at hcl
                    have T := Lib.hid (tl_used hg0)
                    have hk5 : ((0 : Int) == (k : Int)) = false := by rw [beq_eq_false_iff_ne]; omega
                    clear hu hg0
                    go_wp2
                    go_roundw
                    case rel => exact ⟨trivial, a + 1, by omega, by go_num, HNY.out.step hlt4, .inl ⟨rfl, by rw [T.out]; rfl, by rw [T.out]; omega⟩⟩
                    case measure => simp [intOf]; omega
                · obtain rfl : a = j := by omega
                  have hf := none_find hk1 (HNY.out.step hlt4)
                  have C13 := Lib.hid (ow_alloc (.full (by omega) (by rw [Int.toNat_natCast]; exact hf)) (show (k : Int) ≤ 9223372036854775807 by omega) HX.out)
                  clear hf hlt4
                  go_wp2_with (go_at_call 13; ((with_reducible refine (C13.out).mono ?_); rintro e w7 ⟨rfl, h⟩; have H13 := Lib.hid h; clear h))
                  go_ret
                  exact ⟨rfl, H13.out.cha⟩
              · obtain ⟨l, hf, hkl, hbl⟩ := some_find hk1 HNY.out htl
                have C13 := Lib.hid (ow_alloc (.ok _ (by omega) (by rw [Int.toNat_natCast]; exact hf)) (show (k : Int) ≤ 9223372036854775807 by omega) HX.out)
                clear hf htl
                rw [Int.toNat_natCast] at C13
                obtain ⟨b1, hb1⟩ : ∃ b1, b1 = a - k := ⟨_, rfl⟩
                rw [← hb1] at C13 hbl ⊢
                have HB1 := Lib.hid hb1
                clear hb1
                have C20 := Lib.hid fun (W : World) (h : Ow w W bm bp j (fil us b1 k true)) => ow_used (b1 : Int) (b := true) (by rw [usd_nat, isU_lt (by omega)]; unfold fil; rw [if_pos (by omega)]) h
                have D20 := Lib.hid fun (W : World) (h : Ow w W bm bp j (fil us b1 k true)) => ow_used ((b1 : Int) + (k : Int) - 1) (b := true) (by rw [show (b1 : Int) + (k : Int) - 1 = ((b1 + k - 1 : Nat) : Int) by omega, usd_nat, isU_lt (by omega)]; unfold fil; rw [if_pos (by omega)]) h
                by_cases hlt5 : a < j
                all_goals
                  go_wp2_with (first
                    | (go_at_call 13; ((with_reducible refine (C13.out).mono ?_); rintro e w7 ⟨rfl, h⟩; have H13 := Lib.hid h; clear h))
                    | (go_at_call 20; ((with_reducible refine (C20.out _ H13.out).mono ?_); rintro e w8 ⟨rfl, rfl⟩))
                    | (go_at_call 20; ((with_reducible refine (D20.out _ H13.out).mono ?_); rintro e w8 ⟨rfl, rfl⟩)))
                  go_ret
                  exact ⟨rfl, H13.out.cha⟩
end Go.Proofs.Ytgglcfmnhiakcaa
