/- CellBack: the walk. -/
import Derived.Test.YtiboobaggpghjaaDoorEB
import Derived.Test.YtiboobaggpghjaaDoorDU
import Derived.Test.YtiboobaggpghjaaDoorDV
namespace Go.Proofs.YtiboobaggpghjaaDoor
open Go.ChangeShapes Go.WideShapes Go.ChangeAt Go.RowKit
variable {n pr m t : Nat} {A A' : List Bk} {ps : Nat → Int} {x : Int}

/-- The used cells are those of the list. -/
structure BackI (A : List Bk) (m : Nat) (ps : Nat → Int) : Prop where
  bare : ∀ y ∈ A, y.c ≠ -2
  sum : sumA fC A = m
  cel : ∀ i, i < m → ∃ wd, Cel A (ps i) wd
  inj : ∀ i j, i < j → j < m → ps i ≠ ps j
theorem BackI.nil (ps : Nat → Int) : BackI [] 0 ps := ⟨fun _ h => (by cases h), rfl, fun i h => absurd h (by omega), fun i j _ h => absurd h (by omega)⟩
theorem BackI.mid (h : BackI A m ps) (k : Mid n pr A A') : BackI A' m ps := ⟨k.bare h.bare, k.sum.trans h.sum, fun i hi => by obtain ⟨wd, hc⟩ := h.cel i hi; exact ⟨wd, hc.ext k.ext⟩, h.inj⟩
theorem BackI.add (h : BackI A m ps) {wd : Nat} (hw : 1 ≤ wd) (k : Adds n pr A A' x wd) : BackI A' (m + 1) (put9 ps m x) := by
  refine ⟨k.bare h.bare, by rw [k.sum, h.sum], fun i hi => ?_, fun i j hij hj => ?_⟩
  · unfold put9
    by_cases e : i = m
    · rw [if_pos e]; exact ⟨wd, k.cel⟩
    · rw [if_neg e]; obtain ⟨wd, hc⟩ := h.cel i (by omega); exact ⟨wd, hc.ext k.ext⟩
  · unfold put9
    rw [if_neg (show ¬ i = m by omega)]
    by_cases e : j = m
    · rw [if_pos e]
      intro e2
      obtain ⟨v, y, q, hh, _⟩ := h.cel i (by omega)
      exact k.new x (Int.le_refl _) (by omega) y q (e2 ▸ hh)
    · rw [if_neg e]; exact h.inj i j hij (by omega)
/-- The used cells are those of the list from t on. -/
structure RestI (A : List Bk) (m t : Nat) (ps : Nat → Int) : Prop where
  bare : ∀ y ∈ A, y.c ≠ -2
  sum : sumA fC A + t = m
  cel : ∀ i, t ≤ i → i < m → ∃ wd, Cel A (ps i) wd
theorem BackI.rest (h : BackI A m ps) : RestI A m 0 ps := ⟨h.bare, h.sum, fun i _ hi => h.cel i hi⟩
theorem RestI.step (h : RestI A m t ps) (hinj : ∀ i j, i < j → j < m → ps i ≠ ps j) (hi : Inv n pr A) (hl : Live A) (ht : t < m) : ∃ A', Fre7 A (ps t) A' 0 ∧ RestI A' m (t + 1) ps := by
  obtain ⟨wd, hc⟩ := h.cel t (Nat.le_refl _) ht
  obtain ⟨A', k1, k2⟩ := free_does hi hl hc
  refine ⟨A', k1, k2.bare h.bare, by have := k2.sum; have := h.sum; omega, fun i h1 h2 => ?_⟩
  obtain ⟨v, hv⟩ := h.cel i (by omega) h2
  exact ⟨v, k2.cel _ _ hv fun e => hinj t i (by omega) h2 e.symm⟩
theorem flushed_nil (h : RestI A m m ps) (hi : Inv n 2 A) : flushed (flushed A 0) 1 = [] := by
  have h0 : ∀ y ∈ A, cnt y.u = 0 := fun y hy => by
    obtain ⟨L1, L2, e1, _⟩ := rem_split hi hy
    have := h.sum
    have e : sumA fC A = sumA fC (L1 ++ y :: L2) := by rw [← e1]
    unfold sumA at e
    rw [List.map_append, List.map_cons, List.sum_append, List.sum_cons] at e
    unfold sumA at this
    have : fC y = 0 := by omega
    exact this
  apply List.eq_nil_iff_forall_not_mem.2
  intro z hz
  obtain ⟨hz1, hz2⟩ := List.mem_filter.1 hz
  obtain ⟨y, hy, rfl⟩ := List.mem_map.1 hz1
  obtain ⟨hy1, _⟩ := List.mem_filter.1 hy
  obtain ⟨x, hx, rfl⟩ := List.mem_map.1 hy1
  have hb := h.bare x hx
  have hc := h0 x hx
  have hh : -1 ≤ x.h ∧ x.h < 2 := by
    rcases hi.kind x hx with ⟨_, _, _, e⟩ | ⟨_, _, _, e⟩ | ⟨j, _, _, _, _, _, e1, e2⟩
    · omega
    · omega
    · exact ⟨e1, e2⟩
  have k := keep_iff.1 hz2
  by_cases e0 : x.h = ((0 : Nat) : Int)
  · rw [if_pos e0] at k
    rw [if_neg (show ¬ (unhold x).h = ((1 : Nat) : Int) from (by show ¬ (-1 : Int) = ((1 : Nat) : Int); omega))] at k
    rcases k with k | k | k
    · exact hb k
    · exact absurd k (by show ¬ (0 : Int) ≤ -1; omega)
    · have k : 0 < cnt x.u := k
      omega
  · rw [if_neg e0] at k
    by_cases e1 : x.h = ((1 : Nat) : Int)
    · rw [if_pos e1] at k
      rcases k with k | k | k
      · exact hb k
      · exact absurd k (by show ¬ (0 : Int) ≤ -1; omega)
      · have k : 0 < cnt x.u := k
        omega
    · rw [if_neg e1] at k
      rcases k with k | k | k
      · exact hb k
      · omega
      · omega
theorem words_ge (hi : Inv n pr A) : sumA fC A ≤ sumA fW A := by
  have h : ∀ y ∈ A, fC y ≤ fW y := fun y hy => by
    have := (hi.fits hy).1
    unfold fC fW
    exact Nat.le_mul_of_pos_right _ this
  clear hi
  unfold sumA
  induction A with
  | nil => exact Nat.le_refl _
  | cons y A ih =>
    rw [List.map_cons, List.sum_cons, List.map_cons, List.sum_cons]
    have := h y (List.mem_cons_self ..)
    have := ih fun z hz => h z (List.mem_cons_of_mem _ hz)
    omega

/-! ### nil -/
theorem nil31 (w : World) : Calls Tryd.prog 31 #[.pointer none, .int .i64 0, .int .i64 1] w fun e w' => e = .returned (.tuple #[.int .i64 0, .int .i64 5]) ∧ w = w' := by
  go_enter Tryd.func31, Tryd.ntmps31
  go_wp2
  go_ret2
  exact ⟨rfl, rfl⟩
theorem nil34 (w : World) : Calls Tryd.prog 34 #[.pointer none, .int .i64 1] w fun e w' => e = .returned (.tuple #[.int .i64 0, .int .i64 5]) ∧ w = w' := by
  go_enter Tryd.func34, Tryd.ntmps34
  go_wp2
  go_ret2
  exact ⟨rfl, rfl⟩
theorem nil32 (w : World) : Calls Tryd.prog 32 #[.pointer none, .int .i64 0] w fun e w' => e = .returned (.int .i64 5) ∧ w = w' := by
  go_enter Tryd.func32, Tryd.ntmps32
  go_wp2
  go_ret
  exact ⟨rfl, rfl⟩
theorem nil33 (w : World) : Calls Tryd.prog 33 #[.pointer none, .int .i64 0] w fun e w' => e = .returned (.int .i64 5) ∧ w = w' := by
  go_enter Tryd.func33, Tryd.ntmps33
  go_wp2
  go_ret
  exact ⟨rfl, rfl⟩
theorem nil35 (w : World) : Calls Tryd.prog 35 #[.pointer none, .int .i64 0] w fun e w' => e = .returned (.int .i64 5) ∧ w = w' := by
  go_enter Tryd.func35, Tryd.ntmps35
  go_wp2
  go_ret
  exact ⟨rfl, rfl⟩
theorem nil27 (w : World) : Calls Tryd.prog 27 #[.pointer none, .int .i64 0] w fun e w' => e = .returned (.bool false) ∧ w = w' := by
  go_enter Tryd.func27, Tryd.ntmps27
  go_wp2
  go_ret
  exact ⟨rfl, rfl⟩
theorem nil25 (w : World) : Calls Tryd.prog 25 #[.pointer none, .int .i64 0] w fun e w' => e = .returned (.tuple #[.int .i64 0, .int .i64 0, .bool false]) ∧ w = w' := by
  go_enter Tryd.func25, Tryd.ntmps25
  go_wp2
  go_ret3
  exact ⟨rfl, rfl⟩
end Go.Proofs.YtiboobaggpghjaaDoor

namespace Go.Proofs.YtiboobaggpghjaaDoor
open Go.ChangeShapes Go.WideShapes Go.ChangeAt Go.RowKit

set_option maxRecDepth 100000 in
set_option maxHeartbeats 8000000 in
theorem cback_walk (w : World) (hs : Siz w) (a0 : Option Addr) (n0 c0 : Nat) (k0 : NumsC .u16 w a0 n0 c0) :
    Calls Tryd.prog 8 #[.slice a0 n0 c0] w fun e w' => e = .returned (.bool true) ∧ Cha (fun _ => False) w w' := by
  have CN : Hid (Calls Tryd.prog 21 #[.int .i64 200, .int .i64 2] w fun e w' => ∃ bc, e = .returned (.tuple #[.pointer (some ⟨bc, 0, none⟩), .int .i64 0]) ∧ ∃ F, Oc 200 2 F bc w' [] ∧ Cha (fun _ => False) w w' ∧ ∀ i, F i → w.heap.size ≤ i) := Lib.hid (oc_new 200 2 w (by omega) (by omega) (by omega) (by omega) hs)
  have CA := Lib.hid fun W (h : Siz W) => awake7 W h
  have H1 := Lib.hid k0
  have hn0 := k0.2.2.1
  have hw0 : 0 < w.heap.size := by
    obtain ⟨_, _, hs0⟩ := hs
    exact (Array.getElem?_eq_some_iff.1 hs0).1
  clear k0 hs
  go_enter Tryd.func8, Tryd.ntmps8
  go_wp2_with (first
    | (go_at_call 21; ((with_reducible refine (CN.out).mono ?_); rintro e w1 ⟨bc, rfl, F, h, hc, hf⟩; have H2 := Lib.hid h; have C2 := Lib.hid hc; have N2 := Lib.hid hf; clear h hc hf))
    | (go_at_call 23; ((with_reducible refine (CA.out _ H2.out.siz).mono ?_); rintro e w2 ⟨rfl, h⟩; have H3 := Lib.hid (H2.out.same h); have C3 := Lib.hid (C2.out.trans h); clear h)))
  clear CN CA H2 C2
  obtain ⟨i0, hi, hz0, hz1, hz2⟩ := info_parts info3
  go_loopw [5, 40] (fun v i wr => ∃ (j m : Nat) (A : List Bk) (F : Nat → Prop) (ps : Nat → Int), j ≤ n0 ∧ i = .int .i64 (j : Int) ∧ BackI A m ps ∧ Oc 200 2 F bc wr A ∧ Li w.heap.size F wr v m ps ∧ Cha (fun _ => False) w wr ∧ ∀ i, F i → w.heap.size ≤ i) (fun _ i _ => n0 - (intOf i).toNat)
  case atStart => exact ⟨0, 0, _, _, fun _ => 0, by omega, rfl, BackI.nil _, H3.out, Li.nil _ _ _ _, C3.out, N2.out⟩
  case round =>
    clear H3 C3 N2
    obtain ⟨j, m, A, F, ps, hj, rfl, hB, hO, hL, hC, hN⟩ := hrel
    have hm : m ≤ 262144 := by
      have h1 := hO.len
      have := sums_le hO.inv h1.1 h1.2.1
      have := hB.sum
      omega
    by_cases hlt : j < n0
    · obtain ⟨b, o, z, rfl, hz⟩ := H1.out.2.2.2 (by omega)
      obtain ⟨hz1', hz2'⟩ := hz j hlt
      have hc := (hC.old b (block_lt_of_cell hz1') (fun x => x))
      have hcell : wr.cell? ⟨b, o + j, none⟩ = some (.int .u16 (z j)) := (World.cell?_of_block (a := ⟨b, o + j, none⟩) hc).trans hz1'
      have hxlo := u16_lo hz2'
      have hxhi := u16_hi hz2'
      clear hz hz1' hz2' hc
      generalize z j = x at *
      obtain ⟨p, hp⟩ : ∃ p : Nat, (j : Int) % 2 = (p : Int) := ⟨((j : Int) % 2).toNat, by omega⟩
      have hp2 : p < 2 := by omega
      obtain ⟨k, hk⟩ : ∃ k : Nat, x % 500 + 1 = (k : Int) := ⟨(x % 500 + 1).toNat, by omega⟩
      obtain ⟨A', x0, r, hal⟩ := Alo.ex (n := 200) (pr := 2) hO.inv (p : Int) (k : Int)
      have C31 := Lib.hid (oc_alloc hO hal (by omega))
      have HL := Lib.hid hL
      have HC := Lib.hid hC
      have HN := Lib.hid hN
      rcases alo_does hO.inv hal (by omega) (by omega) (by omega) (by omega) with ⟨rfl, hmid⟩ | ⟨rfl, wd, hwd, had⟩
      · have HB := Lib.hid (hB.mid hmid)
        clear hO hL hC hN hB hal hmid
        go_wp2_with (go_at_call 31; ((with_reducible refine (C31.out).mono ?_); rintro e w5 ⟨rfl, F5, k1, k2, k3, k4⟩; have O5 := Lib.hid k1; have L5 := Lib.hid (HL.out.move k2 k4); have C5 := Lib.hid (HC.out.over k2 fun i hi => .inr (HN.out i hi)); have N5 : Hid (∀ i, F5 i → w.heap.size ≤ i) := Lib.hid (fun i hi => by have := HC.out.size; rcases k4 i hi with e | e; exact HN.out i e; omega); clear k1 k2 k3 k4))
        go_roundw
        case rel => exact ⟨j + 1, m, A', F5, ps, by omega, by go_num, HB.out, O5.out, L5.out, C5.out, N5.out⟩
        case measure => simp [intOf]; omega
      · have HB := Lib.hid (hB.add (by omega) had)
        clear hO hL hC hN hB hal had
        go_wp2_with (first
          | (go_at_call 31; ((with_reducible refine (C31.out).mono ?_); rintro e w5 ⟨rfl, F5, k1, k2, k3, k4⟩; have O5 := Lib.hid k1; have L5 := Lib.hid (HL.out.move k2 k4); have C5 := Lib.hid (HC.out.over k2 fun i hi => .inr (HN.out i hi)); have N5 : Hid (∀ i, F5 i → w.heap.size ≤ i) := Lib.hid (fun i hi => by have := HC.out.size; rcases k4 i hi with e | e; exact HN.out i e; omega); clear k1 k2 k3 k4))
          | (at_builtin; refine wpList_append_where _ rfl _ _ 39 rfl w.heap.size 3 i0 (.int .i64 0) 1 8 Tryd.underlying39 hi hz0 hz1 hz2 rfl (by decide) _ _ _ rfl (L5.out.own.alloc _) ⟨w5.heap.size, 0, none⟩ 1 1 [.int .i64 x0] rfl rfl (one_new _ _ _) (one_int _) (by unfold maxLen; omega) (by omega) (by rw [World.size_alloc]; have := C5.out.size; omega) ?_; intro v' w6 hown' hgrow hwh; obtain ⟨l6, c6⟩ := L5.out.app (o := .cells #[.int .i64 x0] 3) (fun i hi => O5.out.lt hi) hown' hgrow hwh; have L6 := Lib.hid l6; have O6 := Lib.hid (O5.out.cha c6 (fun i hi e => L5.out.far i e hi) (fun e => by have := (L5.out.lt e).1; omega)); have C6 := Lib.hid (C5.out.over c6 fun i hi => .inr (L5.out.lt hi).1); clear hown' hgrow hwh l6 c6))
        go_roundw
        case rel => exact ⟨j + 1, m + 1, A', F5, _, by omega, by go_num, HB.out, O6.out, L6.out, C6.out, N5.out⟩
        case measure => simp [intOf]; omega
    · obtain ⟨e1, cap1, rfl, hsh⟩ := hL.shape
      have hwg := words_ge hO.inv
      rw [hB.sum] at hwg
      obtain ⟨W1, hW1⟩ : ∃ W1, W1 = sumA fW A := ⟨_, rfl⟩
      have hwl : W1 ≤ 4096 * 16777216 := by
        have h1 := hO.len
        have := sums_le hO.inv h1.1 h1.2.1
        omega
      rw [← hW1] at hwg
      obtain ⟨fr, hfr⟩ : ∃ fr, fr = cntF (isU (covA A) 200) 200 := ⟨_, rfl⟩
      have C29 : Hid (Calls Tryd.prog 29 #[.pointer (some ⟨bc, 0, none⟩)] wr fun e w' => e = .returned (.tuple #[.int .i64 (m : Int), .int .i64 (W1 : Int), .int .i64 (fr : Int)]) ∧ Oc 200 2 F bc w' A ∧ Cha (fun _ => False) wr w') := Lib.hid ((oc_counts hO).mono fun e w' ⟨he, k, hc⟩ => ⟨by rw [he, hB.sum, ← hW1, ← hfr], k, hc⟩)
      have HL := Lib.hid hL
      have HC := Lib.hid hC
      have HN := Lib.hid hN
      have HB := Lib.hid hB
      have HSH : Hid (0 < m → ∃ g, e1 = some ⟨g, 0, none⟩) := Lib.hid fun h => by
        obtain ⟨g, hg, _⟩ := hsh h
        exact ⟨g, hg⟩
      have hcm : m ≤ cap1 ∨ m = 0 := by
        by_cases c : 0 < m
        · obtain ⟨_, _, _, h, _⟩ := hsh c
          exact .inl h
        · exact .inr (by omega)
      have hwm : ¬ W1 < m := by omega
      clear hO hL hC hN hB hsh hfr hW1
      go_wp2_with (go_at_call 29; ((with_reducible refine (C29.out).mono ?_); rintro e w5 ⟨rfl, k1, k2⟩; have O5 := Lib.hid k1; have L5 := Lib.hid (HL.out.cha k2 (fun _ _ x => x)); have C5 := Lib.hid (HC.out.trans k2); clear k1 k2))
      go_loopw [81] (fun i wr => ∃ (t : Nat) (A : List Bk), t ≤ m ∧ i = .int .i64 (t : Int) ∧ RestI A m t ps ∧ Oc 200 2 F bc wr A ∧ Li w.heap.size F wr (.slice e1 m cap1) m ps ∧ Cha (fun _ => False) w wr) (fun i _ => m - (intOf i).toNat)
      case atStart => exact ⟨0, _, by omega, rfl, HB.out.rest, O5.out, L5.out, C5.out⟩
      case round =>
        have HINJ := Lib.hid HB.out.inj
        clear HB O5 L5 C5 HL HC C29
        obtain ⟨t, A2, ht, rfl, hR, hO, hL, hC⟩ := hrel
        by_cases hlt2 : t < m
        · obtain ⟨g, rfl⟩ := HSH.out (by omega)
          obtain ⟨_, _, hsl, hsh⟩ := hL.shape
          cases hsl
          obtain ⟨g', hgg, _, _, _, hcells, _⟩ := hsh (by omega)
          cases hgg
          have hcell := hcells t hlt2
          obtain ⟨A3, hf, hR2⟩ := hR.step HINJ.out hO.inv hO.live hlt2
          have hlow : ps t ≤ 9223372036854775807 := by
            obtain ⟨wd, hcc⟩ := hR.cel t (Nat.le_refl _) hlt2
            have := hcc.rng hO.inv
            omega
          have C32 := Lib.hid (oc_free hO hf hlow)
          have HL := Lib.hid hL
          have HC := Lib.hid hC
          have HR2 := Lib.hid hR2
          clear hR hO hL hC hf hcells hsh hR2
          generalize ps t = x at *
          go_wp2_with (go_at_call 32; ((with_reducible refine (C32.out).mono ?_); rintro e w6 ⟨rfl, k1, k2⟩; have O6 := Lib.hid k1; have L6 := Lib.hid (HL.out.cha k2 HL.out.far); have C6 := Lib.hid (HC.out.over k2 fun i hi => .inr (HN.out i hi)); clear k1 k2))
          go_roundw
          case rel => exact ⟨t + 1, A3, by omega, by go_num, HR2.out, O6.out, L6.out, C6.out⟩
          case measure => simp [intOf]; omega
        · obtain rfl : t = m := by omega
          have hnil := flushed_nil hR hO.inv
          have cn0 : sumA fC [] = 0 ∧ sumA fW [] = 0 ∧ cntF (isU (covA []) 200) 200 = 200 := by decide +kernel
          have F0 : Hid (Calls Tryd.prog 33 #[.pointer (some ⟨bc, 0, none⟩), .int .i64 0] wr fun e w' => e = .returned (.int .i64 0) ∧ Oc 200 2 F bc w' (flushed A2 0) ∧ Cha F wr w') := Lib.hid (oc_flush hO 0 (by omega))
          have F1 : Hid (∀ W, Oc 200 2 F bc W (flushed A2 0) → Calls Tryd.prog 33 #[.pointer (some ⟨bc, 0, none⟩), .int .i64 1] W fun e w' => e = .returned (.int .i64 0) ∧ Oc 200 2 F bc w' [] ∧ Cha F W w') := Lib.hid fun W h => by
            have := oc_flush h 1 (by omega)
            rw [hnil] at this
            exact this
          have F2 : Hid (∀ W, Oc 200 2 F bc W [] → Calls Tryd.prog 33 #[.pointer (some ⟨bc, 0, none⟩), .int .i64 2] W fun e w' => e = .returned (.int .i64 1) ∧ Oc 200 2 F bc w' [] ∧ Cha F W w') := Lib.hid fun W h => oc_flush_bad h 2 (by omega)
          have D29 : Hid (∀ W, Oc 200 2 F bc W [] → Calls Tryd.prog 29 #[.pointer (some ⟨bc, 0, none⟩)] W fun e w' => e = .returned (.tuple #[.int .i64 0, .int .i64 0, .int .i64 200]) ∧ Oc 200 2 F bc w' [] ∧ Cha (fun _ => False) W w') := Lib.hid fun W h => (oc_counts h).mono fun e w' ⟨he, k, hc⟩ => ⟨by rw [he, cn0.1, cn0.2.1, cn0.2.2]; rfl, k, hc⟩
          have N31 := Lib.hid nil31
          have N25 := Lib.hid nil25
          have N34 := Lib.hid nil34
          have N32 := Lib.hid nil32
          have N33 := Lib.hid nil33
          have N35 := Lib.hid nil35
          have N27 := Lib.hid nil27
          have HC := Lib.hid hC
          clear hR hO hL hC hnil cn0
          go_wp2_with (first
            | (go_at_call 33; ((with_reducible refine (F0.out).mono ?_); rintro e w6 ⟨rfl, k1, k2⟩; have O6 := Lib.hid k1; have C6 := Lib.hid (HC.out.over k2 fun i hi => .inr (HN.out i hi)); clear k1 k2))
            | (go_at_call 33; ((with_reducible refine (F1.out _ O6.out).mono ?_); rintro e w7 ⟨rfl, k1, k2⟩; have O7 := Lib.hid k1; have C7 := Lib.hid (C6.out.over k2 fun i hi => .inr (HN.out i hi)); clear k1 k2))
            | (go_at_call 33; ((with_reducible refine (F2.out _ O7.out).mono ?_); rintro e w8 ⟨rfl, k1, k2⟩; have O8 := Lib.hid k1; have C8 := Lib.hid (C7.out.over k2 fun i hi => .inr (HN.out i hi)); clear k1 k2))
            | (go_at_call 29; ((with_reducible refine (D29.out _ O8.out).mono ?_); rintro e w9 ⟨rfl, k1, k2⟩; have C9 := Lib.hid (C8.out.trans k2); clear k1 k2))
            | (go_at_call 31; ((with_reducible refine (N31.out _).mono ?_); rintro e w10 ⟨rfl, rfl⟩))
            | (go_at_call 25; ((with_reducible refine (N25.out _).mono ?_); rintro e w10 ⟨rfl, rfl⟩))
            | (go_at_call 34; ((with_reducible refine (N34.out _).mono ?_); rintro e w10 ⟨rfl, rfl⟩))
            | (go_at_call 32; ((with_reducible refine (N32.out _).mono ?_); rintro e w10 ⟨rfl, rfl⟩))
            | (go_at_call 33; ((with_reducible refine (N33.out _).mono ?_); rintro e w10 ⟨rfl, rfl⟩))
            | (go_at_call 35; ((with_reducible refine (N35.out _).mono ?_); rintro e w10 ⟨rfl, rfl⟩))
            | (go_at_call 27; ((with_reducible refine (N27.out _).mono ?_); rintro e w10 ⟨rfl, rfl⟩)))
          go_ret
          exact ⟨rfl, C9.out⟩
end Go.Proofs.YtiboobaggpghjaaDoor
