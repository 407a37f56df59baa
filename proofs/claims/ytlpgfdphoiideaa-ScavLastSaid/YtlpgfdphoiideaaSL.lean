/- ScavLast: the walk. -/
import Derived.Test.YtlpgfdphoiideaaSG
import Derived.Test.YtlpgfdphoiideaaSK
import Derived.Test.YtlpgfdphoiideaaSM
import Derived.Test.YtlpgfdphoiideaaAB
import Derived.Outline
namespace Go.Proofs.Ytlpgfdphoiideaa
open Go.ChangeShapes Go.WideShapes Go.ChangeAt Go.RowKit
/-- A list that was made since w0, apart from the map's states. -/
structure Lq (w0 W : World) (bp : Nat) (v : Value) (L : List Int) : Prop where
  lies : Lies intE W v L
  own : ∀ g, v.ownBlock = some g → w0.heap.size ≤ g ∧ g ≠ bp
section
variable {w0 w W W' : World} {bs bp N : Nat} {st st' : Nat → Int} {v : Value} {L : List Int}
theorem Lq.same (h : Lq w0 W bp v L) (c : Cha (fun _ => False) W W') : Lq w0 W' bp v L := ⟨h.lies.same c, h.own⟩
theorem Lq.put (h : Lq w0 W bp v L) (c : Cha (· = bp) W W') : Lq w0 W' bp v L := ⟨h.lies.cha c fun g hg => (h.own g hg).2, h.own⟩
theorem lq_give (h : Lv w0 W bs bp N st) (n : Int) (hn : isI n) {L : List Int} {m : Nat} (e1 : giv st N n.toNat = L) (e2 : L.length = m) :
    Calls Try.prog 38 #[.pointer (some ⟨bs, 0, none⟩), .int .i64 n] W fun e w' => ∃ a c, e = .returned (.slice a m c) ∧ Lq w0 w' bp (.slice a m c) L ∧ Lv w0 w' bs bp N (giS st N n.toNat) ∧ Cha (· = bp) W w' :=
  (give_any h.1 n hn).mono fun _ _ ⟨v, x, k, l⟩ => by
    rw [e1] at k
    obtain ⟨a, c, rfl, h1, h2⟩ := k.lies.form
    rw [e2] at x k
    exact ⟨a, c, x, ⟨k.lies, fun g hg => by have := k.new g hg; have := h.2.1.size; have := h.1.row.lt; omega⟩, h.left l, l.2⟩
theorem lv_frees (h : Lv w0 W bs bp N st) (base n : Int) (hb : isI base) (hn : isI n) :
    Calls Try.prog 35 #[.pointer (some ⟨bs, 0, none⟩), .int .i64 base, .int .i64 n] W fun e w' => ∃ a, e = .returned (.int .i64 a) ∧ ∃ s, Lv w0 w' bs bp N s :=
  (lv_free h base n hb hn rfl rfl).mono fun _ _ ⟨x, y⟩ => ⟨_, x, _, y⟩
theorem none_use (a b : Int) (w : World) : Calls Try.prog 33 #[.pointer none, .int .i64 a, .int .i64 b] w fun e w' => e = .returned (.tuple #[.int .i64 0, .int .i64 5]) ∧ w = w' := by
  have R : Hid (Calls Try.prog 52 #[.pointer none, .int .i64 a, .int .i64 b] w fun e w' => e = .returned (.tuple #[.slice none 0 0, .int .i64 5]) ∧ w = w') := Lib.hid (by
    go_enter Try.func52, Try.ntmps52
    go_wp2
    go_returns
    exact ⟨rfl, rfl⟩)
  go_enter Try.func33, Try.ntmps33
  go_wp2_with (go_at_call 52; (with_reducible refine (R.out).mono ?_); rintro e w1 ⟨rfl, rfl⟩)
  go_returns
  exact ⟨rfl, rfl⟩
theorem none_free (a b : Int) (w : World) : Calls Try.prog 35 #[.pointer none, .int .i64 a, .int .i64 b] w fun e w' => e = .returned (.int .i64 5) ∧ w = w' := by
  have R : Hid (Calls Try.prog 52 #[.pointer none, .int .i64 a, .int .i64 b] w fun e w' => e = .returned (.tuple #[.slice none 0 0, .int .i64 5]) ∧ w = w') := Lib.hid (by
    go_enter Try.func52, Try.ntmps52
    go_wp2
    go_returns
    exact ⟨rfl, rfl⟩)
  go_enter Try.func35, Try.ntmps35
  go_wp2_with (go_at_call 52; (with_reducible refine (R.out).mono ?_); rintro e w1 ⟨rfl, rfl⟩)
  go_returns
  exact ⟨rfl, rfl⟩
theorem none_counts (w : World) : Calls Try.prog 40 #[.pointer none] w fun e w' => e = .returned (.tuple #[.int .i64 0, .int .i64 0, .int .i64 0]) ∧ w = w' := by
  go_enter Try.func40, Try.ntmps40
  go_wp2
  go_returns
  exact ⟨rfl, rfl⟩
/-- The lists' lengths. -/
theorem last_lens {st : Nat → Int} {q F m1 m2 m3 : Nat} (hF : cn st 1 0 256 = F) (h1 : (giv st 256 q).length = m1) (h2 : (giv (giS st 256 q) 256 1000).length = m2) (h3 : (giv (giS (giS st 256 q) 256 1000) 256 9).length = m3) :
    m1 = min q F ∧ m1 + m2 = F ∧ m3 = 0 ∧ F ≤ 256 ∧ giv st 256 q ++ giv (giS st 256 q) 256 1000 = giv st 256 (q + 1000 + 9) ∧ giS (giS (giS st 256 q) 256 1000) 256 9 = giS st 256 (q + 1000 + 9) ∧ (giv st 256 (q + 1000 + 9)).length = F := by
  have hf := cn_le st 1 0 256
  have a1 := giv_app (st := st) (p := 256) (a := q) (b := 1000)
  have e2 : giS (giS st 256 q) 256 1000 = giS st 256 (q + 1000) := funext fun i => giS_app i
  have a2 := giv_app (st := st) (p := 256) (a := q + 1000) (b := 9)
  have e3 : giS (giS st 256 (q + 1000)) 256 9 = giS st 256 (q + 1000 + 9) := funext fun i => giS_app i
  rw [e2] at h3
  have l1 := giv_len (st := st) (p := 256) (q := q)
  have l2 := congrArg List.length a1
  have l3 := congrArg List.length a2
  have l4 := giv_len (st := st) (p := 256) (q := q + 1000 + 9)
  rw [List.length_append] at l2 l3
  rw [giv_len (st := st) (p := 256) (q := q + 1000)] at l2 l3
  rw [l4] at l3
  rw [hF] at l1 l2 l3 l4 hf
  have z : m3 = 0 := by omega
  refine ⟨by omega, by omega, z, hf, ?_, by rw [e2, e3], by omega⟩
  rw [a1, ← a2, List.eq_nil_of_length_eq_zero (h3.trans z), List.append_nil]
set_option maxRecDepth 100000 in
set_option maxHeartbeats 16000000 in
theorem last_walk (w : World) (a : Option Addr) (len c : Nat) (k : NumsC .u8 w a len c) (n : Int) (n0 : 0 ≤ n) (n1 : n ≤ 255) :
    Calls Try.prog 10 #[.slice a len c, .int .u8 n] w fun e w' => e = .returned (.bool true) ∧ Cha (fun _ => False) w w' := by
  have AW := Lib.hid sawake
  have NU := Lib.hid fun w => none_use 0 1 w
  have NF := Lib.hid fun w => none_free 0 1 w
  have NC := Lib.hid none_counts
  have NG := Lib.hid fun w => give_none 1 w
  have i0 : isI 0 := isI_k (by omega) (by omega)
  have i1 : isI 1 := isI_k (by omega) (by omega)
  have i256 : isI 256 := isI_k (by omega) (by omega)
  have N1 : Hid (Calls Try.prog 30 #[.int .i64 256] w fun e w' => e = .returned (.tuple #[.pointer (some ⟨w.heap.size + 1, 0, none⟩), .int .i64 0]) ∧ Lv w w' (w.heap.size + 1) w.heap.size 256 (fun _ => 0)) := Lib.hid (lv_new 256 (by omega) (by omega) (Cha.refl (fun _ => False) w))
  obtain ⟨hlc, hcap, hlm, hs⟩ := k
  have HS := Lib.hid hs
  clear hs
  go_enter Try.func10, Try.ntmps10
  go_wp2_with (first
    | (go_at_call 30; (with_reducible refine (N1.out).mono ?_); rintro e w1 ⟨rfl, h1⟩; have H1 := Lib.hid h1; clear h1)
    | (go_at_call 32; (with_reducible refine (AW.out _).mono ?_); rintro e w2 ⟨rfl, h2⟩; have H2 := Lib.hid (H1.out.same h2); clear h2)
    | (go_at_call 33; (with_reducible refine (lv_use H2.out 0 256 i0 i256 rfl rfl).mono ?_); rintro e w3 ⟨rfl, h3⟩; have H3 := Lib.hid h3; clear h3))
  clear N1 AW H1 H2
  generalize useS 256 (fun _ => 0) 0 256 = s0 at *
  obtain ⟨bp, hbp⟩ : ∃ x, w.heap.size = x := ⟨_, rfl⟩
  rw [hbp] at H3 ⊢
  clear hbp
  generalize bp + 1 = bs at *
  go_loopw [44] (fun i wr => ∃ j : Nat, j ≤ len ∧ i = .int .i64 (j : Int) ∧ ∃ st : Nat → Int, Lv w wr bs bp 256 st) (fun i _ => len - (intOf i).toNat)
  case atStart => exact ⟨0, Nat.zero_le _, rfl, _, H3.out⟩
  case round =>
    clear H3
    obtain ⟨j, hj, rfl, st, hT⟩ := hrel
    by_cases hlt : j < len
    · obtain ⟨b, o, z, rfl, hz⟩ := HS.out (by omega)
      obtain ⟨hcell0, hwf⟩ := hz j hlt
      have hcell : wr.cell? ⟨b, o + j, none⟩ = some (.int .u8 (z j)) := by
        have e := hT.2.1.old b (block_lt_of_cell hcell0) (fun x => x)
        simpa [World.cell?, e] using hcell0
      clear hcell0
      obtain ⟨z0, z1⟩ := (Lit.wf_int_iff _ _).1 hwf
      have z1 : z j ≤ 255 := z1
      have z0 : 0 ≤ z j := z0
      clear hz hwf HS
      generalize z j = zz at *
      have hw64 : IntKind.i64.wrap zz = zz := by rw [IntKind.wrap_i64]; omega
      have C := Lib.hid (lv_frees hT zz 1 ⟨by omega, by omega⟩ i1)
      clear hT
      go_wp2_with (go_at_call 35; (with_reducible refine (C.out).mono ?_); rintro e w4 ⟨r, rfl, s, h⟩; have H4 := Lib.hid h; clear h)
      go_roundw
      case rel => exact ⟨j + 1, hlt, rfl, s, H4.out⟩
      case measure => simp [intOf]; omega
    · obtain ⟨q, rfl⟩ := Int.eq_ofNat_of_zero_le n0
      obtain ⟨F, hF⟩ : ∃ F, cn st 1 0 256 = F := ⟨_, rfl⟩
      obtain ⟨F0, hF0⟩ : ∃ F, cn st 0 0 256 = F := ⟨_, rfl⟩
      obtain ⟨F2, hF2⟩ : ∃ F, cn st 2 0 256 = F := ⟨_, rfl⟩
      obtain ⟨m1, hm1⟩ : ∃ m, (giv st 256 q).length = m := ⟨_, rfl⟩
      obtain ⟨m2, hm2⟩ : ∃ m, (giv (giS st 256 q) 256 1000).length = m := ⟨_, rfl⟩
      obtain ⟨m3, hm3⟩ : ∃ m, (giv (giS (giS st 256 q) 256 1000) 256 9).length = m := ⟨_, rfl⟩
      obtain ⟨l1, l2, l3, l4, l5, l6, l7⟩ := last_lens hF hm1 hm2 hm3
      have CC := Lib.hid (lv_counts hT hF2 hF hF0)
      have G1 : Hid (∀ W, Lv w W bs bp 256 st → Calls Try.prog 38 #[.pointer (some ⟨bs, 0, none⟩), .int .i64 (q : Int)] W fun e w' => ∃ a c, e = .returned (.slice a m1 c) ∧ Lq w w' bp (.slice a m1 c) (giv st 256 q) ∧ Lv w w' bs bp 256 (giS st 256 q) ∧ Cha (· = bp) W w') :=
        Lib.hid fun W h => lq_give h q ⟨by omega, by omega⟩ rfl hm1
      have G2 : Hid (∀ W, Lv w W bs bp 256 (giS st 256 q) → Calls Try.prog 38 #[.pointer (some ⟨bs, 0, none⟩), .int .i64 1000] W fun e w' => ∃ a c, e = .returned (.slice a m2 c) ∧ Lq w w' bp (.slice a m2 c) (giv (giS st 256 q) 256 1000) ∧ Lv w w' bs bp 256 (giS (giS st 256 q) 256 1000) ∧ Cha (· = bp) W w') :=
        Lib.hid fun W h => lq_give h 1000 ⟨by omega, by omega⟩ rfl hm2
      have G3 : Hid (∀ W, Lv w W bs bp 256 (giS (giS st 256 q) 256 1000) → Calls Try.prog 38 #[.pointer (some ⟨bs, 0, none⟩), .int .i64 9] W fun e w' => ∃ a c, e = .returned (.slice a m3 c) ∧ Lq w w' bp (.slice a m3 c) (giv (giS (giS st 256 q) 256 1000) 256 9) ∧ Lv w w' bs bp 256 (giS (giS (giS st 256 q) 256 1000) 256 9) ∧ Cha (· = bp) W w') :=
        Lib.hid fun W h => lq_give h 9 ⟨by omega, by omega⟩ rfl hm3
      have kn : min (q : Int) (F : Int) = (m1 : Int) := by omega
      have kn2 : (if (F : Int) < (q : Int) then (F : Int) else (q : Int)) = (m1 : Int) := by split <;> omega
      have kw : IntKind.i64.wrap (q : Int) = (q : Int) := by rw [IntKind.wrap_i64]; omega
      have kw2 : IntKind.i64.wrap ((m1 : Int) + (m2 : Int)) = (F : Int) := by rw [IntKind.wrap_i64]; omega
      rw [l6] at G3
      obtain ⟨L1, hL1⟩ : ∃ L, giv st 256 q = L := ⟨_, rfl⟩
      obtain ⟨L2, hL2⟩ : ∃ L, giv (giS st 256 q) 256 1000 = L := ⟨_, rfl⟩
      obtain ⟨L, hL⟩ : ∃ L, giv st 256 (q + 1000 + 9) = L := ⟨_, rfl⟩
      have HAT : Hid (∀ j, j < L.length → ∃ i : Nat, i < 256 ∧ L.getD j 0 = i ∧ giS st 256 (q + 1000 + 9) i = 0) := Lib.hid (by rw [← hL]; intro j hj; exact giv_at hj)
      have HGT : Hid (∀ i j, i < j → j < L.length → L.getD j 0 < L.getD i 0) := Lib.hid (by rw [← hL]; intro i j h k; exact giv_gt h k)
      rw [hL1] at G1 hm1
      rw [hL2] at G2 hm2
      rw [hL1, hL2, hL] at l5
      rw [hL] at l7
      have L57 := Lib.hid (And.intro l5 l7)
      have HM1 := Lib.hid hm1
      have HM2 := Lib.hid hm2
      clear hL hL1 hL2 hm1 hm2 hm3 l5 l6 l7 hF hF0 hF2 HS
      generalize giS st 256 (q + 1000 + 9) = sx at *
      generalize giS (giS st 256 q) 256 1000 = sb at *
      generalize giS st 256 q = sa at *
      subst l3
      have HM12 := Lib.hid l2
      clear hT l1 l2
      go_upto_region 15 with (first
        | (go_at_call 40; (with_reducible refine (CC.out).mono ?_); rintro e w4 ⟨rfl, h⟩; have H4 := Lib.hid h; clear h)
        | (go_at_call 38; (with_reducible refine (G1.out _ H4.out).mono ?_); rintro e w5 ⟨x1, y1, rfl, p1, h, c5⟩; have P1 := Lib.hid p1; have H5 := Lib.hid h; clear h p1 c5)
        | (go_at_call 38; (with_reducible refine (G2.out _ H5.out).mono ?_); rintro e w6 ⟨x2, y2, rfl, p2, h, c6⟩; have P2 := Lib.hid p2; have P1b := Lib.hid (P1.out.put c6); have H6 := Lib.hid h; clear h p2 c6)
        | (go_at_call 38; (with_reducible refine (G3.out _ H6.out).mono ?_); rintro e w7 ⟨x3, y3, rfl, p3, h, c7⟩; have P2c := Lib.hid (P2.out.put c7); have P1c := Lib.hid (P1b.out.put c7); have H7 := Lib.hid h; clear h p3 c7))
      clear CC G1 G2 G3 H4 H5 H6 P1 P2 P1b
      have bb : L1.length = m1 ∧ L2.length = m2 ∧ m1 + m2 = F := ⟨HM1.out, HM2.out, HM12.out⟩
      obtain ⟨v1, w8, hr1, hA1⟩ := run_any intE_ok 65 (Lies.nil intE w7) P1c.out.lies (by unfold maxLen; simp only [List.length_nil]; omega) (by show _ * 8 ≤ _; simp only [List.length_nil]; omega)
      have c8 : Cha (fun _ => False) w7 w8 := ⟨hA1.cha.os, hA1.cha.out, hA1.cha.size, fun i hi _ => hA1.cha.old i hi (fun e => by cases e)⟩
      have hv1 : ∀ g, v1.ownBlock = some g → w7.heap.size ≤ g := fun g hg => (hA1.at' g hg).elim (fun e => by cases e) id
      have hl1 := hA1.lies
      rw [List.nil_append] at hl1
      obtain ⟨v2, w9, hr2, hA2⟩ := run_any intE_ok 65 hl1 (P2c.out.same c8).lies (by unfold maxLen; omega) (by show _ * 8 ≤ _; omega)
      have c9 : Cha (fun i => w7.heap.size ≤ i) w8 w9 := hA2.cha.mono fun i _ e => hv1 i e
      have c79 : Cha (fun _ => False) w7 w9 := Cha.over c8 c9 fun i hi => .inr hi
      have hv2 : ∀ g, v2.ownBlock = some g → w7.heap.size ≤ g := fun g hg => (hA2.at' g hg).elim (hv1 g) (fun e => Nat.le_trans c8.size e)
      have hl2 := hA2.lies
      rw [L57.out.1] at hl2
      obtain ⟨b4, cap4, e4, _, _⟩ := hl2.form
      rw [L57.out.2] at e4
      subst e4
      have Q4 : Hid (Lq w w9 bp (.slice b4 F cap4) L) := Lib.hid ⟨hl2, fun g hg => by have := hv2 g hg; have := H7.out.2.1.size; have := H7.out.1.row.lt; omega⟩
      have P4 := Lib.hid (P1c.out.same c79)
      have H9 := Lib.hid (H7.out.same c79)
      obtain ⟨a1', cap1', hf1, _, _⟩ := hl1.form
      rw [bb.1] at hf1
      subst hf1
      clear hA1 hA2 hl1 hl2 hv1 hv2 c8 c9 c79 P1c P2c H7 bb
      have R1 : Hid ((Builtin.append_ #[65, 65] 65 #[.slice none 0 0, .slice x1 m1 y1]).run Try.prog w7 = .ok (.slice a1' m1 cap1') w8) := Lib.hid hr1
      have R2 : Hid ((Builtin.append_ #[65, 65] 65 #[.slice a1' m1 cap1', .slice x2 m2 y2]).run Try.prog w8 = .ok (.slice b4 F cap4) w9) := Lib.hid hr2
      clear hr1 hr2
      go_wp2_with (first
        | (refine wpList_run rfl (.tmp 87) (.tmp 88) rfl rfl rfl R1.out ?_)
        | (refine wpList_run rfl (.tmp 90) (.tmp 91) rfl rfl rfl R2.out ?_))
      clear R1 R2
      go_loopw [95] (fun i wr => ∃ k : Nat, k ≤ F ∧ i = .int .i64 (k : Int) ∧ ∃ sk : Nat → Int, Lv w wr bs bp 256 sk ∧ (∀ j, k ≤ j → j < F → ∀ i : Nat, L.getD j 0 = i → sk i = 0) ∧ Lq w wr bp (.slice b4 F cap4) L ∧ Lq w wr bp (.slice x1 m1 y1) L1) (fun i _ => F - (intOf i).toNat)
      case atStart => exact ⟨0, Nat.zero_le _, rfl, sx, H9.out, fun j _ hj i hi => by
        obtain ⟨i', i1, i2, i3⟩ := HAT.out j (by rw [L57.out.2]; exact hj)
        have : i = i' := by omega
        rw [this]; exact i3, Q4.out, P4.out⟩
      case round =>
        clear H9 Q4 P4
        obtain ⟨k, hk, rfl, sk, hLv, hz, hQ, hP⟩ := hrel
        have l7 := L57.out.2
        by_cases hkF : k < F
        · obtain ⟨ii, i1, i2, i3⟩ := HAT.out k (by rw [l7]; exact hkF)
          have hs0 := hz k (Nat.le_refl _) hkF ii i2
          have hne : sk ii ≠ 2 := by rw [hs0]; omega
          obtain ⟨u1, u2⟩ := use_one i1 hne
          rw [if_pos hs0] at u1
          obtain ⟨g4, o4, rfl, hz4⟩ := int_at hQ.lies (by rw [l7]; omega)
          have ck := hz4 wr (Cha.refl _ _) k (by rw [l7]; exact hkF)
          rw [i2] at ck
          have C : Hid (Calls Try.prog 33 #[.pointer (some ⟨bs, 0, none⟩), .int .i64 (ii : Int), .int .i64 1] wr fun e w' => e = .returned (.tuple #[.int .i64 1, .int .i64 0]) ∧ (∃ sk : Nat → Int, Lv w w' bs bp 256 sk ∧ (∀ j, k + 1 ≤ j → j < F → ∀ i : Nat, L.getD j 0 = i → sk i = 0) ∧ Lq w w' bp (.slice (some ⟨g4, o4, none⟩) F cap4) L ∧ Lq w w' bp (.slice x1 m1 y1) L1) ∧
              ∀ k', k' < F → w'.cell? ⟨g4, o4 + k', none⟩ = some (.int .i64 (L.getD k' 0))) := Lib.hid (by
            refine (use_any hLv.1 (ii : Int) 1 ⟨by omega, by omega⟩ ⟨by omega, by omega⟩).mono fun e W' ⟨x, y⟩ => ?_
            rw [u1] at x
            rw [u2] at y
            refine ⟨x, ⟨_, hLv.left y, fun j h1 h2 i hi => ?_, hQ.put y.2, hP.put y.2⟩, fun k' hk' => ?_⟩
            · have := HGT.out k j (by omega) (by rw [l7]; exact h2)
              unfold fil
              rw [if_neg (by omega)]
              exact hz j (by omega) h2 i hi
            · obtain ⟨g5, o5, e5, hz5⟩ := int_at (hQ.put y.2).lies (by rw [l7]; omega)
              cases e5
              exact hz5 W' (Cha.refl _ _) k' (by rw [l7]; exact hk'))
          have GT := Lib.hid (HGT.out)
          clear hLv hz hQ hP u1 u2 hs0 hne hz4
          have kk0 : (0 : Int) ≤ (k : Int) := by omega
          have L7 := Lib.hid l7
          clear l7
          by_cases hk0 : k = 0
          · subst hk0
            have ck0 := ck
            rw [Nat.add_zero] at ck0
            have k0F : (0 : Int) < (F : Int) := by omega
            go_wp2_with (go_at_call 33; (with_reducible refine (C.out).mono ?_); rintro e w5 ⟨rfl, h, hc⟩; have H := Lib.hid h; clear h hc)
            go_roundw
            case rel => exact ⟨1, by omega, by go_num, H.out⟩
            case measure => simp [intOf]; omega
          · obtain ⟨k', hk'⟩ : ∃ k', k' = k - 1 := ⟨_, rfl⟩
            have y0 := HGT.out k' k (by omega) (by rw [L7.out]; exact hkF)
            rw [i2] at y0
            have kw8 : (k : Int) - 1 = (k' : Int) := by omega
            have kw9 : IntKind.i64.wrap ((k : Int) - 1) = (k' : Int) := by rw [IntKind.wrap_i64]; omega
            have kd : decide ((0 : Int) < (k : Int)) = true := decide_eq_true (by omega)
            have kF' : k' < F := by omega
            have kF2 : (k' : Int) < (F : Int) := by omega
            have kF3 : (0 : Int) ≤ (k' : Int) := by omega
            have hko : k + 1 ≤ F := by omega
            generalize hy : L.getD k' 0 = y at *
            have HY := Lib.hid hy
            clear hy
            have kd2 : decide (y ≤ (ii : Int)) = false := decide_eq_false (by omega)
            have HKE := Lib.hid hk'
            have HKW := Lib.hid kw8
            clear hk' hk0 kw8
            go_wp2_with (go_at_call 33; (with_reducible refine (C.out).mono ?_); rintro e w5 ⟨rfl, h, hc⟩; have hcy := hc k' kF'; rw [HY.out] at hcy; have H := Lib.hid h; clear h hc; have kw8 := HKW.out)
            go_roundw
            case rel => exact ⟨k + 1, hko, by go_num, H.out⟩
            case measure => simp [intOf]; omega
        · obtain rfl : k = F := by omega
          have HP := Lib.hid hP
          have HM := Lib.hid (show L1.length = m1 from HM1.out)
          have HC0 := Lib.hid hLv.2.1
          clear hLv hz hQ hP l7
          go_wp2
          go_loopw [128] (fun i wx => ∃ k : Nat, k ≤ m1 ∧ i = .int .i64 (k : Int) ∧ Cha (fun _ => False) w wx ∧ (0 < m1 → ∃ g o cs, x1 = some ⟨g, o, none⟩ ∧ w.heap.size ≤ g ∧ wx.heap[g]? = some (.cells cs 3 (0, 0)) ∧ o + m1 ≤ cs.size)) (fun i _ => m1 - (intOf i).toNat)
          case atStart =>
            refine ⟨0, Nat.zero_le _, rfl, HC0.out, fun h0 => ?_⟩
            rcases HP.out.lies with ⟨e, _⟩ | ⟨g, o, cap, cur, e, p1, p2, p3, p4, _⟩
            · have := HM.out; rw [e] at this; simp at this; omega
            · cases e
              have he : intE.e = 3 := rfl
              have hk : intE.k = 1 := rfl
              rw [hk] at p4
              exact ⟨g, o, cur, rfl, (HP.out.own g rfl).1, p3, by have := HM.out; omega⟩
          case round =>
            clear HP HC0
            obtain ⟨t, ht, rfl, hC, hcs⟩ := hrel
            by_cases htm : t < m1
            · obtain ⟨g5, o5, cs, rfl, w5, hh, hsz⟩ := hcs (by omega)
              obtain ⟨v, hv⟩ : ∃ v, cs[o5 + t]? = some v := ⟨_, Array.getElem?_eq_getElem (by omega)⟩
              have hc := (cell_of_row _ g5 (o5 + t) cs 3 (0, 0) hh).trans hv
              have hf := frozen_of_row _ g5 (o5 + t) cs 3 hh
              have NX := Lib.hid (heap_setCell_same _ g5 (o5 + t) cs 3 (.int .i64 (-1)) hh)
              have NC2 := Lib.hid (hC.over (Cha.setCell (S := (· = g5)) (p := ⟨g5, o5 + t, none⟩) (Cha.refl _ _) (fun _ => rfl) (.int .i64 (-1))) fun i hi => .inr (by omega))
              clear hC hcs hh hv
              go_wp2
              go_roundw
              case rel => exact ⟨t + 1, by omega, by go_num, NC2.out, fun _ => ⟨g5, o5, _, rfl, w5, NX.out, by rw [Array.size_setIfInBounds]; exact hsz⟩⟩
              case measure => simp [intOf]; omega
            · obtain rfl : t = m1 := by omega
              have HC := Lib.hid hC
              clear hC hcs
              go_wp2_with (first
                | (go_at_call 33; (with_reducible refine (NU.out _).mono ?_); rintro e w5 ⟨rfl, rfl⟩)
                | (go_at_call 40; (with_reducible refine (NC.out _).mono ?_); rintro e w5 ⟨rfl, rfl⟩)
                | (go_at_call 35; (with_reducible refine (NF.out _).mono ?_); rintro e w5 ⟨rfl, rfl⟩)
                | (go_at_call 38; (with_reducible refine (NG.out _).mono ?_); rintro e w5 ⟨rfl, rfl⟩))
              go_returns
              exact ⟨rfl, HC.out⟩
end
end Go.Proofs.Ytlpgfdphoiideaa
