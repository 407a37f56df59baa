/- The document's cells: pick, its walk. -/
import Derived.Test.YtiboobaggpghjaaDoorFV
import Derived.Test.YtiboobaggpghjaaDoorCB
import Derived.Deep.RegionHeld3
import Derived.Handy
namespace Go.Proofs.YtiboobaggpghjaaDoor
open Go.ChangeShapes Go.WideShapes Go.ChangeAt Go.RowKit
section
variable {n pr dc rt q k : Nat} {F S : Nat → Prop} {W W' : World} {v : Value} {D : List Bq}
theorem cha_cell (c : Cha (fun _ => False) W W') {p : Addr} (h : p.block < W.heap.size) : W'.cell? p = W.cell? p := by unfold World.cell?; rw [c.old _ h (fun f => f)]
theorem cha_frozen (c : Cha (fun _ => False) W W') {p : Addr} (h : p.block < W.heap.size) : W'.frozen? p = W.frozen? p := by unfold World.frozen?; rw [c.old _ h (fun f => f)]
theorem cl_new {b qb : Nat} {F' : Nat → Prop} {w : World} (h : Ce n pr F' w dc rt v (D.map (unq q k) ++ [(newB k b, qb)])) : ∃ g o cap, v = .slice (some ⟨g, o, none⟩) (D.length + 1) cap ∧ cap ≤ maxLen ∧ (∃ x, w.cell? ⟨g, o + D.length * 5 + 4, none⟩ = some x) ∧ ∀ j, w.frozen? ⟨g, j, none⟩ = false := by
  have hll : (D.map (unq q k) ++ [(newB k b, qb)]).length = D.length + 1 := by simp
  obtain ⟨g, o, cap, e, _, h2, hA, hf⟩ := h.at (i := D.length) (by omega)
  rw [hll] at e
  exact ⟨g, o, cap, e, h2, ⟨_, hA.c4⟩, hf⟩
set_option maxRecDepth 100000 in
set_option maxHeartbeats 16000000 in
theorem dpick_any (h : Ce n pr F W dc rt v D) (hq : q < pr) (hk : k < 16) : Calls Tryd.prog 60 #[.pointer (some ⟨dc, 0, none⟩), .int .i64 (q : Int), .int .i64 (k : Int)] W fun e w' => PickD n pr F W dc rt D q k e w' := by
  have H := Lib.hid h
  have hlen := h.len
  have HQ := Lib.hid hq
  have HP := Lib.hid h.prr
  obtain ⟨a, cap, rfl⟩ := h.form
  have E0 : Hid (Ce n pr F W dc rt (.slice a D.length cap) (stg q k D 0)) := Lib.hid (by rw [stg_zero]; exact h)
  clear h
  go_enter Tryd.func60, Tryd.ntmps60
  go_wp2
  go_loopw [9] (fun i wr => ∃ (j : Nat), j ≤ D.length ∧ i = .int .i64 (j : Int) ∧ Ce n pr F wr dc rt (.slice a D.length cap) (stg q k D j) ∧ Cha F W wr ∧ ∀ z ∈ D.take j, ¬ (z.1.h = (q : Int) ∧ z.1.c = (k : Int) ∧ false ∈ z.1.u)) (fun i _ => D.length - (intOf i).toNat)
  case atStart => exact ⟨0, Nat.zero_le _, rfl, E0.out, Cha.refl _ _, fun z hz => by simp at hz⟩
  case round =>
    clear E0
    obtain ⟨j, hj, rfl, hE, hC, hN⟩ := hrel
    have HE := Lib.hid hE
    have HC := Lib.hid hC
    have HN := Lib.hid hN
    have d1 := hE.c1
    clear hE hC hN
    by_cases hlt : j < D.length
    · obtain ⟨g, o, cap', e, _, hcm, hA, hf⟩ := HE.out.at (i := j) (by rw [stg_len]; exact hlt)
      rw [stg_len] at e
      cases e
      rw [stg_get hlt] at hA
      obtain ⟨y, hy⟩ : ∃ y, y = D[j] := ⟨_, rfl⟩
      have hym : y ∈ stg q k D j := by rw [hy, ← stg_get (q := q) (k := k) hlt (by rw [stg_len]; exact hlt)]; exact List.getElem_mem _
      obtain ⟨s1, s2, s3, s4⟩ := HE.out.small hym
      have MK := Lib.hid (HE.out.mrk y hym)
      have f4 := hf (o + j * 5 + 4)
      have hgw : g < wr.heap.size := block_lt_of_cell hA.c0
      rw [← hy] at hA
      have NX : Hid (¬ (y.1.h = (q : Int) ∧ y.1.c = (k : Int) ∧ false ∈ y.1.u) → ∀ z ∈ D.take (j + 1), ¬ (z.1.h = (q : Int) ∧ z.1.c = (k : Int) ∧ false ∈ z.1.u)) := Lib.hid fun e z hz => by
        rcases take_mem hlt hz with hz | rfl
        · exact HN.out z hz
        · rw [← hy]; exact e
      have SAME : Hid (¬ (y.1.h = (q : Int) ∧ y.1.c = (k : Int)) → ∀ w2, Cha (fun _ => False) wr w2 → Ce n pr F w2 dc rt (.slice (some ⟨g, o, none⟩) D.length cap) (stg q k D (j + 1)) ∧ Cha F W w2) := Lib.hid fun e w2 c => by
        rw [stg_same hlt (by rw [← hy]; exact e)]
        exact ⟨HE.out.same c, HC.out.trans c.wide⟩
      have GONE : Hid (y.1.h = (q : Int) → y.1.c = (k : Int) → ∀ w2, Cha (fun _ => False) wr w2 → Ce n pr F (w2.setCell ⟨g, o + j * 5 + 4, none⟩ (.int .i64 (-1))) dc rt (.slice (some ⟨g, o, none⟩) D.length cap) (stg q k D (j + 1)) ∧ Cha F W (w2.setCell ⟨g, o + j * 5 + 4, none⟩ (.int .i64 (-1)))) := Lib.hid fun e1 e2 w2 c => by
        obtain ⟨r1, r2⟩ := (HE.out.same c).let_go rfl hlt (by rw [← hy]; exact ⟨e1, e2⟩)
        exact ⟨r1, (HC.out.trans c.wide).trans r2⟩
      have HELD : Hid (y.1.h = (q : Int) → y.1.c = (k : Int) → false ∈ y.1.u → ∀ w2, Cha (fun _ => False) wr w2 → PickD n pr F W dc rt D q k (.returned (.tuple #[.int .i64 (j : Int), .int .i64 0])) w2) := Lib.hid fun e1 e2 e3 w2 c => by
        obtain ⟨r1, r2⟩ := pick_held (q := q) (k := k) H.out hlt (by rw [← hy]; exact e1) (by rw [← hy]; exact e2) (by rw [← hy]; exact e3) HN.out
        have := HE.out.same c
        rw [r1] at this
        exact .inl ⟨j, D, F, _, rfl, ⟨hlt, r2⟩, this, HC.out.trans c.wide, fun _ hi => .inl hi⟩
      clear hy hym hf HE HN H HC
      obtain ⟨q0, q1, q2, q3, q4⟩ := hA
      obtain ⟨⟨yb, yk, yc, yw, yu, yh⟩, yq⟩ := y
      simp only at q0 q1 q2 q3 q4 s1 s2 s3 s4
      have C2 := Lib.hid ((Cha.refl (fun _ => False) wr).alloc (.cells #[.int .i64 (yb : Int), .int .i64 yc, .int .i64 (yw : Int), .slice (some ⟨yq, 0, none⟩) yu.length yu.length, .int .i64 yh] 83))
      have XX := Lib.hid (heap_alloc_new wr (.cells #[.int .i64 (yb : Int), .int .i64 yc, .int .i64 (yw : Int), .slice (some ⟨yq, 0, none⟩) yu.length yu.length, .int .i64 yh] 83))
      have M2 : Hid (FRow 4 (wr.alloc (.cells #[.int .i64 (yb : Int), .int .i64 yc, .int .i64 (yw : Int), .slice (some ⟨yq, 0, none⟩) yu.length yu.length, .int .i64 yh] 83)) yq yu.length (uV yu)) := Lib.hid (((Cha.refl (fun _ => False) wr).alloc _).row MK.out fun f => f)
      clear MK
      by_cases c1 : yc = (k : Int)
      · subst c1
        have c1b : ((k : Int) != (k : Int)) = false := by simp
        by_cases c2 : yh = (q : Int)
        · subst c2
          have c2b : ((q : Int) == (q : Int)) = true := by simp
          have C61 := Lib.hid (dfree_any (yb : Int) (k : Int) (yw : Int) (q : Int) yu s2 M2.out)
          obtain ⟨fr, hfr⟩ : ∃ fr, fr = fre yu := ⟨_, rfl⟩
          rw [← hfr] at C61
          have G2 := Lib.hid (GONE.out rfl rfl)
          have NY : Hid (false ∉ yu → ∀ z ∈ D.take (j + 1), ¬ (z.1.h = (q : Int) ∧ z.1.c = (k : Int) ∧ false ∈ z.1.u)) := Lib.hid fun e => NX.out fun hh => e hh.2.2
          have HY := Lib.hid (HELD.out rfl rfl)
          have FR := Lib.hid hfr
          clear GONE SAME HELD NX
          by_cases c3 : false ∈ yu
          · have hf1 : 0 ≤ fr := by rw [hfr, fre_yes c3]; omega
            have C3 := Lib.hid c3
            clear c3 hfr
            go_wp2_with (go_at_call 61; ((with_reducible refine (C61.out).mono ?_); rintro e w3 ⟨rfl, hc⟩; have C4 := Lib.hid (C2.out.trans hc); clear hc))
            go_ret2
            exact HY.out C3.out _ C4.out
          · have hf1 : ¬ 0 ≤ fr := by rw [hfr, fre_no c3]; omega
            have C3 := Lib.hid c3
            have b1 : wr.heap.size ≠ g := by omega
            have z4 := cell_of_row _ _ 4 _ 83 (0, 0) XX.out
            have KX : Hid (∀ w3, Cha (fun _ => False) (wr.alloc (.cells #[.int .i64 (yb : Int), .int .i64 (k : Int), .int .i64 (yw : Int), .slice (some ⟨yq, 0, none⟩) yu.length yu.length, .int .i64 (q : Int)] 83)) w3 → w3.cell? ⟨wr.heap.size, 4, none⟩ = some (.int .i64 (q : Int)) ∧ w3.cell? ⟨dc, 1, none⟩ = some (.slice (some ⟨g, o, none⟩) D.length cap) ∧ (∃ x, w3.cell? ⟨g, o + j * 5 + 4, none⟩ = some x) ∧ w3.frozen? ⟨g, o + j * 5 + 4, none⟩ = false) := Lib.hid fun w3 c => by
              have h4 := cell_of_row _ _ 4 _ 83 (0, 0) ((c.old _ (by rw [World.size_alloc]; omega) (fun f => f)).trans XX.out)
              have ca := C2.out.trans c
              exact ⟨h4, (cha_cell ca (block_lt_of_cell d1)).trans d1, ⟨_, (cha_cell ca hgw).trans q4⟩, (cha_frozen ca hgw).trans f4⟩
            clear c3 hfr
            go_wp2_with (go_at_call 61; ((with_reducible refine (C61.out).mono ?_); rintro e w3 ⟨rfl, hc⟩; obtain ⟨x4, x1, ⟨xv, x5⟩, x6⟩ := KX.out _ hc; have C4 := Lib.hid (C2.out.trans hc); clear hc))
            go_roundw
            case rel => exact ⟨j + 1, hlt, by go_num, (G2.out _ C4.out).1, (G2.out _ C4.out).2, NY.out C3.out⟩
            case measure => simp [intOf]; omega
        · have c2b : (yh == (q : Int)) = false := beq_eq_false_iff_ne.2 c2
          have S2 := Lib.hid (SAME.out fun hh => c2 hh.1)
          have N2 := Lib.hid (NX.out fun hh => c2 hh.1)
          clear GONE SAME HELD NX c2
          go_wp2
          go_roundw
          case rel => exact ⟨j + 1, hlt, by go_num, (S2.out _ C2.out).1, (S2.out _ C2.out).2, N2.out⟩
          case measure => simp [intOf]; omega
      · have c1b : (yc != (k : Int)) = true := by simpa using c1
        have S2 := Lib.hid (SAME.out fun hh => c1 hh.2)
        have N2 := Lib.hid (NX.out fun hh => c1 hh.2.1)
        clear GONE SAME HELD NX c1
        go_wp2
        go_roundw
        case rel => exact ⟨j + 1, hlt, by go_num, (S2.out _ C2.out).1, (S2.out _ C2.out).2, N2.out⟩
        case measure => simp [intOf]; omega
    · obtain rfl : j = D.length := by omega
      have NH : Hid (NoHeld (bks D) q k) := Lib.hid fun z hz e1 e2 e3 => by
        obtain ⟨x, hx, rfl⟩ := List.mem_map.1 hz
        exact HN.out x (by rw [List.take_length]; exact hx) ⟨e1, e2, e3⟩
      have hE := HE.out
      rw [stg_all] at hE
      have L2 : Hid ((D.map (unq q k)).length = D.length) := Lib.hid (List.length_map _)
      have B2 : Hid (bks (D.map (unq q k)) = unh (bks D) q k) := Lib.hid bks_unq
      have E1 := Lib.hid hE
      clear hE HE HN
      generalize wr = w1 at *
      go_wp2
      go_loopw [8, 11] (fun b i w2 => ∃ (j : Nat) (bb : Int), j ≤ D.length ∧ b = .int .i64 bb ∧ i = .int .i64 (j : Int) ∧ Bst (D.map (unq q k)) k j bb ∧ Cha (fun _ => False) w1 w2) (fun _ i _ => D.length - (intOf i).toNat)
      case atStart => exact ⟨0, -1, Nat.zero_le _, rfl, rfl, .inl ⟨rfl, fun z hz => by simp at hz⟩, Cha.refl _ _⟩
      case round =>
        obtain ⟨j, bb, hj, rfl, rfl, hB, hC2⟩ := hrel
        have HB := Lib.hid hB
        have HC2 := Lib.hid hC2
        have E2 := Lib.hid (E1.out.same hC2)
        clear hB hC2 d1
        have d1 := E2.out.c1
        by_cases hlt : j < D.length
        · have hlt2 : j < (D.map (unq q k)).length := by rw [L2.out]; exact hlt
          obtain ⟨g, o, cap', e, _, hcm, hA, hf⟩ := E2.out.at hlt2
          rw [L2.out] at e
          cases e
          obtain ⟨y, hy⟩ : ∃ y, y = (D.map (unq q k))[j] := ⟨_, rfl⟩
          have hym : y ∈ D.map (unq q k) := by rw [hy]; exact List.getElem_mem _
          obtain ⟨s1, s2, s3, s4⟩ := E2.out.small hym
          have MK := Lib.hid (E2.out.mrk y hym)
          have hgw : g < wr.heap.size := block_lt_of_cell hA.c0
          rw [← hy] at hA
          have NOOP : Hid (¬ op k y.1 → Bst (D.map (unq q k)) k (j + 1) bb) := Lib.hid fun e => HB.out.skip hlt2 (by rw [← hy]; exact e)
          have FIRST : Hid (op k y.1 → bb = -1 → Bst (D.map (unq q k)) k (j + 1) (j : Int)) := Lib.hid fun e e2 => by
            have hb := HB.out
            rw [e2] at hb
            exact hb.first hlt2 (by rw [← hy]; exact e)
          have BEST : Hid (bb = -1 ∨ ∃ (m : Nat) (bm : Nat), bb = (m : Int) ∧ m < D.length ∧ bm ≤ 4096 ∧ wr.cell? ⟨g, o + m * 5, none⟩ = some (.int .i64 (bm : Int)) ∧ (op k y.1 → y.1.b < bm → Bst (D.map (unq q k)) k (j + 1) (j : Int)) ∧ (¬ y.1.b < bm → Bst (D.map (unq q k)) k (j + 1) (m : Int))) := Lib.hid (by
            have hb := HB.out
            rcases hb with ⟨e, _⟩ | ⟨m, z, hz, hm, e, ho, hle⟩
            · exact .inl e
            · have hb := HB.out
              rw [e] at hb
              obtain ⟨hm2, hz2⟩ := List.getElem?_eq_some_iff.1 hz
              obtain ⟨g2, o2, cap2, e2, _, _, hA2, _⟩ := E2.out.at hm2
              rw [L2.out] at e2
              cases e2
              obtain ⟨_, _, _, t4⟩ := E2.out.small (List.getElem_mem hm2)
              rw [hz2] at hA2 t4
              exact .inr ⟨m, z.1.b, e, by omega, t4, hA2.c0, fun ho hl => hb.less hlt2 (by rw [← hy]; exact ho) hz (by rw [← hy]; exact hl), fun hl => hb.more hlt2 hz (by rw [← hy]; exact hl)⟩)
          clear hy hym hf HB
          obtain ⟨q0, q1, q2, q3, q4⟩ := hA
          obtain ⟨⟨yb, yk, yc, yw, yu, yh⟩, yq⟩ := y
          simp only at q0 q1 q2 q3 q4 s1 s2 s3 s4
          have OP : Hid (∀ b1 k1 c1 w1 u1 h1, op k ⟨b1, k1, c1, w1, u1, h1⟩ ↔ c1 = (k : Int) ∧ ¬ 0 ≤ h1 ∧ false ∈ u1) := Lib.hid fun _ _ _ _ _ _ => Iff.rfl
          have C2 : Hid (Cha (fun _ => False) wr (wr.alloc (.cells #[.int .i64 (yb : Int), .int .i64 yc, .int .i64 (yw : Int), .slice (some ⟨yq, 0, none⟩) yu.length yu.length, .int .i64 yh] 83))) := Lib.hid ((Cha.refl (fun _ => False) wr).alloc (.cells #[.int .i64 (yb : Int), .int .i64 yc, .int .i64 (yw : Int), .slice (some ⟨yq, 0, none⟩) yu.length yu.length, .int .i64 yh] 83))
          have XX := Lib.hid (heap_alloc_new wr (.cells #[.int .i64 (yb : Int), .int .i64 yc, .int .i64 (yw : Int), .slice (some ⟨yq, 0, none⟩) yu.length yu.length, .int .i64 yh] 83))
          have C61 : Hid (∀ w3, Cha (fun _ => False) (wr.alloc (.cells #[.int .i64 (yb : Int), .int .i64 yc, .int .i64 (yw : Int), .slice (some ⟨yq, 0, none⟩) yu.length yu.length, .int .i64 yh] 83)) w3 → Calls Tryd.prog 61 #[.agg #[.int .i64 (yb : Int), .int .i64 yc, .int .i64 (yw : Int), .slice (some ⟨yq, 0, none⟩) yu.length yu.length, .int .i64 yh]] w3 fun e w' => e = .returned (.int .i64 (fre yu)) ∧ Cha (fun _ => False) w3 w') := Lib.hid fun w3 c => dfree_any (yb : Int) yc (yw : Int) yh yu s2 ((((Cha.refl (fun _ => False) wr).alloc _).trans c).row MK.out fun f => f)
          have NOF : Hid (fre yu < 0 → false ∉ yu) := Lib.hid fun e hm => by rw [fre_yes hm] at e; omega
          have YOF : Hid (¬ fre yu < 0 → false ∈ yu) := Lib.hid fun e => by
            by_cases hm : false ∈ yu
            · exact hm
            · rw [fre_no hm] at e; omega
          have ONE : fre yu < 0 → fre yu = -1 := fun e => fre_no fun hm => by rw [fre_yes hm] at e; omega
          clear MK
          generalize fre yu = fr at *
          by_cases c1 : yc = (k : Int)
          · subst c1
            have c1b : ((k : Int) == (k : Int)) = true := by simp
            by_cases c2 : yh < 0
            · have CD : Hid (∀ w3, Cha (fun _ => False) (wr.alloc (.cells #[.int .i64 (yb : Int), .int .i64 (k : Int), .int .i64 (yw : Int), .slice (some ⟨yq, 0, none⟩) yu.length yu.length, .int .i64 yh] 83)).drew w3 → w3.cell? ⟨wr.heap.size, 0, none⟩ = some (.int .i64 (yb : Int)) ∧ w3.cell? ⟨wr.heap.size, 1, none⟩ = some (.int .i64 (k : Int)) ∧ w3.cell? ⟨wr.heap.size, 2, none⟩ = some (.int .i64 (yw : Int)) ∧ w3.cell? ⟨wr.heap.size, 3, none⟩ = some (.slice (some ⟨yq, 0, none⟩) yu.length yu.length) ∧ w3.cell? ⟨wr.heap.size, 4, none⟩ = some (.int .i64 yh) ∧ w3.cell? ⟨dc, 1, none⟩ = some (.slice (some ⟨g, o, none⟩) D.length cap)) := Lib.hid fun w3 c' => by
                have c : Cha (fun _ => False) (wr.alloc (.cells #[.int .i64 (yb : Int), .int .i64 (k : Int), .int .i64 (yw : Int), .slice (some ⟨yq, 0, none⟩) yu.length yu.length, .int .i64 yh] 83)) w3 := ((Cha.refl _ _).drew).trans c'
                have hx := (c.old _ (by rw [World.size_alloc]; omega) (fun f => f)).trans XX.out
                exact ⟨cell_of_row _ _ 0 _ 83 (0, 0) hx, cell_of_row _ _ 1 _ 83 (0, 0) hx, cell_of_row _ _ 2 _ 83 (0, 0) hx, cell_of_row _ _ 3 _ 83 (0, 0) hx, cell_of_row _ _ 4 _ 83 (0, 0) hx, (cha_cell (C2.out.trans c) (block_lt_of_cell d1)).trans d1⟩
              have CE : Hid (∀ m bm, wr.cell? ⟨g, o + m * 5, none⟩ = some (.int .i64 ((bm : Nat) : Int)) → ∀ w3, Cha (fun _ => False) (wr.alloc (.cells #[.int .i64 (yb : Int), .int .i64 (k : Int), .int .i64 (yw : Int), .slice (some ⟨yq, 0, none⟩) yu.length yu.length, .int .i64 yh] 83)).drew w3 → w3.cell? ⟨g, o + m * 5, none⟩ = some (.int .i64 (bm : Int))) := Lib.hid fun m bm e w3 c' => by
                have c : Cha (fun _ => False) (wr.alloc (.cells #[.int .i64 (yb : Int), .int .i64 (k : Int), .int .i64 (yw : Int), .slice (some ⟨yq, 0, none⟩) yu.length yu.length, .int .i64 yh] 83)) w3 := ((Cha.refl _ _).drew).trans c'
                exact (cha_cell (C2.out.trans c) hgw).trans e
              have C9 : Hid (∀ w3, Cha (fun _ => False) (wr.alloc (.cells #[.int .i64 (yb : Int), .int .i64 (k : Int), .int .i64 (yw : Int), .slice (some ⟨yq, 0, none⟩) yu.length yu.length, .int .i64 yh] 83)).drew w3 → Cha (fun _ => False) w1 w3) := Lib.hid fun w3 c => HC2.out.trans (C2.out.trans (((Cha.refl _ _).drew).trans c))
              have hbb : bb = -1 ∨ ∃ m : Nat, bb = (m : Int) := BEST.out.imp id fun ⟨m, _, e, _⟩ => ⟨m, e⟩
              by_cases c3 : fr < 0
              · have N2 := Lib.hid (NOOP.out fun hh => NOF.out c3 hh.2.2)
                obtain rfl := ONE c3
                clear NOOP FIRST BEST OP NOF YOF c3 hbb CE ONE
                go_wp2
                clear q0 q1 q2 q3 q4
                have V0 := cell_of_row _ _ 0 _ 83 (0, 0) XX.out
                have V1 := cell_of_row _ _ 1 _ 83 (0, 0) XX.out
                have V2 := cell_of_row _ _ 2 _ 83 (0, 0) XX.out
                have V3 := cell_of_row _ _ 3 _ 83 (0, 0) XX.out
                have V4 := cell_of_row _ _ 4 _ 83 (0, 0) XX.out
                refine wp_region_held_drew (S := (fun w3 => w3.cell? ⟨wr.heap.size, 0, none⟩ = some (.int .i64 (yb : Int)) ∧ w3.cell? ⟨wr.heap.size, 1, none⟩ = some (.int .i64 (k : Int)) ∧ w3.cell? ⟨wr.heap.size, 2, none⟩ = some (.int .i64 (yw : Int)) ∧ w3.cell? ⟨wr.heap.size, 3, none⟩ = some (.slice (some ⟨yq, 0, none⟩) yu.length yu.length) ∧ w3.cell? ⟨wr.heap.size, 4, none⟩ = some (.int .i64 yh) ∧ w3.cell? ⟨dc, 1, none⟩ = some (.slice (some ⟨g, o, none⟩) D.length cap))) (by kernel_rfl) ?_ (fun hHeld => ?_)
                · (try dsimp only)
                  first | exact CD.out _ (Cha.refl _ _) | exact CD.out _ (by assumption) | go_keep
                refine wpAnyH_take (i := 0) (oi := { dst := some 72, op := Op.fieldAddr 83 (Operand.tmp 12) 1, type := 0, pos := "ref.go:84", after := #[], guard := none }) (v := ?_) rfl (by kernel_rfl) (by kernel_rfl) (by kernel_rfl) (fun _ _ _ h => h) (Or.inl ⟨by rfl, ?_⟩) (by assumption) ?_
                rotate_left
                · intro w hSw; (try dsimp only at hSw); go_simp; (try with_reducible rfl)
                try simp only [Act.put, List.setIfInBounds_toArray, List.set_cons_zero, List.set_cons_succ]
                refine wpAnyH_take (i := 1) (oi := { dst := some 73, op := Op.load 3 (Operand.tmp 72), type := 3, pos := "ref.go:84", after := #[{ on := 0, ground := Ground.data }], guard := none }) (v := ?_) rfl (by kernel_rfl) (by kernel_rfl) (by kernel_rfl) (fun _ _ _ h => h) (Or.inl ⟨by rfl, ?_⟩) (by assumption) ?_
                rotate_left
                · intro w hSw; (try dsimp only at hSw); go_simp; (try with_reducible rfl)
                try simp only [Act.put, List.setIfInBounds_toArray, List.set_cons_zero, List.set_cons_succ]
                refine wpAnyH_take (i := 2) (oi := { dst := some 74, op := Op.move (Operand.tmp 2), type := 3, pos := "ref.go:84", after := #[], guard := none }) (v := ?_) rfl (by kernel_rfl) (by kernel_rfl) (by kernel_rfl) (fun _ _ _ h => h) (Or.inl ⟨by rfl, ?_⟩) (by assumption) ?_
                rotate_left
                · intro w hSw; (try dsimp only at hSw); go_simp; (try with_reducible rfl)
                try simp only [Act.put, List.setIfInBounds_toArray, List.set_cons_zero, List.set_cons_succ]
                refine wpAnyH_take (i := 3) (oi := { dst := some 75, op := Op.binOp BinOp.eql 3 (Operand.tmp 73) (Operand.tmp 74) 3, type := 4, pos := "ref.go:84", after := #[{ on := 1, ground := Ground.data }, { on := 2, ground := Ground.data }], guard := none }) (v := ?_) rfl (by kernel_rfl) (by kernel_rfl) (by kernel_rfl) (fun _ _ _ h => h) (Or.inl ⟨by rfl, ?_⟩) (by assumption) ?_
                rotate_left
                · intro w hSw; (try dsimp only at hSw); go_simp; (try with_reducible rfl)
                try simp only [Act.put, List.setIfInBounds_toArray, List.set_cons_zero, List.set_cons_succ]
                refine wpAnyH_take (i := 4) (oi := { dst := some 76, op := Op.move (Operand.tmp 75), type := 4, pos := "ref.go:84", after := #[{ on := 3, ground := Ground.data }], guard := none }) (v := ?_) rfl (by kernel_rfl) (by kernel_rfl) (by kernel_rfl) (fun _ _ _ h => h) (Or.inl ⟨by rfl, ?_⟩) (by assumption) ?_
                rotate_left
                · intro w hSw; (try dsimp only at hSw); go_simp; (try with_reducible rfl)
                try simp only [Act.put, List.setIfInBounds_toArray, List.set_cons_zero, List.set_cons_succ]
                refine wpAnyH_take (i := 5) (oi := { dst := some 77, op := Op.fieldAddr 83 (Operand.tmp 12) 4, type := 0, pos := "ref.go:84", after := #[{ on := 4, ground := Ground.guard }], guard := some (4, true) }) (v := ?_) rfl (by kernel_rfl) (by kernel_rfl) (by kernel_rfl) (fun _ _ _ h => h) (Or.inl ⟨by rfl, ?_⟩) (by assumption) ?_
                rotate_left
                · intro w hSw; (try dsimp only at hSw); go_simp; (try with_reducible rfl)
                try simp only [Act.put, List.setIfInBounds_toArray, List.set_cons_zero, List.set_cons_succ]
                refine wpAnyH_take (i := 6) (oi := { dst := some 78, op := Op.load 3 (Operand.tmp 77), type := 3, pos := "ref.go:84", after := #[{ on := 5, ground := Ground.data }, { on := 4, ground := Ground.guard }], guard := some (4, true) }) (v := ?_) rfl (by kernel_rfl) (by kernel_rfl) (by kernel_rfl) (fun _ _ _ h => h) (Or.inl ⟨by rfl, ?_⟩) (by assumption) ?_
                rotate_left
                · intro w hSw; (try dsimp only at hSw); go_simp; (try with_reducible rfl)
                try simp only [Act.put, List.setIfInBounds_toArray, List.set_cons_zero, List.set_cons_succ]
                refine wpAnyH_take (i := 7) (oi := { dst := some 79, op := Op.binOp BinOp.lss 3 (Operand.tmp 78) (Operand.const (Value.int IntKind.i64 0)) 3, type := 4, pos := "ref.go:84", after := #[{ on := 6, ground := Ground.data }, { on := 4, ground := Ground.guard }], guard := some (4, true) }) (v := ?_) rfl (by kernel_rfl) (by kernel_rfl) (by kernel_rfl) (fun _ _ _ h => h) (Or.inl ⟨by rfl, ?_⟩) (by assumption) ?_
                rotate_left
                · intro w hSw; (try dsimp only at hSw); go_simp; (try with_reducible rfl)
                try simp only [Act.put, List.setIfInBounds_toArray, List.set_cons_zero, List.set_cons_succ]
                refine wpAnyH_take (i := 8) (oi := { dst := some 80, op := Op.pick (Operand.tmp 76) (Operand.tmp 79) (Operand.const (Value.bool false)), type := 4, pos := "ref.go:84", after := #[{ on := 4, ground := Ground.data }, { on := 7, ground := Ground.data }], guard := none }) (v := ?_) rfl (by kernel_rfl) (by kernel_rfl) (by kernel_rfl) (fun _ _ _ h => h) (Or.inl ⟨by rfl, ?_⟩) (by assumption) ?_
                rotate_left
                · intro w hSw; (try dsimp only at hSw); go_simp; (try with_reducible rfl)
                try simp only [Act.put, List.setIfInBounds_toArray, List.set_cons_zero, List.set_cons_succ]
                refine wpAnyH_take (i := 9) (oi := { dst := some 81, op := Op.move (Operand.tmp 80), type := 4, pos := "ref.go:84", after := #[{ on := 8, ground := Ground.data }, { on := 4, ground := Ground.chain }], guard := none }) (v := ?_) rfl (by kernel_rfl) (by kernel_rfl) (by kernel_rfl) (fun _ _ _ h => h) (Or.inl ⟨by rfl, ?_⟩) (by assumption) ?_
                rotate_left
                · intro w hSw; (try dsimp only at hSw); go_simp; (try with_reducible rfl)
                try simp only [Act.put, List.setIfInBounds_toArray, List.set_cons_zero, List.set_cons_succ]
                refine wpAnyH_take (i := 10) (oi := { dst := some 82, op := Op.load 83 (Operand.tmp 12), type := 83, pos := "ref.go:84", after := #[{ on := 9, ground := Ground.guard }], guard := some (9, true) }) (v := ?_) rfl (by kernel_rfl) (by kernel_rfl) (by kernel_rfl) (fun _ _ _ h => h) (Or.inl ⟨by rfl, ?_⟩) (by assumption) ?_
                rotate_left
                · intro w hSw; (try dsimp only at hSw); go_simp; (try with_reducible rfl)
                try simp only [Act.put, List.setIfInBounds_toArray, List.set_cons_zero, List.set_cons_succ]
                refine wpAnyH_ready (rs := [11]) (by kernel_rfl) (by simp) (AllReadyH.cons (o := { dst := some 83, op := Op.call { callee := Callee.value (Operand.func 61), args := #[Operand.tmp 82], argTypes := #[83] }, type := 3, pos := "ref.go:84", after := #[{ on := 10, ground := Ground.data }, { on := 9, ground := Ground.chain }, { on := 9, ground := Ground.guard }], guard := some (9, true) }) rfl (fun K hK => ?_) AllReadyH.nil)
                go_simp
                go_at_call 61
                refine (C61.out _ (Cha.refl _ _).drew).mono ?_
                rintro e5 w5 ⟨rfl, e9⟩
                (try go_simp)
                refine hK.out _ _ ?_ (fun hHeld => ?_)
                · (try dsimp only)
                  first | exact CD.out _ (Cha.refl _ _) | exact CD.out _ (by assumption) | go_keep
                clear hK K
                try simp only [Act.put, List.setIfInBounds_toArray, List.set_cons_zero, List.set_cons_succ]
                refine wpAnyH_take (i := 12) (oi := { dst := some 84, op := Op.binOp BinOp.geq 3 (Operand.tmp 83) (Operand.const (Value.int IntKind.i64 0)) 3, type := 4, pos := "ref.go:84", after := #[{ on := 11, ground := Ground.data }, { on := 9, ground := Ground.guard }], guard := some (9, true) }) (v := ?_) rfl (by kernel_rfl) (by kernel_rfl) (by kernel_rfl) (fun _ _ _ h => h) (Or.inl ⟨by rfl, ?_⟩) (by assumption) ?_
                rotate_left
                · intro w hSw; (try dsimp only at hSw); go_simp; (try with_reducible rfl)
                try simp only [Act.put, List.setIfInBounds_toArray, List.set_cons_zero, List.set_cons_succ]
                refine wpAnyH_take (i := 13) (oi := { dst := some 85, op := Op.pick (Operand.tmp 81) (Operand.tmp 84) (Operand.const (Value.bool false)), type := 4, pos := "ref.go:84", after := #[{ on := 9, ground := Ground.data }, { on := 12, ground := Ground.data }], guard := none }) (v := ?_) rfl (by kernel_rfl) (by kernel_rfl) (by kernel_rfl) (fun _ _ _ h => h) (Or.inl ⟨by rfl, ?_⟩) (by assumption) ?_
                rotate_left
                · intro w hSw; (try dsimp only at hSw); go_simp; (try with_reducible rfl)
                try simp only [Act.put, List.setIfInBounds_toArray, List.set_cons_zero, List.set_cons_succ]
                refine wpAnyH_take (i := 14) (oi := { dst := some 86, op := Op.move (Operand.tmp 85), type := 4, pos := "ref.go:84", after := #[{ on := 13, ground := Ground.data }, { on := 11, ground := Ground.chain }], guard := none }) (v := ?_) rfl (by kernel_rfl) (by kernel_rfl) (by kernel_rfl) (fun _ _ _ h => h) (Or.inl ⟨by rfl, ?_⟩) (by assumption) ?_
                rotate_left
                · intro w hSw; (try dsimp only at hSw); go_simp; (try with_reducible rfl)
                try simp only [Act.put, List.setIfInBounds_toArray, List.set_cons_zero, List.set_cons_succ]
                refine wpAnyH_take (i := 15) (oi := { dst := some 87, op := Op.move (Operand.tmp 8), type := 3, pos := "ref.go:84", after := #[{ on := 14, ground := Ground.guard }], guard := some (14, true) }) (v := undef) rfl (by kernel_rfl) (by kernel_rfl) (by kernel_rfl) (fun _ _ _ h => h) (Or.inr ⟨by rfl, rfl⟩) (by assumption) ?_
                try simp only [Act.put, List.setIfInBounds_toArray, List.set_cons_zero, List.set_cons_succ]
                refine wpAnyH_take (i := 16) (oi := { dst := some 88, op := Op.binOp BinOp.lss 3 (Operand.tmp 87) (Operand.const (Value.int IntKind.i64 0)) 3, type := 4, pos := "ref.go:84", after := #[{ on := 15, ground := Ground.data }, { on := 14, ground := Ground.guard }], guard := some (14, true) }) (v := undef) rfl (by kernel_rfl) (by kernel_rfl) (by kernel_rfl) (fun _ _ _ h => h) (Or.inr ⟨by rfl, rfl⟩) (by assumption) ?_
                try simp only [Act.put, List.setIfInBounds_toArray, List.set_cons_zero, List.set_cons_succ]
                refine wpAnyH_take (i := 17) (oi := { dst := some 89, op := Op.move (Operand.tmp 88), type := 4, pos := "ref.go:84", after := #[{ on := 16, ground := Ground.data }, { on := 14, ground := Ground.chain }, { on := 14, ground := Ground.guard }], guard := some (14, true) }) (v := undef) rfl (by kernel_rfl) (by kernel_rfl) (by kernel_rfl) (fun _ _ _ h => h) (Or.inr ⟨by rfl, rfl⟩) (by assumption) ?_
                try simp only [Act.put, List.setIfInBounds_toArray, List.set_cons_zero, List.set_cons_succ]
                refine wpAnyH_take (i := 18) (oi := { dst := some 90, op := Op.fieldAddr 83 (Operand.tmp 12) 0, type := 0, pos := "ref.go:84", after := #[{ on := 17, ground := Ground.guard }], guard := some (17, false) }) (v := undef) rfl (by kernel_rfl) (by kernel_rfl) (by kernel_rfl) (fun _ _ _ h => h) (Or.inr ⟨by rfl, rfl⟩) (by assumption) ?_
                try simp only [Act.put, List.setIfInBounds_toArray, List.set_cons_zero, List.set_cons_succ]
                refine wpAnyH_take (i := 19) (oi := { dst := some 91, op := Op.load 3 (Operand.tmp 90), type := 3, pos := "ref.go:84", after := #[{ on := 18, ground := Ground.data }, { on := 17, ground := Ground.guard }], guard := some (17, false) }) (v := undef) rfl (by kernel_rfl) (by kernel_rfl) (by kernel_rfl) (fun _ _ _ h => h) (Or.inr ⟨by rfl, rfl⟩) (by assumption) ?_
                try simp only [Act.put, List.setIfInBounds_toArray, List.set_cons_zero, List.set_cons_succ]
                refine wpAnyH_take (i := 20) (oi := { dst := some 92, op := Op.move (Operand.tmp 0), type := 36, pos := "ref.go:84", after := #[{ on := 17, ground := Ground.guard }], guard := some (17, false) }) (v := undef) rfl (by kernel_rfl) (by kernel_rfl) (by kernel_rfl) (fun _ _ _ h => h) (Or.inr ⟨by rfl, rfl⟩) (by assumption) ?_
                try simp only [Act.put, List.setIfInBounds_toArray, List.set_cons_zero, List.set_cons_succ]
                refine wpAnyH_take (i := 21) (oi := { dst := some 93, op := Op.nilCheck (Operand.tmp 92), type := 0, pos := "ref.go:84", after := #[{ on := 20, ground := Ground.data }, { on := 17, ground := Ground.guard }], guard := some (17, false) }) (v := undef) rfl (by kernel_rfl) (by kernel_rfl) (by kernel_rfl) (fun _ _ _ h => h) (Or.inr ⟨by rfl, rfl⟩) (by assumption) ?_
                try simp only [Act.put, List.setIfInBounds_toArray, List.set_cons_zero, List.set_cons_succ]
                refine wpAnyH_take (i := 22) (oi := { dst := some 94, op := Op.fieldAddr 72 (Operand.tmp 93) 1, type := 0, pos := "ref.go:84", after := #[{ on := 21, ground := Ground.data }, { on := 17, ground := Ground.guard }], guard := some (17, false) }) (v := undef) rfl (by kernel_rfl) (by kernel_rfl) (by kernel_rfl) (fun _ _ _ h => h) (Or.inr ⟨by rfl, rfl⟩) (by assumption) ?_
                try simp only [Act.put, List.setIfInBounds_toArray, List.set_cons_zero, List.set_cons_succ]
                refine wpAnyH_take (i := 23) (oi := { dst := some 95, op := Op.load 70 (Operand.tmp 94), type := 70, pos := "ref.go:84", after := #[{ on := 22, ground := Ground.data }, { on := 17, ground := Ground.guard }], guard := some (17, false) }) (v := undef) rfl (by kernel_rfl) (by kernel_rfl) (by kernel_rfl) (fun _ _ _ h => h) (Or.inr ⟨by rfl, rfl⟩) (by assumption) ?_
                try simp only [Act.put, List.setIfInBounds_toArray, List.set_cons_zero, List.set_cons_succ]
                refine wpAnyH_take (i := 24) (oi := { dst := some 96, op := Op.move (Operand.tmp 8), type := 3, pos := "ref.go:84", after := #[{ on := 17, ground := Ground.guard }], guard := some (17, false) }) (v := undef) rfl (by kernel_rfl) (by kernel_rfl) (by kernel_rfl) (fun _ _ _ h => h) (Or.inr ⟨by rfl, rfl⟩) (by assumption) ?_
                try simp only [Act.put, List.setIfInBounds_toArray, List.set_cons_zero, List.set_cons_succ]
                refine wpAnyH_take (i := 25) (oi := { dst := some 97, op := Op.indexAddr 70 (Operand.tmp 95) (Operand.tmp 96), type := 0, pos := "ref.go:84", after := #[{ on := 23, ground := Ground.data }, { on := 24, ground := Ground.data }, { on := 17, ground := Ground.guard }], guard := some (17, false) }) (v := undef) rfl (by kernel_rfl) (by kernel_rfl) (by kernel_rfl) (fun _ _ _ h => h) (Or.inr ⟨by rfl, rfl⟩) (by assumption) ?_
                try simp only [Act.put, List.setIfInBounds_toArray, List.set_cons_zero, List.set_cons_succ]
                refine wpAnyH_take (i := 26) (oi := { dst := some 98, op := Op.fieldAddr 83 (Operand.tmp 97) 0, type := 0, pos := "ref.go:84", after := #[{ on := 25, ground := Ground.data }, { on := 17, ground := Ground.guard }], guard := some (17, false) }) (v := undef) rfl (by kernel_rfl) (by kernel_rfl) (by kernel_rfl) (fun _ _ _ h => h) (Or.inr ⟨by rfl, rfl⟩) (by assumption) ?_
                try simp only [Act.put, List.setIfInBounds_toArray, List.set_cons_zero, List.set_cons_succ]
                refine wpAnyH_take (i := 27) (oi := { dst := some 99, op := Op.load 3 (Operand.tmp 98), type := 3, pos := "ref.go:84", after := #[{ on := 26, ground := Ground.data }, { on := 17, ground := Ground.guard }], guard := some (17, false) }) (v := undef) rfl (by kernel_rfl) (by kernel_rfl) (by kernel_rfl) (fun _ _ _ h => h) (Or.inr ⟨by rfl, rfl⟩) (by assumption) ?_
                try simp only [Act.put, List.setIfInBounds_toArray, List.set_cons_zero, List.set_cons_succ]
                refine wpAnyH_take (i := 28) (oi := { dst := some 100, op := Op.binOp BinOp.lss 3 (Operand.tmp 91) (Operand.tmp 99) 3, type := 4, pos := "ref.go:84", after := #[{ on := 19, ground := Ground.data }, { on := 27, ground := Ground.data }, { on := 17, ground := Ground.guard }], guard := some (17, false) }) (v := undef) rfl (by kernel_rfl) (by kernel_rfl) (by kernel_rfl) (fun _ _ _ h => h) (Or.inr ⟨by rfl, rfl⟩) (by assumption) ?_
                try simp only [Act.put, List.setIfInBounds_toArray, List.set_cons_zero, List.set_cons_succ]
                refine wpAnyH_take (i := 29) (oi := { dst := some 101, op := Op.pick (Operand.tmp 89) (Operand.const (Value.bool true)) (Operand.tmp 100), type := 4, pos := "ref.go:84", after := #[{ on := 17, ground := Ground.data }, { on := 28, ground := Ground.data }, { on := 14, ground := Ground.guard }], guard := some (14, true) }) (v := undef) rfl (by kernel_rfl) (by kernel_rfl) (by kernel_rfl) (fun _ _ _ h => h) (Or.inr ⟨by rfl, rfl⟩) (by assumption) ?_
                try simp only [Act.put, List.setIfInBounds_toArray, List.set_cons_zero, List.set_cons_succ]
                refine wpAnyH_take (i := 30) (oi := { dst := some 102, op := Op.pick (Operand.tmp 86) (Operand.tmp 101) (Operand.const (Value.bool false)), type := 4, pos := "ref.go:84", after := #[{ on := 14, ground := Ground.data }, { on := 29, ground := Ground.data }], guard := none }) (v := ?_) rfl (by kernel_rfl) (by kernel_rfl) (by kernel_rfl) (fun _ _ _ h => h) (Or.inl ⟨by rfl, ?_⟩) (by assumption) ?_
                rotate_left
                · intro w hSw; (try dsimp only at hSw); go_simp; (try with_reducible rfl)
                try simp only [Act.put, List.setIfInBounds_toArray, List.set_cons_zero, List.set_cons_succ]
                refine wpAnyH_done (by kernel_rfl) ?_ _
                all_goals
                  have HN9 := Lib.hid (C9.out _ e9)
                  clear e9
                  go_wp2
                  go_roundw
                  case rel => exact ⟨j + 1, bb, hlt, rfl, by go_num, N2.out, HN9.out⟩
                  case measure => simp [intOf]; omega
              · have c3n : 0 ≤ fr := by omega
                clear ONE
                have HOP : Hid (op k ⟨yb, yk, (k : Int), yw, yu, yh⟩) := Lib.hid ((OP.out _ _ _ _ _ _).2 ⟨rfl, by omega, YOF.out c3⟩)
                rcases BEST.out with e | ⟨m, bm, e, hm, hbm, hcell, hless, hmore⟩
                · subst e
                  have N2 := Lib.hid (FIRST.out HOP.out rfl)
                  clear NOOP FIRST BEST OP NOF YOF c3 hbb CE HOP
                  go_wp2
                  clear q0 q1 q2 q3 q4
                  have V0 := cell_of_row _ _ 0 _ 83 (0, 0) XX.out
                  have V1 := cell_of_row _ _ 1 _ 83 (0, 0) XX.out
                  have V2 := cell_of_row _ _ 2 _ 83 (0, 0) XX.out
                  have V3 := cell_of_row _ _ 3 _ 83 (0, 0) XX.out
                  have V4 := cell_of_row _ _ 4 _ 83 (0, 0) XX.out
                  refine wp_region_held_drew (S := (fun w3 => w3.cell? ⟨wr.heap.size, 0, none⟩ = some (.int .i64 (yb : Int)) ∧ w3.cell? ⟨wr.heap.size, 1, none⟩ = some (.int .i64 (k : Int)) ∧ w3.cell? ⟨wr.heap.size, 2, none⟩ = some (.int .i64 (yw : Int)) ∧ w3.cell? ⟨wr.heap.size, 3, none⟩ = some (.slice (some ⟨yq, 0, none⟩) yu.length yu.length) ∧ w3.cell? ⟨wr.heap.size, 4, none⟩ = some (.int .i64 yh) ∧ w3.cell? ⟨dc, 1, none⟩ = some (.slice (some ⟨g, o, none⟩) D.length cap))) (by kernel_rfl) ?_ (fun hHeld => ?_)
                  · (try dsimp only)
                    first | exact CD.out _ (Cha.refl _ _) | exact CD.out _ (by assumption) | go_keep
                  refine wpAnyH_take (i := 0) (oi := { dst := some 72, op := Op.fieldAddr 83 (Operand.tmp 12) 1, type := 0, pos := "ref.go:84", after := #[], guard := none }) (v := ?_) rfl (by kernel_rfl) (by kernel_rfl) (by kernel_rfl) (fun _ _ _ h => h) (Or.inl ⟨by rfl, ?_⟩) (by assumption) ?_
                  rotate_left
                  · intro w hSw; (try dsimp only at hSw); go_simp; (try with_reducible rfl)
                  try simp only [Act.put, List.setIfInBounds_toArray, List.set_cons_zero, List.set_cons_succ]
                  refine wpAnyH_take (i := 1) (oi := { dst := some 73, op := Op.load 3 (Operand.tmp 72), type := 3, pos := "ref.go:84", after := #[{ on := 0, ground := Ground.data }], guard := none }) (v := ?_) rfl (by kernel_rfl) (by kernel_rfl) (by kernel_rfl) (fun _ _ _ h => h) (Or.inl ⟨by rfl, ?_⟩) (by assumption) ?_
                  rotate_left
                  · intro w hSw; (try dsimp only at hSw); go_simp; (try with_reducible rfl)
                  try simp only [Act.put, List.setIfInBounds_toArray, List.set_cons_zero, List.set_cons_succ]
                  refine wpAnyH_take (i := 2) (oi := { dst := some 74, op := Op.move (Operand.tmp 2), type := 3, pos := "ref.go:84", after := #[], guard := none }) (v := ?_) rfl (by kernel_rfl) (by kernel_rfl) (by kernel_rfl) (fun _ _ _ h => h) (Or.inl ⟨by rfl, ?_⟩) (by assumption) ?_
                  rotate_left
                  · intro w hSw; (try dsimp only at hSw); go_simp; (try with_reducible rfl)
                  try simp only [Act.put, List.setIfInBounds_toArray, List.set_cons_zero, List.set_cons_succ]
                  refine wpAnyH_take (i := 3) (oi := { dst := some 75, op := Op.binOp BinOp.eql 3 (Operand.tmp 73) (Operand.tmp 74) 3, type := 4, pos := "ref.go:84", after := #[{ on := 1, ground := Ground.data }, { on := 2, ground := Ground.data }], guard := none }) (v := ?_) rfl (by kernel_rfl) (by kernel_rfl) (by kernel_rfl) (fun _ _ _ h => h) (Or.inl ⟨by rfl, ?_⟩) (by assumption) ?_
                  rotate_left
                  · intro w hSw; (try dsimp only at hSw); go_simp; (try with_reducible rfl)
                  try simp only [Act.put, List.setIfInBounds_toArray, List.set_cons_zero, List.set_cons_succ]
                  refine wpAnyH_take (i := 4) (oi := { dst := some 76, op := Op.move (Operand.tmp 75), type := 4, pos := "ref.go:84", after := #[{ on := 3, ground := Ground.data }], guard := none }) (v := ?_) rfl (by kernel_rfl) (by kernel_rfl) (by kernel_rfl) (fun _ _ _ h => h) (Or.inl ⟨by rfl, ?_⟩) (by assumption) ?_
                  rotate_left
                  · intro w hSw; (try dsimp only at hSw); go_simp; (try with_reducible rfl)
                  try simp only [Act.put, List.setIfInBounds_toArray, List.set_cons_zero, List.set_cons_succ]
                  refine wpAnyH_take (i := 5) (oi := { dst := some 77, op := Op.fieldAddr 83 (Operand.tmp 12) 4, type := 0, pos := "ref.go:84", after := #[{ on := 4, ground := Ground.guard }], guard := some (4, true) }) (v := ?_) rfl (by kernel_rfl) (by kernel_rfl) (by kernel_rfl) (fun _ _ _ h => h) (Or.inl ⟨by rfl, ?_⟩) (by assumption) ?_
                  rotate_left
                  · intro w hSw; (try dsimp only at hSw); go_simp; (try with_reducible rfl)
                  try simp only [Act.put, List.setIfInBounds_toArray, List.set_cons_zero, List.set_cons_succ]
                  refine wpAnyH_take (i := 6) (oi := { dst := some 78, op := Op.load 3 (Operand.tmp 77), type := 3, pos := "ref.go:84", after := #[{ on := 5, ground := Ground.data }, { on := 4, ground := Ground.guard }], guard := some (4, true) }) (v := ?_) rfl (by kernel_rfl) (by kernel_rfl) (by kernel_rfl) (fun _ _ _ h => h) (Or.inl ⟨by rfl, ?_⟩) (by assumption) ?_
                  rotate_left
                  · intro w hSw; (try dsimp only at hSw); go_simp; (try with_reducible rfl)
                  try simp only [Act.put, List.setIfInBounds_toArray, List.set_cons_zero, List.set_cons_succ]
                  refine wpAnyH_take (i := 7) (oi := { dst := some 79, op := Op.binOp BinOp.lss 3 (Operand.tmp 78) (Operand.const (Value.int IntKind.i64 0)) 3, type := 4, pos := "ref.go:84", after := #[{ on := 6, ground := Ground.data }, { on := 4, ground := Ground.guard }], guard := some (4, true) }) (v := ?_) rfl (by kernel_rfl) (by kernel_rfl) (by kernel_rfl) (fun _ _ _ h => h) (Or.inl ⟨by rfl, ?_⟩) (by assumption) ?_
                  rotate_left
                  · intro w hSw; (try dsimp only at hSw); go_simp; (try with_reducible rfl)
                  try simp only [Act.put, List.setIfInBounds_toArray, List.set_cons_zero, List.set_cons_succ]
                  refine wpAnyH_take (i := 8) (oi := { dst := some 80, op := Op.pick (Operand.tmp 76) (Operand.tmp 79) (Operand.const (Value.bool false)), type := 4, pos := "ref.go:84", after := #[{ on := 4, ground := Ground.data }, { on := 7, ground := Ground.data }], guard := none }) (v := ?_) rfl (by kernel_rfl) (by kernel_rfl) (by kernel_rfl) (fun _ _ _ h => h) (Or.inl ⟨by rfl, ?_⟩) (by assumption) ?_
                  rotate_left
                  · intro w hSw; (try dsimp only at hSw); go_simp; (try with_reducible rfl)
                  try simp only [Act.put, List.setIfInBounds_toArray, List.set_cons_zero, List.set_cons_succ]
                  refine wpAnyH_take (i := 9) (oi := { dst := some 81, op := Op.move (Operand.tmp 80), type := 4, pos := "ref.go:84", after := #[{ on := 8, ground := Ground.data }, { on := 4, ground := Ground.chain }], guard := none }) (v := ?_) rfl (by kernel_rfl) (by kernel_rfl) (by kernel_rfl) (fun _ _ _ h => h) (Or.inl ⟨by rfl, ?_⟩) (by assumption) ?_
                  rotate_left
                  · intro w hSw; (try dsimp only at hSw); go_simp; (try with_reducible rfl)
                  try simp only [Act.put, List.setIfInBounds_toArray, List.set_cons_zero, List.set_cons_succ]
                  refine wpAnyH_take (i := 10) (oi := { dst := some 82, op := Op.load 83 (Operand.tmp 12), type := 83, pos := "ref.go:84", after := #[{ on := 9, ground := Ground.guard }], guard := some (9, true) }) (v := ?_) rfl (by kernel_rfl) (by kernel_rfl) (by kernel_rfl) (fun _ _ _ h => h) (Or.inl ⟨by rfl, ?_⟩) (by assumption) ?_
                  rotate_left
                  · intro w hSw; (try dsimp only at hSw); go_simp; (try with_reducible rfl)
                  try simp only [Act.put, List.setIfInBounds_toArray, List.set_cons_zero, List.set_cons_succ]
                  refine wpAnyH_ready (rs := [11]) (by kernel_rfl) (by simp) (AllReadyH.cons (o := { dst := some 83, op := Op.call { callee := Callee.value (Operand.func 61), args := #[Operand.tmp 82], argTypes := #[83] }, type := 3, pos := "ref.go:84", after := #[{ on := 10, ground := Ground.data }, { on := 9, ground := Ground.chain }, { on := 9, ground := Ground.guard }], guard := some (9, true) }) rfl (fun K hK => ?_) AllReadyH.nil)
                  go_simp
                  go_at_call 61
                  refine (C61.out _ (Cha.refl _ _).drew).mono ?_
                  rintro e5 w5 ⟨rfl, e9⟩
                  (try go_simp)
                  refine hK.out _ _ ?_ (fun hHeld => ?_)
                  · (try dsimp only)
                    first | exact CD.out _ (Cha.refl _ _) | exact CD.out _ (by assumption) | go_keep
                  clear hK K
                  try simp only [Act.put, List.setIfInBounds_toArray, List.set_cons_zero, List.set_cons_succ]
                  refine wpAnyH_take (i := 12) (oi := { dst := some 84, op := Op.binOp BinOp.geq 3 (Operand.tmp 83) (Operand.const (Value.int IntKind.i64 0)) 3, type := 4, pos := "ref.go:84", after := #[{ on := 11, ground := Ground.data }, { on := 9, ground := Ground.guard }], guard := some (9, true) }) (v := ?_) rfl (by kernel_rfl) (by kernel_rfl) (by kernel_rfl) (fun _ _ _ h => h) (Or.inl ⟨by rfl, ?_⟩) (by assumption) ?_
                  rotate_left
                  · intro w hSw; (try dsimp only at hSw); go_simp; (try with_reducible rfl)
                  try simp only [Act.put, List.setIfInBounds_toArray, List.set_cons_zero, List.set_cons_succ]
                  refine wpAnyH_take (i := 13) (oi := { dst := some 85, op := Op.pick (Operand.tmp 81) (Operand.tmp 84) (Operand.const (Value.bool false)), type := 4, pos := "ref.go:84", after := #[{ on := 9, ground := Ground.data }, { on := 12, ground := Ground.data }], guard := none }) (v := ?_) rfl (by kernel_rfl) (by kernel_rfl) (by kernel_rfl) (fun _ _ _ h => h) (Or.inl ⟨by rfl, ?_⟩) (by assumption) ?_
                  rotate_left
                  · intro w hSw; (try dsimp only at hSw); go_simp; (try with_reducible rfl)
                  try simp only [Act.put, List.setIfInBounds_toArray, List.set_cons_zero, List.set_cons_succ]
                  refine wpAnyH_take (i := 14) (oi := { dst := some 86, op := Op.move (Operand.tmp 85), type := 4, pos := "ref.go:84", after := #[{ on := 13, ground := Ground.data }, { on := 11, ground := Ground.chain }], guard := none }) (v := ?_) rfl (by kernel_rfl) (by kernel_rfl) (by kernel_rfl) (fun _ _ _ h => h) (Or.inl ⟨by rfl, ?_⟩) (by assumption) ?_
                  rotate_left
                  · intro w hSw; (try dsimp only at hSw); go_simp; (try with_reducible rfl)
                  try simp only [Act.put, List.setIfInBounds_toArray, List.set_cons_zero, List.set_cons_succ]
                  refine wpAnyH_take (i := 15) (oi := { dst := some 87, op := Op.move (Operand.tmp 8), type := 3, pos := "ref.go:84", after := #[{ on := 14, ground := Ground.guard }], guard := some (14, true) }) (v := ?_) rfl (by kernel_rfl) (by kernel_rfl) (by kernel_rfl) (fun _ _ _ h => h) (Or.inl ⟨by rfl, ?_⟩) (by assumption) ?_
                  rotate_left
                  · intro w hSw; (try dsimp only at hSw); go_simp; (try with_reducible rfl)
                  try simp only [Act.put, List.setIfInBounds_toArray, List.set_cons_zero, List.set_cons_succ]
                  refine wpAnyH_take (i := 16) (oi := { dst := some 88, op := Op.binOp BinOp.lss 3 (Operand.tmp 87) (Operand.const (Value.int IntKind.i64 0)) 3, type := 4, pos := "ref.go:84", after := #[{ on := 15, ground := Ground.data }, { on := 14, ground := Ground.guard }], guard := some (14, true) }) (v := ?_) rfl (by kernel_rfl) (by kernel_rfl) (by kernel_rfl) (fun _ _ _ h => h) (Or.inl ⟨by rfl, ?_⟩) (by assumption) ?_
                  rotate_left
                  · intro w hSw; (try dsimp only at hSw); go_simp; (try with_reducible rfl)
                  try simp only [Act.put, List.setIfInBounds_toArray, List.set_cons_zero, List.set_cons_succ]
                  refine wpAnyH_take (i := 17) (oi := { dst := some 89, op := Op.move (Operand.tmp 88), type := 4, pos := "ref.go:84", after := #[{ on := 16, ground := Ground.data }, { on := 14, ground := Ground.chain }, { on := 14, ground := Ground.guard }], guard := some (14, true) }) (v := ?_) rfl (by kernel_rfl) (by kernel_rfl) (by kernel_rfl) (fun _ _ _ h => h) (Or.inl ⟨by rfl, ?_⟩) (by assumption) ?_
                  rotate_left
                  · intro w hSw; (try dsimp only at hSw); go_simp; (try with_reducible rfl)
                  try simp only [Act.put, List.setIfInBounds_toArray, List.set_cons_zero, List.set_cons_succ]
                  refine wpAnyH_take (i := 18) (oi := { dst := some 90, op := Op.fieldAddr 83 (Operand.tmp 12) 0, type := 0, pos := "ref.go:84", after := #[{ on := 17, ground := Ground.guard }], guard := some (17, false) }) (v := undef) rfl (by kernel_rfl) (by kernel_rfl) (by kernel_rfl) (fun _ _ _ h => h) (Or.inr ⟨by rfl, rfl⟩) (by assumption) ?_
                  try simp only [Act.put, List.setIfInBounds_toArray, List.set_cons_zero, List.set_cons_succ]
                  refine wpAnyH_take (i := 19) (oi := { dst := some 91, op := Op.load 3 (Operand.tmp 90), type := 3, pos := "ref.go:84", after := #[{ on := 18, ground := Ground.data }, { on := 17, ground := Ground.guard }], guard := some (17, false) }) (v := undef) rfl (by kernel_rfl) (by kernel_rfl) (by kernel_rfl) (fun _ _ _ h => h) (Or.inr ⟨by rfl, rfl⟩) (by assumption) ?_
                  try simp only [Act.put, List.setIfInBounds_toArray, List.set_cons_zero, List.set_cons_succ]
                  refine wpAnyH_take (i := 20) (oi := { dst := some 92, op := Op.move (Operand.tmp 0), type := 36, pos := "ref.go:84", after := #[{ on := 17, ground := Ground.guard }], guard := some (17, false) }) (v := undef) rfl (by kernel_rfl) (by kernel_rfl) (by kernel_rfl) (fun _ _ _ h => h) (Or.inr ⟨by rfl, rfl⟩) (by assumption) ?_
                  try simp only [Act.put, List.setIfInBounds_toArray, List.set_cons_zero, List.set_cons_succ]
                  refine wpAnyH_take (i := 21) (oi := { dst := some 93, op := Op.nilCheck (Operand.tmp 92), type := 0, pos := "ref.go:84", after := #[{ on := 20, ground := Ground.data }, { on := 17, ground := Ground.guard }], guard := some (17, false) }) (v := undef) rfl (by kernel_rfl) (by kernel_rfl) (by kernel_rfl) (fun _ _ _ h => h) (Or.inr ⟨by rfl, rfl⟩) (by assumption) ?_
                  try simp only [Act.put, List.setIfInBounds_toArray, List.set_cons_zero, List.set_cons_succ]
                  refine wpAnyH_take (i := 22) (oi := { dst := some 94, op := Op.fieldAddr 72 (Operand.tmp 93) 1, type := 0, pos := "ref.go:84", after := #[{ on := 21, ground := Ground.data }, { on := 17, ground := Ground.guard }], guard := some (17, false) }) (v := undef) rfl (by kernel_rfl) (by kernel_rfl) (by kernel_rfl) (fun _ _ _ h => h) (Or.inr ⟨by rfl, rfl⟩) (by assumption) ?_
                  try simp only [Act.put, List.setIfInBounds_toArray, List.set_cons_zero, List.set_cons_succ]
                  refine wpAnyH_take (i := 23) (oi := { dst := some 95, op := Op.load 70 (Operand.tmp 94), type := 70, pos := "ref.go:84", after := #[{ on := 22, ground := Ground.data }, { on := 17, ground := Ground.guard }], guard := some (17, false) }) (v := undef) rfl (by kernel_rfl) (by kernel_rfl) (by kernel_rfl) (fun _ _ _ h => h) (Or.inr ⟨by rfl, rfl⟩) (by assumption) ?_
                  try simp only [Act.put, List.setIfInBounds_toArray, List.set_cons_zero, List.set_cons_succ]
                  refine wpAnyH_take (i := 24) (oi := { dst := some 96, op := Op.move (Operand.tmp 8), type := 3, pos := "ref.go:84", after := #[{ on := 17, ground := Ground.guard }], guard := some (17, false) }) (v := undef) rfl (by kernel_rfl) (by kernel_rfl) (by kernel_rfl) (fun _ _ _ h => h) (Or.inr ⟨by rfl, rfl⟩) (by assumption) ?_
                  try simp only [Act.put, List.setIfInBounds_toArray, List.set_cons_zero, List.set_cons_succ]
                  refine wpAnyH_take (i := 25) (oi := { dst := some 97, op := Op.indexAddr 70 (Operand.tmp 95) (Operand.tmp 96), type := 0, pos := "ref.go:84", after := #[{ on := 23, ground := Ground.data }, { on := 24, ground := Ground.data }, { on := 17, ground := Ground.guard }], guard := some (17, false) }) (v := undef) rfl (by kernel_rfl) (by kernel_rfl) (by kernel_rfl) (fun _ _ _ h => h) (Or.inr ⟨by rfl, rfl⟩) (by assumption) ?_
                  try simp only [Act.put, List.setIfInBounds_toArray, List.set_cons_zero, List.set_cons_succ]
                  refine wpAnyH_take (i := 26) (oi := { dst := some 98, op := Op.fieldAddr 83 (Operand.tmp 97) 0, type := 0, pos := "ref.go:84", after := #[{ on := 25, ground := Ground.data }, { on := 17, ground := Ground.guard }], guard := some (17, false) }) (v := undef) rfl (by kernel_rfl) (by kernel_rfl) (by kernel_rfl) (fun _ _ _ h => h) (Or.inr ⟨by rfl, rfl⟩) (by assumption) ?_
                  try simp only [Act.put, List.setIfInBounds_toArray, List.set_cons_zero, List.set_cons_succ]
                  refine wpAnyH_take (i := 27) (oi := { dst := some 99, op := Op.load 3 (Operand.tmp 98), type := 3, pos := "ref.go:84", after := #[{ on := 26, ground := Ground.data }, { on := 17, ground := Ground.guard }], guard := some (17, false) }) (v := undef) rfl (by kernel_rfl) (by kernel_rfl) (by kernel_rfl) (fun _ _ _ h => h) (Or.inr ⟨by rfl, rfl⟩) (by assumption) ?_
                  try simp only [Act.put, List.setIfInBounds_toArray, List.set_cons_zero, List.set_cons_succ]
                  refine wpAnyH_take (i := 28) (oi := { dst := some 100, op := Op.binOp BinOp.lss 3 (Operand.tmp 91) (Operand.tmp 99) 3, type := 4, pos := "ref.go:84", after := #[{ on := 19, ground := Ground.data }, { on := 27, ground := Ground.data }, { on := 17, ground := Ground.guard }], guard := some (17, false) }) (v := undef) rfl (by kernel_rfl) (by kernel_rfl) (by kernel_rfl) (fun _ _ _ h => h) (Or.inr ⟨by rfl, rfl⟩) (by assumption) ?_
                  try simp only [Act.put, List.setIfInBounds_toArray, List.set_cons_zero, List.set_cons_succ]
                  refine wpAnyH_take (i := 29) (oi := { dst := some 101, op := Op.pick (Operand.tmp 89) (Operand.const (Value.bool true)) (Operand.tmp 100), type := 4, pos := "ref.go:84", after := #[{ on := 17, ground := Ground.data }, { on := 28, ground := Ground.data }, { on := 14, ground := Ground.guard }], guard := some (14, true) }) (v := ?_) rfl (by kernel_rfl) (by kernel_rfl) (by kernel_rfl) (fun _ _ _ h => h) (Or.inl ⟨by rfl, ?_⟩) (by assumption) ?_
                  rotate_left
                  · intro w hSw; (try dsimp only at hSw); go_simp; (try with_reducible rfl)
                  try simp only [Act.put, List.setIfInBounds_toArray, List.set_cons_zero, List.set_cons_succ]
                  refine wpAnyH_take (i := 30) (oi := { dst := some 102, op := Op.pick (Operand.tmp 86) (Operand.tmp 101) (Operand.const (Value.bool false)), type := 4, pos := "ref.go:84", after := #[{ on := 14, ground := Ground.data }, { on := 29, ground := Ground.data }], guard := none }) (v := ?_) rfl (by kernel_rfl) (by kernel_rfl) (by kernel_rfl) (fun _ _ _ h => h) (Or.inl ⟨by rfl, ?_⟩) (by assumption) ?_
                  rotate_left
                  · intro w hSw; (try dsimp only at hSw); go_simp; (try with_reducible rfl)
                  try simp only [Act.put, List.setIfInBounds_toArray, List.set_cons_zero, List.set_cons_succ]
                  refine wpAnyH_done (by kernel_rfl) ?_ _
                  all_goals
                    have HN9 := Lib.hid (C9.out _ e9)
                    clear e9
                    go_wp2
                    go_roundw
                    case rel => exact ⟨j + 1, (j : Int), hlt, rfl, by go_num, N2.out, HN9.out⟩
                    case measure => simp [intOf]; omega
                · subst e
                  have hm0 : ¬ (m : Int) < 0 := by omega
                  have hmI : (m : Int) < (D.length : Int) := by omega
                  have EM := Lib.hid (CE.out m bm hcell)
                  by_cases c4 : yb < bm
                  · have c4i : (yb : Int) < (bm : Int) := by omega
                    have N2 := Lib.hid (hless HOP.out c4)
                    clear NOOP FIRST BEST OP NOF YOF c3 hbb CE HOP hless hmore hcell
                    go_wp2
                    clear q0 q1 q2 q3 q4
                    go_region_held3 (fun w3 => w3.cell? ⟨wr.heap.size, 0, none⟩ = some (.int .i64 (yb : Int)) ∧ w3.cell? ⟨wr.heap.size, 1, none⟩ = some (.int .i64 (k : Int)) ∧ w3.cell? ⟨wr.heap.size, 2, none⟩ = some (.int .i64 (yw : Int)) ∧ w3.cell? ⟨wr.heap.size, 3, none⟩ = some (.slice (some ⟨yq, 0, none⟩) yu.length yu.length) ∧ w3.cell? ⟨wr.heap.size, 4, none⟩ = some (.int .i64 yh) ∧ w3.cell? ⟨dc, 1, none⟩ = some (.slice (some ⟨g, o, none⟩) D.length cap) ∧ w3.cell? ⟨g, o + m * 5, none⟩ = some (.int .i64 (bm : Int))) (first | exact ⟨(CD.out _ (Cha.refl _ _)).1, (CD.out _ (Cha.refl _ _)).2.1, (CD.out _ (Cha.refl _ _)).2.2.1, (CD.out _ (Cha.refl _ _)).2.2.2.1, (CD.out _ (Cha.refl _ _)).2.2.2.2.1, (CD.out _ (Cha.refl _ _)).2.2.2.2.2, EM.out _ (Cha.refl _ _)⟩ | exact ⟨(CD.out _ (by assumption)).1, (CD.out _ (by assumption)).2.1, (CD.out _ (by assumption)).2.2.1, (CD.out _ (by assumption)).2.2.2.1, (CD.out _ (by assumption)).2.2.2.2.1, (CD.out _ (by assumption)).2.2.2.2.2, EM.out _ (by assumption)⟩ | go_keep) ((go_at_call 61; refine (C61.out _ (Cha.refl _ _).drew).mono ?_; rintro e5 w5 ⟨rfl, e9⟩))
                    all_goals
                      have HN9 := Lib.hid (C9.out _ e9)
                      clear e9
                      go_wp2
                      go_roundw
                      case rel => exact ⟨j + 1, (j : Int), hlt, rfl, by go_num, N2.out, HN9.out⟩
                      case measure => simp [intOf]; omega
                  · have c4i : ¬ (yb : Int) < (bm : Int) := by omega
                    have N2 := Lib.hid (hmore c4)
                    clear NOOP FIRST BEST OP NOF YOF c3 hbb CE HOP hless hmore hcell
                    go_wp2
                    clear q0 q1 q2 q3 q4
                    go_region_held3 (fun w3 => w3.cell? ⟨wr.heap.size, 0, none⟩ = some (.int .i64 (yb : Int)) ∧ w3.cell? ⟨wr.heap.size, 1, none⟩ = some (.int .i64 (k : Int)) ∧ w3.cell? ⟨wr.heap.size, 2, none⟩ = some (.int .i64 (yw : Int)) ∧ w3.cell? ⟨wr.heap.size, 3, none⟩ = some (.slice (some ⟨yq, 0, none⟩) yu.length yu.length) ∧ w3.cell? ⟨wr.heap.size, 4, none⟩ = some (.int .i64 yh) ∧ w3.cell? ⟨dc, 1, none⟩ = some (.slice (some ⟨g, o, none⟩) D.length cap) ∧ w3.cell? ⟨g, o + m * 5, none⟩ = some (.int .i64 (bm : Int))) (first | exact ⟨(CD.out _ (Cha.refl _ _)).1, (CD.out _ (Cha.refl _ _)).2.1, (CD.out _ (Cha.refl _ _)).2.2.1, (CD.out _ (Cha.refl _ _)).2.2.2.1, (CD.out _ (Cha.refl _ _)).2.2.2.2.1, (CD.out _ (Cha.refl _ _)).2.2.2.2.2, EM.out _ (Cha.refl _ _)⟩ | exact ⟨(CD.out _ (by assumption)).1, (CD.out _ (by assumption)).2.1, (CD.out _ (by assumption)).2.2.1, (CD.out _ (by assumption)).2.2.2.1, (CD.out _ (by assumption)).2.2.2.2.1, (CD.out _ (by assumption)).2.2.2.2.2, EM.out _ (by assumption)⟩ | go_keep) ((go_at_call 61; refine (C61.out _ (Cha.refl _ _).drew).mono ?_; rintro e5 w5 ⟨rfl, e9⟩))
                    all_goals
                      have HN9 := Lib.hid (C9.out _ e9)
                      clear e9
                      go_wp2
                      go_roundw
                      case rel => exact ⟨j + 1, (m : Int), hlt, rfl, by go_num, N2.out, HN9.out⟩
                      case measure => simp [intOf]; omega
            · have N2 := Lib.hid (NOOP.out fun hh => hh.2.1 (by show 0 ≤ yh; omega))
              have C3 := Lib.hid (HC2.out.trans C2.out)
              have c2d : decide (yh < 0) = false := decide_eq_false c2
              have X1 := cell_of_row _ _ 1 _ 83 (0, 0) XX.out
              have X4 := cell_of_row _ _ 4 _ 83 (0, 0) XX.out
              clear NOOP FIRST BEST OP NOF YOF C61 ONE
              go_wp2
              go_quiet (fail)
              go_wp2
              go_roundw
              case rel => exact ⟨j + 1, bb, hlt, rfl, by go_num, N2.out, C3.out.drewN _⟩
              case measure => simp [intOf]; omega
          · have c1b : (yc == (k : Int)) = false := beq_eq_false_iff_ne.2 c1
            have N2 := Lib.hid (NOOP.out fun hh => c1 hh.1)
            have C3 := Lib.hid (HC2.out.trans C2.out)
            have X1 := cell_of_row _ _ 1 _ 83 (0, 0) XX.out
            clear NOOP FIRST BEST OP NOF YOF C61 ONE c1
            go_wp2
            go_quiet (fail)
            go_wp2
            go_roundw
            case rel => exact ⟨j + 1, bb, hlt, rfl, by go_num, N2.out, C3.out.drewN _⟩
            case measure => simp [intOf]; omega
        · obtain rfl : j = D.length := by omega
          have hb := HB.out
          rw [← L2.out] at hb
          have HCW : Hid (Cha F W wr) := Lib.hid (HC.out.trans HC2.out.wide)
          clear HB
          rcases hb.fin with ⟨rfl, hno⟩ | ⟨m, hm, rfl, hl⟩
          · rw [B2.out] at hno
            have HNO := Lib.hid hno
            obtain ⟨p1, p2, p3, p4, p5, p6, _⟩ := cw_ok k hk
            have C17 := Lib.hid (fun w => dpages_in k hk w)
            have C15 := Lib.hid (fun w => dwords_in k hk w)
            have C19 := Lib.hid (fun w => dcells_in k hk w)
            rcases row_ex n (bks D) (cpg k) (by omega) with ⟨b, hb2⟩ | hn2
            · have HR := Lib.hid hb2
              have C59 : Hid (∀ w3, Cha (fun _ => False) wr w3 → Calls Tryd.prog 59 #[.pointer (some ⟨dc, 0, none⟩), .int .i64 (cpg k : Int), .int .i64 (k : Int), .int .i64 (cw k : Int), .int .i64 (ccl k : Int)] w3 fun e w' => e = .returned (.tuple #[.int .i64 (D.length : Int), .int .i64 0]) ∧ ∃ qb F' v', Ce n pr F' w' dc rt v' (D.map (unq q k) ++ [(newB k b, qb)]) ∧ Cha F W w' ∧ ∀ i, F' i → F i ∨ W.heap.size ≤ i) := Lib.hid fun w3 c => by
                have hR2 : Row n (bks (D.map (unq q k))) (cpg k) b := by rw [B2.out]; exact HR.out.unh
                refine (dmake_ok (E2.out.same c) hR2 (newB_inv E2.out.inv hk HP.out.1 hR2) p6).mono fun e w' ⟨he, qb, F', v', hce, hch, hF'⟩ => ⟨by rw [he, L2.out], qb, F', v', hce, (HCW.out.trans c.wide).trans hch, fun i hi => (hF' i hi).imp id fun e => ?_⟩
                have := HCW.out.size
                have := c.size
                omega
              have FIN : Hid (∀ w' qb F' v', Ce n pr F' w' dc rt v' (D.map (unq q k) ++ [(newB k b, qb)]) → Cha F W w' → (∀ i, F' i → F i ∨ W.heap.size ≤ i) → ∃ g o cap, v' = .slice (some ⟨g, o, none⟩) (D.length + 1) cap ∧ cap ≤ maxLen ∧ w'.cell? ⟨dc, 1, none⟩ = some (.slice (some ⟨g, o, none⟩) (D.length + 1) cap) ∧ (∃ x, w'.cell? ⟨g, o + D.length * 5 + 4, none⟩ = some x) ∧ w'.frozen? ⟨g, o + D.length * 5 + 4, none⟩ = false ∧ PickD n pr F W dc rt D q k (.returned (.tuple #[.int .i64 (D.length : Int), .int .i64 0])) (w'.setCell ⟨g, o + D.length * 5 + 4, none⟩ (.int .i64 (q : Int)))) := Lib.hid fun w' qb F' v' hce hch hF' => by
                obtain ⟨g, o, cap, rfl, k1, k2, k3⟩ := cl_new hce
                obtain ⟨D', r1, r2, r3⟩ := pick_new hce rfl HQ.out NH.out HNO.out HR.out
                exact ⟨g, o, cap, rfl, k1, hce.c1, k2, k3 _, .inl ⟨_, D', F', _, rfl, r1, r2, hch.over r3 hF', hF'⟩⟩
              have dll : (D.length : Int) < (D.length : Int) + 1 := by omega
              clear hb hno hb2 HCW HNO HR NH E1 E2 B2
              go_wp2_with (first
                | (go_at_call 17; ((with_reducible refine (C17.out _).mono ?_); rintro e w3 ⟨rfl, hc⟩; have D3 := Lib.hid hc; clear hc))
                | (go_at_call 15; ((with_reducible refine (C15.out _).mono ?_); rintro e w4 ⟨rfl, hc⟩; have D4 := Lib.hid (D3.out.trans hc); clear hc))
                | (go_at_call 19; ((with_reducible refine (C19.out _).mono ?_); rintro e w5 ⟨rfl, hc⟩; have D5 := Lib.hid (D4.out.trans hc); clear hc))
                | (go_at_call 59; ((with_reducible refine (C59.out _ D5.out).mono ?_); rintro e w6 ⟨rfl, qb, F', v', hce, hch, hF'⟩; obtain ⟨g, o, cap2, rfl, y0, y1, ⟨yv, y2⟩, y3, y4⟩ := FIN.out _ _ _ _ hce hch hF'; have Y4 := Lib.hid y4; clear y4 hce hch hF')))
              go_ret2
              exact Y4.out
            · have HR := Lib.hid hn2
              have C59 : Hid (∀ w3, Cha (fun _ => False) wr w3 → Calls Tryd.prog 59 #[.pointer (some ⟨dc, 0, none⟩), .int .i64 (cpg k : Int), .int .i64 (k : Int), .int .i64 (cw k : Int), .int .i64 (ccl k : Int)] w3 fun e w' => e = .returned (.tuple #[.int .i64 0, .int .i64 3]) ∧ PickD n pr F W dc rt D q k (.returned (.tuple #[.int .i64 0, .int .i64 3])) w') := Lib.hid fun w3 c => by
                have hR2 : NoRow n (bks (D.map (unq q k))) (cpg k) := by rw [B2.out]; exact HR.out.unh
                refine (dmake_no (E2.out.same c) (by omega) (k : Int) (cw k : Int) (ccl k : Int) 3 (.inr rfl) hR2).mono fun e w' ⟨he, F', v', hce, hch, hF'⟩ => ⟨he, .inr ⟨rfl, NH.out, HNO.out, HR.out, _, B2.out, F', v', hce, (HCW.out.trans c.wide).trans hch, fun i hi => (hF' i hi).imp id fun e => ?_⟩⟩
                have := HCW.out.size
                have := c.size
                omega
              clear hb hno hn2
              go_wp2_with (first
                | (go_at_call 17; ((with_reducible refine (C17.out _).mono ?_); rintro e w3 ⟨rfl, hc⟩; have D3 := Lib.hid hc; clear hc))
                | (go_at_call 15; ((with_reducible refine (C15.out _).mono ?_); rintro e w4 ⟨rfl, hc⟩; have D4 := Lib.hid (D3.out.trans hc); clear hc))
                | (go_at_call 19; ((with_reducible refine (C19.out _).mono ?_); rintro e w5 ⟨rfl, hc⟩; have D5 := Lib.hid (D4.out.trans hc); clear hc))
                | (go_at_call 59; ((with_reducible refine (C59.out _ D5.out).mono ?_); rintro e w6 ⟨rfl, hc⟩; have Y4 := Lib.hid hc; clear hc)))
              go_ret2
              exact Y4.out
          · rw [B2.out] at hl
            obtain ⟨g, o, cap', e, _, hcm, hA, hf⟩ := E2.out.at hm
            rw [L2.out] at e
            cases e
            have q4 := hA.c4
            have f4 := hf (o + m * 5 + 4)
            have hm0 : ¬ (m : Int) < 0 := by omega
            have hml : m < D.length := by rw [L2.out] at hm; exact hm
            have hmI : (m : Int) < (D.length : Int) := by omega
            have Y4 : Hid (PickD n pr F W dc rt D q k (.returned (.tuple #[.int .i64 (m : Int), .int .i64 0])) (wr.setCell ⟨g, o + m * 5 + 4, none⟩ (.int .i64 (q : Int)))) := Lib.hid (by
              obtain ⟨D', r1, r2, r3⟩ := pick_opn E2.out rfl HQ.out NH.out hm hl
              exact .inl ⟨_, D', F, _, rfl, r1, r2, HCW.out.trans r3, fun _ hi => .inl hi⟩)
            clear hb hl hA hf
            go_wp2
            go_ret2
            exact Y4.out
end
end Go.Proofs.YtiboobaggpghjaaDoor
