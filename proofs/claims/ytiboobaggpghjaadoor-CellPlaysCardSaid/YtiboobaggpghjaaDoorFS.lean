/- The document's cells: drop, its loops. -/
import Derived.Test.YtiboobaggpghjaaDoorFK
namespace Go.Proofs.YtiboobaggpghjaaDoor
open Go.ChangeShapes Go.WideShapes Go.ChangeAt Go.RowKit
section
variable {n pr dc rt : Nat} {F S : Nat → Prop} {W W' : World} {v : Value} {D : List Bq}
set_option maxRecDepth 100000 in
set_option maxHeartbeats 8000000 in
theorem ddrop_any (h : Ce n pr F W dc rt v D) : Calls Tryd.prog 62 #[.pointer (some ⟨dc, 0, none⟩)] W fun e w' => e = .returned (.tuple #[]) ∧ DLeft n pr F W dc rt w' (D.filter fun x => keep x.1) := by
  obtain ⟨B, rm, rq, tv, L, hR, hL, hB, hF1, hF2, hF3, hF4, hq⟩ := h.tab
  have H := Lib.hid h
  have HI := Lib.hid h.inv
  have HF : Hid (F rt ∧ F rm ∧ F rq) := Lib.hid ⟨hF1, hF2, hF3⟩
  have HW := Lib.hid h.lt
  have HQ := Lib.hid hq
  have hlen := h.len
  have NDC : Hid (¬ (dc = rt ∨ dc = rq)) := Lib.hid fun e => by
    rcases e with e | e
    · exact ty_ne h.head hR.head (by decide) e
    · exact ty_ne h.head hR.pg.body (by decide) e
  have D0 : Hid (Dr n pr F W dc rt rm rq v D 0 (.slice none 0 0) W) := Lib.hid ⟨h.cb, ⟨B, tv, L, hR, by simpa [kpt, bks] using hL, hB, fun g hg => .inl (hF4 g hg)⟩, World.ownsRow_nil _ _ _ _, Cha.refl _ _⟩
  obtain ⟨i0, hi, hz0, hz1, hz2⟩ := info_parts bE_ok.inf
  obtain ⟨a, cap, rfl⟩ := h.form
  clear h hR hL hF1 hF2 hF3 hF4 hq hB
  go_enter Tryd.func62, Tryd.ntmps62
  go_wp2
  go_loopw [2, 3] (fun q i wr => ∃ (qv : Value) (k : Nat), qv = q ∧ k ≤ D.length ∧ i = .int .i64 (k : Int) ∧ Dr n pr F W dc rt rm rq (.slice a D.length cap) D k qv wr) (fun _ i _ => D.length - (intOf i).toNat)
  case atStart => exact ⟨_, 0, rfl, Nat.zero_le _, rfl, D0.out⟩
  case round =>
    obtain ⟨qv, k, rfl, hk, rfl, hD⟩ := hrel
    have HD := Lib.hid hD
    have d1 := cell_of_row wr dc 1 _ 72 (0, 0) hD.cb.head
    by_cases hlt : k < D.length
    · obtain ⟨g, o, cap', e, _, _, hA, _⟩ := hD.cb.lst.elem bE_ok hlt
      cases e
      have q0 : wr.cell? ⟨g, o + k * 5, none⟩ = some (.int .i64 (D[k].1.b : Int)) := hA 0 (by decide)
      have q1 : wr.cell? ⟨g, o + k * 5 + 1, none⟩ = some (.int .i64 D[k].1.c) := hA 1 (by decide)
      have q2 : wr.cell? ⟨g, o + k * 5 + 2, none⟩ = some (.int .i64 (D[k].1.wd : Int)) := hA 2 (by decide)
      have q3 : wr.cell? ⟨g, o + k * 5 + 3, none⟩ = some (.slice (some ⟨D[k].2, 0, none⟩) D[k].1.u.length D[k].1.u.length) := hA 3 (by decide)
      have q4 : wr.cell? ⟨g, o + k * 5 + 4, none⟩ = some (.int .i64 D[k].1.h) := hA 4 (by decide)
      have hmem := List.getElem_mem hlt
      obtain ⟨s1, s2, s3, s4⟩ := H.out.small hmem
      have MK := Lib.hid (hD.cb.mrk _ hmem)
      have KL := Lib.hid (Nat.lt_of_le_of_lt (kpt_len D k) hlt)
      have HK6 : Hid (∀ w, Cha (fun _ => False) wr w → keep D[k].1 = true → ∀ w6 v', w6.ownsRow W.heap.size 83 5 v' ((kpt D k).length + 1) (bE.cs (kpt D k) ++ bcs D[k]) → Cha (fun i => qv.ownBlock = some i) w w6 → Dr n pr F W dc rt rm rq (.slice (some ⟨g, o, none⟩) D.length cap) D (k + 1) v' w6) := Lib.hid fun w c hy w6 v' h1 h2 => (HD.out.same c).keep HW.out HF.out hlt hy h1 h2
      clear hA hmem hD
      obtain ⟨z, hz⟩ : ∃ z, z = D[k] := ⟨_, rfl⟩
      rw [← hz] at q0 q1 q2 q3 q4 s1 s2 s3 s4 MK
      obtain ⟨⟨yb, yk, yc, yw, yu, yh⟩, yq⟩ := z
      simp only at q0 q1 q2 q3 q4 s1 s2 s3 s4
      have ZZ := Lib.hid hz
      have YB : Hid (D[k].1.b = yb) := Lib.hid (by rw [← hz])
      have KE : Hid (keep D[k].1 = (decide (yc = -2) || decide (0 ≤ yh) || yu.any id)) := Lib.hid (by rw [← hz]; rfl)
      clear hz
      have XB := Lib.hid (heap_alloc_new wr (.cells #[.int .i64 (yb : Int), .int .i64 yc, .int .i64 (yw : Int), .slice (some ⟨yq, 0, none⟩) yu.length yu.length, .int .i64 yh] 83))
      have C2 : Hid (Cha (fun _ => False) wr (wr.alloc (.cells #[.int .i64 (yb : Int), .int .i64 yc, .int .i64 (yw : Int), .slice (some ⟨yq, 0, none⟩) yu.length yu.length, .int .i64 yh] 83))) := Lib.hid ((Cha.refl _ wr).alloc _)
      have D2 := Lib.hid (HD.out.same C2.out)
      have M2 := Lib.hid (C2.out.row MK.out fun f => f)
      have NB4 : Hid (¬ (wr.heap.size = rt ∨ wr.heap.size = rq)) := Lib.hid fun e => by
        have a1 := HD.out.ch.size
        have a2 := HW.out _ HF.out.1
        have a3 := HW.out _ HF.out.2.2
        omega
      have HK7 : Hid (keep D[k].1 = true → ∀ w6 v', w6.ownsRow W.heap.size 83 5 v' ((kpt D k).length + 1) (bE.cs (kpt D k) ++ bcs (⟨yb, yk, yc, yw, yu, yh⟩, yq)) → Cha (fun i => qv.ownBlock = some i) (wr.alloc (.cells #[.int .i64 (yb : Int), .int .i64 yc, .int .i64 (yw : Int), .slice (some ⟨yq, 0, none⟩) yu.length yu.length, .int .i64 yh] 83)) w6 → Dr n pr F W dc rt rm rq (.slice (some ⟨g, o, none⟩) D.length cap) D (k + 1) v' w6) := Lib.hid (fun hy w6 v' h1 h2 => HK6.out _ C2.out hy w6 v' (by rw [← ZZ.out]; exact h1) h2)
      have HN : Hid (∀ w, ∀ j u, (bcs (⟨yb, yk, yc, yw, yu, yh⟩, yq))[j]? = some u → (World.alloc w (.cells #[.int .i64 (yb : Int), .int .i64 yc, .int .i64 (yw : Int), .slice (some ⟨yq, 0, none⟩) yu.length yu.length, .int .i64 yh] 83)).cell? ((⟨w.heap.size, 0, none⟩ : Addr).add j) = some u) := Lib.hid fun w j u hu => by
        have q := En.just_new bE w (⟨yb, yk, yc, yw, yu, yh⟩, yq) 83 j u (by unfold En.Enc.cs; simpa [bE] using hu)
        have e : (bE.ce ((⟨yb, yk, yc, yw, yu, yh⟩, yq) : Bq)).toArray = #[.int .i64 (yb : Int), .int .i64 yc, .int .i64 (yw : Int), .slice (some ⟨yq, 0, none⟩) yu.length yu.length, .int .i64 yh] := by
          show (bcs _).toArray = _
          unfold bcs
          simp
        rw [e] at q
        exact q
      clear HK6 MK HD
      have YUL := Lib.hid s2
      obtain ⟨b4, hb4⟩ : ∃ b, b = wr.heap.size := ⟨_, rfl⟩
      by_cases c1 : 0 ≤ yh
      · have KB : Hid (keep D[k].1 = (true || yu.any id)) := Lib.hid (by rw [KE.out, decide_eq_true c1]; simp)
        go_wp2
        rw [← hb4] at XB NB4 ⊢
        generalize wr.alloc (.cells #[.int .i64 (yb : Int), .int .i64 yc, .int .i64 (yw : Int), .slice (some ⟨yq, 0, none⟩) yu.length yu.length, .int .i64 yh] 83) = w2 at *
        clear hb4 q0 q1 q2 q3 q4 d1
        go_loopw [5, 6] (fun t i w => ∃ (j : Nat), j ≤ yu.length ∧ i = .int .i64 (j : Int) ∧ t = .bool (true || (yu.take j).any id) ∧ w = w2) (fun _ i _ => yu.length - (intOf i).toNat)
        case atStart => exact ⟨0, Nat.zero_le _, rfl, by simp, rfl⟩
        case round =>
          obtain ⟨j, hj, rfl, rfl, rfl⟩ := hrel
          have p3 := cell_of_row wr b4 3 _ 83 (0, 0) XB.out
          obtain ⟨bv, hbv⟩ : ∃ bv, bv = (true || (yu.take j).any id) := ⟨_, rfl⟩
          rw [← hbv]
          have BV := Lib.hid hbv
          clear hbv
          by_cases hlj : j < yu.length
          · have m0 := M2.out.cell hlj
            have NX : Hid (∀ c, yu[j]? = some c → (true || (yu.take (j + 1)).any id) = (bv || c)) := Lib.hid fun c hc => by
              rw [List.take_add_one, hc, Option.toList_some, List.any_append, BV.out, ← Bool.or_assoc]
              simp
            rcases get_or hlj with hu | hu
            · have hv : uV yu j = .bool true := by unfold uV; rw [List.getD_eq_getElem?_getD, hu]; rfl
              rw [hv] at m0
              have N1 := Lib.hid (NX.out true hu)
              clear hu hv NX
              cases bv
              all_goals
                go_wp2
                go_roundw
                case rel => exact ⟨j + 1, by omega, by go_num, by rw [N1.out]; rfl, (by first | rfl | trivial)⟩
                case measure => simp [intOf]; omega
            · have hv : uV yu j = .bool false := by unfold uV; rw [List.getD_eq_getElem?_getD, hu]; rfl
              rw [hv] at m0
              have N1 := Lib.hid (NX.out false hu)
              clear hu hv NX
              cases bv
              all_goals
                go_wp2
                go_roundw
                case rel => exact ⟨j + 1, by omega, by go_num, by rw [N1.out]; rfl, (by first | rfl | trivial)⟩
                case measure => simp [intOf]; omega
          · have ej : yu.take j = yu := List.take_of_length_le (by omega)
            have EK : Hid (keep D[k].1 = bv) := Lib.hid (by rw [KB.out, BV.out, ej])
            clear ej BV
            have p0 := cell_of_row wr b4 0 _ 83 (0, 0) XB.out
            have p1 := cell_of_row wr b4 1 _ 83 (0, 0) XB.out
            have p2 := cell_of_row wr b4 2 _ 83 (0, 0) XB.out
            have p4 := cell_of_row wr b4 4 _ 83 (0, 0) XB.out
            cases bv
            · have CR := Lib.hid (fun (W' : World) (c : Cha (fun _ => False) wr W') => (D2.out.same c).call HI.out HF.out HW.out HQ.out hlt EK.out)
              rw [YB.out] at CR
              have d0 := cell_of_row wr dc 0 _ 72 (0, 0) D2.out.cb.head
              have KY : Hid (∀ W', Cha (fun i => i = rt ∨ i = rq) wr.drew W' → W'.cell? ⟨dc, 0, none⟩ = some (.pointer (some ⟨rt, 0, none⟩)) ∧ W'.cell? ⟨b4, 0, none⟩ = some (.int .i64 (yb : Int))) := Lib.hid fun W' hc' => by
                have hc : Cha (fun i => i = rt ∨ i = rq) wr W' := ((Cha.refl _ wr).drew).trans hc'
                exact ⟨cell_of_row W' dc 0 _ 72 (0, 0) ((hc.old _ (D2.out.cb.lt _ D2.out.cb.odc) (NDC.out)).trans D2.out.cb.head), cell_of_row W' b4 0 _ 83 (0, 0) ((hc.old _ (Array.getElem?_eq_some_iff.1 XB.out).1 NB4.out).trans XB.out)⟩
              obtain ⟨k1, k2⟩ := KY.out wr.drew (Cha.refl _ _)
              go_wp2
              go_region_held3 (fun w' => w'.cell? ⟨dc, 0, none⟩ = some (.pointer (some ⟨rt, 0, none⟩)) ∧ w'.cell? ⟨b4, 0, none⟩ = some (.int .i64 (yb : Int)))
                (first
                  | go_keep
                  | exact ⟨k1, k2⟩
                  | exact KY.out _ (by assumption))
                ((go_at_call 63; refine (CR.out wr.drew ((Cha.refl _ wr).drew)).mono ?_; rintro e5 w5 ⟨rfl, hH, hD⟩))
              all_goals
                have HH := Lib.hid hH
                clear hH hD
                go_wp2
                go_roundw
                case rel => exact ⟨_, k + 1, rfl, by omega, by go_num, HH.out⟩
                case measure => simp [intOf]; omega
            · go_wp2_with (at_builtin; refine wpList_append_own _ rfl _ _ 70 rfl W.heap.size 83 i0 (.agg #[.int .i64 0, .int .i64 0, .int .i64 0, .slice none 0 0, .int .i64 0]) 5 56 Tryd.underlying70 hi hz0 hz1 hz2 rfl (by decide) _ _ _ rfl (own_far D2.out.own ((Cha.refl (fun _ => False) wr).alloc _) (fun _ _ f => f)) ⟨wr.heap.size, 0, none⟩ 1 1 (bcs (⟨yb, yk, yc, yw, yu, yh⟩, yq)) rfl rfl (HN.out wr) (bE_ok.one _) (by unfold maxLen; have := KL.out; omega) (by have := KL.out; omega) (by rw [World.size_alloc]; have := D2.out.ch.size; omega) ?_; intro v' w6 hown' hgrow hnil; clear hnil; have N6 := Lib.hid (HK7.out EK.out w6 v' hown' ((((Cha.refl (fun _ => False) wr).alloc _).wide).trans (Cha.of_grownBy (S := fun i => qv.ownBlock = some i) hgrow (fun k e => e)))); clear hown' hgrow)
              go_roundw
              case rel => exact ⟨_, k + 1, rfl, by omega, by go_num, N6.out⟩
              case measure => simp [intOf]; omega

      · by_cases c2 : yc = -2
        · have KB : Hid (keep D[k].1 = (true || yu.any id)) := Lib.hid (by rw [KE.out, decide_eq_true c2]; simp)
          have c2' : (yc == -2) = true := by rw [c2]; rfl
          have C2H := Lib.hid c2
          clear c2
          go_wp2
          rw [← hb4] at XB NB4 ⊢
          generalize wr.alloc (.cells #[.int .i64 (yb : Int), .int .i64 yc, .int .i64 (yw : Int), .slice (some ⟨yq, 0, none⟩) yu.length yu.length, .int .i64 yh] 83) = w2 at *
          clear hb4 q0 q1 q2 q3 q4 d1
          go_loopw [5, 6] (fun t i w => ∃ (j : Nat), j ≤ yu.length ∧ i = .int .i64 (j : Int) ∧ t = .bool (true || (yu.take j).any id) ∧ w = w2) (fun _ i _ => yu.length - (intOf i).toNat)
          case atStart => exact ⟨0, Nat.zero_le _, rfl, by simp, rfl⟩
          case round =>
            obtain ⟨j, hj, rfl, rfl, rfl⟩ := hrel
            have p3 := cell_of_row wr b4 3 _ 83 (0, 0) XB.out
            obtain ⟨bv, hbv⟩ : ∃ bv, bv = (true || (yu.take j).any id) := ⟨_, rfl⟩
            rw [← hbv]
            have BV := Lib.hid hbv
            clear hbv
            by_cases hlj : j < yu.length
            · have m0 := M2.out.cell hlj
              have NX : Hid (∀ c, yu[j]? = some c → (true || (yu.take (j + 1)).any id) = (bv || c)) := Lib.hid fun c hc => by
                rw [List.take_add_one, hc, Option.toList_some, List.any_append, BV.out, ← Bool.or_assoc]
                simp
              rcases get_or hlj with hu | hu
              · have hv : uV yu j = .bool true := by unfold uV; rw [List.getD_eq_getElem?_getD, hu]; rfl
                rw [hv] at m0
                have N1 := Lib.hid (NX.out true hu)
                clear hu hv NX
                cases bv
                all_goals
                  go_wp2
                  go_roundw
                  case rel => exact ⟨j + 1, by omega, by go_num, by rw [N1.out]; rfl, (by first | rfl | trivial)⟩
                  case measure => simp [intOf]; omega
              · have hv : uV yu j = .bool false := by unfold uV; rw [List.getD_eq_getElem?_getD, hu]; rfl
                rw [hv] at m0
                have N1 := Lib.hid (NX.out false hu)
                clear hu hv NX
                cases bv
                all_goals
                  go_wp2
                  go_roundw
                  case rel => exact ⟨j + 1, by omega, by go_num, by rw [N1.out]; rfl, (by first | rfl | trivial)⟩
                  case measure => simp [intOf]; omega
            · have ej : yu.take j = yu := List.take_of_length_le (by omega)
              have EK : Hid (keep D[k].1 = bv) := Lib.hid (by rw [KB.out, BV.out, ej])
              clear ej BV
              have p0 := cell_of_row wr b4 0 _ 83 (0, 0) XB.out
              have p1 := cell_of_row wr b4 1 _ 83 (0, 0) XB.out
              have p2 := cell_of_row wr b4 2 _ 83 (0, 0) XB.out
              have p4 := cell_of_row wr b4 4 _ 83 (0, 0) XB.out
              cases bv
              · have CR := Lib.hid (fun (W' : World) (c : Cha (fun _ => False) wr W') => (D2.out.same c).call HI.out HF.out HW.out HQ.out hlt EK.out)
                rw [YB.out] at CR
                have d0 := cell_of_row wr dc 0 _ 72 (0, 0) D2.out.cb.head
                have KY : Hid (∀ W', Cha (fun i => i = rt ∨ i = rq) wr.drew W' → W'.cell? ⟨dc, 0, none⟩ = some (.pointer (some ⟨rt, 0, none⟩)) ∧ W'.cell? ⟨b4, 0, none⟩ = some (.int .i64 (yb : Int))) := Lib.hid fun W' hc' => by
                  have hc : Cha (fun i => i = rt ∨ i = rq) wr W' := ((Cha.refl _ wr).drew).trans hc'
                  exact ⟨cell_of_row W' dc 0 _ 72 (0, 0) ((hc.old _ (D2.out.cb.lt _ D2.out.cb.odc) (NDC.out)).trans D2.out.cb.head), cell_of_row W' b4 0 _ 83 (0, 0) ((hc.old _ (Array.getElem?_eq_some_iff.1 XB.out).1 NB4.out).trans XB.out)⟩
                obtain ⟨k1, k2⟩ := KY.out wr.drew (Cha.refl _ _)
                go_wp2
                go_region_held3 (fun w' => w'.cell? ⟨dc, 0, none⟩ = some (.pointer (some ⟨rt, 0, none⟩)) ∧ w'.cell? ⟨b4, 0, none⟩ = some (.int .i64 (yb : Int)))
                  (first
                    | go_keep
                    | exact ⟨k1, k2⟩
                    | exact KY.out _ (by assumption))
                  ((go_at_call 63; refine (CR.out wr.drew ((Cha.refl _ wr).drew)).mono ?_; rintro e5 w5 ⟨rfl, hH, hD⟩))
                all_goals
                  have HH := Lib.hid hH
                  clear hH hD
                  go_wp2
                  go_roundw
                  case rel => exact ⟨_, k + 1, rfl, by omega, by go_num, HH.out⟩
                  case measure => simp [intOf]; omega
              · go_wp2_with (at_builtin; refine wpList_append_own _ rfl _ _ 70 rfl W.heap.size 83 i0 (.agg #[.int .i64 0, .int .i64 0, .int .i64 0, .slice none 0 0, .int .i64 0]) 5 56 Tryd.underlying70 hi hz0 hz1 hz2 rfl (by decide) _ _ _ rfl (own_far D2.out.own ((Cha.refl (fun _ => False) wr).alloc _) (fun _ _ f => f)) ⟨wr.heap.size, 0, none⟩ 1 1 (bcs (⟨yb, yk, yc, yw, yu, yh⟩, yq)) rfl rfl (HN.out wr) (bE_ok.one _) (by unfold maxLen; have := KL.out; omega) (by have := KL.out; omega) (by rw [World.size_alloc]; have := D2.out.ch.size; omega) ?_; intro v' w6 hown' hgrow hnil; clear hnil; have N6 := Lib.hid (HK7.out EK.out w6 v' hown' ((((Cha.refl (fun _ => False) wr).alloc _).wide).trans (Cha.of_grownBy (S := fun i => qv.ownBlock = some i) hgrow (fun k e => e)))); clear hown' hgrow)
                go_roundw
                case rel => exact ⟨_, k + 1, rfl, by omega, by go_num, N6.out⟩
                case measure => simp [intOf]; omega

        · have KB : Hid (keep D[k].1 = (false || yu.any id)) := Lib.hid (by rw [KE.out, decide_eq_false c1, decide_eq_false c2]; simp)
          have c2' : (yc == -2) = false := by rw [beq_eq_false_iff_ne]; exact c2
          clear c2
          go_wp2
          rw [← hb4] at XB NB4 ⊢
          generalize wr.alloc (.cells #[.int .i64 (yb : Int), .int .i64 yc, .int .i64 (yw : Int), .slice (some ⟨yq, 0, none⟩) yu.length yu.length, .int .i64 yh] 83) = w2 at *
          clear hb4 q0 q1 q2 q3 q4 d1
          go_loopw [5, 6] (fun t i w => ∃ (j : Nat), j ≤ yu.length ∧ i = .int .i64 (j : Int) ∧ t = .bool (false || (yu.take j).any id) ∧ w = w2) (fun _ i _ => yu.length - (intOf i).toNat)
          case atStart => exact ⟨0, Nat.zero_le _, rfl, by simp, rfl⟩
          case round =>
            obtain ⟨j, hj, rfl, rfl, rfl⟩ := hrel
            have p3 := cell_of_row wr b4 3 _ 83 (0, 0) XB.out
            obtain ⟨bv, hbv⟩ : ∃ bv, bv = (false || (yu.take j).any id) := ⟨_, rfl⟩
            rw [← hbv]
            have BV := Lib.hid hbv
            clear hbv
            by_cases hlj : j < yu.length
            · have m0 := M2.out.cell hlj
              have NX : Hid (∀ c, yu[j]? = some c → (false || (yu.take (j + 1)).any id) = (bv || c)) := Lib.hid fun c hc => by
                rw [List.take_add_one, hc, Option.toList_some, List.any_append, BV.out, ← Bool.or_assoc]
                simp
              rcases get_or hlj with hu | hu
              · have hv : uV yu j = .bool true := by unfold uV; rw [List.getD_eq_getElem?_getD, hu]; rfl
                rw [hv] at m0
                have N1 := Lib.hid (NX.out true hu)
                clear hu hv NX
                cases bv
                all_goals
                  go_wp2
                  go_roundw
                  case rel => exact ⟨j + 1, by omega, by go_num, by rw [N1.out]; rfl, (by first | rfl | trivial)⟩
                  case measure => simp [intOf]; omega
              · have hv : uV yu j = .bool false := by unfold uV; rw [List.getD_eq_getElem?_getD, hu]; rfl
                rw [hv] at m0
                have N1 := Lib.hid (NX.out false hu)
                clear hu hv NX
                cases bv
                all_goals
                  go_wp2
                  go_roundw
                  case rel => exact ⟨j + 1, by omega, by go_num, by rw [N1.out]; rfl, (by first | rfl | trivial)⟩
                  case measure => simp [intOf]; omega
            · have ej : yu.take j = yu := List.take_of_length_le (by omega)
              have EK : Hid (keep D[k].1 = bv) := Lib.hid (by rw [KB.out, BV.out, ej])
              clear ej BV
              have p0 := cell_of_row wr b4 0 _ 83 (0, 0) XB.out
              have p1 := cell_of_row wr b4 1 _ 83 (0, 0) XB.out
              have p2 := cell_of_row wr b4 2 _ 83 (0, 0) XB.out
              have p4 := cell_of_row wr b4 4 _ 83 (0, 0) XB.out
              cases bv
              · have CR := Lib.hid (fun (W' : World) (c : Cha (fun _ => False) wr W') => (D2.out.same c).call HI.out HF.out HW.out HQ.out hlt EK.out)
                rw [YB.out] at CR
                have d0 := cell_of_row wr dc 0 _ 72 (0, 0) D2.out.cb.head
                have KY : Hid (∀ W', Cha (fun i => i = rt ∨ i = rq) wr.drew W' → W'.cell? ⟨dc, 0, none⟩ = some (.pointer (some ⟨rt, 0, none⟩)) ∧ W'.cell? ⟨b4, 0, none⟩ = some (.int .i64 (yb : Int))) := Lib.hid fun W' hc' => by
                  have hc : Cha (fun i => i = rt ∨ i = rq) wr W' := ((Cha.refl _ wr).drew).trans hc'
                  exact ⟨cell_of_row W' dc 0 _ 72 (0, 0) ((hc.old _ (D2.out.cb.lt _ D2.out.cb.odc) (NDC.out)).trans D2.out.cb.head), cell_of_row W' b4 0 _ 83 (0, 0) ((hc.old _ (Array.getElem?_eq_some_iff.1 XB.out).1 NB4.out).trans XB.out)⟩
                obtain ⟨k1, k2⟩ := KY.out wr.drew (Cha.refl _ _)
                go_wp2
                go_region_held3 (fun w' => w'.cell? ⟨dc, 0, none⟩ = some (.pointer (some ⟨rt, 0, none⟩)) ∧ w'.cell? ⟨b4, 0, none⟩ = some (.int .i64 (yb : Int)))
                  (first
                    | go_keep
                    | exact ⟨k1, k2⟩
                    | exact KY.out _ (by assumption))
                  ((go_at_call 63; refine (CR.out wr.drew ((Cha.refl _ wr).drew)).mono ?_; rintro e5 w5 ⟨rfl, hH, hD⟩))
                all_goals
                  have HH := Lib.hid hH
                  clear hH hD
                  go_wp2
                  go_roundw
                  case rel => exact ⟨_, k + 1, rfl, by omega, by go_num, HH.out⟩
                  case measure => simp [intOf]; omega
              · go_wp2_with (at_builtin; refine wpList_append_own _ rfl _ _ 70 rfl W.heap.size 83 i0 (.agg #[.int .i64 0, .int .i64 0, .int .i64 0, .slice none 0 0, .int .i64 0]) 5 56 Tryd.underlying70 hi hz0 hz1 hz2 rfl (by decide) _ _ _ rfl (own_far D2.out.own ((Cha.refl (fun _ => False) wr).alloc _) (fun _ _ f => f)) ⟨wr.heap.size, 0, none⟩ 1 1 (bcs (⟨yb, yk, yc, yw, yu, yh⟩, yq)) rfl rfl (HN.out wr) (bE_ok.one _) (by unfold maxLen; have := KL.out; omega) (by have := KL.out; omega) (by rw [World.size_alloc]; have := D2.out.ch.size; omega) ?_; intro v' w6 hown' hgrow hnil; clear hnil; have N6 := Lib.hid (HK7.out EK.out w6 v' hown' ((((Cha.refl (fun _ => False) wr).alloc _).wide).trans (Cha.of_grownBy (S := fun i => qv.ownBlock = some i) hgrow (fun k e => e)))); clear hown' hgrow)
                go_roundw
                case rel => exact ⟨_, k + 1, rfl, by omega, by go_num, N6.out⟩
                case measure => simp [intOf]; omega

    · obtain rfl : k = D.length := by omega
      have F1 := frozen_of_row wr dc 1 _ 72 hD.cb.head
      obtain ⟨aq, nq, cq, rfl⟩ : ∃ a n c, qv = .slice a n c := by
        rcases hD.own.2 with ⟨e, _⟩ | ⟨_, _, _, e, _⟩
        · exact ⟨_, _, _, e⟩
        · exact ⟨_, _, _, e⟩
      have HFIN := Lib.hid (Dr.fin H.out HF.out HQ.out hD)
      clear hD
      go_wp2
      go_returns
      exact ⟨rfl, HFIN.out⟩
end
end Go.Proofs.YtiboobaggpghjaaDoor

namespace Go.Proofs.YtiboobaggpghjaaDoor
open Go.ChangeShapes Go.WideShapes Go.ChangeAt Go.RowKit
section
variable {n pr dc rt : Nat} {F S : Nat → Prop} {W W' : World} {v : Value} {D : List Bq} {x : Bq} {k m : Nat}
theorem set_upd {A : List Bk} {f : Bk → Bk} (hi : Inv n pr A) (hk : k < A.length) : A.set k (f A[k]) = upd A A[k].b f := by
  show A.set k (f A[k]) = A.map fun y => if y.b = A[k].b then f y else y
  apply List.ext_getElem
  · simp
  · intro i h1 h2
    have hiA : i < A.length := by simpa using h1
    simp only [List.getElem_map, List.getElem_set]
    by_cases e : k = i
    · subst e
      rw [if_pos rfl, if_pos rfl]
    · rw [if_neg e, if_neg]
      intro e2
      have h3 := List.pairwise_iff_getElem.1 hi.apart
      have hr1 := hi.rng _ (List.getElem_mem hiA)
      have hr2 := hi.rng _ (List.getElem_mem hk)
      rcases Nat.lt_or_gt_of_ne e with c | c
      · have := h3 k i hk hiA c
        omega
      · have := h3 i k hiA hk c
        omega
theorem bks_set {f : Bk → Bk} {q : Nat} (hi : Inv n pr (bks D)) (hk : k < D.length) : bks (D.set k (f D[k].1, q)) = upd (bks D) D[k].1.b f := by
  have e : bks (D.set k (f D[k].1, q)) = (bks D).set k (f D[k].1) := by unfold bks; rw [List.map_set]
  have hk' : k < (bks D).length := by rw [bks_len]; exact hk
  have g : (bks D)[k] = D[k].1 := List.getElem_map (fun x : Bq => x.1)
  rw [e, ← g]
  exact set_upd hi hk'
theorem cs_set {q : Nat} {y : Bk} (hk : k < D.length) (e : bcs (y, q) = bcs D[k]) : bE.cs (D.set k (y, q)) = bE.cs D := by
  unfold En.Enc.cs
  rw [List.flatMap_def, List.flatMap_def, List.map_set]
  congr 1
  have h2 : bE.ce (y, q) = (List.map bE.ce D)[k]'(by simpa using hk) := by rw [List.getElem_map]; exact e
  rw [h2, List.set_getElem_self]
theorem fcells_eq {m : Nat} {r r' : Nat → Value} (h : ∀ i, i < m → r i = r' i) : fcells m r = fcells m r' := by
  apply Array.ext_getElem?
  intro i
  rw [get_fcells, get_fcells]
  by_cases c : i < m
  · rw [if_pos c, if_pos c, h i c]
  · rw [if_neg c, if_neg c]
theorem frow_set {g : Nat} {u : List Bool} {c : Bool} (h : FRow 4 W g u.length (uV u)) (hm : m < u.length) : FRow 4 (W.setCell ⟨g, m, none⟩ (.bool c)) g (u.set m c).length (uV (u.set m c)) := by
  have h2 := h.set (i := m) (.bool c)
  unfold FRow at h2 ⊢
  rw [h2, List.length_set, fcells_eq (r' := uV (u.set m c))]
  intro i hi
  unfold uV
  rw [List.getD_eq_getElem?_getD, List.getD_eq_getElem?_getD, List.getElem?_set]
  by_cases e : i = m
  · subst e
    simp [hi]
  · have e2 : ¬ m = i := fun c => e c.symm
    simp [e, e2]
theorem Ce.put (h : Ce n pr F W dc rt v D) (hk : k < D.length) (hm : m < D[k].1.u.length) {c : Bool} {f : Bk → Bk} (kf : Keeps f) (hu : (f D[k].1).u = D[k].1.u.set m c) (hh : (f D[k].1).h = D[k].1.h) (hinv : Inv n pr (upd (bks D) D[k].1.b f)) :
    Ce n pr F (W.setCell ⟨D[k].2, m, none⟩ (.bool c)) dc rt v (D.set k (f D[k].1, D[k].2)) ∧ Cha F W (W.setCell ⟨D[k].2, m, none⟩ (.bool c)) := by
  have hmem := List.getElem_mem hk
  have c5 : Cha (fun i => i = D[k].2) W (W.setCell ⟨D[k].2, m, none⟩ (.bool c)) := (Cha.refl (fun i => i = D[k].2) W).setCell (p := ⟨D[k].2, m, none⟩) (fun _ => rfl) _
  have hcb := h.cb
  have hbc : bcs (f D[k].1, D[k].2) = bcs D[k] := by
    unfold bcs
    simp only [kf.b, kf.c, kf.wd, hh, hu, List.length_set]
  have hrow := h.mrk _ hmem
  obtain ⟨B, rm, rq, tv, L, hR, hL, hB, hF1, hF2, hF3, hF4, hq⟩ := h.tab
  have hq0 := hq _ hmem
  refine ⟨⟨by rw [bks_set h.inv hk]; exact hinv, h.prr, (c5.old _ (h.lt _ h.odc) fun e => (hcb.nv.2 _ hmem).2 e.symm).trans h.head, ⟨B, rm, rq, tv, L, ?_, ?_, Nat.le_trans hB c5.size, hF1, hF2, hF3, hF4, ?_⟩, ?_, ?_, ?_, h.odc, h.ov, ?_, fun i hi => Nat.lt_of_lt_of_le (h.lt i hi) c5.size⟩, c5.mono fun i _ e => by have e : i = D[k].2 := e; rw [e]; exact h.om _ hmem⟩
  · refine hR.cha2 c5 (fun e => ty_ne hR.head hrow (by decide) e) (fun e => ty_ne hR.pg.head hrow (by decide) e) (fun e => hq0 e.symm) fun g hg e => ?_
    rcases hR.lst.2 with ⟨e2, _⟩ | ⟨g2, cap2, cur, e2, _, kk, _⟩
    · rw [e2] at hg; cases hg
    · obtain rfl : g2 = g := by rw [e2] at hg; exact Option.some.inj hg
      exact ty_ne kk hrow (by decide) e
  · rw [bks_set h.inv hk]
    exact lk_upd hL kf fun _ => rfl
  · intro y hy
    rcases List.mem_or_eq_of_mem_set hy with hy | rfl
    · exact hq y hy
    · show D[k].2 ≠ rq
      exact hq0
  · have hl := hcb.lst.cha c5 fun g hg e => (hcb.nv.2 _ hmem).1 (by rw [hg]; exact congrArg some e)
    rcases hl with ⟨e1, e2⟩ | ⟨g, o, cap, cur, e1, e2, e3, e4, e5, e6⟩
    · have h0 : D.length = 0 := by rw [e1]; rfl
      omega
    · exact .inr ⟨g, o, cap, cur, by rw [List.length_set]; exact e1, by rw [List.length_set]; exact e2, e3, e4, e5, by rw [List.length_set, cs_set hk hbc]; exact e6⟩
  · intro y hy
    obtain ⟨i, hi, rfl⟩ := List.getElem_of_mem hy
    rw [List.length_set] at hi
    rw [List.getElem_set]
    by_cases e : k = i
    · subst e
      rw [if_pos rfl]
      show FRow 4 _ D[k].2 (f D[k].1).u.length (uV (f D[k].1).u)
      rw [hu]
      exact frow_set hrow hm
    · rw [if_neg e]
      refine c5.row (h.mrk _ (List.getElem_mem hi)) fun e2 => ?_
      have h3 := List.pairwise_iff_getElem.1 h.dif
      rcases Nat.lt_or_gt_of_ne e with c | c
      · exact h3 k i hk hi c e2.symm
      · exact h3 i k hi hk c e2
  · rw [List.pairwise_iff_getElem]
    intro i j hi hj hij
    rw [List.length_set] at hi hj
    have h3 := List.pairwise_iff_getElem.1 h.dif i j hi hj hij
    simp only [List.getElem_set]
    split <;> split <;> simp_all
  · intro y hy
    rcases List.mem_or_eq_of_mem_set hy with hy | rfl
    · exact h.om y hy
    · show F D[k].2
      exact h.om D[k] hmem
end
end Go.Proofs.YtiboobaggpghjaaDoor

namespace Go.Proofs.YtiboobaggpghjaaDoor
open Go.ChangeShapes Go.WideShapes Go.ChangeAt Go.RowKit
section
variable {n pr dc rt : Nat} {F S : Nat → Prop} {W W' : World} {v : Value} {D : List Bq} {y : Bk} {m : Nat}
/-- The same, by the blocks alone. -/
def DL2 (n pr : Nat) (F : Nat → Prop) (W : World) (dc rt : Nat) (w' : World) (A' : List Bk) : Prop := ∃ D', bks D' = A' ∧ DLeft n pr F W dc rt w' D'
theorem bks_filter (D : List Bq) : bks (D.filter fun x => keep x.1) = (bks D).filter keep := by
  unfold bks
  rw [List.filter_map]
  rfl
theorem freeB_inv {x : Int} (h : Inv n pr (bks D)) (_hh : Hit (bks D) x y m) : Inv n pr (upd (bks D) y.b (freeB m)) := by
  refine upd_inv h (freeB_keeps m) (fun z hz _ => ?_) (fun z hz _ _ => .inl rfl)
  have hk := h.kind z hz
  unfold Bk.kind freeB at *
  rcases hk with ⟨h1, h2, h3, h4⟩ | ⟨h1, h2, h3, h4⟩ | ⟨j, h1, h2, h3, h4, h5, h6⟩
  · exact .inl ⟨h1, h2, by simp [h3], h4⟩
  · exact .inr (.inl ⟨h1, h2, by simpa using h3, h4⟩)
  · exact .inr (.inr ⟨j, h1, h2, h3, h4, by simpa using h5, h6⟩)
set_option maxRecDepth 100000 in
set_option maxHeartbeats 2000000 in
theorem dfree_no {x : Int} (h : Ce n pr F W dc rt v D) (hx : x ≤ 9223372036854775807) (hn : NoHit (bks D) x) :
    Calls Tryd.prog 39 #[.pointer (some ⟨dc, 0, none⟩), .int .i64 x] W fun e w' => e = .returned (.int .i64 4) ∧ DL2 n pr F W dc rt w' (bks D) := by
  have C := Lib.hid (findx_no h hx hn)
  have H := Lib.hid h
  have HL : Hid (∀ w, Cha (fun _ => False) W w → DL2 n pr F W dc rt w (bks D)) := Lib.hid fun w c => ⟨D, rfl, DLeft.same H.out c⟩
  clear h hn
  go_enter Tryd.func39, Tryd.ntmps39
  go_wp2_with (go_at_call 45; ((with_reducible refine (C.out).mono ?_); rintro e w1 ⟨rfl, hc⟩; have HC := Lib.hid hc; clear hc))
  go_region
  all_goals
    go_wp2
    go_ret
    exact ⟨rfl, HL.out _ HC.out.drew⟩
end
end Go.Proofs.YtiboobaggpghjaaDoor

namespace Go.Proofs.YtiboobaggpghjaaDoor
open Go.ChangeShapes Go.WideShapes Go.ChangeAt Go.RowKit
section
variable {n pr dc rt : Nat} {F S : Nat → Prop} {W W' : World} {v : Value} {D : List Bq} {x : Bq} {k m g o cap : Nat}
theorem cs_hold {q : Nat} {y : Bk} {z : Int} (hk : k < D.length) (e : bcs (y, q) = (bcs D[k]).set 4 (.int .i64 z)) {i : Nat} (hi : i < D.length * 5) : (bE.cs (D.set k (y, q)))[i]? = if i = k * 5 + 4 then some (.int .i64 z) else (bE.cs D)[i]? := by
  have h5 : i / 5 < D.length := (Nat.div_lt_iff_lt_mul (by decide)).2 hi
  have hr : i % 5 < 5 := Nat.mod_lt _ (by decide)
  have ei : i = i / 5 * 5 + i % 5 := by omega
  have g1 := bE_ok.cs_get (D.set k (y, q)) (i := i / 5) (j := i % 5) (by rw [List.length_set]; exact h5) hr
  have g2 := bE_ok.cs_get D (i := i / 5) (j := i % 5) h5 hr
  have e1 : i / 5 * bE.k + i % 5 = i := ei.symm
  rw [e1] at g1 g2
  rw [g1, g2, List.getElem_set]
  by_cases c : k = i / 5
  · subst c
    rw [if_pos rfl]
    show (bcs (y, q))[i % 5]? = if _ then _ else (bcs D[i / 5])[i % 5]?
    rw [e, List.getElem?_set]
    have hl : (bcs D[i / 5]).length = 5 := rfl
    rw [hl]
    by_cases c4 : i % 5 = 4
    · rw [if_pos c4.symm, if_pos (by decide), if_pos (by omega)]
    · rw [if_neg (fun e => c4 e.symm), if_neg (by omega)]
  · rw [if_neg c, if_neg (by omega)]
theorem Ce.hold (h : Ce n pr F W dc rt (.slice (some ⟨g, o, none⟩) D.length cap) D) (hk : k < D.length) {z : Int} {f : Bk → Bk} (kf : Keeps f) (hu : (f D[k].1).u = D[k].1.u) (hh : (f D[k].1).h = z) (hinv : Inv n pr (upd (bks D) D[k].1.b f)) :
    Ce n pr F (W.setCell ⟨g, o + k * 5 + 4, none⟩ (.int .i64 z)) dc rt (.slice (some ⟨g, o, none⟩) D.length cap) (D.set k (f D[k].1, D[k].2)) ∧ Cha F W (W.setCell ⟨g, o + k * 5 + 4, none⟩ (.int .i64 z)) := by
  have hmem := List.getElem_mem hk
  have c5 : Cha (fun i => i = g) W (W.setCell ⟨g, o + k * 5 + 4, none⟩ (.int .i64 z)) := (Cha.refl (fun i => i = g) W).setCell (p := ⟨g, o + k * 5 + 4, none⟩) (fun _ => rfl) _
  have hcb := h.cb
  have hbc : bcs (f D[k].1, D[k].2) = (bcs D[k]).set 4 (.int .i64 z) := by
    unfold bcs
    simp only [kf.b, kf.c, kf.wd, hh, hu, List.set_cons_succ, List.set_cons_zero]
  obtain ⟨cur, hg⟩ := hcb.kind (g := g) rfl
  obtain ⟨B, rm, rq, tv, L, hR, hL, hB, hF1, hF2, hF3, hF4, hq⟩ := h.tab
  have hFg : F g := h.ov g rfl
  refine ⟨⟨by rw [bks_set h.inv hk]; exact hinv, h.prr, (c5.old _ (h.lt _ h.odc) fun e => hcb.nv.1 (congrArg some e.symm)).trans h.head, ⟨B, rm, rq, tv, L, ?_, ?_, Nat.le_trans hB c5.size, hF1, hF2, hF3, hF4, ?_⟩, ?_, ?_, ?_, h.odc, h.ov, ?_, fun i hi => Nat.lt_of_lt_of_le (h.lt i hi) c5.size⟩, c5.mono fun i _ e => by have e : i = g := e; rw [e]; exact hFg⟩
  · refine hR.cha2 c5 (fun e => ty_ne hR.head hg (by decide) e) (fun e => ty_ne hR.pg.head hg (by decide) e) (fun e => ty_ne hR.pg.body hg (by decide) e) fun g' hg' e => ?_
    rcases hR.lst.2 with ⟨e2, _⟩ | ⟨g2, cap2, cur2, e2, _, kk, _⟩
    · rw [e2] at hg'; cases hg'
    · obtain rfl : g2 = g' := by rw [e2] at hg'; exact Option.some.inj hg'
      exact ty_ne kk hg (by decide) e
  · rw [bks_set h.inv hk]
    exact lk_upd hL kf fun _ => rfl
  · intro y hy
    rcases List.mem_or_eq_of_mem_set hy with hy | rfl
    · exact hq y hy
    · show D[k].2 ≠ rq
      exact hq _ hmem
  · rcases hcb.lst with ⟨e1, _⟩ | ⟨g', o', cap', cur', e1, e2, e3, e4, e5, e6⟩
    · have h0 : D.length = 0 := by rw [e1]; rfl
      omega
    · cases e1
      refine .inr ⟨g, o, cap, _, by rw [List.length_set], by rw [List.length_set]; exact e2, e3, heap_setCell_same W g _ cur' _ _ e4, by rw [Array.size_setIfInBounds]; exact e5, fun i hi => ?_⟩
      rw [List.length_set] at hi
      have hi5 : i < D.length * 5 := hi
      rw [cs_hold hk hbc hi5, Array.getElem?_setIfInBounds]
      have e5' : o + cap * 5 ≤ cur'.size := e5
      have hcap : D.length * 5 ≤ cap * 5 := Nat.mul_le_mul_right 5 e2
      by_cases c : i = k * 5 + 4
      · rw [if_pos (by omega), if_pos (by omega), if_pos c]
      · rw [if_neg (by omega), if_neg c]
        exact e6 i hi
  · intro y hy
    rcases List.mem_or_eq_of_mem_set hy with hy | rfl
    · exact c5.row (h.mrk y hy) fun e => (hcb.nv.2 y hy).1 (congrArg some e.symm)
    · show FRow 4 _ D[k].2 (f D[k].1).u.length (uV (f D[k].1).u)
      rw [hu]
      exact c5.row (h.mrk _ hmem) fun e => (hcb.nv.2 _ hmem).1 (congrArg some e.symm)
  · rw [List.pairwise_iff_getElem]
    intro i j hi hj hij
    rw [List.length_set] at hi hj
    have h3 := List.pairwise_iff_getElem.1 h.dif i j hi hj hij
    simp only [List.getElem_set]
    split <;> split <;> simp_all
  · intro y hy
    rcases List.mem_or_eq_of_mem_set hy with hy | rfl
    · exact h.om y hy
    · show F D[k].2
      exact h.om D[k] hmem
end
end Go.Proofs.YtiboobaggpghjaaDoor

namespace Go.Proofs.YtiboobaggpghjaaDoor
open Go.ChangeShapes Go.WideShapes Go.ChangeAt Go.RowKit
section
variable {n pr dc rt : Nat} {F S : Nat → Prop} {W W' : World} {v : Value} {D E : List Bq} {x : Bq} {k : Nat}
theorem unhold_inv2 {A : List Bk} (h : Inv n pr A) (hp : 1 ≤ pr) (b : Nat) : Inv n pr (upd A b unhold) := by
  refine upd_inv h unhold_keeps (fun z hz _ => ?_) (fun z hz _ h0 => ?_)
  · have hk := h.kind z hz
    unfold Bk.kind unhold at *
    rcases hk with ⟨h1, h2, h3, h4⟩ | ⟨h1, h2, h3, h4⟩ | ⟨j, h1, h2, h3, h4, h5, h6, h7⟩
    · exact .inl ⟨h1, h2, h3, rfl⟩
    · exact .inr (.inl ⟨h1, h2, h3, rfl⟩)
    · exact .inr (.inr ⟨j, h1, h2, h3, h4, h5, by show (-1 : Int) ≤ -1; omega, by show (-1 : Int) < (pr : Int); omega⟩)
  · exact absurd h0 (by unfold unhold; show ¬ (0 : Int) ≤ -1; omega)
def off1 (p : Nat) (x : Bq) : Bq := if x.1.h = (p : Int) then (unhold x.1, x.2) else x
/-- The first k are let go. -/
def Fl (D E : List Bq) (p k : Nat) : Prop := ∀ i, E[i]? = (D[i]?).map fun x => if i < k then off1 p x else x
theorem Fl.len {p : Nat} (h : Fl D E p k) : E.length = D.length := by
  have h1 := h E.length
  have h2 := h D.length
  rw [List.getElem?_eq_none (Nat.le_refl _)] at h1
  rw [List.getElem?_eq_none (l := D) (Nat.le_refl _)] at h2
  have h3 : D[E.length]? = none := by
    cases e : D[E.length]? with
    | none => rfl
    | some y => rw [e] at h1; cases h1
  have h4 : E[D.length]? = none := h2
  have h5 := List.getElem?_eq_none_iff.1 h3
  have h6 := List.getElem?_eq_none_iff.1 h4
  omega
theorem Fl.at {p : Nat} (h : Fl D E p k) (hk : k < D.length) (hE : k < E.length) : E[k] = D[k] := by
  have h1 := h k
  rw [List.getElem?_eq_getElem hE, List.getElem?_eq_getElem hk, Option.map_some, if_neg (Nat.lt_irrefl k)] at h1
  exact Option.some.inj h1
theorem Fl.yes {p : Nat} (h : Fl D E p k) (hk : k < D.length) (hE : k < E.length) (hp : D[k].1.h = (p : Int)) : Fl D (E.set k (unhold E[k].1, E[k].2)) p (k + 1) := by
  intro i
  rw [List.getElem?_set]
  by_cases c : k = i
  · subst c
    rw [if_pos rfl, if_pos hE, List.getElem?_eq_getElem hk, Option.map_some, if_pos (by omega), h.at hk hE]
    unfold off1
    rw [if_pos hp]
  · rw [if_neg c, h i]
    congr 1
    funext x
    by_cases c2 : i < k
    · rw [if_pos c2, if_pos (by omega)]
    · rw [if_neg c2, if_neg (by omega)]
theorem Fl.no {p : Nat} (h : Fl D E p k) (hk : k < D.length) (hp : D[k].1.h ≠ (p : Int)) : Fl D E p (k + 1) := by
  intro i
  rw [h i]
  by_cases c : k = i
  · subst c
    rw [List.getElem?_eq_getElem hk, Option.map_some, Option.map_some, if_neg (by omega), if_pos (by omega)]
    unfold off1
    rw [if_neg hp]
  · congr 1
    funext x
    by_cases c2 : i < k
    · rw [if_pos c2, if_pos (by omega)]
    · rw [if_neg c2, if_neg (by omega)]
theorem Fl.fin {p : Nat} (h : Fl D E p D.length) : bks (E.filter fun x => keep x.1) = flushed (bks D) p := by
  have e : E = D.map (off1 p) := by
    apply List.ext_getElem?
    intro i
    rw [h i, List.getElem?_map]
    by_cases c : i < D.length
    · rw [List.getElem?_eq_getElem c, Option.map_some, Option.map_some, if_pos c]
    · rw [List.getElem?_eq_none (by omega)]; rfl
  rw [bks_filter, e]
  unfold flushed bks
  rw [List.map_map, List.map_map]
  congr 1
  refine List.map_congr_left fun x _ => ?_
  show (off1 p x).1 = if x.1.h = (p : Int) then unhold x.1 else x.1
  unfold off1
  split <;> rfl
set_option maxRecDepth 100000 in
set_option maxHeartbeats 2000000 in
theorem dflush_bad (p : Int) (h : Ce n pr F W dc rt v D) (hp : p < 0 ∨ (pr : Int) ≤ p) :
    Calls Tryd.prog 40 #[.pointer (some ⟨dc, 0, none⟩), .int .i64 p] W fun e w' => e = .returned (.int .i64 1) ∧ DL2 n pr F W dc rt w' (bks D) := by
  have d2 := h.c2
  have HL : Hid (DL2 n pr F W dc rt W (bks D)) := Lib.hid ⟨D, rfl, DLeft.same h (Cha.refl _ _)⟩
  clear h
  by_cases c : p < 0
  · clear hp
    go_enter Tryd.func40, Tryd.ntmps40
    go_wp2
    go_ret
    exact ⟨rfl, HL.out⟩
  · have c2 : (pr : Int) ≤ p := by omega
    clear hp
    go_enter Tryd.func40, Tryd.ntmps40
    go_wp2
    go_ret
    exact ⟨rfl, HL.out⟩
set_option maxRecDepth 100000 in
set_option maxHeartbeats 4000000 in
theorem dflush_ok (p : Nat) (hp : p < pr) (h : Ce n pr F W dc rt v D) :
    Calls Tryd.prog 40 #[.pointer (some ⟨dc, 0, none⟩), .int .i64 (p : Int)] W fun e w' => e = .returned (.int .i64 0) ∧ DL2 n pr F W dc rt w' (flushed (bks D) p) := by
  have d2 := h.c2
  have hpr := h.prr
  have hlen := h.len
  have H := Lib.hid h
  obtain ⟨a, cap, rfl⟩ := h.form
  have c1 : ¬ (p : Int) < 0 := by omega
  have c2 : ¬ (pr : Int) ≤ (p : Int) := by omega
  have FIN : Hid (∀ E w, Ce n pr F w dc rt (.slice a D.length cap) E → Cha F W w → Fl D E p D.length → Calls Tryd.prog 62 #[.pointer (some ⟨dc, 0, none⟩)] w fun e w' => e = .returned (.tuple #[]) ∧ DL2 n pr F W dc rt w' (flushed (bks D) p)) := Lib.hid fun E w hE hc hf =>
    (ddrop_any hE).mono fun e w' ⟨he, F', v', q1, q2, q3⟩ => ⟨he, _, hf.fin, F', v', q1, hc.trans q2, fun i hi => (q3 i hi).imp id fun q => Nat.le_trans hc.size q⟩
  clear h
  go_enter Tryd.func40, Tryd.ntmps40
  go_wp2
  go_loopw [5] (fun i wr => ∃ (k : Nat) (E : List Bq), k ≤ D.length ∧ i = .int .i64 (k : Int) ∧ Ce n pr F wr dc rt (.slice a D.length cap) E ∧ Cha F W wr ∧ Fl D E p k) (fun i _ => D.length - (intOf i).toNat)
  case atStart => exact ⟨0, D, Nat.zero_le _, rfl, H.out, Cha.refl _ _, fun i => by simp⟩
  case round =>
    obtain ⟨k, E, hk, rfl, hE, hC, hFl⟩ := hrel
    have d1 := hE.c1
    have LE := hFl.len
    by_cases hlt : k < D.length
    · have hkE : k < E.length := by omega
      obtain ⟨g, o, cap', e, _, _, hA, fz⟩ := hE.at hkE
      have e' : (Value.slice a D.length cap) = .slice (some ⟨g, o, none⟩) D.length cap' := by rw [e, LE]
      cases e'
      have ED := hFl.at hlt hkE
      have q4 := hA.c4
      rw [ED] at q4
      have f4 := fz (o + k * 5 + 4)
      by_cases ch : D[k].1.h = (p : Int)
      · have HN : Hid (Ce n pr F (wr.setCell ⟨g, o + k * 5 + 4, none⟩ (.int .i64 (-1))) dc rt (.slice (some ⟨g, o, none⟩) D.length cap) (E.set k (unhold E[k].1, E[k].2)) ∧ Cha F wr (wr.setCell ⟨g, o + k * 5 + 4, none⟩ (.int .i64 (-1)))) := Lib.hid (by
          have hE2 : Ce n pr F wr dc rt (.slice (some ⟨g, o, none⟩) E.length cap) E := by rw [LE]; exact hE
          have := hE2.hold (z := -1) hkE unhold_keeps rfl rfl (unhold_inv2 hE.inv hpr.1 _)
          rw [LE] at this
          exact this)
        have HY := Lib.hid (hFl.yes hlt hkE ch)
        have HC := Lib.hid hC
        rw [ch] at q4
        clear hE hC hFl hA e ED ch fz
        go_wp2
        go_roundw
        case rel => exact ⟨k + 1, _, by omega, by go_num, HN.out.1, HC.out.trans HN.out.2, HY.out⟩
        case measure => simp [intOf]; omega
      · have HY := Lib.hid (hFl.no hlt ch)
        have HE := Lib.hid hE
        have HC := Lib.hid hC
        have ch2 : (D[k].1.h == (p : Int)) = false := by rw [beq_eq_false_iff_ne]; exact ch
        clear hE hC hFl hA e ED ch fz
        obtain ⟨hh, hhh⟩ : ∃ hh, hh = D[k].1.h := ⟨_, rfl⟩
        rw [← hhh] at q4 ch2
        clear hhh
        go_wp2
        go_roundw
        case rel => exact ⟨k + 1, E, by omega, by go_num, HE.out, HC.out, HY.out⟩
        case measure => simp [intOf]; omega
    · obtain rfl : k = D.length := by omega
      have C62 := Lib.hid (FIN.out E wr hE hC hFl)
      clear hE hC hFl
      go_wp2_with (go_at_call 62; ((with_reducible refine (C62.out).mono ?_); rintro e w1 ⟨rfl, hL⟩; have HL := Lib.hid hL; clear hL))
      go_ret
      exact ⟨rfl, HL.out⟩
end
end Go.Proofs.YtiboobaggpghjaaDoor
