/- The document's queues: Put. -/
import Derived.Test.YteogepfolifneaaU
namespace Go.Proofs.Yteogepfolifneaa
open Go.ChangeShapes Go.WideShapes Go.ChangeAt Go.RowKit
variable {w w' W : World} {U U' T : Nat → Prop} {br bl bn on cn : Nat} {lv : Nat → Value} {va v : Value} {S : List Prc} {A N L : List Int} {x y : Int}

theorem Lies.some {a : Option Addr} {n cap : Nat} (h : Lies w (.slice a n cap) A) (hn : 0 < A.length) : ∃ g o, a = some ⟨g, o, none⟩ ∧ n = A.length ∧ A.length ≤ cap ∧ cap ≤ maxLen ∧ ∀ i, i < A.length → w.cell? ⟨g, o + i, none⟩ = some (.int .i64 (A.getD i 0)) := by
  rcases h with ⟨rfl, _⟩ | ⟨g', o', cap', cur, e, h1, h2, h3, h4, h5⟩
  · cases hn
  · cases e
    exact ⟨g', o', rfl, rfl, h1, h2, fun i hi => by rw [cell_of_row w g' _ cur 3 (0, 0) h3]; exact h5 i hi⟩
theorem rleft_step {w1 : World} {U1 : Nat → Prop} (hc : Cha (fun i => i = br ∨ i = bl ∨ i = bn) w w1) (hs : ∀ i, U i → U1 i) (hn : ∀ i, U1 i → U i ∨ w.heap.size ≤ i) (M : RLeft w1 w' U1 br bl bn on cn S A) : RLeft w w' U br bl bn on cn S A := by
  obtain ⟨U2, lv2, va2, q2, c2, s2, n2⟩ := M
  refine ⟨U2, lv2, va2, q2, hc.trans c2, fun i hi => s2 i (hs i hi), fun i hi => ?_⟩
  rcases n2 i hi with e | e
  · exact hn i e
  · exact .inr (Nat.le_trans hc.size e)
theorem rleft_more {w1 : World} (hc : Cha (fun i => i = br ∨ i = bl ∨ i = bn) w w1) (M : RLeft w1 w' U br bl bn on cn S A) : RLeft w w' U br bl bn on cn S A := by
  obtain ⟨U2, lv2, va2, q2, c2, s2, n2⟩ := M
  refine ⟨U2, lv2, va2, q2, hc.trans c2, s2, fun i hi => ?_⟩
  rcases n2 i hi with e | e
  · exact .inl e
  · exact .inr (Nat.le_trans hc.size e)
set_option maxRecDepth 100000 in
set_option maxHeartbeats 4000000 in
theorem rput_any (p : Nat) (g : Int) (h : Rq w U br bl bn on cn lv va S A) (hp : p < S.length) (hg : 0 ≤ g) (hS : Nums0 S) (hl8 : ∀ (p : Nat) (x : Prc), S[p]? = some x → x.2.length ≤ 8) (hA : A.length + 5 ≤ 17592186044416) :
    Calls Try.prog 16 #[.pointer (some ⟨br, 0, none⟩), .int .i64 (p : Int), .int .i64 g] w fun e w' => e = .returned (.int .i64 0) ∧ RLeft w w' U br bl bn on cn (putS S A p g).1 (putS S A p g).2 := by
  have C := Lib.hid (bad_no p g h hp hg)
  have h8 := h.k8
  have hpx := D_get hp
  unfold putS
  generalize S.getD p (-1, []) = u at *
  obtain ⟨x, L⟩ := u
  dsimp only
  have hx := hS p _ hpx
  have hll : L.length ≤ 8 := hl8 p _ hpx
  dsimp only at hx
  have c0 := h.c0
  obtain ⟨c3, z3⟩ := h.cnx hpx
  dsimp only at c3
  have k3 : (p : Int) < S.length := by omega
  have k4 : (0 : Int) ≤ (p : Int) := by omega
  have q1 := h.nxt p g hpx
  have hp1 : (S.set p (g, L))[p]? = some (g, L) := List.getElem?_set_self hp
  have hcc : Cha (fun i => i = br ∨ i = bl ∨ i = bn) w (w.setCell ⟨bn, on + p, none⟩ (.int .i64 g)) := (Cha.refl _ w).setCell (p := ⟨bn, on + p, none⟩) (fun _ => .inr (.inr rfl)) _
  have R1 := Lib.hid (RLeft.one (w := w) q1 hcc)
  have Q1 := Lib.hid q1
  have HP1 := Lib.hid hp1
  have HCC := Lib.hid hcc
  obtain ⟨W1, hW1⟩ : ∃ W1, W1 = w.setCell ⟨bn, on + p, none⟩ (.int .i64 g) := ⟨_, rfl⟩
  rw [← hW1] at R1 Q1 HCC
  have HW1 := Lib.hid hW1
  by_cases hx0 : x = -1
  · subst hx0
    rw [if_pos rfl]
    clear h q1 hp1 hcc hpx hS hl8 hx hW1
    go_enter Try.func16, Try.ntmps16
    go_wp2_with (go_at_call 40; ((with_reducible refine (C.out).mono ?_); rintro e w1 ⟨rfl, rfl⟩))
    go_ret
    exact ⟨rfl, by rw [← HW1.out]; exact R1.out⟩
  · rw [if_neg hx0]
    have hx1 : 0 ≤ x := by omega
    have hx2 : decide (x < 0) = false := by simpa using hx1
    obtain ⟨a2, cap2, hlv, _⟩ := (q1.prc p _ hp1).1.form
    rw [← hW1] at q1
    obtain ⟨_, s1, _, _, _, s5, s6⟩ := q1.stay (Cha.refl _ _) p _ hp1
    rw [set_len] at s1
    dsimp only at hlv
    rw [hlv] at s5
    have HLV := Lib.hid hlv
    have c1 := h.c1
    have c4 := (h.clx hpx).1
    rw [hlv] at c4
    have d2 : bn ≠ br := Ne.symm h.d2
    have d3 : bn ≠ bl := Ne.symm h.d3
    have KX : Hid (∀ W', Cha (fun _ => False) W1 W' → W'.cell? ⟨br, 1, none⟩ = some (.slice (some ⟨bl, 0, none⟩) S.length S.length) ∧ W'.cell? ⟨br, 2, none⟩ = some va ∧ W'.frozen? ⟨br, 2, none⟩ = false ∧ W'.cell? ⟨bl, p, none⟩ = some (.slice a2 L.length cap2) ∧ W'.frozen? ⟨bl, p, none⟩ = false) := Lib.hid fun W' hc => by
      obtain ⟨_, e1, e2, e3, _, e5, e6⟩ := Q1.out.stay hc p _ HP1.out
      rw [set_len] at e1
      exact ⟨e1, e2, e3, by rw [e5, HLV.out], e6⟩
    by_cases hl : L.length < 8
    · rw [if_pos hl]
      have C4 := Lib.hid (behind_any (v := .slice a2 L.length cap2) (w := W1.drew) (A := L) x (by rw [← HLV.out]; exact ((Q1.out.drew.prc p _ HP1.out).1)) (by omega))
      have hl2 : (L.length : Int) < 8 := by omega
      have hl3 : decide ((L.length : Int) < 8) = true := by simpa using hl2
      clear h q1 hp1 hcc hpx hS hl8 hx hlv hx0 s1 s5 s6 hW1
      obtain ⟨n, hn⟩ : ∃ n, n = L.length := ⟨_, rfl⟩
      have HN := Lib.hid hn
      rw [← hn] at C4 KX hl2 hl3 c4
      clear hl hll hn
      go_enter Try.func16, Try.ntmps16
      go_wp2_with (go_at_call 40; ((with_reducible refine (C.out).mono ?_); rintro e w1 ⟨rfl, rfl⟩))
      rw [← HW1.out]
      obtain ⟨t1, _, _, t4, t5⟩ := KX.out W1.drew ((Cha.refl _ W1).drew)
      go_region_law (go_simp; go_at_call 41; refine (C4.out).mono ?_; rintro e w2 ⟨g3, o3, cap3, rfl, m1, m2, m3, m4⟩; have M := Lib.hid (Q1.out.drew.lay HP1.out m1 m2 m3 m4); obtain ⟨u1, _, _, u4, u5⟩ := KX.out w2 (((Cha.refl _ W1).drew).trans m2); clear m1 m2 m3 m4)
      all_goals
        go_wp2
        go_ret
        have M1 := rleft_more HCC.out.drew M.out
        rw [List.set_set] at M1
        exact ⟨rfl, M1⟩
    · rw [if_neg hl]
      have hL8 : L.length = 8 := by omega
      have hl3 : decide ((L.length : Int) < 8) = false := by simp; omega
      have HL0 : Hid (RLeft w W1 U br bl bn on cn (S.set p (g, L)) (A ++ L.take 0)) := Lib.hid (by rw [List.take_zero, List.append_nil]; exact R1.out)
      have HPL := Lib.hid hp
      have HL8 := Lib.hid hL8
      have hl4 : ¬ (L.length < 8) := hl
      clear h q1 hp1 hcc hpx hS hl8 hx hlv hx0 s1 s5 s6 hW1 KX
      rw [hL8] at c4
      go_enter Try.func16, Try.ntmps16
      go_wp2_with (go_at_call 40; ((with_reducible refine (C.out).mono ?_); rintro e w1 ⟨rfl, rfl⟩))
      rw [← HW1.out]
      clear c0 c1 c3 c4 z3
      go_loopw [8] (fun i wr => ∃ j : Nat, j ≤ 4 ∧ i = .int .i64 (j : Int) ∧ RLeft w wr U br bl bn on cn (S.set p (g, L)) (A ++ L.take j)) (fun i _ => 4 - (intOf i).toNat)
      case atStart => exact ⟨0, by omega, rfl, HL0.out⟩
      case round =>
        clear HL0 R1 Q1
        obtain ⟨j, hj, rfl, hL⟩ := hrel
        obtain ⟨B, hB⟩ : ∃ B, B = A ++ L.take j := ⟨_, rfl⟩
        have hA1 : B.length ≤ A.length + 4 := by rw [hB, List.length_append, List.length_take]; omega
        rw [← hB] at hL
        have HB := Lib.hid hB
        clear hB
        obtain ⟨U1, lv1, va1, q, c, s, n⟩ := hL
        obtain ⟨ga, oa, hlv, _⟩ : ∃ a cap, lv1 p = .slice a L.length cap ∧ L.length ≤ cap := (q.prc p _ HP1.out).1.form
        have hlL := (q.prc p _ HP1.out).1
        have hown := (q.prc p _ HP1.out).2
        rw [hlv] at hlL hown
        obtain ⟨gb, ob, rfl, _, hcap, hcapm, hel⟩ := hlL.some (by show 0 < L.length; omega)
        obtain ⟨a1, cap1, rfl, _⟩ := q.all.form
        have HA1 := Lib.hid hA1
        have HLV := Lib.hid hlv
        have HQ := Lib.hid q
        have HC := Lib.hid c
        have HS := Lib.hid s
        have HN := Lib.hid n
        have HO := Lib.hid hown
        obtain ⟨An, hAn⟩ : ∃ An, An = B.length := ⟨_, rfl⟩
        have HAn := Lib.hid hAn
        have KX : Hid (∀ W', Cha (fun _ => False) wr W' → W'.cell? ⟨br, 1, none⟩ = some (.slice (some ⟨bl, 0, none⟩) S.length S.length) ∧ W'.cell? ⟨br, 2, none⟩ = some (.slice a1 An cap1) ∧ W'.frozen? ⟨br, 2, none⟩ = false ∧ W'.cell? ⟨bl, p, none⟩ = some (.slice (some ⟨gb, ob, none⟩) 8 oa) ∧ W'.frozen? ⟨bl, p, none⟩ = false ∧ ∀ i, i < L.length → W'.cell? ⟨gb, ob + i, none⟩ = some (.int .i64 (L.getD i 0))) := Lib.hid fun W' hc => by
          obtain ⟨_, e1, e2, e3, _, e5, e6⟩ := HQ.out.stay hc p _ HP1.out
          rw [set_len] at e1
          refine ⟨e1, by rw [HAn.out]; exact e2, e3, by rw [e5, HLV.out, HL8.out], e6, ?_⟩
          obtain ⟨_, _, e, _, _, _, k⟩ := (((HQ.out.same hc).prc p _ HP1.out).1.cha (Cha.refl (fun _ => False) W') (fun _ _ f => f) |> fun (k : Lies W' (lv1 p) L) => by rw [HLV.out] at k; exact k.some (by show 0 < L.length; have := HL8.out; omega))
          cases e
          exact k
        have HLL := Lib.hid hlL
        have HCAP := Lib.hid hcap
        have hsz := HQ.out.lt
        by_cases hlt : j < 4
        · have C5 := Lib.hid (behind_any (v := .slice a1 B.length cap1) (w := wr.drew) (A := B) (L.getD j 0) HQ.out.drew.all (by omega))
          rw [← HAn.out] at C5
          have HT := Lib.hid (take_get L (j := j) (by have := HL8.out; omega))
          have hjL : j < L.length := by have := HL8.out; omega
          obtain ⟨t1, t2, t3, t4, t5, t6⟩ := KX.out wr.drew ((Cha.refl _ wr).drew)
          have t6 := t6 j hjL
          generalize L.getD j 0 = u at *
          have k8 : (j : Int) < 8 := by omega
          have k9 : (0 : Int) ≤ (j : Int) := by omega
          clear q c s n hlv hlL hown hel hA1 hAn hcap hcapm
          go_wp2
          go_region_law (go_simp; go_at_call 41; refine (C5.out).mono ?_; rintro e w2 ⟨g3, o3, cap3, rfl, m1, m2, m3, m4⟩; have M := Lib.hid (HQ.out.drew.layAll m1 m2 m3 m4); obtain ⟨_, u2, u3, _⟩ := KX.out w2 (((Cha.refl _ wr).drew).trans m2); clear m1 m2 m3 m4)
          all_goals
            have M1 := Lib.hid (rleft_step HC.out.drew HS.out HN.out M.out)
            have eB : B ++ [u] = A ++ L.take (j + 1) := by rw [HB.out, List.append_assoc, ← HT.out]
            rw [eB] at M1
            clear eB
            go_wp2
            go_roundw
            case rel => exact ⟨j + 1, by omega, by go_num, M1.out⟩
            case measure => simp [intOf]; omega
        · obtain rfl : j = 4 := by omega
          obtain ⟨t1, t2, t3, t4, t5, _⟩ := KX.out wr.drew ((Cha.refl _ wr).drew)
          have hdr := hlL.drop (k := 4) (by omega)
          rw [hL8] at hdr
          have hsl : ∀ w, (Instr.slice 43 (.slice (some ⟨gb, ob, none⟩) 8 oa) (some (.int .i64 4)) none none).run Try.prog w = .ok (.slice (some ⟨gb, if oa = 4 then ob else ob + 4, none⟩) (8 - 4) (oa - 4)) w := fun w => slice_from gb ob 8 oa 4 (by omega) w
          obtain ⟨ob', hob⟩ : ∃ o', o' = if oa = 4 then ob else ob + 4 := ⟨_, rfl⟩
          rw [← hob] at hsl hdr
          have hsl : ∀ w, (Instr.slice 43 (.slice (some ⟨gb, ob, none⟩) 8 oa) (some (.int .i64 4)) none none).run Try.prog w = .ok (.slice (some ⟨gb, ob', none⟩) 4 (oa - 4)) w := hsl
          have q3 := (HQ.out.put p HP1.out hdr (fun g hg => hown g (by cases hg; rfl))).drew
          rw [List.set_set] at q3
          obtain ⟨W3, hW3⟩ : ∃ W3, W3 = (wr.setCell ⟨bl, p, none⟩ (.slice (some ⟨gb, ob', none⟩) (8 - 4) (oa - 4))).drew := ⟨_, rfl⟩
          have c3w : Cha (fun i => i = br ∨ i = bl ∨ i = bn) wr W3 := by rw [hW3]; exact ((Cha.refl _ wr).setCell (p := ⟨bl, p, none⟩) (fun _ => .inr (.inl rfl)) _).drew
          rw [← hW3] at q3
          have HW3 : Hid (W3 = (wr.setCell ⟨bl, p, none⟩ (.slice (some ⟨gb, ob', none⟩) 4 (oa - 4))).drew) := Lib.hid hW3
          have Q3 := Lib.hid q3
          have C3W := Lib.hid c3w
          have C5 := Lib.hid (behind_any (v := .slice a1 B.length cap1) (w := W3) (A := B) x q3.all (by omega))
          rw [← HAn.out] at C5
          have v2 := q3.c2
          have v3 := q3.free 2
          rw [← hAn] at v2
          have KY : Hid (∀ W', Cha (fun _ => False) W3 W' → W'.cell? ⟨br, 2, none⟩ = some (.slice a1 An cap1) ∧ W'.frozen? ⟨br, 2, none⟩ = false) := Lib.hid fun W' hc => by
            have q := Q3.out.same hc
            exact ⟨by rw [HAn.out]; exact q.c2, q.free 2⟩
          clear q c s n hlv hlL hown hel hA1 hAn hcap hcapm hdr hob q3 c3w hW3
          go_wp2
          go_region
          all_goals
            rw [← HW3.out]
            go_wp2_with (go_at_call 41; ((with_reducible refine (C5.out).mono ?_); rintro e w4 ⟨g3, o3, cap3, rfl, m1, m2, m3, m4⟩; have M := Lib.hid (Q3.out.layAll m1 m2 m3 m4); obtain ⟨y1, y2⟩ := KY.out w4 m2; clear m1 m2 m3 m4))
            go_ret
            have M1 := rleft_step (HC.out.trans C3W.out) HS.out (fun i hi => HN.out i hi) (rleft_more (Cha.refl _ _) M.out)
            have eB : B ++ [x] = A ++ (L.take 4 ++ [x]) := by rw [HB.out, List.append_assoc]
            rw [eB] at M1
            exact ⟨rfl, M1⟩
end Go.Proofs.Yteogepfolifneaa
