/- TimerMoves: the walk. -/
import Derived.Test.YteogepfolifneaaTV
import Derived.BigQuiet
namespace Go.Proofs.Yteogepfolifneaa
open Go.ChangeShapes Go.WideShapes Go.ChangeAt Go.RowKit

set_option maxRecDepth 100000 in
set_option maxHeartbeats 8000000 in
theorem moves_walk (a b : Option Addr) (n1 c1 n2 c2 : Nat) (za zb : Nat → Int) (w : World) (hc1 : n1 ≤ c1) (hd1 : c1 ≤ 9223372036854775807) (hc2 : n2 ≤ c2) (hd2 : c2 ≤ 9223372036854775807)
    (ha : 0 < n1 → ∃ g o, a = some ⟨g, o, none⟩ ∧ ∀ i, i < n1 → w.cell? ⟨g, o + i, none⟩ = some (.int .u8 (za i))) (hza : ∀ i, i < n1 → 0 ≤ za i ∧ za i ≤ 255)
    (hb : 0 < n2 → ∃ g o, b = some ⟨g, o, none⟩ ∧ ∀ i, i < n2 → w.cell? ⟨g, o + i, none⟩ = some (.int .u8 (zb i))) (hzb : ∀ i, i < n2 → 0 ≤ zb i ∧ zb i ≤ 255) :
    Calls Try.prog 10 #[.slice a n1 c1, .slice b n2 c2] w fun e w' => e = .returned (.bool true) ∧ Cha (fun _ => False) w w' := by
  obtain ⟨na, hna⟩ : ∃ k, k = min n1 100 := ⟨_, rfl⟩
  obtain ⟨nb, hnb⟩ : ∃ k, k = min n2 100 := ⟨_, rfl⟩
  have na1 : na ≤ n1 := by omega
  have na2 : na ≤ 100 := by omega
  have nb1 : nb ≤ n2 := by omega
  have nb2 : nb ≤ 100 := by omega
  have mm1 : min (n1 : Int) 100 = (na : Int) := by omega
  have mm2 : min (n2 : Int) 100 = (nb : Int) := by omega
  have hk1 : (na : Int) ≤ (c1 : Int) := by omega
  have hk2 : (nb : Int) ≤ (c2 : Int) := by omega
  have HA : Hid (0 < na → ∃ g o, a = some ⟨g, o, none⟩ ∧ ∀ i, i < na → w.cell? ⟨g, o + i, none⟩ = some (.int .u8 (za i))) := Lib.hid fun hp => by
    obtain ⟨g, o, e, hz⟩ := ha (by omega)
    exact ⟨g, o, e, fun i hi => hz i (by omega)⟩
  have HB : Hid (0 < nb → ∃ g o, b = some ⟨g, o, none⟩ ∧ ∀ i, i < nb → w.cell? ⟨g, o + i, none⟩ = some (.int .u8 (zb i))) := Lib.hid fun hp => by
    obtain ⟨g, o, e, hz⟩ := hb (by omega)
    exact ⟨g, o, e, fun i hi => hz i (by omega)⟩
  have ZA : Hid (∀ i, i < na → 0 ≤ za i ∧ za i ≤ 255) := Lib.hid fun i hi => hza i (by omega)
  have ZB : Hid (∀ i, i < nb → 0 ≤ zb i ∧ zb i ≤ 255) := Lib.hid fun i hi => hzb i (by omega)
  have C0 : Hid (∀ W, Cha (fun _ => False) w W → Calls Try.prog 23 #[.int .i64 3] W fun e w' => e = .returned (.tuple #[.pointer (some ⟨W.heap.size + 1, 0, none⟩), .int .i64 0]) ∧ Tri w w' (W.heap.size + 1) W.heap.size [] [] [] 0) := Lib.hid fun W c =>
    (tl_new (w0 := w) (w := W) 3 c (by decide) (by decide)).mono fun e w' ⟨q1, q2⟩ => ⟨q1, neat_new 3, q2⟩
  have C0 := Lib.hid (C0.out w (Cha.refl _ _))
  have W0 := Lib.hid tawake_any
  clear hna hnb ha hb hza hzb
  go_enter Try.func10, Try.ntmps10
  go_wp2_with (first
    | (go_at_call 23; ((with_reducible refine (C0.out).mono ?_); rintro e w1 ⟨rfl, h⟩; have H1 := Lib.hid h; clear h))
    | (go_at_call 25; ((with_reducible refine (W0.out _).mono ?_); rintro e w2 ⟨rfl, h⟩; have H2 := Lib.hid (H1.out.same h); clear h)))
  clear C0 W0 H1
  generalize w.heap.size + 1 = bt at *
  generalize w.heap.size = bp at *
  go_quiet (fail)
  have H3 : Hid (Tri w (w2.drewN nq) bt bp [] [] [] 0) := Lib.hid (H2.out.same ((Cha.refl _ w2).drewN nq))
  clear H2 mm1 mm2
  generalize w2.drewN nq = w3 at *
  go_wp2
  go_loopw [42] (fun i wr => ∃ j : Nat, j ≤ na ∧ i = .int .i64 (j : Int) ∧ ∃ A, From za 0 j A ∧ Tri w wr bt bp A [] [] j) (fun i _ => na - (intOf i).toNat)
  case atStart => exact ⟨0, Nat.zero_le _, rfl, [], from_none za 0, H3.out⟩
  case round =>
    clear H3
    obtain ⟨j, hj, rfl, A, hF, hT⟩ := hrel
    have HF := Lib.hid hF
    have HT := Lib.hid hT
    clear hF hT
    by_cases hlt : j < na
    · have hc := HT.out.2.cha
      obtain ⟨g, o, rfl, hz⟩ := nums_keep HA.out hc (by omega)
      have z1 := hz j hlt
      obtain ⟨y1, y2⟩ := ZA.out j hlt
      have D : Hid (Calls Try.prog 26 #[.pointer (some ⟨bt, 0, none⟩), .int .i64 0, .int .u64 (za j), .int .i64 (j : Int)] wr fun e w' => e = .returned (.int .i64 0) ∧ ∃ A, From za 0 (j + 1) A ∧ Tri w w' bt bp A [] [] (j + 1)) := Lib.hid ((tri_add0 HT.out (by have := HF.out.1; simp only [List.length_nil]; omega) (by omega) (za j) (j : Int)).mono fun e w' ⟨q1, L', hA, hT⟩ => ⟨q1, L', HF.out.more (b := (j : Int)) (by rw [Nat.zero_add]; exact hA), hT⟩)
      have k1 : IntKind.u64.wrap (za j) = za j := by rw [IntKind.wrap_u64]; omega
      have k2 : (j : Int) < (na : Int) := by omega
      have k3 : (0 : Int) ≤ (j : Int) := by omega
      clear hz hc HF HT
      generalize za j = t at *
      go_wp2_with (go_at_call 26; ((with_reducible refine (D.out).mono ?_); rintro e w4 ⟨rfl, h⟩; have H4 := Lib.hid h; clear h))
      go_roundw
      case rel => exact ⟨j + 1, by omega, by go_num, H4.out⟩
      case measure => simp [intOf]; omega
    · obtain rfl : j = na := by omega
      have k1 : ¬ ((j : Int) < (j : Int)) := by omega
      go_wp2
      go_loopw [55] (fun i wr => ∃ m : Nat, m ≤ nb ∧ i = .int .i64 (m : Int) ∧ ∃ B, From zb 1000 m B ∧ Tri w wr bt bp A B [] (j + m)) (fun i _ => nb - (intOf i).toNat)
      case atStart => exact ⟨0, Nat.zero_le _, rfl, [], from_none zb 1000, HT.out⟩
      case round =>
        obtain ⟨m, hm, rfl, B, hF2, hT⟩ := hrel
        have HF2 := Lib.hid hF2
        have HT2 := Lib.hid hT
        clear hF2 hT HT
        by_cases hlt : m < nb
        · have hc := HT2.out.2.cha
          obtain ⟨g, o, rfl, hz⟩ := nums_keep HB.out hc (by omega)
          have z1 := hz m hlt
          obtain ⟨y1, y2⟩ := ZB.out m hlt
          have D : Hid (Calls Try.prog 26 #[.pointer (some ⟨bt, 0, none⟩), .int .i64 1, .int .u64 (zb m), .int .i64 (1000 + (m : Int))] wr fun e w' => e = .returned (.int .i64 0) ∧ ∃ B, From zb 1000 (m + 1) B ∧ Tri w w' bt bp A B [] (j + (m + 1))) := Lib.hid ((tri_add1 HT2.out (by have := HF.out.1; have := HF2.out.1; simp only [List.length_nil]; omega) (by omega) (zb m) (1000 + (m : Int))).mono fun e w' ⟨q1, L', hA, hT⟩ => ⟨q1, L', HF2.out.more (b := ((j + m : Nat) : Int)) hA, hT⟩)
          have k2 : IntKind.u64.wrap (zb m) = zb m := by rw [IntKind.wrap_u64]; omega
          have k3 : (m : Int) < (nb : Int) := by omega
          have k4 : (0 : Int) ≤ (m : Int) := by omega
          have k5 : IntKind.i64.wrap (1000 + (m : Int)) = 1000 + (m : Int) := by rw [IntKind.wrap_i64]; omega
          clear hz hc HF2 HT2
          generalize zb m = t at *
          go_wp2_with (go_at_call 26; ((with_reducible refine (D.out).mono ?_); rintro e w4 ⟨rfl, h⟩; have H4 := Lib.hid h; clear h))
          go_roundw
          case rel => exact ⟨m + 1, by omega, by go_num, H4.out⟩
          case measure => simp [intOf]; omega
        · obtain rfl : m = nb := by omega
          have hlA := HF.out.1
          have hlB := HF2.out.1
          have K1 : Hid (Calls Try.prog 35 #[.pointer (some ⟨bt, 0, none⟩)] wr fun e w' => e = .returned (.int .i64 ((j : Int) + (m : Int))) ∧ Tri w w' bt bp A B [] (j + m)) := Lib.hid (by
            have := tri_count HT2.out (by simp only [List.length_nil]; omega)
            rw [hlA, hlB, List.length_nil, Nat.add_zero, Int.natCast_add] at this
            exact this.mono fun e w' ⟨q1, q2⟩ => ⟨q1, HT2.out.same q2⟩)
          have M0 : Hid (∀ W, Tri w W bt bp A B [] (j + m) → Calls Try.prog 31 #[.pointer (some ⟨bt, 0, none⟩), .int .i64 0, .int .i64 2] W fun e w' => e = .returned (.int .i64 0) ∧ ∃ M, M.Perm (A ++ []) ∧ Tri w w' bt bp [] B M (j + m)) := Lib.hid fun W h => tri_move0 h (by simp only [List.length_nil]; omega)
          have M1 : Hid (∀ W M, M.Perm (A ++ []) → Tri w W bt bp [] B M (j + m) → Calls Try.prog 31 #[.pointer (some ⟨bt, 0, none⟩), .int .i64 1, .int .i64 2] W fun e w' => e = .returned (.int .i64 0) ∧ ∃ M, (M.length = j + m ∧ (∀ x ∈ M, Fits za zb j m x)) ∧ Tri w w' bt bp [] [] M (j + m)) := Lib.hid fun W M hM h => by
            have hl := hM.length_eq
            rw [List.append_nil] at hl
            refine (tri_move1 h (by simp only [List.length_nil]; omega)).mono fun e w' ⟨q1, M2, m2, hT⟩ => ⟨q1, M2, ⟨?_, fun x hx => ?_⟩, hT⟩
            · rw [m2.length_eq, List.length_append]; omega
            · rcases List.mem_append.1 (m2.mem_iff.1 hx) with hx | hx
              · obtain ⟨i, h1, h2, h3⟩ := HF2.out.2 x hx
                exact .inr ⟨i, h1, by rw [h2]; omega, h3⟩
              · have hx := hM.mem_iff.1 hx
                rw [List.append_nil] at hx
                obtain ⟨i, h1, h2, h3⟩ := HF.out.2 x hx
                exact .inl ⟨i, h1, by rw [h2]; omega, h3⟩
          have S2 : Hid (∀ W M, Tri w W bt bp [] [] M (j + m) → Calls Try.prog 31 #[.pointer (some ⟨bt, 0, none⟩), .int .i64 2, .int .i64 2] W fun e w' => e = .returned (.int .i64 0) ∧ W = w') := Lib.hid fun W M h => tri_self h
          have D0 : Hid (∀ W M, Tri w W bt bp [] [] M (j + m) → Calls Try.prog 29 #[.pointer (some ⟨bt, 0, none⟩), .int .i64 0, .int .u64 999] W fun e w' => ∃ s c, e = .returned (.slice s 0 c) ∧ Tri w w' bt bp [] [] M (j + m)) := Lib.hid fun W M h => tri_due0 h 999
          have D1 : Hid (∀ W M, Tri w W bt bp [] [] M (j + m) → Calls Try.prog 29 #[.pointer (some ⟨bt, 0, none⟩), .int .i64 1, .int .u64 999] W fun e w' => ∃ s c, e = .returned (.slice s 0 c) ∧ Tri w w' bt bp [] [] M (j + m)) := Lib.hid fun W M h => tri_due1 h 999
          have D2 : Hid (∀ W M, (M.length = j + m ∧ (∀ x ∈ M, Fits za zb j m x)) → Tri w W bt bp [] [] M (j + m) → Calls Try.prog 29 #[.pointer (some ⟨bt, 0, none⟩), .int .i64 2, .int .u64 999] W fun e w' => ∃ s c, e = .returned (.slice s (j + m) c) ∧ Tri w w' bt bp [] [] [] (j + m) ∧ Lies w' (.slice s (j + m) c) (M.map Ent.id)) := Lib.hid fun W M hM h => by
            have := tri_due2 h (by omega) (fun x hx => by
              rcases hM.2 x hx with ⟨i, h1, h2, h3⟩ | ⟨i, h1, h2, h3⟩
              · have := ZA.out i h1; omega
              · have := ZB.out i h1; omega)
            rw [hM.1] at this
            exact this
          have K2 : Hid (∀ W, Tri w W bt bp [] [] [] (j + m) → Calls Try.prog 35 #[.pointer (some ⟨bt, 0, none⟩)] W fun e w' => e = .returned (.int .i64 0) ∧ Cha (fun _ => False) W w') := Lib.hid fun W h => tri_count h (by decide)
          have u1 : IntKind.i64.wrap ((j : Int) + (m : Int)) = (j : Int) + (m : Int) := by rw [IntKind.wrap_i64]; omega
          clear HF HF2 HT2 hlA hlB
          go_wp2_with (first
            | (go_at_call 35; ((with_reducible refine (K1.out).mono ?_); rintro e w4 ⟨rfl, h⟩; have H4 := Lib.hid h; clear h))
            | (go_at_call 31; ((with_reducible refine (M0.out _ H4.out).mono ?_); rintro e w5 ⟨rfl, Ma, ha, h⟩; have H5 := Lib.hid h; have P5 := Lib.hid ha; clear h ha))
            | (go_at_call 31; ((with_reducible refine (M1.out _ _ P5.out H5.out).mono ?_); rintro e w6 ⟨rfl, M, hM, h⟩; have H6 := Lib.hid h; have P6 := Lib.hid hM; clear h hM))
            | (go_at_call 31; ((with_reducible refine (S2.out _ _ H6.out).mono ?_); rintro e w7 ⟨rfl, rfl⟩))
            | (go_at_call 29; ((with_reducible refine (D0.out _ _ H6.out).mono ?_); rintro e w8 ⟨s8, c8, rfl, h⟩; have H8 := Lib.hid h; clear h))
            | (go_at_call 29; ((with_reducible refine (D1.out _ _ H8.out).mono ?_); rintro e w9 ⟨s9, c9, rfl, h⟩; have H9 := Lib.hid h; clear h))
            | (go_at_call 29; ((with_reducible refine (D2.out _ _ P6.out H9.out).mono ?_); rintro e wA ⟨sA, cA, rfl, h, hl⟩; have HX := Lib.hid h; have LX := Lib.hid hl; clear h hl))
            | (go_at_call 35; ((with_reducible refine (K2.out _ HX.out).mono ?_); rintro e wB ⟨rfl, h⟩; have HY := Lib.hid (HX.out.2.cha.trans h); have LY := Lib.hid (LX.out.cha h (fun _ _ f => f)); clear h)))
          have RM : Hid (Rises M) := Lib.hid (H6.out.1.tidy.up 2 M rfl)
          clear K1 M0 M1 S2 D0 D1 D2 K2 H4 H5 P5 H6 H8 H9 HX LX
          have PL := P6.out.1
          go_loopw [12, 119] (fun u i wr => ∃ k : Nat, k ≤ j + m ∧ i = .int .i64 (k : Int) ∧ u = .int .i64 (lastAt M k) ∧ Cha (fun _ => False) wB wr) (fun _ i _ => (j + m) - (intOf i).toNat)
          case atStart => exact ⟨0, Nat.zero_le _, rfl, rfl, Cha.refl _ _⟩
          case round =>
            obtain ⟨k, hk, rfl, rfl, hC⟩ := hrel
            have HC := Lib.hid hC
            clear hC
            by_cases hlt : k < j + m
            · obtain ⟨gl, ol, cl, e1, x1, _, _⟩ := (LY.out.cha HC.out (fun _ _ f => f)).at (i := k) (by rw [List.length_map, PL]; exact hlt)
              rw [List.length_map, PL] at e1
              cases e1
              have hkM : k < M.length := by rw [PL]; exact hlt
              have e2 : (M.map Ent.id).getD k 0 = (M.getD k ⟨0, 0, 0⟩).id := by simp [List.getD, hkM]
              rw [e2] at x1
              have e3 : M.getD k ⟨0, 0, 0⟩ = M[k] := by simp [List.getD, hkM]
              have hmem : M.getD k ⟨0, 0, 0⟩ ∈ M := by rw [e3]; exact List.getElem_mem hkM
              have hle := last_le RM.out hkM (fun x hx => by
                rcases P6.out.2 x hx with ⟨i, h1, h2, h3⟩ | ⟨i, h1, h2, h3⟩
                · have := ZA.out i h1; omega
                · have := ZB.out i h1; omega)
              have hnext : lastAt M (k + 1) = (M.getD k ⟨0, 0, 0⟩).when := by unfold lastAt; rw [if_neg (by omega), Nat.add_sub_cancel]
              have HNX := Lib.hid hnext
              have hf := P6.out.2 _ hmem
              have hcw : Cha (fun _ => False) w wr := HY.out.trans HC.out
              have q1 : (k : Int) < (j : Int) + (m : Int) := by omega
              have q2 : (0 : Int) ≤ (k : Int) := by omega
              clear hnext e2 e3 hmem hkM
              generalize lastAt M k = la at *
              generalize M.getD k ⟨0, 0, 0⟩ = ee at *
              obtain ⟨t0, t1, t2⟩ := ee
              dsimp only at *
              rcases hf with ⟨i, h1, h2, h3⟩ | ⟨i, h1, h2, h3⟩
              · replace h2 : t2 = (i : Int) := h2
                replace h3 : t0 = za i := h3
                obtain ⟨g, o, rfl, hz⟩ := nums_keep HA.out hcw (by omega)
                have z1 := hz i h1
                obtain ⟨y1, y2⟩ := ZA.out i h1
                have r1 : ¬ ((1000 : Int) ≤ t2) := by omega
                have r2 : (0 : Int) ≤ t2 := by omega
                have r3 : t2 < (j : Int) := by omega
                have r4 : t2.toNat = i := by omega
                have r5 : ¬ (za i < la) := by omega
                have r6 : IntKind.i64.wrap (za i) = za i := by rw [IntKind.wrap_i64]; omega
                have HT0 := Lib.hid h3
                clear hz h3 h2
                go_wp2
                go_roundw
                case rel => exact ⟨k + 1, by omega, by go_num, by rw [HNX.out, ← HT0.out], HC.out⟩
                case measure => simp [intOf]; omega
              · replace h2 : t2 = 1000 + (i : Int) := h2
                replace h3 : t0 = zb i := h3
                obtain ⟨g, o, rfl, hz⟩ := nums_keep HB.out hcw (by omega)
                have z1 := hz i h1
                obtain ⟨y1, y2⟩ := ZB.out i h1
                have r1 : (1000 : Int) ≤ t2 := by omega
                have r2 : IntKind.i64.wrap (t2 - 1000) = (i : Int) := by rw [IntKind.wrap_i64]; omega
                have r3 : (i : Int) < (m : Int) := by omega
                have r5 : ¬ (zb i < la) := by omega
                have r6 : IntKind.i64.wrap (zb i) = zb i := by rw [IntKind.wrap_i64]; omega
                have HT0 := Lib.hid h3
                clear hz h3 h2
                go_wp2
                go_roundw
                case rel => exact ⟨k + 1, by omega, by go_num, by rw [HNX.out, ← HT0.out], HC.out⟩
                case measure => simp [intOf]; omega
            · obtain rfl : k = j + m := by omega
              have q1 : ¬ (((j + m : Nat) : Int) < (j : Int) + (m : Int)) := by omega
              go_wp2
              go_ret
              exact ⟨rfl, HY.out.trans HC.out⟩
end Go.Proofs.Yteogepfolifneaa
