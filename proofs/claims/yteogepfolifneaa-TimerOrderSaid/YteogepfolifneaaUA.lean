/- TimerOrder: the walk. -/
import Derived.Test.YteogepfolifneaaTZ
import Derived.BigQuiet
namespace Go.Proofs.Yteogepfolifneaa
open Go.ChangeShapes Go.WideShapes Go.ChangeAt Go.RowKit

set_option maxRecDepth 100000 in
set_option maxHeartbeats 8000000 in
theorem order_walk (a : Option Addr) (n1 c1 : Nat) (now : Int) (z : Nat → Int) (w : World) (hc1 : n1 ≤ c1) (hd1 : c1 ≤ 9223372036854775807) (hn0 : 0 ≤ now) (hn2 : now ≤ 255)
    (ha : 0 < n1 → ∃ g o, a = some ⟨g, o, none⟩ ∧ ∀ i, i < n1 → w.cell? ⟨g, o + i, none⟩ = some (.int .u8 (z i))) (hz : ∀ i, i < n1 → 0 ≤ z i ∧ z i ≤ 255) :
    Calls Try.prog 9 #[.slice a n1 c1, .int .u8 now] w fun e w' => e = .returned (.bool true) ∧ Cha (fun _ => False) w w' := by
  obtain ⟨n, hn⟩ : ∃ k, k = min n1 300 := ⟨_, rfl⟩
  have nle : n ≤ n1 := by omega
  have n300 : n ≤ 300 := by omega
  have mm : min (n1 : Int) 300 = (n : Int) := by omega
  have mn1 : (if 300 < n1 then (300 : Int) else (n1 : Int)) = (n : Int) := by split <;> omega
  have mn2 : (if (300 : Int) < (n1 : Int) then (300 : Int) else (n1 : Int)) = (n : Int) := by split <;> omega
  have hk1 : (n : Int) ≤ (c1 : Int) := by omega
  have HA : Hid (0 < n → ∃ g o, a = some ⟨g, o, none⟩ ∧ ∀ i, i < n → w.cell? ⟨g, o + i, none⟩ = some (.int .u8 (z i))) := Lib.hid fun hp => by
    obtain ⟨g, o, e, hz⟩ := ha (by omega)
    exact ⟨g, o, e, fun i hi => hz i (by omega)⟩
  have ZA : Hid (∀ i, i < n → 0 ≤ z i ∧ z i ≤ 255) := Lib.hid fun i hi => hz i (by omega)
  have C0 : Hid (Calls Try.prog 23 #[.int .i64 2] w fun e w' => e = .returned (.tuple #[.pointer (some ⟨w.heap.size + 1, 0, none⟩), .int .i64 0]) ∧ Pair2 w w' (w.heap.size + 1) w.heap.size z 0) := Lib.hid
    ((tl_new (w0 := w) (w := w) 2 (Cha.refl _ w) (by decide) (by decide)).mono fun e w' ⟨q1, q2⟩ => ⟨q1, [], [], neat_new 2, q2, rfl, (fun x hx => by cases hx), fun x hx => by cases hx⟩)
  have W0 := Lib.hid tawake_any
  have u0 : IntKind.u64.wrap now = now := by rw [IntKind.wrap_u64]; omega
  clear hn ha hz
  go_enter Try.func9, Try.ntmps9
  go_wp2_with (first
    | (go_at_call 23; ((with_reducible refine (C0.out).mono ?_); rintro e w1 ⟨rfl, h⟩; have H1 := Lib.hid h; clear h))
    | (go_at_call 25; ((with_reducible refine (W0.out _).mono ?_); rintro e w2 ⟨rfl, h⟩; have H2 : Hid (Pair2 w w2 _ _ z 0) := Lib.hid (by obtain ⟨A, B, k1, k2, k3⟩ := H1.out; exact ⟨A, B, k1, k2.same h, k3⟩); clear h)))
  clear C0 W0 H1
  generalize w.heap.size + 1 = bt at *
  generalize w.heap.size = bp at *
  clear mm mn1 mn2
  go_loopw [40] (fun i wr => ∃ j : Nat, j ≤ n ∧ i = .int .i64 (j : Int) ∧ Pair2 w wr bt bp z j) (fun i _ => n - (intOf i).toNat)
  case atStart => exact ⟨0, Nat.zero_le _, rfl, H2.out⟩
  case round =>
    clear H2
    obtain ⟨j, hj, rfl, hT⟩ := hrel
    have HT := Lib.hid hT
    clear hT
    by_cases hlt : j < n
    · have hc : Cha (fun _ => False) w wr := by obtain ⟨A, B, k1, k2, k3⟩ := HT.out; exact k2.cha
      obtain ⟨g, o, rfl, hz⟩ := nums_keep HA.out hc (by omega)
      have z1 := hz j hlt
      obtain ⟨y1, y2⟩ := ZA.out j hlt
      have D := Lib.hid (pair_add HT.out (by omega))
      have k1 : IntKind.u64.wrap (z j) = z j := by rw [IntKind.wrap_u64]; omega
      have k2 : (j : Int) < (n : Int) := by omega
      have k3 : (0 : Int) ≤ (j : Int) := by omega
      have k4 : (j : Int).tmod 2 = ((j % 2 : Nat) : Int) := by rw [Int.tmod_eq_emod_of_nonneg (by omega)]; omega
      clear hz hc HT
      generalize ((j % 2 : Nat) : Int) = r at *
      generalize z j = t at *
      go_wp2_with (go_at_call 26; ((with_reducible refine (D.out).mono ?_); rintro e w4 ⟨rfl, h⟩; have H4 := Lib.hid h; clear h))
      go_roundw
      case rel => exact ⟨j + 1, by omega, by go_num, H4.out⟩
      case measure => simp [intOf]; omega
    · obtain rfl : j = n := by omega
      have M0 := Lib.hid (pair_move HT.out (by omega))
      have D0 : Hid (∀ W M, One z j M → Tl w W bt bp [M, []] (j : Int) → Calls Try.prog 29 #[.pointer (some ⟨bt, 0, none⟩), .int .i64 0, .int .u64 now] W fun e w' => ∃ k s c, e = .returned (.slice s k c) ∧ Upto M now k ∧ Tlv w w' bt bp [M.drop k, []] (j : Int) (.slice s k c) ((M.take k).map Ent.id)) := Lib.hid fun W M h1 h => tl_due (p := 0) h rfl (by rw [h1.len]; omega) now
      have D1 : Hid (∀ W M k v, One z j M → k ≤ j → Tlv w W bt bp [M.drop k, []] (j : Int) v ((M.take k).map Ent.id) → Calls Try.prog 29 #[.pointer (some ⟨bt, 0, none⟩), .int .i64 0, .int .u64 255] W fun e w' => ∃ s c, e = .returned (.slice s (j - k) c) ∧ Keep w w' bt bp [[], []] (j : Int) v ((M.take k).map Ent.id) (.slice s (j - k) c) ((M.drop k).map Ent.id)) := Lib.hid fun W M k v h1 hk h => by
        refine (keep_due (p := 0) h rfl (by rw [List.length_drop, h1.len]; omega) 255).mono fun e w' ⟨k2, s, c, q1, hu, hT⟩ => ?_
        have e2 := upto_all hu (fun x hx => by
          obtain ⟨i, i1, rfl⟩ := h1.fit x (List.mem_of_mem_drop hx)
          exact (ZA.out i i1).2)
        have e3 : (M.drop k).length = j - k := by rw [List.length_drop, h1.len]
        rw [e3] at e2
        subst e2
        rw [← e3, List.drop_length, List.take_length] at hT
        rw [e3] at hT
        exact ⟨s, c, q1, hT⟩
      have J0 : Hid (∀ W M k v u, One z j M → k ≤ j → Keep w W bt bp [[], []] (j : Int) v ((M.take k).map Ent.id) u ((M.drop k).map Ent.id) → ∃ s8 n8 c8 w8 s9 c9 w9, (Builtin.append_ #[43, 43] 43 #[.slice none 0 0, v]).run Try.prog W = .ok (.slice s8 n8 c8) w8 ∧
          (Builtin.append_ #[43, 43] 43 #[.slice s8 n8 c8, u]).run Try.prog w8 = .ok (.slice s9 j c9) w9 ∧ Keep w w9 bt bp [[], []] (j : Int) v ((M.take k).map Ent.id) (.slice s9 j c9) (M.map Ent.id)) := Lib.hid fun W M k v u h1 hk h => by
        have e1 : ((M.take k).map Ent.id).length + ((M.drop k).map Ent.id).length = j := by rw [← h1.len]; simp only [List.length_map, List.length_take, List.length_drop]; omega
        have := join_all h (by omega)
        rw [e1, ← List.map_append, List.take_append_drop] at this
        exact this
      clear HT
      go_wp2_with (first
        | (go_at_call 31; ((with_reducible refine (M0.out).mono ?_); rintro e w5 ⟨rfl, M, h1, h⟩; have H5 := Lib.hid h; have O5 := Lib.hid h1; clear h h1))
        | (go_at_call 29; ((with_reducible refine (D0.out _ _ O5.out H5.out).mono ?_); rintro e w6 ⟨k, s6, c6, rfl, hu, h⟩; have H6 := Lib.hid h; have U6 := Lib.hid hu; have hkj : k ≤ j := Nat.le_trans hu.le (Nat.le_of_eq O5.out.len); clear h hu))
        | (go_at_call 29; ((with_reducible refine (D1.out _ _ _ _ O5.out hkj H6.out).mono ?_); rintro e w7 ⟨s7, c7, rfl, h⟩; obtain ⟨s8, n8, c8, w8, s9, c9, w9, r8, r9, h9⟩ := J0.out _ _ _ _ _ O5.out hkj h; have H9 := Lib.hid h9; have R8 := Lib.hid r8; have R9 := Lib.hid r9; clear h h9 r8 r9))
        | (at_builtin; refine Lib.wpList_append_run _ rfl _ _ _ _ rfl _ _ rfl rfl _ _ R8.out ?_)
        | (at_builtin; refine Lib.wpList_append_run _ rfl _ _ _ _ rfl _ _ rfl rfl _ _ R9.out ?_))
      clear M0 D0 D1 J0 H5 H6 R8 R9
      go_loopw [73] (fun i wr => ∃ (m : Nat) (A : List Int), m ≤ k ∧ i = .int .i64 (m : Int) ∧ A.length = k ∧ Keep w wr bt bp [[], []] (j : Int) (.slice s6 k c6) A (.slice s9 j c9) (M.map Ent.id)) (fun i _ => k - (intOf i).toNat)
      case atStart => exact ⟨0, _, Nat.zero_le _, rfl, by rw [List.length_map, List.length_take, O5.out.len]; omega, H9.out⟩
      case round =>
        clear H9
        obtain ⟨m, A, hm, rfl, hA, hK⟩ := hrel
        have HK := Lib.hid hK
        have HAL := Lib.hid hA
        clear hK
        by_cases hlt : m < k
        · obtain ⟨g, o, cp, e, x1, x2, x3, x4, x5⟩ := HK.out.lv.spot (i := m) (by rw [hA]; exact hlt) (-1)
          rw [hA] at e x3
          cases e
          unfold maxLen at x4
          have HX := Lib.hid x5
          have y1 : (m : Int) < (k : Int) := by omega
          have y2 : (0 : Int) ≤ (m : Int) := by omega
          generalize A.getD m 0 = y at *
          clear x5 hA
          go_wp2
          go_roundw
          case rel => exact ⟨m + 1, A.set m (-1), by omega, by go_num, by rw [List.length_set]; exact HAL.out, HK.out.turn HX.out⟩
          case measure => simp [intOf]; omega
        · obtain rfl : m = k := by omega
          have y1 : ¬ ((m : Int) < (m : Int)) := by omega
          have K2 : Hid (∀ W v A, Keep w W bt bp [[], []] (j : Int) v A (.slice s9 j c9) (M.map Ent.id) → Calls Try.prog 35 #[.pointer (some ⟨bt, 0, none⟩)] W fun e w' => e = .returned (.int .i64 0) ∧ Keep w w' bt bp [[], []] (j : Int) v A (.slice s9 j c9) (M.map Ent.id)) := Lib.hid fun W v A h => (tl_count h.tl (by decide)).mono fun e w' ⟨q1, q2⟩ => ⟨q1, h.same q2⟩
          have u5 : IntKind.i64.wrap ((m : Int) + 1) = (m : Int) + 1 := by rw [IntKind.wrap_i64]; omega
          clear hA
          go_wp2_with (first
            | (at_builtin; go_loud (refine wpList_app rfl (.tmp 80) (.tmp 81) rfl (A := A) rfl (HK.out.lv.cha ((Cha.refl (fun _ => False) wr).alloc _) (fun _ _ f => f)) ⟨wr.heap.size, 0, none⟩ 1 1 [-2] rfl rfl (one_new _ _ _) Nat.zero_lt_one (by rw [HAL.out]; simp only [List.length_singleton]; omega) ?_; intro g3 o3 cap3 wA hA3; have HB := Lib.hid ((HK.out.same ((Cha.refl (fun _ => False) wr).alloc _)).turn hA3.iapp); clear hA3; rw [HAL.out] at HB ⊢; simp only [List.length_singleton] at HB ⊢))
            | (go_at_call 35; ((with_reducible refine (K2.out _ _ _ HB.out).mono ?_); rintro e wB ⟨rfl, h⟩; have HE := Lib.hid h; clear h)))
          clear K2 HB HK
          have LL := Lib.hid HE.out.ll
          have CW := Lib.hid HE.out.cha
          have N1 := Lib.hid tnext_none
          have N2 := Lib.hid tadd_none
          have N3 := Lib.hid tmove_none
          have N4 := Lib.hid tdue_none
          have N5 := Lib.hid tcount_none
          have SA := Lib.hid same_any
          clear HE
          go_loopw [102] (fun i wr => ∃ i' : Nat, i' ≤ j ∧ i = .int .i64 (i' : Int) ∧ Cha (fun _ => False) wB wr) (fun i _ => j - (intOf i).toNat)
          case atStart => exact ⟨0, Nat.zero_le _, rfl, Cha.refl _ _⟩
          case round =>
            obtain ⟨i, hi, rfl, hC⟩ := hrel
            have HC := Lib.hid hC
            clear hC
            by_cases hlt : i < j
            · have hcw : Cha (fun _ => False) w wr := CW.out.trans HC.out
              have ll := LL.out.cha HC.out (fun _ _ f => f)
              have hML : (M.map Ent.id).length = j := by rw [List.length_map]; exact O5.out.len
              obtain ⟨gl, ol, cl, e1, x1, x3, x4⟩ := ll.at (i := i) (by rw [hML]; exact hlt)
              rw [hML] at e1 x3
              cases e1
              unfold maxLen at x4
              have gid : ∀ q, q < j → (M.map Ent.id).getD q 0 = (M.getD q ⟨0, 0, 0⟩).id := fun q hq => by
                have : q < M.length := by rw [O5.out.len]; exact hq
                simp [List.getD, this]
              obtain ⟨q, hq, eq⟩ := O5.out.at hlt
              rw [gid i hlt, eq] at x1
              replace x1 : wr.cell? ⟨gl, ol + i, none⟩ = some (.int .i64 (q : Int)) := x1
              obtain ⟨g, o, rfl, hz⟩ := nums_keep HA.out hcw (by omega)
              have z1 := hz q hq
              have hup : z q ≤ now ↔ i < m := by
                have := upto_at U6.out O5.out.up (k := i) (by rw [O5.out.len]; exact hlt)
                rw [eq] at this
                exact this
              have y1 : (i : Int) < (j : Int) := by omega
              have y2 : (0 : Int) ≤ (i : Int) := by omega
              have y3 : ¬ ((q : Int) < 0) := by omega
              have y4 : ¬ ((j : Int) ≤ (q : Int)) := by omega
              have y5 : (0 : Int) ≤ (q : Int) := by omega
              have y6 : (q : Int) < (j : Int) := by omega
              have hdd : (!(decide (z q ≤ now) == decide (i < m))) = false := by
                by_cases c : i < m
                · rw [decide_eq_true (hup.2 c), decide_eq_true c]; rfl
                · rw [decide_eq_false (fun h => c (hup.1 h)), decide_eq_false c]; rfl
              by_cases hi0 : i = 0
              · have hg : decide (0 < i) = false := decide_eq_false (by omega)
                clear hz hup gid ll eq hi0
                generalize z q = t at *
                go_wp2
                go_quiet (fail)
                go_wp2
                go_roundw
                case rel => exact ⟨i + 1, by omega, by go_num, (HC.out.drewN _)⟩
                case measure => simp [intOf]; omega
              · obtain ⟨p, hp, ep⟩ := O5.out.at (k := i - 1) (by omega)
                have hst := O5.out.step hlt (by omega) eq ep
                obtain ⟨_, _, _, e2, x2, _, _⟩ := ll.at (i := i - 1) (by rw [hML]; omega)
                rw [hML] at e2
                cases e2
                rw [gid (i - 1) (by omega), ep] at x2
                replace x2 : wr.cell? ⟨gl, ol + (i - 1), none⟩ = some (.int .i64 (p : Int)) := x2
                have z2 := hz p hp
                have hg : decide (0 < i) = true := decide_eq_true (by omega)
                have w1 : IntKind.i64.wrap ((i : Int) - 1) = ((i - 1 : Nat) : Int) := by rw [IntKind.wrap_i64]; omega
                have v1 : ((i - 1 : Nat) : Int) < (j : Int) := by omega
                have v2 : (0 : Int) ≤ ((i - 1 : Nat) : Int) := by omega
                have v3 : (0 : Int) ≤ (p : Int) := by omega
                have v4 : (p : Int) < (j : Int) := by omega
                clear hz hup gid ll eq ep hi0
                generalize i - 1 = h at *
                generalize z q = t at *
                generalize z p = tp at *
                obtain ⟨sb, hsb⟩ : ∃ sb, sb = ((p : Int).tmod 2 == (q : Int).tmod 2) := ⟨_, rfl⟩
                have SB : Hid (∀ W, Calls Try.prog 36 #[.int .i64 (p : Int), .int .i64 (q : Int)] W fun e w' => e = .returned (.bool sb) ∧ w' = W) := Lib.hid fun W => by rw [hsb]; exact SA.out _ _ W
                clear hsb
                rcases hst with hst | ⟨rfl, hst⟩
                · have r1 : decide (t < tp) = false := decide_eq_false (by omega)
                  have r2 : (tp == t) = false := by simpa using (by omega : ¬ tp = t)
                  go_wp2
                  go_quiet ((go_at_call 36; exact Calls.quiet_of_same (SB.out _)))
                  go_wp2
                  go_roundw
                  case rel => exact ⟨i + 1, by omega, by go_num, (HC.out.drewN _)⟩
                  case measure => simp [intOf]; omega
                · have r1 : decide (tp < tp) = false := decide_eq_false (by omega)
                  have r3 : decide (q < p) = false := decide_eq_false (by omega)
                  cases sb
                  all_goals
                    go_wp2
                    go_quiet ((go_at_call 36; exact Calls.quiet_of_same (SB.out _)))
                    go_wp2
                    go_roundw
                    case rel => exact ⟨i + 1, by omega, by go_num, (HC.out.drewN _)⟩
                    case measure => simp [intOf]; omega
            · obtain rfl : i = j := by omega
              have y1 : ¬ ((i : Int) < (i : Int)) := by omega
              go_wp2_with (first
                | (go_at_call 33; ((with_reducible refine (N1.out _ _).mono ?_); rintro e w1 ⟨rfl, rfl⟩))
                | (go_at_call 26; ((with_reducible refine (N2.out _ _ _ _).mono ?_); rintro e w1 ⟨rfl, rfl⟩))
                | (go_at_call 31; ((with_reducible refine (N3.out _ _ _).mono ?_); rintro e w1 ⟨rfl, rfl⟩))
                | (go_at_call 29; ((with_reducible refine (N4.out _ _ _).mono ?_); rintro e w1 ⟨rfl, rfl⟩))
                | (go_at_call 35; ((with_reducible refine (N5.out _).mono ?_); rintro e w1 ⟨rfl, rfl⟩)))
              go_ret
              exact ⟨rfl, CW.out.trans HC.out⟩
end Go.Proofs.Yteogepfolifneaa
