/- QueueAll: the walk. -/
import Derived.Test.YteogepfolifneaaQB
import Derived.StillTailTactics
namespace Go.Proofs.Yteogepfolifneaa
open Go.ChangeShapes Go.WideShapes Go.ChangeAt Go.RowKit

/-- A byte of a list that came in. -/
theorem byte_at {W : World} {a : Option Addr} {n i : Nat} (h : Nums .u8 W a n) (hi : i < n) : ∃ b o x, a = some ⟨b, o, none⟩ ∧ x ≤ 255 ∧ ∀ w, Cha (fun _ => False) W w → w.cell? ⟨b, o + i, none⟩ = some (.int .u8 ((x : Nat) : Int)) := by
  obtain ⟨b, o, z, rfl, hz⟩ := h.2 (by omega)
  obtain ⟨h1, h2⟩ := hz i hi
  have l := u8_lo h2
  have u := u8_hi h2
  have hb := block_lt_of_cell h1
  refine ⟨b, o, (z i).toNat, rfl, by omega, fun w c => ?_⟩
  have e := c.old b hb (fun x => x)
  rw [Int.toNat_of_nonneg l, ← h1]
  simp [World.cell?, e]
theorem All.cha {w0 w : World} {bq bp bs n k g out : Nat} (h : All w0 w bq bp bs n k g out) : Cha (fun _ => False) w0 w := by obtain ⟨s, sn, hL, _⟩ := h; exact hL.cha
theorem All.same {w0 w w' : World} {bq bp bs n k g out : Nat} (h : All w0 w bq bp bs n k g out) (c : Cha (fun _ => False) w w') : All w0 w' bq bp bs n k g out := by
  obtain ⟨s, sn, ⟨F, z, v, q, k0, a1, a2, a3, i⟩, hI, hk⟩ := h
  exact ⟨s, sn, ⟨F, z, v, q.same c, k0.trans c, a1, a2, a3, i.cha c (fun f => f)⟩, hI, hk⟩
/-- At a round's head. -/
def Head (w0 : World) (bq bp bs n k g out : Nat) (w : World) : Prop := All w0 w bq bp bs n k g out ∧ out ≤ g
theorem all_set {w0 w : World} {bq bp bs n k g out m : Nat} {s : St} {sn : Nat → Nat} (hL : Ls w0 w bq bp bs n sn s) (hI : Inv g (fun i => if i = m then 1 else sn i) s.1 s.2 (out + 1)) (hk : s.1.length = k) : All w0 (w.setCell ⟨bs, m, none⟩ (.int .i64 1)) bq bp bs n k g (out + 1) := ⟨s, _, hL.set m, hI, hk⟩

theorem seen_zero {w0 w : World} {bq bp bs n m : Nat} {s : St} {sn : Nat → Nat} (h : Ls w0 w bq bp bs n sn s) (hm : m < n) (hz : sn m = 0) : w.cell? ⟨bs, m, none⟩ = some (.int .i64 0) := by
  have e2 : ((sn m : Nat) : Int) = 0 := by rw [hz]; rfl
  rw [(h.cell hm).1, e2]
set_option maxRecDepth 100000 in
set_option maxHeartbeats 40000000 in
theorem all_walk (a0 : Option Addr) (n c0 : Nat) (a1 : Option Addr) (m c1 : Nat) (cc : Nat) (w : World) (hn : n ≤ 2000000) (hm : m ≤ 2000000) (hcc : cc ≤ 255) (h0 : Nums .u8 w a0 n) (h1 : Nums .u8 w a1 m) :
    Calls Try.prog 4 #[.slice a0 n c0, .slice a1 m c1, .int .u8 (cc : Int)] w fun e w' => e = .returned (.bool true) ∧ Cha (fun _ => False) w w' := by
  obtain ⟨k1, hk1⟩ : ∃ k1, k1 = cc % 8 := ⟨_, rfl⟩
  have hk8 : k1 < 8 := by omega
  have e0 : (cc : Int) % 8 = (k1 : Int) := by omega
  have C0 : Hid (Calls Try.prog 12 #[.int .i64 ((k1 : Int) + 1)] w fun e w' => e = .returned (.tuple #[.pointer (some ⟨w.heap.size + 1, 0, none⟩), .int .i64 0]) ∧ Live w w' (w.heap.size + 1) w.heap.size (ini (k1 + 1))) := Lib.hid (live_new (k1 + 1) (Cha.refl _ w) (by omega) (by omega))
  have AW := Lib.hid awake_any
  have HMK := mk_seen n hn
  have HN0 := Lib.hid h0
  have HN1 := Lib.hid h1
  have HK := Lib.hid hk1
  clear h0 h1 hk1
  go_enter Try.func4, Try.ntmps4
  go_wp2_with (first
    | (go_at_call 12; ((with_reducible refine (C0.out).mono ?_); rintro e w1 ⟨rfl, h⟩; have H1 := Lib.hid h; clear h))
    | (go_at_call 14; ((with_reducible refine (AW.out _).mono ?_); rintro e w2 ⟨rfl, h⟩; have H2 := Lib.hid (H1.out.same h); clear h)))
  have H3 : Hid (Head w (w.heap.size + 1) w.heap.size w2.heap.size n (k1 + 1) 0 0 (w2.alloc (.cells (fcells n (fun _ => .int .i64 0)) 3))) := Lib.hid ⟨⟨_, _, ls_new H2.out, inv_ini _, by show (List.replicate (k1 + 1) _).length = _; rw [List.length_replicate]⟩, Nat.le_refl _⟩
  clear H1 H2 C0 AW e0 HMK
  generalize w.heap.size + 1 = bq at *
  generalize w.heap.size = bp at *
  generalize w2.heap.size = bs at *
  go_loopw [11, 51] (fun ox ix wr => ∃ g out : Nat, g ≤ n ∧ ix = .int .i64 (g : Int) ∧ ox = .int .i64 (out : Int) ∧ Head w bq bp bs n (k1 + 1) g out wr) (fun _ ix _ => n - (intOf ix).toNat)
  case atStart => exact ⟨0, 0, Nat.zero_le _, rfl, rfl, H3.out⟩
  case round =>
    clear H3
    obtain ⟨g, out, hg, rfl, rfl, hA, hog⟩ := hrel
    have hcw : Cha (fun _ => False) w wr := by exact hA.cha
    by_cases hlt : g < n
    · obtain ⟨b, o, x, rfl, hx, hd0⟩ := byte_at HN0.out hlt
      have d0 := hd0 wr hcw
      clear hd0
      obtain ⟨pp, hpp⟩ : ∃ pp, pp = x % (k1 + 1) := ⟨_, rfl⟩
      have hppk : pp < k1 + 1 := by rw [hpp]; exact Nat.mod_lt _ (by omega)
      have e1 : (x : Int) % ((k1 : Int) + 1) = (pp : Int) := by rw [hpp]; simp
      have P15 := Lib.hid (all_put hA pp hppk (by omega))
      have P17 := Lib.hid (all_last hA (by omega))
      have HPP := Lib.hid hpp
      have HCW := Lib.hid hcw
      have k9 : (0 : Int) < (k1 : Int) + 1 := by omega
      clear hpp hA
      have G : Hid (∀ W q y, All w W bq bp bs n (k1 + 1) (g + 1) out → q < k1 + 1 → Calls Try.prog 19 #[.pointer (some ⟨bq, 0, none⟩), .int .i64 (q : Int), .int .i64 y] W (GotOne w bq bp bs n (k1 + 1) (g + 1) out)) := Lib.hid fun W q y h hq => all_get h q y hq (by omega)
      by_cases h5 : x % 5 = 0
      · have h51 : ((x : Int) % 5 == 0) = true := by simp; omega
        clear h5 e1
        by_cases hmg : g < m
        · obtain ⟨b2, o2, y, rfl, hy, hd1⟩ := byte_at HN1.out hmg
          have KX := Lib.hid hd1
          have k8 : (g : Int) < (m : Int) := by omega
          have k7 : (0 : Int) ≤ (g : Int) := by omega
          clear hd1
          by_cases h2 : y % 2 = 0
          · have h21 : ((y : Int) % 2 == 0) = true := by simp; omega
            obtain ⟨qq, hqq⟩ : ∃ qq, qq = y % (k1 + 1) := ⟨_, rfl⟩
            obtain ⟨q3, hq3⟩ : ∃ q3, q3 = y / 3 := ⟨_, rfl⟩
            have f1 : ((y : Int)).tmod ((k1 : Int) + 1) = (qq : Int) := by rw [Int.tmod_eq_emod_of_nonneg (by omega), hqq]; simp
            have f2 : ((y : Int)) % ((k1 : Int) + 1) = (qq : Int) := by rw [hqq]; simp
            have f3 : ((y : Int)).tdiv 3 = (q3 : Int) := by rw [Int.tdiv_eq_ediv_of_nonneg (by omega)]; omega
            have f4 : ((y : Int)) / 3 = (q3 : Int) := by omega
            have hqk : qq < k1 + 1 := by rw [hqq]; exact Nat.mod_lt _ (by omega)
            have HQK := Lib.hid hqk
            have f5 : IntKind.i64.wrap (y : Int) = (y : Int) := IntWalk.i64_in _ (by omega)
            have f6 : IntKind.i64.wrap (qq : Int) = (qq : Int) := IntWalk.i64_in _ (by omega)
            have f7 : IntKind.i64.wrap (q3 : Int) = (q3 : Int) := IntWalk.i64_in _ (by omega)
            have f8 : ((k1 : Int) + 1 == 0) = false := by simp; omega
            have f9 : ¬ ((k1 : Int) + 1 = 0) := by omega
            clear h2 hqq hq3
            go_wp2_with (go_at_call 17; ((with_reducible refine (P17.out).mono ?_); rintro e w3 ⟨rfl, h⟩; have d1 := KX.out w3 h.cha; have H3 := Lib.hid h; clear h))
            have d2 := KX.out w3.drew (H3.out.cha.drew)
            have H4 := Lib.hid (H3.out.same (Cha.refl _ w3).drew)
            clear d1
            obtain ⟨W7, hW7⟩ : ∃ W7, W7 = w3.drew := ⟨_, rfl⟩
            have HW7 := Lib.hid hW7
            clear hW7
            go_region_law (go_simp; go_at_call 19; refine (G.out w3.drew qq (q3 : Int) H4.out HQK.out).mono ?_; rintro e w4 ⟨m4, s4, sn4, rfl, c1, c2, c3, c4, c5⟩; have t1 : decide ((m4 : Int) < 0) = false := decide_eq_false (Int.not_lt.2 (Int.natCast_nonneg m4)); have t2 : decide ((g : Int) < (m4 : Int)) = false := decide_eq_false (Int.not_lt.2 (Int.ofNat_le.2 (Nat.le_of_lt_succ c1))); have t3 : decide (g < m4) = false := decide_eq_false (Nat.not_lt.2 (Nat.le_of_lt_succ c1)); have t4 : m4 < n := Nat.lt_of_lt_of_le c1 hlt; have d5 := seen_zero c3 t4 c2; have z5 := (c3.cell t4).2; have HS := Lib.hid (all_set c3 c4 c5); clear c2 c3 c4 c5)
            all_goals
              go_wp2
              go_roundw
              case rel => exact ⟨g + 1, out + 1, by omega, by go_num, by go_num, HS.out, by omega⟩
              case measure => simp [intOf]; omega
          · have h21 : ((y : Int) % 2 == 0) = false := by simp; omega
            clear h2
            go_wp2_with (go_at_call 17; ((with_reducible refine (P17.out).mono ?_); rintro e w3 ⟨rfl, h⟩; have d1 := KX.out w3 h.cha; have H3 := Lib.hid h; clear h))
            go_roundw
            case rel => exact ⟨g + 1, out, by omega, by go_num, rfl, H3.out, by omega⟩
            case measure => simp [intOf]; omega
        · have hmg1 : decide (g < m) = false := by simpa using hmg
          have hmg2 : decide ((g : Int) < (m : Int)) = false := by simp; omega
          clear hmg
          go_wp2_with (go_at_call 17; ((with_reducible refine (P17.out).mono ?_); rintro e w3 ⟨rfl, h⟩; have H3 := Lib.hid h; clear h))
          go_roundw
          case rel => exact ⟨g + 1, out, by omega, by go_num, rfl, H3.out, by omega⟩
          case measure => simp [intOf]; omega
      · have h51 : ((x : Int) % 5 == 0) = false := by simp; omega
        clear h5
        by_cases hmg : g < m
        · obtain ⟨b2, o2, y, rfl, hy, hd1⟩ := byte_at HN1.out hmg
          have KX := Lib.hid hd1
          have k8 : (g : Int) < (m : Int) := by omega
          have k7 : (0 : Int) ≤ (g : Int) := by omega
          clear hd1
          by_cases h2 : y % 2 = 0
          · have h21 : ((y : Int) % 2 == 0) = true := by simp; omega
            obtain ⟨qq, hqq⟩ : ∃ qq, qq = y % (k1 + 1) := ⟨_, rfl⟩
            obtain ⟨q3, hq3⟩ : ∃ q3, q3 = y / 3 := ⟨_, rfl⟩
            have f1 : ((y : Int)).tmod ((k1 : Int) + 1) = (qq : Int) := by rw [Int.tmod_eq_emod_of_nonneg (by omega), hqq]; simp
            have f2 : ((y : Int)) % ((k1 : Int) + 1) = (qq : Int) := by rw [hqq]; simp
            have f3 : ((y : Int)).tdiv 3 = (q3 : Int) := by rw [Int.tdiv_eq_ediv_of_nonneg (by omega)]; omega
            have f4 : ((y : Int)) / 3 = (q3 : Int) := by omega
            have hqk : qq < k1 + 1 := by rw [hqq]; exact Nat.mod_lt _ (by omega)
            have HQK := Lib.hid hqk
            have f5 : IntKind.i64.wrap (y : Int) = (y : Int) := IntWalk.i64_in _ (by omega)
            have f6 : IntKind.i64.wrap (qq : Int) = (qq : Int) := IntWalk.i64_in _ (by omega)
            have f7 : IntKind.i64.wrap (q3 : Int) = (q3 : Int) := IntWalk.i64_in _ (by omega)
            have f8 : ((k1 : Int) + 1 == 0) = false := by simp; omega
            have f9 : ¬ ((k1 : Int) + 1 = 0) := by omega
            clear h2 hqq hq3
            go_wp2_with (go_at_call 15; ((with_reducible refine (P15.out).mono ?_); rintro e w3 ⟨rfl, h⟩; have d1 := KX.out w3 h.cha; have H3 := Lib.hid h; clear h))
            have d2 := KX.out w3.drew (H3.out.cha.drew)
            have H4 := Lib.hid (H3.out.same (Cha.refl _ w3).drew)
            clear d1
            obtain ⟨W7, hW7⟩ : ∃ W7, W7 = w3.drew := ⟨_, rfl⟩
            have HW7 := Lib.hid hW7
            clear hW7
            go_region_law (go_simp; go_at_call 19; refine (G.out w3.drew qq (q3 : Int) H4.out HQK.out).mono ?_; rintro e w4 ⟨m4, s4, sn4, rfl, c1, c2, c3, c4, c5⟩; have t1 : decide ((m4 : Int) < 0) = false := decide_eq_false (Int.not_lt.2 (Int.natCast_nonneg m4)); have t2 : decide ((g : Int) < (m4 : Int)) = false := decide_eq_false (Int.not_lt.2 (Int.ofNat_le.2 (Nat.le_of_lt_succ c1))); have t3 : decide (g < m4) = false := decide_eq_false (Nat.not_lt.2 (Nat.le_of_lt_succ c1)); have t4 : m4 < n := Nat.lt_of_lt_of_le c1 hlt; have d5 := seen_zero c3 t4 c2; have z5 := (c3.cell t4).2; have HS := Lib.hid (all_set c3 c4 c5); clear c2 c3 c4 c5)
            all_goals
              go_wp2
              go_roundw
              case rel => exact ⟨g + 1, out + 1, by omega, by go_num, by go_num, HS.out, by omega⟩
              case measure => simp [intOf]; omega
          · have h21 : ((y : Int) % 2 == 0) = false := by simp; omega
            clear h2
            go_wp2_with (go_at_call 15; ((with_reducible refine (P15.out).mono ?_); rintro e w3 ⟨rfl, h⟩; have d1 := KX.out w3 h.cha; have H3 := Lib.hid h; clear h))
            go_roundw
            case rel => exact ⟨g + 1, out, by omega, by go_num, rfl, H3.out, by omega⟩
            case measure => simp [intOf]; omega
        · have hmg1 : decide (g < m) = false := by simpa using hmg
          have hmg2 : decide ((g : Int) < (m : Int)) = false := by simp; omega
          clear hmg
          go_wp2_with (go_at_call 15; ((with_reducible refine (P15.out).mono ?_); rintro e w3 ⟨rfl, h⟩; have H3 := Lib.hid h; clear h))
          go_roundw
          case rel => exact ⟨g + 1, out, by omega, by go_num, rfl, H3.out, by omega⟩
          case measure => simp [intOf]; omega
    · obtain rfl : g = n := by omega
      clear HN0
      obtain ⟨w3, rfl⟩ : ∃ w3 : World, w3 = wr := ⟨_, rfl⟩
      have H4 : Hid (Head w bq bp bs g (k1 + 1) g out w3) := Lib.hid ⟨hA, hog⟩
      clear hA hog hcw
      have hm' : g ≤ 2000000 := hn
      go_wp2
      go_loopw [11] (fun ox wr => ∃ o : Nat, o ≤ g ∧ ox = .int .i64 (o : Int) ∧ All w wr bq bp bs g (k1 + 1) g o) (fun ox _ => g - (intOf ox).toNat)
      case atStart => exact ⟨out, H4.out.2, rfl, H4.out.1⟩
      case round =>
        clear H4
        obtain ⟨o, ho, rfl, hA⟩ := hrel
        by_cases hlt2 : o < g
        · obtain ⟨qq, hqq⟩ : ∃ qq, qq = o % (k1 + 1) := ⟨_, rfl⟩
          have hqk : qq < k1 + 1 := by rw [hqq]; exact Nat.mod_lt _ (by omega)
          have f2 : ((o : Int)) % ((k1 : Int) + 1) = (qq : Int) := by rw [hqq]; simp
          have D := Lib.hid (all_get hA qq (o : Int) hqk hlt2)
          have k9 : (0 : Int) < (k1 : Int) + 1 := by omega
          clear hqq hA
          go_wp2_with (go_at_call 19; ((with_reducible refine (D.out).mono ?_); rintro e w4 ⟨m4, s4, sn4, rfl, c1, c2, c3, c4, c5⟩; have t1 : decide ((m4 : Int) < 0) = false := decide_eq_false (Int.not_lt.2 (Int.natCast_nonneg m4)); have t2 : decide ((g : Int) ≤ (m4 : Int)) = false := decide_eq_false (Int.not_le.2 (Int.ofNat_lt.2 c1)); have t3 : decide (g ≤ m4) = false := decide_eq_false (Nat.not_le.2 c1); have d5 := seen_zero c3 c1 c2; have z5 := (c3.cell c1).2; have HS := Lib.hid (all_set c3 c4 c5); clear c2 c3 c4 c5))
          go_roundw
          case rel => exact ⟨o + 1, by omega, by go_num, HS.out⟩
          case measure => simp [intOf]; omega
        · obtain rfl : o = g := by omega
          have HA := Lib.hid hA
          have E := Lib.hid (all_end hA (by omega))
          clear hA
          go_wp2
          go_loop [19, 154] (fun _ ix => ∃ i : Nat, i ≤ o ∧ ix = .int .i64 (i : Int)) (fun _ ix => o - (intOf ix).toNat)
          case atStart => exact ⟨0, Nat.zero_le _, rfl⟩
          case round =>
            obtain ⟨i, hi, rfl⟩ := hrel
            by_cases hlt3 : i < o
            · have d6 := all_seen HA.out hlt3 hlt3
              go_wp2
              go_round
              case rel => exact ⟨i + 1, by omega, by go_num⟩
              case measure => simp [intOf]; omega
            · obtain rfl : i = o := by omega
              have N19 := Lib.hid (get_none 0 0)
              have N21 := Lib.hid (waiting_none 0)
              have N15 := Lib.hid (put_none 0 1)
              have N17 := Lib.hid (last_none 1)
              go_wp2_with (first
                | (go_at_call 19; ((with_reducible refine (E.out).mono ?_); rintro e w5 ⟨rfl, h⟩; have H5 := Lib.hid h; clear h))
                | (go_at_call 19; ((with_reducible refine (N19.out _).mono ?_); rintro e w6 ⟨rfl, rfl⟩))
                | (go_at_call 21; ((with_reducible refine (N21.out _).mono ?_); rintro e w6 ⟨rfl, rfl⟩))
                | (go_at_call 15; ((with_reducible refine (N15.out _).mono ?_); rintro e w6 ⟨rfl, rfl⟩))
                | (go_at_call 17; ((with_reducible refine (N17.out _).mono ?_); rintro e w6 ⟨rfl, rfl⟩)))
              go_ret
              exact ⟨rfl, H5.out⟩
end Go.Proofs.Yteogepfolifneaa
