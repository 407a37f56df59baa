/- The division of 128 bits by 64, as the Go text does it. -/
import Derived.Test.YtlpgfdphoiideaaD
import Derived.Deep.QuietTactic
import Derived.BigQuiet
namespace Go.Proofs.Ytlpgfdphoiideaa
open Go.ChangeShapes Go.WideShapes Go.ChangeAt Go.RowKit

theorem pow_split (s : Int) (h0 : 0 ≤ s) (h1 : s ≤ 63) : (2 : Int) ^ s.toNat * 2 ^ (64 - s).toNat = 18446744073709551616 ∧ 0 < (2 : Int) ^ s.toNat ∧ 0 < (2 : Int) ^ (64 - s).toNat := by
  refine ⟨?_, Int.pow_pos (by omega), Int.pow_pos (by omega)⟩
  rw [← Int.pow_add, show s.toNat + (64 - s).toNat = 64 from by omega]
  rfl

/-- Two halves that have no bit in common are added by 'or'. -/
theorem top_eq (hi lo s : Int) (hh : 0 ≤ hi) (hl0 : 0 ≤ lo) (hl : lo ≤ 18446744073709551615) (h0 : 0 ≤ s) (h1 : s ≤ 63) (hb : hi * 2 ^ s.toNat < 18446744073709551616) :
    bits .or .u64 (IntKind.u64.wrap (hi * 2 ^ s.toNat)) (lo / 2 ^ (64 - s).toNat) = hi * 2 ^ s.toNat + lo / 2 ^ (64 - s).toNat := by
  obtain ⟨hp, hp0, hp1⟩ := pow_split s h0 h1
  have hx : 0 ≤ hi * 2 ^ s.toNat := Int.mul_nonneg hh (by omega)
  rw [wrapI _ hx hb]
  have hlt : lo / 2 ^ (64 - s).toNat < 2 ^ s.toNat := M.quo_lt hp1 (by rw [hp]; omega)
  have hge : 0 ≤ lo / 2 ^ (64 - s).toNat := Int.ediv_nonneg hl0 (by omega)
  obtain ⟨n, hn⟩ := Int.eq_ofNat_of_zero_le hge
  obtain ⟨m, rfl⟩ := Int.eq_ofNat_of_zero_le hh
  rw [hn] at hlt ⊢
  have e2 : (m : Int) * 2 ^ s.toNat = ((2 ^ s.toNat * m : Nat) : Int) := by rw [Int.natCast_mul, Int.natCast_pow, Int.mul_comm]; rfl
  have hlt' : n < 2 ^ s.toNat := by
    have : ((2 ^ s.toNat : Nat) : Int) = 2 ^ s.toNat := by rw [Int.natCast_pow]; rfl
    omega
  rw [e2] at hb ⊢
  have hsz : (2 : Nat) ^ s.toNat ≤ 2 ^ 63 := Nat.pow_le_pow_right (by omega) (by omega)
  rw [bits_or_u64_nat _ _ (by omega) (by omega), ← Nat.two_pow_add_eq_or_of_lt hlt', Int.natCast_add]

/-- What the first rows of the division give: u and l, the dividend's halves, shifted; u is below v. -/
theorem set_up (hi lo y s : Int) (hh0 : 0 ≤ hi) (hh : hi < y) (hl0 : 0 ≤ lo) (hl : lo ≤ 18446744073709551615) (h0 : 0 ≤ s) (h1 : s ≤ 63) (hv : y * 2 ^ s.toNat < 18446744073709551616) :
    0 ≤ bits .or .u64 (IntKind.u64.wrap (hi * 2 ^ s.toNat)) (lo / 2 ^ (64 - s).toNat) ∧
    bits .or .u64 (IntKind.u64.wrap (hi * 2 ^ s.toNat)) (lo / 2 ^ (64 - s).toNat) < y * 2 ^ s.toNat ∧
    0 ≤ IntKind.u64.wrap (lo * 2 ^ s.toNat) ∧ IntKind.u64.wrap (lo * 2 ^ s.toNat) ≤ 18446744073709551615 ∧
    (hi * 18446744073709551616 + lo) / y = (bits .or .u64 (IntKind.u64.wrap (hi * 2 ^ s.toNat)) (lo / 2 ^ (64 - s).toNat) * 18446744073709551616 + IntKind.u64.wrap (lo * 2 ^ s.toNat)) / (y * 2 ^ s.toNat) := by
  obtain ⟨hp, hp0, hp1⟩ := pow_split s h0 h1
  have hx : 0 ≤ hi * 2 ^ s.toNat := Int.mul_nonneg hh0 (by omega)
  have hy : hi * 2 ^ s.toNat + 2 ^ s.toNat ≤ y * 2 ^ s.toNat := by
    have : (hi + 1) * 2 ^ s.toNat ≤ y * 2 ^ s.toNat := Int.mul_le_mul_of_nonneg_right (by omega) (by omega)
    rw [Int.add_mul] at this
    omega
  have hlt : lo / 2 ^ (64 - s).toNat < 2 ^ s.toNat := M.quo_lt hp1 (by rw [hp]; omega)
  have hge : 0 ≤ lo / 2 ^ (64 - s).toNat := Int.ediv_nonneg hl0 (by omega)
  rw [top_eq hi lo s hh0 hl0 hl h0 h1 (by omega), IntKind.wrap_u64, ← M.halves hp0 hp, M.shifted hp0]
  exact ⟨by omega, by omega, by omega, by omega, rfl⟩

theorem wrap_tdiv (u n : Int) (h0 : 0 ≤ u) (hn : 2147483648 ≤ n) (hq : u / n ≤ 4294967297) : IntKind.u64.wrap (u.tdiv n) = u / n := by
  rw [Int.tdiv_eq_ediv_of_nonneg h0]
  exact wrapI _ (Int.ediv_nonneg h0 (by omega)) (by omega)
theorem wrap_left (u n : Int) (h0 : 0 ≤ u) (hu : u ≤ 18446744073709551615) (hn : 2147483648 ≤ n) : IntKind.u64.wrap (u - IntKind.u64.wrap (u / n * n)) = u - u / n * n := by
  have h1 := Int.ediv_mul_add_emod u n
  have h2 := M.mod_bd u n (by omega)
  have h3 : 0 ≤ u / n * n := Int.mul_nonneg (Int.ediv_nonneg h0 (by omega)) (by omega)
  rw [wrapI (u / n * n) h3 (by omega)]
  exact wrapI _ (by omega) (by omega)
/-- What a step leaves, reckoned within 64 bits. -/
theorem wrap_rest (u d v : Int) (hv : 0 < v) (hv1 : v ≤ 18446744073709551615) :
    IntKind.u64.wrap (IntKind.u64.wrap (IntKind.u64.wrap (u * 4294967296) + d) - IntKind.u64.wrap ((u * 4294967296 + d) / v * v)) = (u * 4294967296 + d) % v := by
  have h1 := Int.ediv_mul_add_emod (u * 4294967296 + d) v
  have h2 := M.mod_bd (u * 4294967296 + d) v hv
  simp only [IntKind.wrap_u64]
  generalize (u * 4294967296 + d) / v * v = t at *
  omega

set_option maxHeartbeats 1000000 in
theorem div64_big (hi lo y : Int) (w : World) (hh0 : 0 < hi) (hh : hi < y) (hl0 : 0 ≤ lo) (hl : lo ≤ 18446744073709551615) (hy : y ≤ 18446744073709551615) :
    Calls Try.prog 64 #[.int .u64 hi, .int .u64 lo, .int .u64 y] w fun e w' => (∃ r : Int, e = .returned (.tuple #[.int .u64 ((hi * 18446744073709551616 + lo) / y), .int .u64 r])) ∧ w = w' := by
  have hz' : (hi == 0) = false := by simp; omega
  go_enter Try.func64, Try.ntmps64
  go_upto_block 0 with (go_at_call 65; refine (lead_any _ _ (by omega) (by omega)).mono ?_; rintro e w' ⟨s, hs0, hs1, hs2, hs3, rfl, rfl⟩)
  obtain ⟨f1, f2, f3, f4, f5⟩ := set_up hi lo y s (by omega) hh hl0 hl hs0 hs1 hs3
  have F5 : Hid _ := f5
  clear f5
  generalize bits BinOp.or IntKind.u64 (IntKind.u64.wrap (hi * 2 ^ s.toNat)) (lo / 2 ^ (64 - s).toNat) = u at *
  generalize IntKind.u64.wrap (lo * 2 ^ s.toNat) = l at *
  generalize y * 2 ^ s.toNat = v at *
  have hq4 : v / 4294967296 * 4294967296 + v % 4294967296 = v := by omega
  have hq2 := M.start_q (v := v) (n1 := v / 4294967296) (n0 := v % 4294967296) (u := u) (by omega) (by omega) (by omega) f2
  have hst := M.Step.start (v := v) (n1 := v / 4294967296) (n0 := v % 4294967296) (u := u) (d := l / 4294967296) (by omega) (by omega) (by omega) f1 (by omega) (by omega)
  rw [maskI v (by omega) (by omega), maskI l (by omega) (by omega), wrap_tdiv u _ f1 (by omega) hq2, wrap_left u _ f1 (by omega) (by omega)]
  have n1a : 2147483648 ≤ v / 4294967296 := by omega
  have n1b : v / 4294967296 < 4294967296 := by omega
  have n0a : 0 ≤ v % 4294967296 := by omega
  have n0b : v % 4294967296 < 4294967296 := by omega
  have d1a : 0 ≤ l / 4294967296 := by omega
  have d1b : l / 4294967296 < 4294967296 := by omega
  have d0a : 0 ≤ l % 4294967296 := by omega
  have d0b : l % 4294967296 < 4294967296 := by omega
  have Hl : Hid (l / 4294967296 * 4294967296 + l % 4294967296 = l) := by show _ = _; omega
  have Hv : Hid (v = v / 4294967296 * 4294967296 + v % 4294967296) := by show _ = _; omega
  have hr2 : u - u / (v / 4294967296) * (v / 4294967296) < 4294967296 := by
    have h1 := Int.ediv_mul_add_emod u (v / 4294967296)
    have h2 := M.mod_bd u (v / 4294967296) (by omega)
    omega
  clear hq4
  generalize v / 4294967296 = n1 at *
  generalize v % 4294967296 = n0 at *
  generalize l / 4294967296 = d1 at *
  generalize l % 4294967296 = d0 at *
  go_cut [15] (fun q wx => q = .int .u64 ((u * 4294967296 + d1) / v) ∧ wx = w)
  case first =>
    go_wp2_with fail
    generalize u / n1 = q0 at *
    generalize u - q0 * n1 = r0 at *
    go_loop [15, 16] (fun q r => ∃ a b : Int, M.Step v n1 n0 u d1 a b ∧ a ≤ 4294967297 ∧ b < 4294967296 ∧ q = .int .u64 a ∧ r = .int .u64 b) (fun q _ => (intOf q).toNat)
    case atStart => exact ⟨_, _, hst, hq2, hr2, rfl, rfl⟩
    case round =>
      clear hst hq2 hr2
      obtain ⟨a, b, st, ha, hb, rfl, rfl⟩ := hrel
      have b0 := st.rest0
      have vpos : 0 < v := by omega
      by_cases h : 4294967296 ≤ a ∨ 4294967296 * b + d1 < a * n0
      · have a1 := st.pos vpos f1 d1a Hv.out h
        have st' := st.down vpos Hv.out f2 d1b (by omega) h
        have fin : 4294967296 ≤ b + n1 → a - 1 = (u * 4294967296 + d1) / v := fun hw => st'.wide vpos Hv.out d1a n0a n0b (by omega) hw
        have Hf : Hid _ := fin
        have Hst : Hid _ := st'
        clear fin st' st
        by_cases h4 : 4294967296 ≤ a
        · by_cases h5 : 4294967296 ≤ b + n1
          · go_wp2_with fail
            go_meet
            exact ⟨by rw [Hf.out h5], rfl⟩
          · go_wp2_with fail
            go_round
            case rel => exact ⟨_, _, Hst.out, by omega, by omega, rfl, rfl⟩
            case measure => simp [intOf]; omega
        · have h6 : 4294967296 * b + d1 < a * n0 := by rcases h with h | h; exact absurd h h4; exact h
          have h7 := M.mul_bd (a := a) (b := n0) (A := 4294967295) (B := 4294967295) (by omega) (by omega) (by omega) (by omega)
          clear h
          by_cases h5 : 4294967296 ≤ b + n1
          · go_wp2_with fail
            go_meet
            exact ⟨by rw [Hf.out h5], rfl⟩
          · go_wp2_with fail
            go_round
            case rel => exact ⟨_, _, Hst.out, by omega, by omega, rfl, rfl⟩
            case measure => simp [intOf]; omega
      · have h4 : ¬ 4294967296 ≤ a := fun h' => h (Or.inl h')
        have h6 : ¬ 4294967296 * b + d1 < a * n0 := fun h' => h (Or.inr h')
        have fin := st.done vpos Hv.out (by omega)
        have Hf : Hid _ := fin
        have a0 : 0 ≤ a := by
          have := Int.ediv_nonneg (a := u * 4294967296 + d1) (b := v) (by omega) (by omega)
          omega
        have h7 := M.mul_bd (a := a) (b := n0) (A := 4294967295) (B := 4294967295) (by omega) (by omega) (by omega) (by omega)
        clear h st fin
        go_wp2_with fail
        go_meet
        exact ⟨by rw [Hf.out], rfl⟩
  case rest =>
    obtain ⟨rfl, rfl⟩ := hcut
    clear hst hq2 hr2
    go_upto_block 2 with fail
    rw [wrap_rest u d1 v (by omega) (by omega)]
    obtain ⟨g1, g2⟩ := M.mod_bd (u * 4294967296 + d1) v (by omega)
    have hq1b := M.quo_small (d := d1) (by omega) f2 d1b
    have hq1a : 0 ≤ (u * 4294967296 + d1) / v := Int.ediv_nonneg (by omega) (by omega)
    have F6 : Hid _ := M.two_steps (u := u) (d := d1) (d' := d0) (v := v) (by omega)
    generalize (u * 4294967296 + d1) % v = u2 at *
    generalize (u * 4294967296 + d1) / v = q1 at *
    have hq2 := M.start_q (v := v) (n1 := n1) (n0 := n0) (u := u2) Hv.out (by omega) (by omega) g2
    have hst := M.Step.start (v := v) (n1 := n1) (n0 := n0) (u := u2) (d := d0) Hv.out (by omega) (by omega) g1 (by omega) (by omega)
    rw [wrap_tdiv u2 _ g1 (by omega) hq2, wrap_left u2 _ g1 (by omega) (by omega)]
    have hr2 : u2 - u2 / n1 * n1 < 4294967296 := by
      have h1 := Int.ediv_mul_add_emod u2 n1
      have h2 := M.mod_bd u2 n1 (by omega)
      omega
    go_cut [18] (fun q wx => q = .int .u64 ((u2 * 4294967296 + d0) / v) ∧ wx = wc)
    case first =>
      go_wp2_with fail
      generalize u2 / n1 = q0 at *
      generalize u2 - q0 * n1 = r0 at *
      go_loop [18, 16] (fun q r => ∃ a b : Int, M.Step v n1 n0 u2 d0 a b ∧ a ≤ 4294967297 ∧ b < 4294967296 ∧ q = .int .u64 a ∧ r = .int .u64 b) (fun q _ => (intOf q).toNat)
      case atStart => exact ⟨_, _, hst, hq2, hr2, rfl, rfl⟩
      case round =>
        clear hst hq2 hr2
        obtain ⟨a, b, st, ha, hb, rfl, rfl⟩ := hrel
        have b0 := st.rest0
        have vpos : 0 < v := by omega
        by_cases h : 4294967296 ≤ a ∨ 4294967296 * b + d0 < a * n0
        · have a1 := st.pos vpos g1 d0a Hv.out h
          have st' := st.down vpos Hv.out g2 d0b (by omega) h
          have fin : 4294967296 ≤ b + n1 → a - 1 = (u2 * 4294967296 + d0) / v := fun hw => st'.wide vpos Hv.out d0a n0a n0b (by omega) hw
          have Hf : Hid _ := fin
          have Hst : Hid _ := st'
          clear fin st' st
          by_cases h4 : 4294967296 ≤ a
          · by_cases h5 : 4294967296 ≤ b + n1
            · go_wp2_with fail
              go_meet
              exact ⟨by rw [Hf.out h5], rfl⟩
            · go_wp2_with fail
              go_round
              case rel => exact ⟨_, _, Hst.out, by omega, by omega, rfl, rfl⟩
              case measure => simp [intOf]; omega
          · have h6 : 4294967296 * b + d0 < a * n0 := by rcases h with h | h; exact absurd h h4; exact h
            have h7 := M.mul_bd (a := a) (b := n0) (A := 4294967295) (B := 4294967295) (by omega) (by omega) (by omega) (by omega)
            clear h
            by_cases h5 : 4294967296 ≤ b + n1
            · go_wp2_with fail
              go_meet
              exact ⟨by rw [Hf.out h5], rfl⟩
            · go_wp2_with fail
              go_round
              case rel => exact ⟨_, _, Hst.out, by omega, by omega, rfl, rfl⟩
              case measure => simp [intOf]; omega
        · have h4 : ¬ 4294967296 ≤ a := fun h' => h (Or.inl h')
          have h6 : ¬ 4294967296 * b + d0 < a * n0 := fun h' => h (Or.inr h')
          have fin := st.done vpos Hv.out (by omega)
          have Hf : Hid _ := fin
          have a0 : 0 ≤ a := by
            have := Int.ediv_nonneg (a := u2 * 4294967296 + d0) (b := v) (by omega) (by omega)
            omega
          have h7 := M.mul_bd (a := a) (b := n0) (A := 4294967295) (B := 4294967295) (by omega) (by omega) (by omega) (by omega)
          clear h st fin
          go_wp2_with fail
          go_meet
          exact ⟨by rw [Hf.out], rfl⟩
    case rest =>
      obtain ⟨rfl, rfl⟩ := hcut
      clear hst hq2 hr2
      have hq0b := M.quo_small (d := d0) (by omega) g2 d0b
      have hq0a : 0 ≤ (u2 * 4294967296 + d0) / v := Int.ediv_nonneg (by omega) (by omega)
      have H9 : Hid (q1 * 4294967296 + (u2 * 4294967296 + d0) / v = (hi * 18446744073709551616 + lo) / y) := by
        show _ = _
        rw [F5.out, F6.out, Hl.out]
      clear F5 F6
      generalize (u2 * 4294967296 + d0) / v = q2 at *
      go_wp2
      go_ret2
      exact ⟨⟨_, ret_pair H9.out rfl⟩, rfl⟩

theorem div64_small (lo y : Int) (w : World) (hy0 : 0 < y) (hl0 : 0 ≤ lo) (hl : lo ≤ 18446744073709551615) (hy : y ≤ 18446744073709551615) :
    Calls Try.prog 64 #[.int .u64 0, .int .u64 lo, .int .u64 y] w fun e w' => (∃ r : Int, e = .returned (.tuple #[.int .u64 (lo / y), .int .u64 r])) ∧ Grown w w' := by
  have hq : 0 ≤ lo / y := Int.ediv_nonneg hl0 (by omega)
  have hq1 : lo / y ≤ lo := Int.ediv_le_self y hl0
  have hm := M.mod_bd lo y hy0
  go_enter Try.func64, Try.ntmps64
  go_wp2
  go_quiet (fail)
  go_wp2
  go_ret2
  exact ⟨⟨_, rfl⟩, Grown.refl _⟩

theorem div64_any (hi lo y : Int) (w : World) (hh0 : 0 ≤ hi) (hh : hi < y) (hl0 : 0 ≤ lo) (hl : lo ≤ 18446744073709551615) (hy : y ≤ 18446744073709551615) :
    Calls Try.prog 64 #[.int .u64 hi, .int .u64 lo, .int .u64 y] w fun e w' => (∃ r : Int, e = .returned (.tuple #[.int .u64 ((hi * 18446744073709551616 + lo) / y), .int .u64 r])) ∧ Grown w w' := by
  by_cases hz : hi = 0
  · subst hz
    rw [show (0 : Int) * 18446744073709551616 + lo = lo from by omega]
    exact div64_small lo y w hh hl0 hl hy
  · exact (div64_big hi lo y w (by omega) hh hl0 hl hy).mono fun e w' h => ⟨h.1, h.2 ▸ Grown.refl _⟩
end Go.Proofs.Ytlpgfdphoiideaa
