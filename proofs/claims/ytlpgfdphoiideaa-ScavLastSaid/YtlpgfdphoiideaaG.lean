/- Contracts of the document's own answers of layer 1: bit, Quotient. -/
import Derived.Test.YtlpgfdphoiideaaF
import Derived.Test.YtlpgfdphoiideaaN
import Derived.Laws.Rows
namespace Go.Proofs.Ytlpgfdphoiideaa
open Go.ChangeShapes Go.WideShapes Go.ChangeAt Go.RowKit

theorem mask1 (a : Int) (h0 : 0 ≤ a) (ha : a < 18446744073709551616) : bits .and .u64 a 1 = a % 2 := by
  obtain ⟨n, rfl⟩ := Int.eq_ofNat_of_zero_le h0
  have h := bits_and_u64_nat n 1 (by omega) (by omega)
  rw [Nat.and_one_is_mod] at h
  exact h.trans (by omega)

theorem one_bit (d m : Int) (h0 : 0 ≤ d) (h1 : d < 4294967296) : bits .and .u64 (d / 2 ^ m.toNat) 1 = d / 2 ^ m.toNat % 2 := by
  have hp : 0 < (2 : Int) ^ m.toNat := Int.pow_pos (by omega)
  have h2 : d / 2 ^ m.toNat ≤ d := Int.ediv_le_self _ h0
  exact mask1 _ (Int.ediv_nonneg h0 (by omega)) (by omega)

theorem bit_case0 (d0 d1 d2 d3 m : Int) (w : World) (hm : 0 ≤ m) (hm1 : m ≤ 31) (h0 : 0 ≤ d0) (h1 : d0 < 4294967296) :
    Calls Try.prog 62 #[.agg #[.int .u64 d0, .int .u64 d1, .int .u64 d2, .int .u64 d3], .int .i64 m] w fun e w' => e = .returned (.int .u64 (d0 / 2 ^ m.toNat % 2)) ∧ Grown w w' := by
  have e1 : m / 32 = 0 := by omega
  have e2 : m % 32 = m := by omega
  go_enter Try.func62, Try.ntmps62
  go_wp2
  go_ret
  exact ⟨ret_int (one_bit _ _ h0 h1), (Grown.refl _).alloc _ _⟩
theorem bit_case1 (d0 d1 d2 d3 m : Int) (w : World) (hm : 0 ≤ m) (hm1 : m ≤ 31) (h0 : 0 ≤ d1) (h1 : d1 < 4294967296) :
    Calls Try.prog 62 #[.agg #[.int .u64 d0, .int .u64 d1, .int .u64 d2, .int .u64 d3], .int .i64 (32 + m)] w fun e w' => e = .returned (.int .u64 (d1 / 2 ^ m.toNat % 2)) ∧ Grown w w' := by
  have e1 : (32 + m) / 32 = 1 := by omega
  have e2 : (32 + m) % 32 = m := by omega
  go_enter Try.func62, Try.ntmps62
  go_wp2
  go_ret
  exact ⟨ret_int (one_bit _ _ h0 h1), (Grown.refl _).alloc _ _⟩
theorem bit_case2 (d0 d1 d2 d3 m : Int) (w : World) (hm : 0 ≤ m) (hm1 : m ≤ 31) (h0 : 0 ≤ d2) (h1 : d2 < 4294967296) :
    Calls Try.prog 62 #[.agg #[.int .u64 d0, .int .u64 d1, .int .u64 d2, .int .u64 d3], .int .i64 (64 + m)] w fun e w' => e = .returned (.int .u64 (d2 / 2 ^ m.toNat % 2)) ∧ Grown w w' := by
  have e1 : (64 + m) / 32 = 2 := by omega
  have e2 : (64 + m) % 32 = m := by omega
  go_enter Try.func62, Try.ntmps62
  go_wp2
  go_ret
  exact ⟨ret_int (one_bit _ _ h0 h1), (Grown.refl _).alloc _ _⟩
theorem bit_case3 (d0 d1 d2 d3 m : Int) (w : World) (hm : 0 ≤ m) (hm1 : m ≤ 31) (h0 : 0 ≤ d3) (h1 : d3 < 4294967296) :
    Calls Try.prog 62 #[.agg #[.int .u64 d0, .int .u64 d1, .int .u64 d2, .int .u64 d3], .int .i64 (96 + m)] w fun e w' => e = .returned (.int .u64 (d3 / 2 ^ m.toNat % 2)) ∧ Grown w w' := by
  have e1 : (96 + m) / 32 = 3 := by omega
  have e2 : (96 + m) % 32 = m := by omega
  go_enter Try.func62, Try.ntmps62
  go_wp2
  go_ret
  exact ⟨ret_int (one_bit _ _ h0 h1), (Grown.refl _).alloc _ _⟩

/-- A digit: 32 bits. -/
def Digit (d : Int) : Prop := 0 ≤ d ∧ d < 4294967296

theorem bit_any (d0 d1 d2 d3 k : Int) (w : World) (h0 : Digit d0) (h1 : Digit d1) (h2 : Digit d2) (h3 : Digit d3) (hk : 0 ≤ k) (hk1 : k ≤ 127) :
    Calls Try.prog 62 #[.agg #[.int .u64 d0, .int .u64 d1, .int .u64 d2, .int .u64 d3], .int .i64 k] w fun e w' => e = .returned (.int .u64 (M.bitAt (M.val d0 d1 d2 d3) k.toNat)) ∧ Grown w w' := by
  by_cases a : k < 32
  · have := bit_case0 d0 d1 d2 d3 k w (by omega) (by omega) h0.1 h0.2
    rwa [← M.bit0 (d1 := d1) (d2 := d2) (d3 := d3) k.toNat (by omega)] at this
  by_cases b : k < 64
  · have := bit_case1 d0 d1 d2 d3 (k - 32) w (by omega) (by omega) h1.1 h1.2
    rwa [← M.bit1 (d0 := d0) (d2 := d2) (d3 := d3) h0.1 h0.2 (k - 32).toNat (by omega), show 32 + (k - 32).toNat = k.toNat from by omega, show 32 + (k - 32) = k from by omega] at this
  by_cases c : k < 96
  · have := bit_case2 d0 d1 d2 d3 (k - 64) w (by omega) (by omega) h2.1 h2.2
    rwa [← M.bit2 (d0 := d0) (d1 := d1) (d3 := d3) h0.1 h0.2 h1.1 h1.2 (k - 64).toNat (by omega), show 64 + (k - 64).toNat = k.toNat from by omega, show 64 + (k - 64) = k from by omega] at this
  · have := bit_case3 d0 d1 d2 d3 (k - 96) w (by omega) (by omega) h3.1 h3.2
    rwa [← M.bit3 (d0 := d0) (d1 := d1) (d2 := d2) h0.1 h0.2 h1.1 h1.2 h2.1 h2.2 (k - 96).toNat (by omega), show 96 + (k - 96).toNat = k.toNat from by omega, show 96 + (k - 96) = k from by omega] at this

theorem Grown.block {a b : World} (h : Grown a b) {i : Nat} (hi : i < a.heap.size) : b.heap[i]? = a.heap[i]? := World.keptBut.block h.1 hi (fun _ f => f.elim)

theorem or_bit (a b : Int) (h0 : 0 ≤ a) (h1 : a < 18446744073709551616) (h2 : a % 2 = 0) (hb0 : 0 ≤ b) (hb1 : b ≤ 1) : bits .or .u64 a b = a + b := by
  obtain ⟨n, rfl⟩ := Int.eq_ofNat_of_zero_le h0
  obtain ⟨m, rfl⟩ := Int.eq_ofNat_of_zero_le hb0
  rw [bits_or_u64_nat n m (by omega) (by omega), ← Int.natCast_add]
  congr 1
  have h := Nat.two_pow_add_eq_or_of_lt (i := 1) (b := m) (by omega) (n / 2)
  have e : 2 ^ 1 * (n / 2) = n := by omega
  rw [e] at h
  exact h.symm
theorem or_two (a b : Int) (hb0 : 0 ≤ b) (hb1 : b ≤ 1) : bits .or .u64 (IntKind.u64.wrap (a * 2)) b = 2 * a % 18446744073709551616 + b := by
  rw [IntKind.wrap_u64, or_bit _ _ (by omega) (by omega) (by omega) hb0 hb1]
  omega
theorem Div.cast {V c : Int} {k k' : Nat} {r q r' q' : Int} {o o' : Bool} (s : M.Div V c k r q o) (h0 : k = k') (h1 : r = r') (h2 : q = q') (h3 : o = o') : M.Div V c k' r' q' o' := by
  subst h0 h1 h2 h3; exact s
theorem over_bit (q : Int) (h0 : 0 ≤ q) (h1 : q < 18446744073709551616) : (false || decide (9223372036854775808 ≤ q)) = (q / 9223372036854775808 == 1) := by
  rw [Bool.eq_iff_iff]; simp; omega

set_option maxHeartbeats 4000000 in
theorem quotient_any (d0 d1 d2 d3 c : Int) (w : World) (h0 : Digit d0) (h1 : Digit d1) (h2 : Digit d2) (h3 : Digit d3) (hc : 0 < c) (hc1 : c ≤ 18446744073709551615) :
    Calls Try.prog 57 #[.agg #[.int .u64 d0, .int .u64 d1, .int .u64 d2, .int .u64 d3], .int .u64 c] w fun e w' => e = .returned (.int .u64 (M.sat (M.val d0 d1 d2 d3 / c))) ∧ Grown w w' := by
  have hV0 : 0 ≤ M.val d0 d1 d2 d3 := by unfold M.val Digit at *; omega
  have hV1 : M.val d0 d1 d2 d3 < 340282366920938463463374607431768211456 := by unfold M.val Digit at *; omega
  have call : ∀ (k : Int) (w : World), 0 ≤ k → k ≤ 127 → Calls Try.prog 62 #[.agg #[.int .u64 d0, .int .u64 d1, .int .u64 d2, .int .u64 d3], .int .i64 k] w fun e w' => e = .returned (.int .u64 (M.bitAt (M.val d0 d1 d2 d3) k.toNat)) ∧ Grown w w' :=
    fun k w a b => bit_any d0 d1 d2 d3 k w h0 h1 h2 h3 a b
  have Call : Hid _ := call
  clear call h0 h1 h2 h3
  generalize M.val d0 d1 d2 d3 = V at *
  go_enter Try.func57, Try.ntmps57
  go_wp2
  go_loopw [5, 6, 7, 8] (fun a b o i wr => ∃ (r q : Int) (ov : Bool) (k : Int), -1 ≤ k ∧ k ≤ 127 ∧ M.Div V c (k + 1).toNat r q ov ∧ a = .int .u64 r ∧ b = .int .u64 q ∧ o = .bool ov ∧ i = .int .i64 k ∧
      Grown w wr ∧ w.heap.size < wr.heap.size ∧ wr.heap[w.heap.size]? = some (.cells #[.int .u64 d0, .int .u64 d1, .int .u64 d2, .int .u64 d3] 90 (0, 0)))
    (fun _ _ _ i _ => (intOf i + 1).toNat)
  case atStart => exact ⟨0, 0, false, 127, by omega, by omega, M.Div.start hV0 hV1, rfl, rfl, rfl, rfl, (Grown.refl _).alloc _ _, by simp, heap_alloc_new _ _⟩
  case round =>
    obtain ⟨r, q, ov, k, hk0, hk1, st, rfl, rfl, rfl, rfl, hg, hsz, hblk⟩ := hrel
    obtain ⟨r0, r1, q0, q1⟩ := st.bd hc
    by_cases hk : k < 0
    · have fin := M.Div.finish hV0 hc (by rw [show (k + 1).toNat = 0 from by omega] at st; exact st)
      have Fin : Hid _ := fin
      clear fin st
      cases ov
      all_goals
        go_wp2
        go_ret
        exact ⟨ret_int (by rw [← Fin.out]; simp), hg⟩
    · have hb := M.bitAt_bd V k.toNat
      have Hs : Hid _ := (show M.Div V c (k.toNat + 1) r q ov by rw [show k.toNat + 1 = (k + 1).toNat from by omega]; exact st)
      clear st
      have C2 : Hid _ := fun w => Call.out k w (by omega) hk1
      have hor := or_two r (M.bitAt V k.toNat) hb.1 hb.2
      have Hq : Hid _ := or_two q 1 (by omega) (by omega)
      generalize hbe : M.bitAt V k.toNat = b at *
      obtain ⟨x, hx⟩ : ∃ x, x = 2 * r % 18446744073709551616 + b := ⟨_, rfl⟩
      rw [← hx] at hor
      have x0 : 0 ≤ x := by omega
      have x1 : x ≤ 18446744073709551615 := by omega
      have Hx : Hid _ := hx
      have Hbe : Hid _ := hbe
      clear hx hbe
      by_cases ht : 9223372036854775808 ≤ r
      · have htb : (r / 9223372036854775808 == 1) = true := by simp; omega
        have Hx2' : Hid (x = 2 * r + b - 18446744073709551616) := by show _ = _; have := Hx.out; omega
        have D := Hs.out.yes hV0 hc (by rw [Hbe.out]; have := Hx2'.out; omega)
        rw [Hbe.out] at D
        have HD : Hid _ := D
        clear D
        cases ov
        all_goals
            go_wp2_with (first
              | (refine wpList_load_row rfl 90 (.tmp 2) rfl w.heap.size rfl 90 _ (0, 0) (.array 4 22) hblk Try.underlying90 rfl (by kernel_rfl) ?_)
              | (go_at_call 62; refine (C2.out _).mono ?_; rintro e w1 ⟨rfl, hg1⟩))
            go_roundw
            case rel => exact ⟨_, _, _, _, by omega, by omega, Div.cast HD.out (by omega) (by have := Hx2'.out; rw [IntKind.wrap_u64]; omega) (by rw [← Hq.out]) (by first | rfl | exact over_bit q q0 q1), rfl, rfl, rfl, rfl, Grown.trans hg hg1, Nat.lt_of_lt_of_le hsz hg1.2.2, (Grown.block hg1 hsz).trans hblk⟩
            case measure => simp [intOf]; omega
      · have htb : (r / 9223372036854775808 == 1) = false := by simp; omega
        have Hx2' : Hid (x = 2 * r + b) := by show _ = _; have := Hx.out; omega
        have hor2 : bits .or .u64 (r * 2) b = x := by rw [← hor, wrapI _ (by omega) (by omega)]
        by_cases hxc : c ≤ x
        · have D := Hs.out.yes hV0 hc (by rw [Hbe.out]; have := Hx2'.out; omega)
          rw [Hbe.out] at D
          have HD : Hid _ := D
          clear D
          cases ov
          all_goals
            go_wp2_with (first
              | (refine wpList_load_row rfl 90 (.tmp 2) rfl w.heap.size rfl 90 _ (0, 0) (.array 4 22) hblk Try.underlying90 rfl (by kernel_rfl) ?_)
              | (go_at_call 62; refine (C2.out _).mono ?_; rintro e w1 ⟨rfl, hg1⟩))
            go_roundw
            case rel => exact ⟨_, _, _, _, by omega, by omega, Div.cast HD.out (by omega) (by have := Hx2'.out; omega) (by rw [← Hq.out]) (by first | rfl | exact over_bit q q0 q1), rfl, rfl, rfl, rfl, Grown.trans hg hg1, Nat.lt_of_lt_of_le hsz hg1.2.2, (Grown.block hg1 hsz).trans hblk⟩
            case measure => simp [intOf]; omega
        · have D := Hs.out.no hV0 hc (by rw [Hbe.out]; have := Hx2'.out; omega)
          rw [Hbe.out] at D
          have HD : Hid _ := D
          clear D
          cases ov
          all_goals
            go_wp2_with (first
              | (refine wpList_load_row rfl 90 (.tmp 2) rfl w.heap.size rfl 90 _ (0, 0) (.array 4 22) hblk Try.underlying90 rfl (by kernel_rfl) ?_)
              | (go_at_call 62; refine (C2.out _).mono ?_; rintro e w1 ⟨rfl, hg1⟩))
            go_roundw
            case rel => exact ⟨_, _, _, _, by omega, by omega, Div.cast HD.out (by omega) (by have := Hx2'.out; omega) (by rw [IntKind.wrap_u64]; omega) (by first | rfl | exact over_bit q q0 q1), rfl, rfl, rfl, rfl, Grown.trans hg hg1, Nat.lt_of_lt_of_le hsz hg1.2.2, (Grown.block hg1 hsz).trans hblk⟩
            case measure => simp [intOf]; omega
end Go.Proofs.Ytlpgfdphoiideaa
