/- Contracts of layer 1's sums and products: what the Go text returns, as whole numbers that are cut at the greatest. -/
import Derived.Test.YtlpgfdphoiideaaRows
import Derived.Test.YtlpgfdphoiideaaM
import Derived.WalkKit
import Derived.ProofKit
import Derived.Laws.Externs
import Derived.Laws.Bits64b
import Derived.Lib.Mul64
namespace Go.Proofs.Ytlpgfdphoiideaa
open Go.ChangeShapes Go.WideShapes Go.ChangeAt Go.RowKit

theorem ret_int {k : IntKind} {a b : Int} (h : a = b) : Ending.returned (.int k a) = .returned (.int k b) := by rw [h]

theorem add64 (x y : Int) (hx : 0 ≤ x) (hy : 0 ≤ y) (w : World) :
    (callFunc 59 #[.int .u64 x, .int .u64 y, .int .u64 0]).run Try.prog w =
      .ok (.value (.tuple #[.int .u64 ((x + y) % 18446744073709551616), .int .u64 ((x + y) / 18446744073709551616)])) w := by
  rw [run_callFunc_extern Try.func59 (by kernel_rfl) (by kernel_rfl) (by kernel_rfl) (e := add64Entry) (by kernel_rfl), run_add64 x y 0 hx hy (by omega) (by omega)]
  simp only [Result.andThen, Int.add_zero]

theorem add_any (a b : Int) (w : World) (ha : 0 ≤ a) (ha1 : a ≤ 18446744073709551615) (hb : 0 ≤ b) (hb1 : b ≤ 18446744073709551615) :
    Calls Try.prog 44 #[.int .u64 a, .int .u64 b] w fun e w' => e = .returned (.int .u64 (M.sat (a + b))) ∧ w = w' := by
  have k := fun w => add64 a b ha hb w
  by_cases h : a + b < 18446744073709551616
  · have h1 : (a + b) / 18446744073709551616 = 0 := by omega
    go_enter Try.func44, Try.ntmps44
    go_wp2_with (simp only [k])
    go_ret
    exact ⟨ret_int (by rw [M.sat_in _ h]; omega), rfl⟩
  · have h1 : (a + b) / 18446744073709551616 = 1 := by omega
    go_enter Try.func44, Try.ntmps44
    go_wp2_with (simp only [k])
    go_ret
    exact ⟨ret_int (by rw [M.sat_out _ (by omega)]), rfl⟩

theorem radd_any (a b : Int) (w : World) (ha : 0 ≤ a) (ha1 : a ≤ 18446744073709551615) (hb : 0 ≤ b) (hb1 : b ≤ 18446744073709551615) :
    Calls Try.prog 45 #[.int .u64 a, .int .u64 b] w fun e w' => e = .returned (.int .u64 (M.sat (a + b))) ∧ w = w' := by
  by_cases h : b > 18446744073709551615 - a
  · go_enter Try.func45, Try.ntmps45
    go_wp2
    go_ret
    exact ⟨ret_int (by rw [M.sat_out _ (by omega)]), rfl⟩
  · go_enter Try.func45, Try.ntmps45
    go_wp2
    go_ret
    exact ⟨ret_int (by rw [M.sat_in _ (by omega)]), rfl⟩

theorem sub_any (f : Nat) (hf : f = 46 ∨ f = 47) (a b : Int) (w : World) (ha : 0 ≤ a) (ha1 : a ≤ 18446744073709551615) (hb : 0 ≤ b) (hb1 : b ≤ 18446744073709551615) :
    Calls Try.prog f #[.int .u64 a, .int .u64 b] w fun e w' => e = .returned (.int .u64 (M.dif a b)) ∧ w = w' := by
  rcases hf with rfl | rfl
  all_goals by_cases h : a < b
  · go_enter Try.func46, Try.ntmps46
    go_wp2
    go_ret
    exact ⟨ret_int (by rw [M.dif_lt (by omega)]), rfl⟩
  · go_enter Try.func46, Try.ntmps46
    go_wp2
    go_ret
    exact ⟨ret_int (by rw [M.dif_ge (by omega)]), rfl⟩
  · go_enter Try.func47, Try.ntmps47
    go_wp2
    go_ret
    exact ⟨ret_int (by rw [M.dif_lt (by omega)]), rfl⟩
  · go_enter Try.func47, Try.ntmps47
    go_wp2
    go_ret
    exact ⟨ret_int (by rw [M.dif_ge (by omega)]), rfl⟩

theorem maskN (a : Nat) (ha : a < 18446744073709551616) : bits .and .u64 (a : Int) 4294967295 = ((a % 4294967296 : Nat) : Int) := by
  have h := bits_and_u64_nat a 4294967295 ha (by omega)
  have e : a &&& 4294967295 = a % 4294967296 := Nat.and_two_pow_sub_one_eq_mod a 32
  rw [e] at h
  exact h
theorem divN (a : Nat) : (a : Int) / 4294967296 = ((a / 4294967296 : Nat) : Int) := by omega
theorem mulN (a b : Nat) : (a : Int) * (b : Int) = ((a * b : Nat) : Int) := (Int.natCast_mul a b).symm
theorem addN (a b : Nat) : (a : Int) + (b : Int) = ((a + b : Nat) : Int) := (Int.natCast_add a b).symm
theorem wrapN (a : Nat) (ha : a < 18446744073709551616) : IntKind.u64.wrap (a : Int) = (a : Int) := by rw [IntKind.wrap_u64]; omega
theorem wrapM (a : Nat) : IntKind.u64.wrap (a : Int) = ((a % 18446744073709551616 : Nat) : Int) := by rw [IntKind.wrap_u64]; omega
theorem ret_pair {k l : IntKind} {a b c d : Int} (h : a = b) (h2 : c = d) : Ending.returned (.tuple #[.int k a, .int l c]) = .returned (.tuple #[.int k b, .int l d]) := by rw [h, h2]
theorem maskI (a : Int) (h0 : 0 ≤ a) (ha : a < 18446744073709551616) : bits .and .u64 a 4294967295 = a % 4294967296 := by
  obtain ⟨n, rfl⟩ := Int.eq_ofNat_of_zero_le h0
  rw [maskN n (by omega)]; omega
theorem wrapI (a : Int) (h0 : 0 ≤ a) (ha : a < 18446744073709551616) : IntKind.u64.wrap a = a := by rw [IntKind.wrap_u64]; omega

set_option maxHeartbeats 1000000 in
theorem mul64_any (x y : Int) (w : World) (hx0 : 0 ≤ x) (hx : x ≤ 18446744073709551615) (hy0 : 0 ≤ y) (hy : y ≤ 18446744073709551615) :
    Calls Try.prog 63 #[.int .u64 x, .int .u64 y] w fun e w' => e = .returned (.tuple #[.int .u64 (x * y / 18446744073709551616), .int .u64 (x * y % 18446744073709551616)]) ∧ w = w' := by
  obtain ⟨m, rfl⟩ := Int.eq_ofNat_of_zero_le hx0
  obtain ⟨n, rfl⟩ := Int.eq_ofNat_of_zero_le hy0
  obtain ⟨bd, bt, bw, hhi⟩ := Lib.mul64_hi m n (by omega) (by omega)
  have ba := Lib.half_mul_le (a := m / 4294967296) (b := n / 4294967296) (by omega) (by omega)
  have bb := Lib.half_mul_le (a := m / 4294967296) (b := n % 4294967296) (by omega) (by omega)
  have bc := Lib.half_mul_le (a := m % 4294967296) (b := n / 4294967296) (by omega) (by omega)
  have ba' : m / 4294967296 * (n / 4294967296) < 18446744073709551616 := by omega
  have bb' : m / 4294967296 * (n % 4294967296) < 18446744073709551616 := by omega
  have bc' : m % 4294967296 * (n / 4294967296) < 18446744073709551616 := by omega
  have bh1 : m / 4294967296 * (n / 4294967296) + (m / 4294967296 * (n % 4294967296) + m % 4294967296 * (n % 4294967296) / 4294967296) / 4294967296 < 18446744073709551616 := by omega
  have bh : m / 4294967296 * (n / 4294967296) + (m / 4294967296 * (n % 4294967296) + m % 4294967296 * (n % 4294967296) / 4294967296) / 4294967296 + ((m / 4294967296 * (n % 4294967296) + m % 4294967296 * (n % 4294967296) / 4294967296) % 4294967296 + m % 4294967296 * (n / 4294967296)) / 4294967296 < 18446744073709551616 := by omega
  go_enter Try.func63, Try.ntmps63
  go_wp2
  simp only [maskN m (by omega), maskN n (by omega), divN, mulN, addN, wrapN _ bd, wrapN _ bb', wrapN _ bt, maskN _ bt, wrapN _ bc', wrapN _ bw, wrapN _ ba', wrapN _ bh1, wrapN _ bh, wrapM (m * n)]
  rw [hhi]
  go_ret2
  exact ⟨ret_pair (by omega) (by omega), rfl⟩
end Go.Proofs.Ytlpgfdphoiideaa
