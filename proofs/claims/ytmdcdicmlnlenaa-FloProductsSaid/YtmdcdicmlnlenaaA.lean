/- Contracts of the program's floats: value, bitsOf, isNaN, Canon, Add, Sub, Mul, Div, Neg, Equal, Less. -/
import Derived.Test.YtmdcdicmlnlenaaRows
import Derived.Test.YtmdcdicmlnlenaaP
import Derived.WalkKit
import Derived.ProofKit
import Derived.Outline
import Derived.WalkLawsBesides
import Derived.Laws.Externs
import Derived.Laws.BitsAllLaws
import Derived.Lib.Hide
namespace Go.Proofs.Ytmdcdicmlnlenaa
open Go.ChangeShapes Go.WideShapes Go.ChangeAt Go.RowKit

theorem ret_int {k : IntKind} {a b : Int} (h : a = b) : Ending.returned (.int k a) = .returned (.int k b) := by rw [h]
theorem ret_bool {a b : Bool} (h : a = b) : Ending.returned (.bool a) = .returned (.bool b) := by rw [h]

theorem frombits (a : Int) (w : World) : (callFunc 63 #[.int .u64 a]).run Try.prog w = .ok (.value (.float .f64 a.toNat)) w := by
  rw [run_callFunc_extern Try.func63 (by kernel_rfl) (by kernel_rfl) (by kernel_rfl) (e := Extern.MathFloatBits.float64frombits) (by kernel_rfl)]
  rfl
theorem tobits (b : Nat) (w : World) : (callFunc 62 #[.float .f64 b]).run Try.prog w = .ok (.value (.int .u64 b)) w := by
  rw [run_callFunc_extern Try.func62 (by kernel_rfl) (by kernel_rfl) (by kernel_rfl) (e := Extern.MathFloatBits.float64bits) (by kernel_rfl)]
  rfl

theorem value_any (a : Int) (w : World) : Calls Try.prog 42 #[.int .u64 a] w fun e w' => e = .returned (.float .f64 a.toNat) ∧ w = w' := by
  have k := fun w => frombits a w
  go_enter Try.func42, Try.ntmps42
  go_wp2_with (simp only [k])
  go_ret
  exact ⟨rfl, rfl⟩
theorem isNaN_any (b : Nat) (w : World) : Calls Try.prog 57 #[.float .f64 b] w fun e w' => e = .returned (.bool (isn b)) ∧ w = w' := by
  have H := Lib.hid (neq_self b)
  go_enter Try.func57, Try.ntmps57
  go_wp2
  go_ret
  exact ⟨ret_bool H.out, rfl⟩
theorem bitsOf_any (b : Nat) (w : World) : Calls Try.prog 41 #[.float .f64 b] w fun e w' => e = .returned (.int .u64 (canon b)) ∧ w = w' := by
  have k := fun w => tobits b w
  cases h : isn b
  · have H := Lib.hid (canon_not h)
    have C : ∀ w, Calls Try.prog 57 #[.float .f64 b] w fun e w' => e = .returned (.bool false) ∧ w = w' := fun w => h ▸ isNaN_any b w
    have C2 := Lib.hid C
    clear h C
    go_enter Try.func41, Try.ntmps41
    go_wp2_with (go_at_call 57; refine (C2.out _).mono ?_; rintro e w1 ⟨rfl, rfl⟩)
    go_ret
    exact ⟨ret_int (by rw [H.out]), rfl⟩
  · have H := Lib.hid (canon_nan h)
    have C : ∀ w, Calls Try.prog 57 #[.float .f64 b] w fun e w' => e = .returned (.bool true) ∧ w = w' := fun w => h ▸ isNaN_any b w
    have C2 := Lib.hid C
    clear h C
    go_enter Try.func41, Try.ntmps41
    go_wp2_with (go_at_call 57; refine (C2.out _).mono ?_; rintro e w1 ⟨rfl, rfl⟩)
    go_ret
    exact ⟨ret_int (by rw [H.out]; rfl), rfl⟩

theorem add_any (a b : Int) (w : World) : Calls Try.prog 13 #[.int .u64 a, .int .u64 b] w fun e w' => e = .returned (.int .u64 (fop .add a.toNat b.toNat)) ∧ Grown w w' := by
  obtain ⟨r, W, hr, hW, hc⟩ := run_farith Try.prog .add (by simp) 36 a.toNat b.toNat w
  have H := Lib.hid hc
  have G : Grown w W := by rcases hW with rfl | rfl; exact Grown.refl _; exact (Grown.refl w).drew
  clear hc hW
  go_enter Try.func13, Try.ntmps13
  go_wp2_with (first
    | (go_at_call 42; refine (value_any _ _).mono ?_; rintro e w1 ⟨rfl, rfl⟩)
    | (go_at_call 41; refine (bitsOf_any _ _).mono ?_; rintro e w1 ⟨rfl, rfl⟩))
  go_ret
  exact ⟨ret_int (by rw [H.out]), G⟩

theorem sub_any (a b : Int) (w : World) : Calls Try.prog 15 #[.int .u64 a, .int .u64 b] w fun e w' => e = .returned (.int .u64 (fop .sub a.toNat b.toNat)) ∧ Grown w w' := by
  obtain ⟨r, W, hr, hW, hc⟩ := run_farith Try.prog .sub (by simp) 36 a.toNat b.toNat w
  have H := Lib.hid hc
  have G : Grown w W := by rcases hW with rfl | rfl; exact Grown.refl _; exact (Grown.refl w).drew
  clear hc hW
  go_enter Try.func15, Try.ntmps15
  go_wp2_with (first
    | (go_at_call 42; refine (value_any _ _).mono ?_; rintro e w1 ⟨rfl, rfl⟩)
    | (go_at_call 41; refine (bitsOf_any _ _).mono ?_; rintro e w1 ⟨rfl, rfl⟩))
  go_ret
  exact ⟨ret_int (by rw [H.out]), G⟩

theorem mul_any (a b : Int) (w : World) : Calls Try.prog 17 #[.int .u64 a, .int .u64 b] w fun e w' => e = .returned (.int .u64 (fop .mul a.toNat b.toNat)) ∧ Grown w w' := by
  obtain ⟨r, W, hr, hW, hc⟩ := run_farith Try.prog .mul (by simp) 36 a.toNat b.toNat w
  have H := Lib.hid hc
  have G : Grown w W := by rcases hW with rfl | rfl; exact Grown.refl _; exact (Grown.refl w).drew
  clear hc hW
  go_enter Try.func17, Try.ntmps17
  go_wp2_with (first
    | (go_at_call 42; refine (value_any _ _).mono ?_; rintro e w1 ⟨rfl, rfl⟩)
    | (go_at_call 41; refine (bitsOf_any _ _).mono ?_; rintro e w1 ⟨rfl, rfl⟩))
  go_ret
  exact ⟨ret_int (by rw [H.out]), G⟩

theorem div_any (a b : Int) (w : World) : Calls Try.prog 19 #[.int .u64 a, .int .u64 b] w fun e w' => e = .returned (.int .u64 (fop .quo a.toNat b.toNat)) ∧ Grown w w' := by
  obtain ⟨r, W, hr, hW, hc⟩ := run_farith Try.prog .quo (by simp) 36 a.toNat b.toNat w
  have H := Lib.hid hc
  have G : Grown w W := by rcases hW with rfl | rfl; exact Grown.refl _; exact (Grown.refl w).drew
  clear hc hW
  go_enter Try.func19, Try.ntmps19
  go_wp2_with (first
    | (go_at_call 42; refine (value_any _ _).mono ?_; rintro e w1 ⟨rfl, rfl⟩)
    | (go_at_call 41; refine (bitsOf_any _ _).mono ?_; rintro e w1 ⟨rfl, rfl⟩))
  go_ret
  exact ⟨ret_int (by rw [H.out]), G⟩

theorem canon_any (a : Int) (w : World) : Calls Try.prog 32 #[.int .u64 a] w fun e w' => e = .returned (.int .u64 (canon a.toNat)) ∧ w = w' := by
  go_enter Try.func32, Try.ntmps32
  go_wp2_with (first
    | (go_at_call 42; refine (value_any _ _).mono ?_; rintro e w1 ⟨rfl, rfl⟩)
    | (go_at_call 41; refine (bitsOf_any _ _).mono ?_; rintro e w1 ⟨rfl, rfl⟩))
  go_ret
  exact ⟨rfl, rfl⟩
def feq (x y : Nat) : Bool := Ieee.double.order x y == some .eq
def fless (x y : Nat) : Bool := Ieee.double.order x y == some .lt
theorem equal_any (a b : Int) (w : World) : Calls Try.prog 21 #[.int .u64 a, .int .u64 b] w fun e w' => e = .returned (.bool (feq a.toNat b.toNat)) ∧ w = w' := by
  go_enter Try.func21, Try.ntmps21
  go_wp2_with (go_at_call 42; refine (value_any _ _).mono ?_; rintro e w1 ⟨rfl, rfl⟩)
  go_ret
  exact ⟨rfl, rfl⟩
theorem less_any (a b : Int) (w : World) : Calls Try.prog 23 #[.int .u64 a, .int .u64 b] w fun e w' => e = .returned (.bool (fless a.toNat b.toNat)) ∧ w = w' := by
  go_enter Try.func23, Try.ntmps23
  go_wp2_with (go_at_call 42; refine (value_any _ _).mono ?_; rintro e w1 ⟨rfl, rfl⟩)
  go_ret
  exact ⟨rfl, rfl⟩
end Go.Proofs.Ytmdcdicmlnlenaa
