/- Plain words for a float's bits: what is a NaN, the one NaN, what the four operations answer. Nothing of the program. -/
import Derived.Laws.FloatArith
namespace Go.Proofs.Ytmdcdicmlnlenaa
open Ieee

def INF : Nat := 9218868437227405312
def SGN : Nat := 9223372036854775808
def NaN : Nat := 9221120237041090561

theorem d_sw : double.signWeight = 9223372036854775808 := by decide +kernel
theorem d_bin : double.binade = 4503599627370496 := by decide +kernel
theorem d_inf : double.infRung = 9218868437227405312 := by decide +kernel
theorem d_lp : double.leastPlace = -1074 := by decide +kernel
theorem d_w : double.width = 64 := by decide +kernel
theorem d_fb : double.fractionBits = 52 := rfl

/-- The bits are those of a NaN. -/
def isn (b : Nat) : Bool := decide (9218868437227405312 < b % 9223372036854775808)
def canon (b : Nat) : Nat := if isn b then NaN else b
def fop (op : BinOp) (x y : Nat) : Nat := match floatBits op .f64 x y with
  | some r => r
  | none => NaN

/-- What bits mean, by their rung: below 2^52, below infinity, infinity, above. -/
theorem read_low (b : Nat) (h : b % 9223372036854775808 < 4503599627370496) : double.read b = .number (b / 9223372036854775808 % 2 == 1) (b % 9223372036854775808) (-1074) := by
  unfold Format.read
  simp only [d_sw, d_bin, d_inf, d_lp]
  rw [if_pos h]
theorem read_mid (b : Nat) (h : 4503599627370496 ≤ b % 9223372036854775808) (h2 : b % 9223372036854775808 < 9218868437227405312) :
    double.read b = .number (b / 9223372036854775808 % 2 == 1) (4503599627370496 + b % 9223372036854775808 % 4503599627370496) (-1074 + (b % 9223372036854775808 / 4503599627370496 - 1 : Nat)) := by
  unfold Format.read
  simp only [d_sw, d_bin, d_inf, d_lp]
  rw [if_neg (by omega), if_pos h2]
theorem read_inf (b : Nat) (h : b % 9223372036854775808 = 9218868437227405312) : double.read b = .infinity (b / 9223372036854775808 % 2 == 1) := by
  unfold Format.read
  simp only [d_sw, d_bin, d_inf, d_lp]
  rw [if_neg (by omega), if_neg (by omega), if_pos h]
theorem read_nan (b : Nat) (h : 9218868437227405312 < b % 9223372036854775808) : double.read b = .nan (b / 9223372036854775808 % 2 == 1) (b % 9223372036854775808 - 9218868437227405312) := by
  unfold Format.read
  simp only [d_sw, d_bin, d_inf, d_lp]
  rw [if_neg (by omega), if_neg (by omega), if_neg (by omega)]

theorem isn_read (b : Nat) : isn b = (double.read b).isNaN := by
  unfold isn
  by_cases h : 9218868437227405312 < b % 9223372036854775808
  · rw [read_nan b h]; simp [h, Datum.isNaN]
  · by_cases h2 : b % 9223372036854775808 = 9218868437227405312
    · rw [read_inf b h2]; simp [h, Datum.isNaN]
    · by_cases h3 : b % 9223372036854775808 < 4503599627370496
      · rw [read_low b h3]; simp [h, Datum.isNaN]
      · rw [read_mid b (by omega) (by omega)]; simp [h, Datum.isNaN]

theorem order_self (d : Datum) : (d.order d == some .eq) = !d.isNaN := by
  cases d with
  | number s m e => simp [Datum.order, Datum.isNaN]
  | infinity s => simp [Datum.order, Datum.isNaN]
  | nan s f => simp [Datum.order, Datum.isNaN]
theorem neq_self (b : Nat) : (double.order b b != some .eq) = isn b := by
  unfold Format.order
  rw [bne, order_self, isn_read, Bool.not_not]

theorem isn_word (s : Bool) (r : Nat) (h : r ≤ 9218868437227405312) : isn (double.word s r) = false := by
  unfold isn Format.word
  rw [d_sw]
  cases s <;> simp <;> omega
theorem isn_nearest (s : Bool) (m : Nat) (p : Int) : isn (double.nearest s m p) = false := by
  unfold Format.nearest
  dsimp only
  split
  · exact isn_word _ _ (by omega)
  · exact isn_word _ _ (by rw [d_inf]; exact Nat.min_le_right _ _)
theorem isn_write (d : Datum) (h : d.isNaN = false) : isn (double.write d) = false := by
  cases d with
  | number s m e => exact isn_nearest _ _ _
  | infinity s => exact isn_word _ _ (by rw [d_inf]; omega)
  | nan s f => simp [Datum.isNaN] at h
theorem sum_not (x y d : Datum) (h : x.sum y = some d) : d.isNaN = false := by
  cases x <;> cases y <;> simp only [Datum.sum] at h <;> first | (cases h; done) | skip
  all_goals first | (cases h; rfl) | (split at h <;> first | (cases h; rfl) | (cases h; done))
theorem product_not (x y d : Datum) (h : x.product y = some d) : d.isNaN = false := by
  cases x <;> cases y <;> simp only [Datum.product] at h <;> first | (cases h; done) | skip
  all_goals first | (cases h; rfl) | (split at h <;> first | (cases h; rfl) | (cases h; done))
theorem quotient_not (n : Nat) (x y d : Datum) (h : x.quotient n y = some d) : d.isNaN = false := by
  cases x <;> cases y <;> simp only [Datum.quotient] at h <;> first | (cases h; done) | skip
  all_goals first | (cases h; rfl) | (split at h <;> first | (cases h; rfl) | (split at h <;> first | (cases h; rfl) | (cases h; done)))
theorem map_write (o : Option Datum) (r : Nat) (ho : ∀ d, o = some d → d.isNaN = false) (h : o.map double.write = some r) : isn r = false := by
  cases o with
  | none => cases h
  | some d => cases h; exact isn_write d (ho d rfl)
theorem isn_bits (op : BinOp) (x y r : Nat) (h : floatBits op .f64 x y = some r) : isn r = false := by
  unfold floatBits at h
  split at h
  · exact map_write _ _ (fun d hd => sum_not _ _ _ hd) h
  · exact map_write _ _ (fun d hd => sum_not _ _ _ hd) h
  · exact map_write _ _ (fun d hd => product_not _ _ _ hd) h
  · exact map_write _ _ (fun d hd => quotient_not _ _ _ _ hd) h
  · cases h
theorem isn_NaN : isn NaN = true := by decide +kernel
theorem canon_not {b : Nat} (h : isn b = false) : canon b = b := by unfold canon; rw [h]; rfl
theorem canon_nan {b : Nat} (h : isn b = true) : canon b = NaN := by unfold canon; rw [h]; rfl

/-- An operation on floats, run: a float, of which the one NaN is made if it is one. -/
theorem run_farith (P : Program) (op : BinOp) (hop : op = .add ∨ op = .sub ∨ op = .mul ∨ op = .quo) (t : TypeId) (x y : Nat) (w : World) :
    ∃ b w', (binOp op t (.float .f64 x) (.float .f64 y)).run P w = .ok (.float .f64 b) w' ∧ (w' = w ∨ w' = w.drew) ∧ canon b = fop op x y := by
  cases h : floatBits op .f64 x y with
  | some r => exact ⟨r, w, run_float_arith w op t .f64 x y r h, .inl rfl, by rw [fop, h]; exact canon_not (isn_bits op x y r h)⟩
  | none =>
    refine ⟨(Question.nanBits .f64 x y).cut (w.tape w.drawn (Question.nanBits .f64 x y)), w.drew, ?_, .inr rfl, ?_⟩
    · unfold floatBits at h
      rcases hop with rfl | rfl | rfl | rfl <;> simp only at h <;> simp [binOp, Op.floatArith, h, Question.forced] <;> rfl
    · rw [fop, h]
      refine canon_nan ?_
      unfold isn Question.cut
      generalize w.tape w.drawn (Question.nanBits .f64 x y) = t
      have e : (2 : Nat) ^ 63 = 9223372036854775808 := by decide
      have e2 : (2 : Nat) ^ 52 = 4503599627370496 := by decide
      simp only [decide_eq_true_eq, e, e2]
      have h1 : t / 2 % (4503599627370496 - 1) < 4503599627370495 := Nat.mod_lt _ (by omega)
      generalize t / 2 % (4503599627370496 - 1) = c at *
      rcases (by omega : t % 2 = 0 ∨ t % 2 = 1) with h2 | h2 <;> rw [h2] <;> omega
theorem fop_lt (op : BinOp) (x y : Nat) : fop op x y < 18446744073709551616 := by
  unfold fop
  split
  · rename_i r h
    have := floatBits_wf h
    simpa [Lit.wf] using this
  · decide +kernel
end Go.Proofs.Ytmdcdicmlnlenaa
