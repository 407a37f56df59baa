/- What the operations on floats answer, said by what their bits are worth. Nothing of the program. -/
import Derived.Test.YtmdcdicmlnlenaaM
namespace Go.Proofs.Ytmdcdicmlnlenaa
open Ieee

def sg (b : Nat) : Bool := b / 9223372036854775808 % 2 == 1
def rg (b : Nat) : Nat := b % 9223372036854775808
def sgi (s : Bool) (n : Nat) : Int := if s then -(n : Int) else n
/-- What bits are worth, in units of the least place; an infinity: the next number behind the last. -/
def ival (b : Nat) : Int := sgi (sg b) (uval (rg b))
def fin (b : Nat) : Prop := rg b < 9218868437227405312

theorem signed_eq (s : Bool) (m k : Nat) : Ieee.signed s m k = sgi s (m * 2 ^ k) := by
  unfold Ieee.signed sgi
  rw [shl_pow]
theorem sgi_mul (s : Bool) (m k : Nat) : sgi s m * (k : Int) = sgi s (m * k) := by
  unfold sgi
  cases s
  · simp
  · simp [Int.neg_mul]
theorem read_fin (b : Nat) (h : fin b) : ∃ (m : Nat) (k : Nat), double.read b = .number (sg b) m (-1074 + k) ∧ m * 2 ^ k = uval (rg b) ∧ m < 9007199254740992 ∧ k ≤ 2045 ∧ (4503599627370496 ≤ rg b → 4503599627370496 ≤ m) ∧ (rg b < 4503599627370496 → m = rg b ∧ k = 0) := by
  unfold fin at h
  by_cases h1 : rg b < 4503599627370496
  · refine ⟨rg b, 0, read_low b h1, by rw [uval_low h1]; omega, by omega, by omega, by omega, by omega⟩
  · have e : uval (rg b) = (4503599627370496 + rg b % 4503599627370496) * 2 ^ (rg b / 4503599627370496 - 1) := by unfold uval; rw [if_neg h1]
    refine ⟨_, _, read_mid b (by unfold rg at h1; omega) h, e.symm, by omega, by unfold rg at *; omega, by omega, by omega⟩
theorem read_inf' (b : Nat) (h : rg b = 9218868437227405312) : double.read b = .infinity (sg b) := read_inf b h
theorem read_nan' (b : Nat) (h : isn b = true) : ∃ s f, double.read b = .nan s f := by
  unfold isn at h
  exact ⟨_, _, read_nan b (by simpa using h)⟩
theorem not_nan (b : Nat) (h : isn b = false) : fin b ∨ rg b = 9218868437227405312 := by
  unfold isn at h; unfold fin rg; simp at h; omega
theorem fin_not (b : Nat) (h : fin b) : isn b = false := by
  unfold fin rg at h; unfold isn; simp; omega

theorem compare_mul (a b : Int) (k : Nat) (hk : 0 < k) : compare (a * k) (b * k) = compare a b := by
  have hk' : (0 : Int) < k := by omega
  rcases Int.lt_trichotomy a b with h | h | h
  · rw [Int.compare_eq_lt.2 h, Int.compare_eq_lt]; exact Int.mul_lt_mul_of_pos_right h hk'
  · subst h; simp
  · rw [Int.compare_eq_gt.2 h, Int.compare_eq_gt]; exact Int.mul_lt_mul_of_pos_right h hk'

theorem base_worth (s : Bool) (m i j : Nat) : sgi s (m * 2 ^ ((-1074 + i : Int) - min (-1074 + (i : Int)) (-1074 + (j : Int))).toNat) * ((2 ^ min i j : Nat) : Int) = sgi s (m * 2 ^ i) := by
  rw [sgi_mul, Nat.mul_assoc, ← Nat.pow_add]
  congr 3
  omega

theorem order_fin (x y : Nat) (hx : fin x) (hy : fin y) : double.order x y = some (compare (ival x) (ival y)) := by
  obtain ⟨m, i, rx, ex, _⟩ := read_fin x hx
  obtain ⟨n, j, ry, ey, _⟩ := read_fin y hy
  unfold Format.order ival
  rw [rx, ry]
  simp only [Datum.order, signed_eq]
  rw [← compare_mul _ _ (2 ^ min i j) (two_pos _), base_worth, ← ex, ← ey]
  have h2 := base_worth (sg y) n j i
  rw [Int.min_comm, Nat.min_comm] at h2
  rw [h2]

theorem uval_inf_lt (b : Nat) (h : fin b) : uval (rg b) < uval 9218868437227405312 := uval_lt _ _ h
theorem order_any' (x y : Nat) (hx : isn x = false) (hy : isn y = false) : double.order x y = some (compare (ival x) (ival y)) := by
  rcases not_nan x hx with fx | ix
  · rcases not_nan y hy with fy | iy
    · exact order_fin x y fx fy
    · obtain ⟨m, i, rx, ex, _⟩ := read_fin x fx
      have hlt := uval_inf_lt x fx
      unfold Format.order ival
      rw [rx, read_inf' y iy, iy]
      generalize uval 9218868437227405312 = I at *
      unfold sgi
      cases sg y <;> simp only [Datum.order]
      · rw [Int.compare_eq_lt.2 (by simp only [Bool.false_eq_true, if_false]; split <;> omega)]; rfl
      · rw [Int.compare_eq_gt.2 (by simp only [if_true]; split <;> omega)]; rfl
  · rcases not_nan y hy with fy | iy
    · obtain ⟨m, i, ry, ey, _⟩ := read_fin y fy
      have hlt := uval_inf_lt y fy
      unfold Format.order ival
      rw [ry, read_inf' x ix, ix]
      generalize uval 9218868437227405312 = I at *
      unfold sgi
      cases sg x <;> simp only [Datum.order]
      · rw [Int.compare_eq_gt.2 (by simp only [Bool.false_eq_true, if_false]; split <;> omega)]; rfl
      · rw [Int.compare_eq_lt.2 (by simp only [if_true]; split <;> omega)]; rfl
    · have h0 : 0 < uval 9218868437227405312 := Nat.lt_of_le_of_lt (Nat.zero_le _) (uval_lt 0 _ (by omega))
      unfold Format.order ival
      rw [read_inf' x ix, read_inf' y iy, ix, iy]
      generalize uval 9218868437227405312 = I at *
      unfold sgi
      cases sg x <;> cases sg y <;> simp only [Datum.order, Bool.false_eq_true, if_false, if_true]
      · simp
      · rw [Int.compare_eq_gt.2 (by omega)]; rfl
      · rw [Int.compare_eq_lt.2 (by omega)]; rfl
      · simp

/-- A sum's word. -/
def addW (z : Bool) (v : Int) : Nat := if v = 0 then double.word z 0 else double.nearest (decide (v < 0)) v.natAbs (-1074)
theorem write_sum (z : Bool) (T V : Int) (k : Nat) (h : T * ((2 ^ k : Nat) : Int) = V) :
    double.write (.number (if T = 0 then z else decide (T < 0)) T.natAbs (-1074 + k)) = addW z V := by
  have hk : (0 : Int) < ((2 ^ k : Nat) : Int) := by have := two_pos k; omega
  show double.nearest _ _ _ = _
  unfold addW
  by_cases h0 : T = 0
  · subst h0
    rw [Int.zero_mul] at h
    subst h
    simp [nearest_zero]
  · have hV : V ≠ 0 := by rw [← h]; exact Int.mul_ne_zero h0 (by omega)
    rw [if_neg h0, if_neg hV]
    have e : V.natAbs = T.natAbs * 2 ^ k := by rw [← h, Int.natAbs_mul]; rfl
    have hs : decide (T < 0) = decide (V < 0) := by
      rw [decide_eq_decide, ← h]
      constructor
      · intro hT; exact Int.mul_neg_of_neg_of_pos hT hk
      · intro hT
        rcases (by omega : T < 0 ∨ 0 ≤ T) with h1 | h1
        · exact h1
        · have := Int.mul_nonneg h1 (Int.le_of_lt hk); omega
    rw [e, nearest_scale, hs]
theorem fop_add (x y : Nat) (hx : fin x) (hy : fin y) : fop .add x y = addW (sg x && sg y) (ival x + ival y) := by
  obtain ⟨m, i, rx, ex, _⟩ := read_fin x hx
  obtain ⟨n, j, ry, ey, _⟩ := read_fin y hy
  show (match double.add x y with | some r => r | none => NaN) = _
  unfold Format.add
  rw [rx, ry]
  simp only [Datum.sum, signed_eq, Option.map_some]
  have hb : min (-1074 + (i : Int)) (-1074 + (j : Int)) = -1074 + ((min i j : Nat) : Int) := by omega
  rw [hb]
  refine write_sum _ _ _ _ ?_
  rw [← hb, Int.add_mul, base_worth]
  have h2 := base_worth (sg y) n j i
  rw [Int.min_comm, Nat.min_comm] at h2
  rw [h2, ex, ey]
  rfl
theorem fop_sub (x y : Nat) (hx : fin x) (hy : fin y) : fop .sub x y = addW (sg x && !sg y) (ival x - ival y) := by
  obtain ⟨m, i, rx, ex, _⟩ := read_fin x hx
  obtain ⟨n, j, ry, ey, _⟩ := read_fin y hy
  show (match double.sub x y with | some r => r | none => NaN) = _
  unfold Format.sub
  rw [rx, ry]
  simp only [Datum.sum, Datum.opposite, signed_eq, Option.map_some]
  have hb : min (-1074 + (i : Int)) (-1074 + (j : Int)) = -1074 + ((min i j : Nat) : Int) := by omega
  rw [hb]
  refine write_sum _ _ _ _ ?_
  rw [← hb, Int.add_mul, base_worth]
  have h2 := base_worth (!sg y) n j i
  rw [Int.min_comm, Nat.min_comm] at h2
  rw [h2, ex, ey]
  unfold ival sgi
  cases sg y <;> simp <;> omega
/-- The other cases of a sum. -/
theorem fop_nan_l (op : BinOp) (x y : Nat) (h : isn x = true) : fop op x y = NaN := by
  obtain ⟨s, f, r⟩ := read_nan' x h
  cases op <;> try rfl
  · show (match double.add x y with | some r => r | none => NaN) = _
    unfold Format.add; rw [r]; rfl
  · show (match double.sub x y with | some r => r | none => NaN) = _
    unfold Format.sub; rw [r]; rfl
  · show (match double.mul x y with | some r => r | none => NaN) = _
    unfold Format.mul; rw [r]; rfl
  · show (match double.div x y with | some r => r | none => NaN) = _
    unfold Format.div; rw [r]; rfl
theorem fop_nan_r (op : BinOp) (x y : Nat) (h : isn y = true) : fop op x y = NaN := by
  obtain ⟨s, f, r⟩ := read_nan' y h
  cases op <;> try rfl
  · show (match double.add x y with | some r => r | none => NaN) = _
    unfold Format.add; rw [r]; cases double.read x <;> rfl
  · show (match double.sub x y with | some r => r | none => NaN) = _
    unfold Format.sub; rw [r]; cases double.read x <;> rfl
  · show (match double.mul x y with | some r => r | none => NaN) = _
    unfold Format.mul; rw [r]; cases double.read x <;> rfl
  · show (match double.div x y with | some r => r | none => NaN) = _
    unfold Format.div; rw [r]; cases double.read x <;> rfl
theorem write_inf (s : Bool) : double.write (.infinity s) = double.word s 9218868437227405312 := by
  show double.word s double.infRung = _
  rw [d_inf]
theorem fop_add_inf_l (x y : Nat) (hx : rg x = 9218868437227405312) (hy : fin y) : fop .add x y = double.word (sg x) 9218868437227405312 := by
  obtain ⟨n, j, ry, _⟩ := read_fin y hy
  show (match double.add x y with | some r => r | none => NaN) = _
  unfold Format.add; rw [read_inf' x hx, ry]; exact write_inf _
theorem fop_add_inf_r (x y : Nat) (hx : fin x) (hy : rg y = 9218868437227405312) : fop .add x y = double.word (sg y) 9218868437227405312 := by
  obtain ⟨n, j, ry, _⟩ := read_fin x hx
  show (match double.add x y with | some r => r | none => NaN) = _
  unfold Format.add; rw [read_inf' y hy, ry]; exact write_inf _
theorem fop_add_inf (x y : Nat) (hx : rg x = 9218868437227405312) (hy : rg y = 9218868437227405312) : fop .add x y = if sg x = sg y then double.word (sg x) 9218868437227405312 else NaN := by
  show (match double.add x y with | some r => r | none => NaN) = _
  unfold Format.add
  rw [read_inf' x hx, read_inf' y hy]
  simp only [Datum.sum]
  by_cases h : sg x = sg y
  · rw [if_pos h, if_pos h]; exact write_inf _
  · rw [if_neg h, if_neg h]; rfl
theorem fop_sub_add (x y z : Nat) (h : double.read z = (double.read y).opposite) : fop .sub x y = fop .add x z := by
  show (match double.sub x y with | some r => r | none => NaN) = (match double.add x z with | some r => r | none => NaN)
  unfold Format.sub Format.add
  rw [h]
end Go.Proofs.Ytmdcdicmlnlenaa
