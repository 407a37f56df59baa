/- Programs as bytes, plainly: how a program is read. -/
import Derived.Test.YtpdjbhnpahkbpaaE
namespace Go.Proofs.Ytpdjbhnpahkbpaa

/-- The number with which bytes begin; how many bytes it has; the fault. -/
def fw : List Nat → Nat → Nat → Nat × Nat × Int
  | [], _, _ => (0, 0, 7)
  | b :: l, i, n =>
    if i = 9 ∧ 1 < b then (0, 0, 8)
    else if 128 ≤ b then fw l (i + 1) (n + b % 128 * 2 ^ (7 * i))
    else if b = 0 ∧ 0 < i then (0, 0, 8)
    else (n + b % 128 * 2 ^ (7 * i), i + 1, 0)
/-- What a reader has: the place, the first fault, its place. -/
structure RSt where
  at_ : Nat
  e : Int
  fa : Nat
def RSt.fn (s : RSt) : Int := if s.e = 0 then 0 else -1
def rErr (lim : Nat) (ab : Int) (r : Nat × Nat × Int) : Int := if r.2.2 = 0 ∧ lim < r.1 then ab else r.2.2
def rWord (T : List Nat) (lim : Nat) (ab : Int) (s : RSt) : Nat × RSt :=
  if s.e ≠ 0 then (0, s)
  else if rErr lim ab (fw (T.drop s.at_) 0 0) ≠ 0 then (0, ⟨s.at_, rErr lim ab (fw (T.drop s.at_) 0 0), s.at_⟩)
  else ((fw (T.drop s.at_) 0 0).1, ⟨s.at_ + (fw (T.drop s.at_) 0 0).2.1, 0, 0⟩)
def rNum (T : List Nat) (s : RSt) : Int × RSt := (((rWord T 65535 1 s).1 : Int), (rWord T 65535 1 s).2)
/-- So many items, one behind the other. -/
def rRep {α : Type} (f : RSt → α × RSt) : Nat → RSt → List α × RSt
  | 0, s => ([], s)
  | k + 1, s => ((rRep f k s).1 ++ [(f (rRep f k s).2).1], (f (rRep f k s).2).2)
def rList {α : Type} (T : List Nat) (f : RSt → α × RSt) (lim : Nat) (s : RSt) : List α × RSt := rRep f (rWord T lim 16 s).1 (rWord T lim 16 s).2
def rIns (T : List Nat) (s : RSt) : IZ × RSt :=
  let a := rNum T s
  let b := rNum T a.2
  let c := rNum T b.2
  let d := rNum T c.2
  let m := rWord T 18446744073709551615 8 d.2
  let l := rList T (rNum T) 24 m.2
  (⟨a.1, b.1, c.1, d.1, m.1, l.1⟩, l.2)
def rFn (T : List Nat) (s : RSt) : FZ × RSt :=
  let a := rNum T s
  let b := rList T (rNum T) 32 a.2
  let c := rList T (rNum T) 32 b.2
  let d := rList T (rIns T) 256 c.2
  (⟨a.1, b.1, c.1, d.1⟩, d.2)
def rTy (T : List Nat) (s : RSt) : TZ × RSt :=
  let a := rWord T 1 8 s
  let b := rList T (rNum T) 16 a.2
  (⟨decide (a.1 = 1), b.1⟩, b.2)
def rProg (T : List Nat) (s : RSt) : PZ × RSt :=
  let a := rList T (rTy T) 32 s
  let b := rList T (rNum T) 32 a.2
  let c := rList T (rFn T) 32 b.2
  (⟨a.1, b.1, c.1⟩, c.2)
/-- A fault's numbers. -/
structure FT where
  e : Int
  f : Int
  at_ : Int
def noP : PZ := ⟨[], [], []⟩
/-- Decode. -/
def dec8 (T : List Nat) : PZ × FT :=
  if 16384 < T.length then (noP, ⟨2, -1, 0⟩)
  else
    let r := rProg T ⟨0, 0, 0⟩
    if r.2.e ≠ 0 then (noP, ⟨r.2.e, -1, r.2.fa⟩) else if r.2.at_ < T.length then (noP, ⟨7, -1, r.2.at_⟩) else (r.1, ⟨0, 0, 0⟩)

theorem fw_nil (i n : Nat) : fw [] i n = (0, 0, 7) := by unfold fw; rfl
theorem fw_long {b i n : Nat} {l : List Nat} (h : i = 9 ∧ 1 < b) : fw (b :: l) i n = (0, 0, 8) := by rw [fw, if_pos h]
theorem fw_more {b i n : Nat} {l : List Nat} (h : ¬ (i = 9 ∧ 1 < b)) (h2 : 128 ≤ b) : fw (b :: l) i n = fw l (i + 1) (n + b % 128 * 2 ^ (7 * i)) := by rw [fw, if_neg h, if_pos h2]
theorem fw_zero {b i n : Nat} {l : List Nat} (h : b = 0) (h2 : 0 < i) : fw (b :: l) i n = (0, 0, 8) := by rw [fw, if_neg (by omega), if_neg (by omega), if_pos ⟨h, h2⟩]
theorem fw_last {b i n : Nat} {l : List Nat} (h : ¬ (i = 9 ∧ 1 < b)) (h2 : ¬ 128 ≤ b) (h3 : ¬ (b = 0 ∧ 0 < i)) : fw (b :: l) i n = (n + b % 128 * 2 ^ (7 * i), i + 1, 0) := by rw [fw, if_neg h, if_neg h2, if_neg h3]
/-- The number is a word; its bytes are there. -/
theorem fw_bound : ∀ (l : List Nat) (i n : Nat), i ≤ 9 → n < 2 ^ (7 * i) → (∀ x ∈ l, x < 256) → (fw l i n).1 < 18446744073709551616 ∧ ((fw l i n).2.2 = 0 → i < (fw l i n).2.1 ∧ (fw l i n).2.1 ≤ i + l.length) ∧ ((fw l i n).2.2 = 0 ∨ (fw l i n).2.2 = 7 ∨ (fw l i n).2.2 = 8) := by
  intro l
  induction l with
  | nil => intro i n _ _ _; rw [fw_nil]; exact ⟨by show 0 < _; omega, fun h => by have h : (7 : Int) = 0 := h; omega, .inr (.inl rfl)⟩
  | cons b l ih =>
    intro i n hi hn hb
    have hb0 := hb b (List.mem_cons_self ..)
    by_cases h1 : i = 9 ∧ 1 < b
    · rw [fw_long h1]; exact ⟨by show 0 < _; omega, fun h => by have h : (8 : Int) = 0 := h; omega, .inr (.inr rfl)⟩
    · have hnew : n + b % 128 * 2 ^ (7 * i) < 2 ^ (7 * (i + 1)) := by
        have e : 2 ^ (7 * (i + 1)) = 128 * 2 ^ (7 * i) := by rw [Nat.mul_add, Nat.pow_add, Nat.mul_comm]
        have : b % 128 * 2 ^ (7 * i) ≤ 127 * 2 ^ (7 * i) := Nat.mul_le_mul_right _ (by omega)
        omega
      by_cases h2 : 128 ≤ b
      · rw [fw_more h1 h2]
        obtain ⟨k1, k2, k3⟩ := ih (i + 1) _ (by omega) hnew fun x hx => hb x (List.mem_cons_of_mem _ hx)
        refine ⟨k1, fun h => ?_, k3⟩
        have := k2 h
        simp only [List.length_cons]
        omega
      · by_cases h3 : b = 0 ∧ 0 < i
        · rw [fw_zero h3.1 h3.2]; exact ⟨by show 0 < _; omega, fun h => by have h : (8 : Int) = 0 := h; omega, .inr (.inr rfl)⟩
        · rw [fw_last h1 h2 h3]
          refine ⟨?_, fun _ => ⟨by show i < i + 1; omega, by show i + 1 ≤ _; simp only [List.length_cons]; omega⟩, .inl rfl⟩
          show n + b % 128 * 2 ^ (7 * i) < _
          by_cases h9 : i = 9
          · subst h9
            have : b % 128 * 2 ^ (7 * 9) ≤ 1 * 2 ^ (7 * 9) := Nat.mul_le_mul_right _ (by omega)
            have e1 : (2 : Nat) ^ (7 * 9) = 9223372036854775808 := by decide
            omega
          · have : (2 : Nat) ^ (7 * (i + 1)) ≤ 2 ^ 63 := Nat.pow_le_pow_right (by omega) (by omega)
            have e1 : (2 : Nat) ^ 63 = 9223372036854775808 := by decide
            omega
/-- A reader within its bytes. -/
structure RSt.ok (T : List Nat) (s : RSt) : Prop where
  le : s.at_ ≤ T.length
  fa : s.fa ≤ T.length
  z : s.e = 0 → s.fa = 0
theorem rWord_ok {T : List Nat} {lim : Nat} {ab : Int} {s : RSt} (hT : ∀ x ∈ T, x < 256) (h : s.ok T) (hab : ab ≠ 0) : (rWord T lim ab s).2.ok T ∧ (rWord T lim ab s).1 ≤ lim ∧ (rWord T lim ab s).1 < 18446744073709551616 := by
  have hb := fw_bound (T.drop s.at_) 0 0 (by omega) (by simp) fun x hx => hT x (List.mem_of_mem_drop hx)
  have hl := h.le
  unfold rWord
  split
  · exact ⟨h, by show 0 ≤ _; omega, by show 0 < _; omega⟩
  · split
    · exact ⟨⟨hl, hl, fun e => absurd e (by assumption)⟩, by show 0 ≤ _; omega, by show 0 < _; omega⟩
    · rename_i h1 h2
      have h3 : rErr lim ab (fw (T.drop s.at_) 0 0) = 0 := by
        by_cases c : rErr lim ab (fw (T.drop s.at_) 0 0) = 0
        · exact c
        · exact absurd c h2
      unfold rErr at h3
      split at h3
      · exact absurd h3 hab
      · rename_i h4
        obtain ⟨k1, k2, k3⟩ := hb
        have := k2 h3
        refine ⟨⟨?_, by show 0 ≤ _; omega, fun _ => rfl⟩, ?_, k1⟩
        · show s.at_ + _ ≤ _
          simp only [List.length_drop] at this
          omega
        · show (fw (T.drop s.at_) 0 0).1 ≤ _
          omega
end Go.Proofs.Ytpdjbhnpahkbpaa
