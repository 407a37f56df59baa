/- Programs as bytes, plainly: how a program is read. -/
import Derived.Test.YtpdjbhnpahkbpaaF
namespace Go.Proofs.Ytpdjbhnpahkbpaa

/-- The number with which bytes begin; how many bytes it has; the fault. -/
def fw : List Nat → Nat → Nat → Nat × Nat × Int
  | [], _, _ => (0, 0, 7)
  | b :: l, i, n =>
    if i = 9 ∧ 1 < b then (0, 0, 8)
    else if 128 ≤ b then fw l (i + 1) (n + b % 128 * 2 ^ (7 * i))
    else if b = 0 ∧ 0 < i then (0, 0, 8)
    else (n + b % 128 * 2 ^ (7 * i), i + 1, 0)
/-- What a reader has: the place, the first fault, its place. -/
structure RSt where
  at_ : Nat
  e : Int
  fa : Nat
def RSt.fn (s : RSt) : Int := if s.e = 0 then 0 else -1
def rErr (lim : Nat) (ab : Int) (r : Nat × Nat × Int) : Int := if r.2.2 = 0 ∧ lim < r.1 then ab else r.2.2
def rWord (T : List Nat) (lim : Nat) (ab : Int) (s : RSt) : Nat × RSt :=
  if s.e ≠ 0 then (0, s)
  else if rErr lim ab (fw (T.drop s.at_) 0 0) ≠ 0 then (0, ⟨s.at_, rErr lim ab (fw (T.drop s.at_) 0 0), s.at_⟩)
  else ((fw (T.drop s.at_) 0 0).1, ⟨s.at_ + (fw (T.drop s.at_) 0 0).2.1, 0, 0⟩)
def rNum (T : List Nat) (s : RSt) : Int × RSt := (((rWord T 65535 1 s).1 : Int), (rWord T 65535 1 s).2)
/-- So many items, one behind the other. -/
def rRep {α : Type} (f : RSt → α × RSt) : Nat → RSt → List α × RSt
  | 0, s => ([], s)
  | k + 1, s => ((rRep f k s).1 ++ [(f (rRep f k s).2).1], (f (rRep f k s).2).2)
def rList {α : Type} (T : List Nat) (f : RSt → α × RSt) (lim : Nat) (s : RSt) : List α × RSt := rRep f (rWord T lim 16 s).1 (rWord T lim 16 s).2
def rIns (T : List Nat) (s : RSt) : IZ × RSt :=
  let a := rNum T s
  let b := rNum T a.2
  let c := rNum T b.2
  let d := rNum T c.2
  let m := rWord T 18446744073709551615 8 d.2
  let l := rList T (rNum T) 24 m.2
  (⟨a.1, b.1, c.1, d.1, m.1, l.1⟩, l.2)
def rFn (T : List Nat) (s : RSt) : FZ × RSt :=
  let a := rNum T s
  let b := rList T (rNum T) 32 a.2
  let c := rList T (rNum T) 32 b.2
  let d := rList T (rIns T) 256 c.2
  (⟨a.1, b.1, c.1, d.1⟩, d.2)
def rTy (T : List Nat) (s : RSt) : TZ × RSt :=
  let a := rWord T 1 8 s
  let b := rList T (rNum T) 16 a.2
  (⟨decide (a.1 = 1), b.1⟩, b.2)
def rProg (T : List Nat) (s : RSt) : PZ × RSt :=
  let a := rList T (rTy T) 32 s
  let b := rList T (rNum T) 32 a.2
  let c := rList T (rFn T) 32 b.2
  (⟨a.1, b.1, c.1⟩, c.2)
/-- A fault's numbers. -/
structure FT where
  e : Int
  f : Int
  at_ : Int
def noP : PZ := ⟨[], [], []⟩
/-- Decode. -/
def dec8 (T : List Nat) : PZ × FT :=
  if 16384 < T.length then (noP, ⟨2, -1, 0⟩)
  else
    let r := rProg T ⟨0, 0, 0⟩
    if r.2.e ≠ 0 then (noP, ⟨r.2.e, -1, r.2.fa⟩) else if r.2.at_ < T.length then (noP, ⟨7, -1, r.2.at_⟩) else (r.1, ⟨0, 0, 0⟩)

theorem fw_nil (i n : Nat) : fw [] i n = (0, 0, 7) := by unfold fw; rfl
theorem fw_long {b i n : Nat} {l : List Nat} (h : i = 9 ∧ 1 < b) : fw (b :: l) i n = (0, 0, 8) := by rw [fw, if_pos h]
theorem fw_more {b i n : Nat} {l : List Nat} (h : ¬ (i = 9 ∧ 1 < b)) (h2 : 128 ≤ b) : fw (b :: l) i n = fw l (i + 1) (n + b % 128 * 2 ^ (7 * i)) := by rw [fw, if_neg h, if_pos h2]
theorem fw_zero {b i n : Nat} {l : List Nat} (h : b = 0) (h2 : 0 < i) : fw (b :: l) i n = (0, 0, 8) := by rw [fw, if_neg (by omega), if_neg (by omega), if_pos ⟨h, h2⟩]
theorem fw_last {b i n : Nat} {l : List Nat} (h : ¬ (i = 9 ∧ 1 < b)) (h2 : ¬ 128 ≤ b) (h3 : ¬ (b = 0 ∧ 0 < i)) : fw (b :: l) i n = (n + b % 128 * 2 ^ (7 * i), i + 1, 0) := by rw [fw, if_neg h, if_neg h2, if_neg h3]
/-- The number is a word; its bytes are there. -/
theorem fw_bound : ∀ (l : List Nat) (i n : Nat), i ≤ 9 → n < 2 ^ (7 * i) → (∀ x ∈ l, x < 256) → (fw l i n).1 < 18446744073709551616 ∧ ((fw l i n).2.2 = 0 → i < (fw l i n).2.1 ∧ (fw l i n).2.1 ≤ i + l.length) ∧ ((fw l i n).2.2 = 0 ∨ (fw l i n).2.2 = 7 ∨ (fw l i n).2.2 = 8) := by
  intro l
  induction l with
  | nil => intro i n _ _ _; rw [fw_nil]; exact ⟨by show 0 < _; omega, fun h => by have h : (7 : Int) = 0 := h; omega, .inr (.inl rfl)⟩
  | cons b l ih =>
    intro i n hi hn hb
    have hb0 := hb b (List.mem_cons_self ..)
    by_cases h1 : i = 9 ∧ 1 < b
    · rw [fw_long h1]; exact ⟨by show 0 < _; omega, fun h => by have h : (8 : Int) = 0 := h; omega, .inr (.inr rfl)⟩
    · have hnew : n + b % 128 * 2 ^ (7 * i) < 2 ^ (7 * (i + 1)) := by
        have e : 2 ^ (7 * (i + 1)) = 128 * 2 ^ (7 * i) := by rw [Nat.mul_add, Nat.pow_add, Nat.mul_comm]
        have : b % 128 * 2 ^ (7 * i) ≤ 127 * 2 ^ (7 * i) := Nat.mul_le_mul_right _ (by omega)
        omega
      by_cases h2 : 128 ≤ b
      · rw [fw_more h1 h2]
        obtain ⟨k1, k2, k3⟩ := ih (i + 1) _ (by omega) hnew fun x hx => hb x (List.mem_cons_of_mem _ hx)
        refine ⟨k1, fun h => ?_, k3⟩
        have := k2 h
        simp only [List.length_cons]
        omega
      · by_cases h3 : b = 0 ∧ 0 < i
        · rw [fw_zero h3.1 h3.2]; exact ⟨by show 0 < _; omega, fun h => by have h : (8 : Int) = 0 := h; omega, .inr (.inr rfl)⟩
        · rw [fw_last h1 h2 h3]
          refine ⟨?_, fun _ => ⟨by show i < i + 1; omega, by show i + 1 ≤ _; simp only [List.length_cons]; omega⟩, .inl rfl⟩
          show n + b % 128 * 2 ^ (7 * i) < _
          by_cases h9 : i = 9
          · subst h9
            have : b % 128 * 2 ^ (7 * 9) ≤ 1 * 2 ^ (7 * 9) := Nat.mul_le_mul_right _ (by omega)
            have e1 : (2 : Nat) ^ (7 * 9) = 9223372036854775808 := by decide
            omega
          · have : (2 : Nat) ^ (7 * (i + 1)) ≤ 2 ^ 63 := Nat.pow_le_pow_right (by omega) (by omega)
            have e1 : (2 : Nat) ^ 63 = 9223372036854775808 := by decide
            omega
/-- A reader within its bytes. -/
structure RSt.ok (T : List Nat) (s : RSt) : Prop where
  le : s.at_ ≤ T.length
  fa : s.fa ≤ T.length
  z : s.e = 0 → s.fa = 0
theorem rWord_ok {T : List Nat} {lim : Nat} {ab : Int} {s : RSt} (hT : ∀ x ∈ T, x < 256) (h : s.ok T) (hab : ab ≠ 0) : (rWord T lim ab s).2.ok T ∧ (rWord T lim ab s).1 ≤ lim ∧ (rWord T lim ab s).1 < 18446744073709551616 := by
  have hb := fw_bound (T.drop s.at_) 0 0 (by omega) (by simp) fun x hx => hT x (List.mem_of_mem_drop hx)
  have hl := h.le
  unfold rWord
  split
  · exact ⟨h, by show 0 ≤ _; omega, by show 0 < _; omega⟩
  · split
    · exact ⟨⟨hl, hl, fun e => absurd e (by assumption)⟩, by show 0 ≤ _; omega, by show 0 < _; omega⟩
    · rename_i h1 h2
      have h3 : rErr lim ab (fw (T.drop s.at_) 0 0) = 0 := by
        by_cases c : rErr lim ab (fw (T.drop s.at_) 0 0) = 0
        · exact c
        · exact absurd c h2
      unfold rErr at h3
      split at h3
      · exact absurd h3 hab
      · rename_i h4
        obtain ⟨k1, k2, k3⟩ := hb
        have := k2 h3
        refine ⟨⟨?_, by show 0 ≤ _; omega, fun _ => rfl⟩, ?_, k1⟩
        · show s.at_ + _ ≤ _
          simp only [List.length_drop] at this
          omega
        · show (fw (T.drop s.at_) 0 0).1 ≤ _
          omega
end Go.Proofs.Ytpdjbhnpahkbpaa

namespace Go.Proofs.Ytpdjbhnpahkbpaa

/-! ### One number -/
theorem digs_pow {i : Nat} : 2 ^ (7 * (i + 1)) = 128 * 2 ^ (7 * i) := by rw [Nat.mul_add, Nat.pow_add, Nat.mul_comm]
theorem nine {i : Nat} {m : Nat} (h9 : i = 9) (h : m * 2 ^ (7 * i) < 18446744073709551616) : m < 2 := by
  subst h9
  have e1 : (2 : Nat) ^ (7 * 9) = 9223372036854775808 := by decide
  rw [e1] at h
  omega
theorem step_pow {m i : Nat} : m / 128 * 2 ^ (7 * (i + 1)) + m % 128 * 2 ^ (7 * i) = m * 2 ^ (7 * i) := by
  rw [digs_pow]
  generalize 2 ^ (7 * i) = y
  have h := Nat.div_add_mod m 128
  generalize m / 128 = q at *
  generalize m % 128 = r at *
  subst h
  rw [Nat.add_mul]
  congr 1
  rw [← Nat.mul_assoc, Nat.mul_comm q 128]
theorem fw_digs : ∀ (m i acc : Nat) (B : List Nat), i ≤ 9 → m * 2 ^ (7 * i) < 18446744073709551616 → (0 < i → 0 < m) → fw (digs m ++ B) i acc = (acc + m * 2 ^ (7 * i), i + (digs m).length, 0) := by
  intro m
  induction m using Nat.strongRecOn with
  | _ m ih =>
    intro i acc B hi hm h0
    by_cases c : m < 128
    · rw [digs_lo c, List.singleton_append, fw_last (fun h => by have := nine h.1 hm; omega) (by omega) (fun h => by have := h0 h.2; omega), Nat.mod_eq_of_lt c]
      rfl
    · have h9 : ¬ i = 9 := fun h => by have := nine h hm; omega
      have e := step_pow (m := m) (i := i)
      rw [digs_hi c, List.cons_append, fw_more (fun h => h9 h.1) (by omega), ih (m / 128) (by omega) (i + 1) _ B (by omega) (by omega) (fun _ => by omega)]
      have e2 : (m % 128 + 128) % 128 = m % 128 := by omega
      rw [e2, List.length_cons]
      congr 1
      · omega
      · congr 1
        omega
theorem fw_cut : ∀ (m i acc k : Nat), i ≤ 9 → m * 2 ^ (7 * i) < 18446744073709551616 → k < (digs m).length → fw ((digs m).take k) i acc = (0, 0, 7) := by
  intro m
  induction m using Nat.strongRecOn with
  | _ m ih =>
    intro i acc k hi hm hk
    by_cases c : m < 128
    · rw [digs_lo c] at hk ⊢
      simp only [List.length_singleton] at hk
      obtain rfl : k = 0 := by omega
      exact fw_nil _ _
    · have h9 : ¬ i = 9 := fun h => by have := nine h hm; omega
      have e := step_pow (m := m) (i := i)
      rw [digs_hi c] at hk ⊢
      cases k with
      | zero => exact fw_nil _ _
      | succ k =>
        rw [List.take_succ_cons, fw_more (fun h => h9 h.1) (by omega)]
        simp only [List.length_cons] at hk
        exact ih (m / 128) (by omega) (i + 1) _ k (by omega) (by omega) (by omega)
theorem fw_back : ∀ (l : List Nat) (i acc v sz : Nat), (∀ x ∈ l, x < 256) → fw l i acc = (v, sz, 0) → i < sz ∧ sz - i ≤ l.length ∧ ∃ m, v = acc + m * 2 ^ (7 * i) ∧ l.take (sz - i) = digs m ∧ (0 < i → 0 < m) := by
  intro l
  induction l with
  | nil => intro i acc v sz _ h; rw [fw_nil] at h; injection h with h1 h2; injection h2 with h2 h3; omega
  | cons b l ih =>
    intro i acc v sz hb h
    have hb0 := hb b (List.mem_cons_self ..)
    by_cases h1 : i = 9 ∧ 1 < b
    · rw [fw_long h1] at h; injection h with _ h2; injection h2 with h2 h3; omega
    · by_cases h2 : 128 ≤ b
      · rw [fw_more h1 h2] at h
        obtain ⟨k1, k2, m, k3, k4, k5⟩ := ih _ _ _ _ (fun x hx => hb x (List.mem_cons_of_mem _ hx)) h
        have k5 := k5 (by omega)
        refine ⟨by omega, by simp only [List.length_cons]; omega, m * 128 + b % 128, ?_, ?_, fun _ => by omega⟩
        · have e := step_pow (m := m * 128 + b % 128) (i := i)
          have e1 : (m * 128 + b % 128) / 128 = m := by omega
          have e2 : (m * 128 + b % 128) % 128 = b % 128 := by omega
          rw [e1, e2] at e
          rw [k3]
          omega
        · have e3 : sz - i = (sz - (i + 1)) + 1 := by omega
          rw [e3, List.take_succ_cons, k4, digs_hi (n := m * 128 + b % 128) (by omega)]
          have e1 : (m * 128 + b % 128) / 128 = m := by omega
          have e2 : (m * 128 + b % 128) % 128 + 128 = b := by omega
          rw [e1, e2]
      · by_cases h3 : b = 0 ∧ 0 < i
        · rw [fw_zero h3.1 h3.2] at h; injection h with _ h2; injection h2 with h2 h3; omega
        · rw [fw_last h1 h2 h3] at h
          injection h with e1 e2
          injection e2 with e2 _
          refine ⟨by omega, by simp only [List.length_cons]; omega, b, ?_, ?_, fun h => by omega⟩
          · rw [← e1, Nat.mod_eq_of_lt (by omega)]
          · have e3 : sz - i = 1 := by omega
            rw [e3, digs_lo (by omega)]
            rfl

/-! ### A writer beside a reader -/
structure Dual {β : Type} (w : St → St) (r : List Nat → RSt → β × RSt) (x : β) : Prop where
  ws : ∀ s, s.e ≠ 0 → w s = s
  rs : ∀ T s, s.e ≠ 0 → (r T s).2 = s
  ok : ∀ A T', w ⟨A, 0⟩ = ⟨T', 0⟩ → ∃ D, T' = A ++ D ∧ (∀ B, r (A ++ (D ++ B)) ⟨A.length, 0, 0⟩ = (x, ⟨A.length + D.length, 0, 0⟩)) ∧
    ∀ m, m < D.length → (r (A ++ D.take m) ⟨A.length, 0, 0⟩).2.e = 7 ∧ (r (A ++ D.take m) ⟨A.length, 0, 0⟩).2.fa ≤ A.length + m
structure Back {β : Type} (r : List Nat → RSt → β × RSt) (w : β → St → St) : Prop where
  rs : ∀ T s, s.e ≠ 0 → (r T s).2 = s
  back : ∀ T s, (∀ x ∈ T, x < 256) → s.at_ ≤ T.length → (r T s).2.e = 0 → ∃ D, T.drop s.at_ = D ++ T.drop (r T s).2.at_ ∧ (r T s).2.at_ ≤ T.length ∧ ∀ A, w (r T s).1 ⟨A, 0⟩ = ⟨A ++ D, 0⟩
section
variable {β γ δ : Type} {w v : St → St} {r : List Nat → RSt → β × RSt} {q : β → List Nat → RSt → γ × RSt} {x : β} {y : γ}
theorem Dual.bind (h : Dual w r x) (hq : ∀ z T s, s.e ≠ 0 → (q z T s).2 = s) (k : Dual v (q x) y) : Dual (fun s => v (w s)) (fun T s => q (r T s).1 T (r T s).2) y := by
  refine ⟨fun s e => by rw [h.ws s e, k.ws s e], fun T s e => by rw [h.rs T s e]; exact hq _ T s e, fun A T' e => ?_⟩
  have e0 : (w ⟨A, 0⟩).e = 0 := by
    by_cases c : (w ⟨A, 0⟩).e = 0
    · exact c
    · have := k.ws _ c
      rw [this] at e
      rw [e]
  have e1 : w ⟨A, 0⟩ = ⟨(w ⟨A, 0⟩).t, 0⟩ := by
    generalize w ⟨A, 0⟩ = z at *
    obtain ⟨zt, ze⟩ := z
    have e0 : ze = 0 := e0
    rw [e0]
  obtain ⟨D, d1, d2, d3⟩ := h.ok A _ e1
  have e2 : v ⟨A ++ D, 0⟩ = ⟨T', 0⟩ := by rw [← d1, ← e1]; exact e
  obtain ⟨E, f1, f2, f3⟩ := k.ok (A ++ D) T' e2
  refine ⟨D ++ E, by rw [f1, List.append_assoc], fun B => ?_, fun m hm => ?_⟩
  · have a1 := d2 (E ++ B)
    have a2 := f2 B
    rw [List.append_assoc, List.length_append] at a2
    simp only [List.append_assoc, List.length_append]
    rw [a1]
    try simp only
    rw [a2, Nat.add_assoc]
  · by_cases c : m < D.length
    · have a1 := d3 m c
      rw [List.take_append_of_le_length (by omega)]
      try simp only
      rw [hq _ _ _ (by rw [a1.1]; decide)]
      exact a1
    · rw [List.length_append] at hm
      have a1 := d2 (E.take (m - D.length))
      have a2 := f3 (m - D.length) (by omega)
      rw [List.append_assoc, List.length_append] at a2
      have a3 : (D ++ E).take m = D ++ E.take (m - D.length) := by
        rw [List.take_append, List.take_of_length_le (by omega)]
      rw [a3]
      try simp only
      rw [a1]
      try simp only
      exact ⟨a2.1, by have := a2.2; omega⟩
theorem Dual.map (f : β → γ) (h : Dual w r x) : Dual w (fun T s => (f (r T s).1, (r T s).2)) (f x) :=
  ⟨h.ws, h.rs, fun A T' e => by
    obtain ⟨D, d1, d2, d3⟩ := h.ok A T' e
    exact ⟨D, d1, fun B => by rw [d2 B], d3⟩⟩
theorem Dual.pure (x : β) : Dual (fun s => s) (fun _ s => (x, s)) x :=
  ⟨fun _ _ => rfl, fun _ _ _ => rfl, fun A T' e => ⟨[], by injection e with e; simp [e], fun B => rfl, fun m hm => by simp at hm⟩⟩
theorem Back.bind {u : β → St → St} {v : γ → St → St} (h : Back r u) (k : ∀ z, Back (q z) fun y s => v y s) {g : γ → β} (hg : ∀ T s, (q (r T s).1 T (r T s).2).2.e = 0 → g (q (r T s).1 T (r T s).2).1 = (r T s).1) :
    Back (fun T s => q (r T s).1 T (r T s).2) fun y s => v y (u (g y) s) := by
  refine ⟨fun T s e => by have := h.rs T s e; rw [this]; exact (k _).rs T s e, fun T s hT hs e => ?_⟩
  try simp only at e ⊢
  have e0 : (r T s).2.e = 0 := by
    by_cases c : (r T s).2.e = 0
    · exact c
    · rw [(k _).rs T _ c] at e
      exact e
  obtain ⟨D, d1, d2, d3⟩ := h.back T s hT hs e0
  obtain ⟨E, f1, f2, f3⟩ := (k (r T s).1).back T (r T s).2 hT d2 e
  refine ⟨D ++ E, by rw [d1, f1, List.append_assoc], f2, fun A => ?_⟩
  rw [hg T s e, d3 A, f3 (A ++ D), List.append_assoc]
end

/-! ### The parts -/
theorem rword_stop {lim : Nat} {ab : Int} (T : List Nat) (s : RSt) (h : s.e ≠ 0) : (rWord T lim ab s).2 = s := by unfold rWord; rw [if_pos h]
theorem word_dual {n lim lim' : Nat} {ab ab' : Int} (hn : n < 18446744073709551616) (hl : n ≤ lim → n ≤ lim') (hab : ab ≠ 0) : Dual (wWord n lim ab) (fun T s => rWord T lim' ab' s) n := by
  refine ⟨fun s e => by unfold wWord; rw [if_pos e], fun T s e => rword_stop T s e, fun A T' e => ?_⟩
  unfold wWord at e
  rw [if_neg (fun c => c rfl)] at e
  by_cases c : lim < n
  · rw [if_pos c] at e
    injection e with _ e
    exact absurd e hab
  · rw [if_neg c] at e
    injection e with e _
    have hl' := hl (by omega)
    refine ⟨digs n, e.symm, fun B => ?_, fun m hm => ?_⟩
    · have a := fw_digs n 0 0 B (by omega) (by simpa using hn) (by omega)
      simp only [Nat.mul_zero, Nat.pow_zero, Nat.mul_one, Nat.zero_add] at a
      unfold rWord rErr
      simp only [List.drop_left', a]
      simp
      omega
    · have a := fw_cut n 0 0 m (by omega) (by simpa using hn) hm
      unfold rWord rErr
      simp only [List.drop_left', a]
      simp
theorem num_dual {z : Int} (h : I64 z) : Dual (wNum z) (fun T s => rNum T s) z := by
  have a := (word_dual (n := uz z) (lim := 65535) (lim' := 65535) (ab := 1) (ab' := 1) (uz_lt z) (fun h => h) (by decide))
  by_cases c : uz z ≤ 65535
  · have b := a.map (fun n : Nat => (n : Int))
    have e : ((uz z : Nat) : Int) = z := by unfold I64 at h; unfold uz at c ⊢; omega
    rw [e] at b
    exact b
  · refine ⟨a.ws, fun T s e => by show (rWord T 65535 1 s).2 = s; exact rword_stop T s e, fun A T' e => ?_⟩
    unfold wNum wWord at e
    rw [if_neg (fun c => c rfl), if_pos (by omega)] at e
    injection e with _ e
    exact absurd e (by decide)
theorem rrep_stop {α : Type} {f : List Nat → RSt → α × RSt} (h : ∀ T s, s.e ≠ 0 → (f T s).2 = s) (k : Nat) (T : List Nat) (s : RSt) (e : s.e ≠ 0) : (rRep (f T) k s).2 = s := by
  induction k with
  | zero => rfl
  | succ k ih =>
    show (f T (rRep (f T) k s).2).2 = s
    rw [ih]
    exact h T s e
theorem rlist_stop {α : Type} {f : List Nat → RSt → α × RSt} (h : ∀ T s, s.e ≠ 0 → (f T s).2 = s) (lim : Nat) (T : List Nat) (s : RSt) (e : s.e ≠ 0) : (rList T (f T) lim s).2 = s := by
  unfold rList
  have := rword_stop (lim := lim) (ab := 16) T s e
  rw [rrep_stop h _ T _ (by rw [this]; exact e), this]
theorem rep_dual {α : Type} {f : α → St → St} {r : List Nat → RSt → α × RSt} : ∀ (n : Nat) (xs : List α), xs.length = n → (∀ x ∈ xs, Dual (f x) r x) → (∀ T s, s.e ≠ 0 → (r T s).2 = s) → Dual (fun s => xs.foldl (fun s x => f x s) s) (fun T s => rRep (r T) n s) xs := by
  intro n
  induction n with
  | zero =>
    intro xs h _ _
    obtain rfl : xs = [] := List.eq_nil_of_length_eq_zero h
    exact Dual.pure []
  | succ n ih =>
    intro xs h hx hr
    obtain ⟨ys, y, rfl⟩ : ∃ ys y, xs = ys ++ [y] := by
      refine ⟨xs.dropLast, xs.getLast (by intro c; rw [c] at h; simp at h), (List.dropLast_concat_getLast _).symm⟩
    have a := ih ys (by simpa using h) (fun x hm => hx x (List.mem_append_left _ hm)) hr
    have b := (hx y (List.mem_append_right _ (List.mem_singleton.2 rfl))).map (fun z => ys ++ [z])
    have c := a.bind (q := fun zs T s => (zs ++ [(r T s).1], (r T s).2)) (fun _ T s e => hr T s e) b
    have e : (fun s => (ys ++ [y]).foldl (fun s x => f x s) s) = fun s => f y (ys.foldl (fun s x => f x s) s) := by funext s; rw [List.foldl_append]; rfl
    rw [e]
    exact c
theorem list_dual {α : Type} {f : α → St → St} {r : List Nat → RSt → α × RSt} {lim : Nat} {xs : List α} (hl : xs.length < 18446744073709551616) (hx : ∀ x ∈ xs, Dual (f x) r x) (hr : ∀ T s, s.e ≠ 0 → (r T s).2 = s) : Dual (wList f lim xs) (fun T s => rList T (r T) lim s) xs :=
  (word_dual (ab := 16) (ab' := 16) hl (fun h => h) (by decide)).bind (q := fun n T s => rRep (r T) n s) (fun z T s e => rrep_stop hr z T s e) (rep_dual xs.length xs rfl hx hr)

theorem rnum_stop (T : List Nat) (s : RSt) (e : s.e ≠ 0) : (rNum T s).2 = s := rword_stop T s e
theorem rnums_stop (lim : Nat) (T : List Nat) (s : RSt) (e : s.e ≠ 0) : (rList T (rNum T) lim s).2 = s := rlist_stop rnum_stop lim T s e
/-- All numbers of a program fit. -/
def IFit (i : IZ) : Prop := IOk i ∧ I64 i.op ∧ I64 i.a ∧ I64 i.b ∧ I64 i.c ∧ ∀ z ∈ i.l, I64 z
def FFit (f : FZ) : Prop := FOk f ∧ I64 f.pa ∧ (∀ z ∈ f.sl, I64 z) ∧ (∀ z ∈ f.re, I64 z) ∧ ∀ i ∈ f.co, IFit i
def TFit (t : TZ) : Prop := TOk t ∧ ∀ z ∈ t.fi, I64 z
def PFit (p : PZ) : Prop := POk p ∧ (∀ t ∈ p.ty, TFit t) ∧ (∀ z ∈ p.gl, I64 z) ∧ ∀ f ∈ p.fu, FFit f
theorem nums_dual {lim : Nat} {xs : List Int} (hl : xs.length ≤ 9223372036854775807) (h : ∀ z ∈ xs, I64 z) : Dual (wList wNum lim xs) (fun T s => rList T (rNum T) lim s) xs := list_dual (r := rNum) (by omega) (fun x hx => num_dual (h x hx)) rnum_stop
theorem ins_dual {i : IZ} (h : IFit i) : Dual (wIns i) rIns i := by
  obtain ⟨⟨h1, h2⟩, h3, h4, h5, h6, h7⟩ := h
  refine (num_dual h3).bind (v := fun s => wList wNum 24 i.l (wWord i.imm 18446744073709551615 1 (wNum i.c (wNum i.b (wNum i.a s))))) (q := fun op T s => let b := rNum T s; let c := rNum T b.2; let d := rNum T c.2; let m := rWord T 18446744073709551615 8 d.2; let l := rList T (rNum T) 24 m.2; ((⟨op, b.1, c.1, d.1, m.1, l.1⟩ : IZ), l.2)) (fun z T s e => ?_) ?_
  · simp only [rnum_stop T s e, rword_stop T s e, rnums_stop _ T s e]
  refine (num_dual h4).bind (v := fun s => wList wNum 24 i.l (wWord i.imm 18446744073709551615 1 (wNum i.c (wNum i.b s)))) (q := fun a T s => let c := rNum T s; let d := rNum T c.2; let m := rWord T 18446744073709551615 8 d.2; let l := rList T (rNum T) 24 m.2; ((⟨i.op, a, c.1, d.1, m.1, l.1⟩ : IZ), l.2)) (fun z T s e => ?_) ?_
  · simp only [rnum_stop T s e, rword_stop T s e, rnums_stop _ T s e]
  refine (num_dual h5).bind (v := fun s => wList wNum 24 i.l (wWord i.imm 18446744073709551615 1 (wNum i.c s))) (q := fun b T s => let d := rNum T s; let m := rWord T 18446744073709551615 8 d.2; let l := rList T (rNum T) 24 m.2; ((⟨i.op, i.a, b, d.1, m.1, l.1⟩ : IZ), l.2)) (fun z T s e => ?_) ?_
  · simp only [rnum_stop T s e, rword_stop T s e, rnums_stop _ T s e]
  refine (num_dual h6).bind (v := fun s => wList wNum 24 i.l (wWord i.imm 18446744073709551615 1 s)) (q := fun c T s => let m := rWord T 18446744073709551615 8 s; let l := rList T (rNum T) 24 m.2; ((⟨i.op, i.a, i.b, c, m.1, l.1⟩ : IZ), l.2)) (fun z T s e => ?_) ?_
  · simp only [rword_stop T s e, rnums_stop _ T s e]
  refine (word_dual (n := i.imm) (lim := 18446744073709551615) (ab := 1) (ab' := 8) h1 (fun h => h) (by decide)).bind (v := fun s => wList wNum 24 i.l s) (q := fun m T s => let l := rList T (rNum T) 24 s; ((⟨i.op, i.a, i.b, i.c, m, l.1⟩ : IZ), l.2)) (fun z T s e => ?_) ?_
  · simp only [rnums_stop _ T s e]
  exact (nums_dual h2 h7).map (fun l => (⟨i.op, i.a, i.b, i.c, i.imm, l⟩ : IZ))
theorem rins_stop (T : List Nat) (s : RSt) (e : s.e ≠ 0) : (rIns T s).2 = s := by unfold rIns; simp only [rnum_stop T s e, rword_stop T s e, rnums_stop _ T s e]
theorem rfn_stop (T : List Nat) (s : RSt) (e : s.e ≠ 0) : (rFn T s).2 = s := by unfold rFn; simp only [rnum_stop T s e, rnums_stop _ T s e, rlist_stop rins_stop _ T s e]
theorem rty_stop (T : List Nat) (s : RSt) (e : s.e ≠ 0) : (rTy T s).2 = s := by unfold rTy; simp only [rword_stop T s e, rnums_stop _ T s e]
theorem fn_dual {f : FZ} (h : FFit f) : Dual (wFn f) rFn f := by
  obtain ⟨⟨h1, h2, h3, _⟩, h5, h6, h7, h8⟩ := h
  refine (num_dual h5).bind (v := fun s => wList wIns 256 f.co (wList wNum 32 f.re (wList wNum 32 f.sl s))) (q := fun a T s => let b := rList T (rNum T) 32 s; let c := rList T (rNum T) 32 b.2; let d := rList T (rIns T) 256 c.2; ((⟨a, b.1, c.1, d.1⟩ : FZ), d.2)) (fun z T s e => ?_) ?_
  · simp only [rnums_stop _ T s e, rlist_stop rins_stop _ T s e]
  refine (nums_dual h1 h6).bind (v := fun s => wList wIns 256 f.co (wList wNum 32 f.re s)) (q := fun b T s => let c := rList T (rNum T) 32 s; let d := rList T (rIns T) 256 c.2; ((⟨f.pa, b, c.1, d.1⟩ : FZ), d.2)) (fun z T s e => ?_) ?_
  · simp only [rnums_stop _ T s e, rlist_stop rins_stop _ T s e]
  refine (nums_dual h2 h7).bind (v := fun s => wList wIns 256 f.co s) (q := fun c T s => let d := rList T (rIns T) 256 s; ((⟨f.pa, f.sl, c, d.1⟩ : FZ), d.2)) (fun z T s e => ?_) ?_
  · simp only [rlist_stop rins_stop _ T s e]
  exact (list_dual (r := rIns) (by omega) (fun i hi => ins_dual (h8 i hi)) rins_stop).map (fun d => (⟨f.pa, f.sl, f.re, d⟩ : FZ))
theorem ty_dual {t : TZ} (h : TFit t) : Dual (wTy t) rTy t := by
  have a : Dual (wNum (if t.ar then 1 else 0)) (fun T s => rWord T 1 8 s) (if t.ar then 1 else 0) := by
    have e : uz (if t.ar then 1 else 0) = if t.ar then 1 else 0 := by cases t.ar <;> rfl
    unfold wNum
    rw [e]
    exact word_dual (by cases t.ar <;> decide) (fun _ => by cases t.ar <;> decide) (by decide)
  refine a.bind (v := fun s => wList wNum 16 t.fi s) (q := fun a T s => let b := rList T (rNum T) 16 s; ((⟨decide (a = 1), b.1⟩ : TZ), b.2)) (fun z T s e => ?_) ?_
  · simp only [rnums_stop _ T s e]
  have b := (nums_dual (lim := 16) h.1 h.2).map (fun l => (⟨decide ((if t.ar then 1 else 0) = 1), l⟩ : TZ))
  have e : (⟨decide ((if t.ar then 1 else 0) = 1), t.fi⟩ : TZ) = t := by
    obtain ⟨ar, fi⟩ := t
    cases ar <;> rfl
  rw [e] at b
  exact b
theorem rprog_stop (T : List Nat) (s : RSt) (e : s.e ≠ 0) : (rProg T s).2 = s := by unfold rProg; simp only [rnums_stop _ T s e, rlist_stop rfn_stop _ T s e, rlist_stop rty_stop _ T s e]
theorem prog_dual {p : PZ} (h : PFit p) : Dual (wProg p) rProg p := by
  obtain ⟨⟨h1, h2, h3, _, _⟩, h4, h5, h6⟩ := h
  refine (list_dual (r := rTy) (lim := 32) (by omega) (fun t ht => ty_dual (h4 t ht)) rty_stop).bind (v := fun s => wList wFn 32 p.fu (wList wNum 32 p.gl s)) (q := fun a T s => let b := rList T (rNum T) 32 s; let c := rList T (rFn T) 32 b.2; ((⟨a, b.1, c.1⟩ : PZ), c.2)) (fun z T s e => ?_) ?_
  · simp only [rnums_stop _ T s e, rlist_stop rfn_stop _ T s e]
  refine (nums_dual h2 h5).bind (v := fun s => wList wFn 32 p.fu s) (q := fun b T s => let c := rList T (rFn T) 32 s; ((⟨p.ty, b, c.1⟩ : PZ), c.2)) (fun z T s e => ?_) ?_
  · simp only [rlist_stop rfn_stop _ T s e]
  exact (list_dual (r := rFn) (by omega) (fun f hf => fn_dual (h6 f hf)) rfn_stop).map (fun c => (⟨p.ty, p.gl, c⟩ : PZ))

/-! ### There and back -/
theorem enc8_cases {p : PZ} {T : List Nat} (h : enc8 p = ⟨T, 0⟩) : wProg p ⟨[], 0⟩ = ⟨T, 0⟩ ∧ T.length ≤ 16384 := by
  unfold enc8 at h
  try simp only at h
  by_cases c : (wProg p ⟨[], 0⟩).e = 0
  · rw [if_neg (fun k => k c)] at h
    by_cases d : 16384 < (wProg p ⟨[], 0⟩).t.length
    · rw [if_pos d] at h
      injection h with _ h
      exact absurd h (by decide)
    · rw [if_neg d] at h
      exact ⟨h, by rw [h] at d; simpa using d⟩
  · rw [if_pos c] at h
    injection h with _ h
    exact absurd h c
theorem dec_enc {p : PZ} {T : List Nat} (hp : PFit p) (h : enc8 p = ⟨T, 0⟩) : dec8 T = (p, ⟨0, 0, 0⟩) := by
  obtain ⟨h1, h2⟩ := enc8_cases h
  obtain ⟨D, d1, d2, _⟩ := (prog_dual hp).ok [] T h1
  have a := d2 []
  simp only [List.nil_append, List.append_nil, List.length_nil, Nat.zero_add] at a d1
  subst d1
  unfold dec8
  rw [if_neg (by omega)]
  simp only [a]
  simp
theorem dec_cut {p : PZ} {T : List Nat} (hp : PFit p) (h : enc8 p = ⟨T, 0⟩) {m : Nat} (hm : m < T.length) : ∃ at_ : Nat, dec8 (T.take m) = (noP, ⟨7, -1, (at_ : Int)⟩) ∧ at_ ≤ m := by
  obtain ⟨h1, h2⟩ := enc8_cases h
  obtain ⟨D, d1, _, d3⟩ := (prog_dual hp).ok [] T h1
  simp only [List.nil_append, List.length_nil, Nat.zero_add] at d1 d3
  subst d1
  obtain ⟨a1, a2⟩ := d3 m hm
  refine ⟨_, ?_, a2⟩
  unfold dec8
  rw [if_neg (by simp; omega)]
  simp only [a1]
  simp
theorem dec_more {p : PZ} {T : List Nat} (hp : PFit p) (h : enc8 p = ⟨T, 0⟩) (hl : T.length ≤ 16000) (x : Nat) : dec8 (T ++ [x]) = (noP, ⟨7, -1, T.length⟩) := by
  obtain ⟨h1, h2⟩ := enc8_cases h
  obtain ⟨D, d1, d2, _⟩ := (prog_dual hp).ok [] T h1
  have a := d2 [x]
  simp only [List.nil_append, List.length_nil, Nat.zero_add] at a d1
  subst d1
  unfold dec8
  rw [if_neg (by simp; omega)]
  simp only [a]
  simp

theorem word_back {lim : Nat} {ab : Int} (_hl : lim ≤ 18446744073709551615) (hab : ab ≠ 0) : Back (fun T s => rWord T lim ab s) (fun n => wWord n lim ab) := by
  refine ⟨fun T s e => rword_stop T s e, fun T s hT hs e => ?_⟩
  have e0 : s.e = 0 := by
    by_cases c : s.e = 0
    · exact c
    · simp only [rword_stop T s c] at e
      exact e
  try simp only at e ⊢
  generalize hr : fw (T.drop s.at_) 0 0 = r at *
  unfold rWord at e ⊢
  rw [if_neg (fun c => c e0), hr] at e ⊢
  by_cases c : rErr lim ab r = 0
  · rw [if_neg (fun k => k c)]
    unfold rErr at c
    split at c
    · exact absurd c hab
    · rename_i c2
      obtain ⟨v, sz, e3⟩ := r
      try simp only at c c2
      subst c
      obtain ⟨b1, b2, m, b3, b4, _⟩ := fw_back _ 0 0 v sz (fun x hx => hT x (List.mem_of_mem_drop hx)) hr
      simp only [Nat.mul_zero, Nat.pow_zero, Nat.mul_one, Nat.zero_add, Nat.sub_zero] at b3 b4
      subst b3
      simp only [Nat.sub_zero, List.length_drop] at b2
      have hvl : ¬ lim < v := fun k => c2 ⟨rfl, k⟩
      refine ⟨digs v, ?_, by simp only; omega, fun A => ?_⟩
      · try simp only
        rw [← b4, ← List.drop_drop]
        exact (List.take_append_drop _ _).symm
      · try simp only
        unfold wWord
        rw [if_neg (fun k => k rfl), if_neg hvl]
  · rw [if_pos c] at e
    try simp only at e
    exact absurd e c
theorem num_back : Back (fun T s => rNum T s) wNum := by
  have a := word_back (lim := 65535) (ab := 1) (by decide) (by decide)
  refine ⟨fun T s e => rnum_stop T s e, fun T s hT hs e => ?_⟩
  obtain ⟨D, d1, d2, d3⟩ := a.back T s hT hs e
  refine ⟨D, d1, d2, fun A => ?_⟩
  have b := d3 A
  try simp only at b
  by_cases c : (rWord T 65535 1 s).1 ≤ 65535
  · show wWord (uz ((rWord T 65535 1 s).1 : Int)) 65535 1 ⟨A, 0⟩ = _
    have e2 : uz ((rWord T 65535 1 s).1 : Int) = (rWord T 65535 1 s).1 := by unfold uz; omega
    rw [e2]
    exact b
  · unfold wWord at b
    rw [if_neg (fun k => k rfl), if_pos (by omega)] at b
    injection b with _ b
    exact absurd b (by decide)
theorem rep_len {α : Type} {f : RSt → α × RSt} (k : Nat) (s : RSt) : (rRep f k s).1.length = k := by
  induction k with
  | zero => rfl
  | succ k ih => show ((rRep f k s).1 ++ _).length = _; rw [List.length_append, ih]; rfl
theorem rep_back {α : Type} {f : α → St → St} {r : List Nat → RSt → α × RSt} (h : Back r f) (n : Nat) : Back (fun T s => rRep (r T) n s) fun xs s => xs.foldl (fun s x => f x s) s := by
  induction n with
  | zero => exact ⟨fun _ _ _ => rfl, fun T s _ hs e => ⟨[], rfl, hs, fun A => by show (⟨A, 0⟩ : St) = ⟨A ++ [], 0⟩; rw [List.append_nil]⟩⟩
  | succ n ih =>
    refine ⟨fun T s e => rrep_stop h.rs _ T s e, fun T s hT hs e => ?_⟩
    try simp only at e ⊢
    have e1 : (r T (rRep (r T) n s).2).2.e = 0 := e
    have e0 : (rRep (r T) n s).2.e = 0 := by
      by_cases c : (rRep (r T) n s).2.e = 0
      · exact c
      · rw [h.rs T _ c] at e1
        exact e1
    obtain ⟨D, d1, d2, d3⟩ := ih.back T s hT hs e0
    obtain ⟨E, f1, f2, f3⟩ := h.back T _ hT d2 e1
    refine ⟨D ++ E, ?_, f2, fun A => ?_⟩
    · rw [d1, f1, List.append_assoc]; rfl
    · show ((rRep (r T) n s).1 ++ [_]).foldl _ _ = _
      rw [List.foldl_append, d3 A]
      show f _ ⟨A ++ D, 0⟩ = _
      rw [f3 (A ++ D), List.append_assoc]
theorem list_back {α : Type} {f : α → St → St} {r : List Nat → RSt → α × RSt} (h : Back r f) {lim : Nat} (hl : lim ≤ 18446744073709551615) : Back (fun T s => rList T (r T) lim s) fun xs => wList f lim xs :=
  (word_back (lim := lim) (ab := 16) hl (by decide)).bind (q := fun n T s => rRep (r T) n s) (v := fun xs s => xs.foldl (fun s x => f x s) s) (g := fun xs : List α => xs.length) (fun z => rep_back h z) fun T s _ => rep_len _ _
theorem nums_back {lim : Nat} (hl : lim ≤ 18446744073709551615) : Back (fun T s => rList T (rNum T) lim s) fun xs => wList wNum lim xs := list_back (r := rNum) num_back hl
theorem Back.map {β γ : Type} {r : List Nat → RSt → β × RSt} {w : β → St → St} {v : γ → St → St} (h : Back r w) (f : β → γ) (hv : ∀ T s, (r T s).2.e = 0 → v (f (r T s).1) = w (r T s).1) : Back (fun T s => (f (r T s).1, (r T s).2)) v :=
  ⟨h.rs, fun T s hT hs e => by
    obtain ⟨D, d1, d2, d3⟩ := h.back T s hT hs e
    exact ⟨D, d1, d2, fun A => by simp only; rw [hv T s e]; exact d3 A⟩⟩
theorem ins_back : Back rIns wIns := by
  refine num_back.bind (v := fun y s => wList wNum 24 y.l (wWord y.imm 18446744073709551615 1 (wNum y.c (wNum y.b (wNum y.a s))))) (g := fun y : IZ => y.op) (q := fun op T s => let b := rNum T s; let c := rNum T b.2; let d := rNum T c.2; let m := rWord T 18446744073709551615 8 d.2; let l := rList T (rNum T) 24 m.2; ((⟨op, b.1, c.1, d.1, m.1, l.1⟩ : IZ), l.2)) (fun op => ?_) fun _ _ _ => rfl
  refine num_back.bind (v := fun y s => wList wNum 24 y.l (wWord y.imm 18446744073709551615 1 (wNum y.c (wNum y.b s)))) (g := fun y : IZ => y.a) (q := fun a T s => let c := rNum T s; let d := rNum T c.2; let m := rWord T 18446744073709551615 8 d.2; let l := rList T (rNum T) 24 m.2; ((⟨op, a, c.1, d.1, m.1, l.1⟩ : IZ), l.2)) (fun a => ?_) fun _ _ _ => rfl
  refine num_back.bind (v := fun y s => wList wNum 24 y.l (wWord y.imm 18446744073709551615 1 (wNum y.c s))) (g := fun y : IZ => y.b) (q := fun b T s => let d := rNum T s; let m := rWord T 18446744073709551615 8 d.2; let l := rList T (rNum T) 24 m.2; ((⟨op, a, b, d.1, m.1, l.1⟩ : IZ), l.2)) (fun b => ?_) fun _ _ _ => rfl
  refine num_back.bind (v := fun y s => wList wNum 24 y.l (wWord y.imm 18446744073709551615 1 s)) (g := fun y : IZ => y.c) (q := fun c T s => let m := rWord T 18446744073709551615 8 s; let l := rList T (rNum T) 24 m.2; ((⟨op, a, b, c, m.1, l.1⟩ : IZ), l.2)) (fun c => ?_) fun _ _ _ => rfl
  have hw : Back (fun T s => rWord T 18446744073709551615 8 s) (fun n => wWord n 18446744073709551615 1) := by
    have k := word_back (lim := 18446744073709551615) (ab := 8) (by decide) (by decide)
    refine ⟨k.rs, fun T s hT hs e => ?_⟩
    obtain ⟨D, d1, d2, d3⟩ := k.back T s hT hs e
    refine ⟨D, d1, d2, fun A => ?_⟩
    have b := d3 A
    try simp only at b ⊢
    unfold wWord at b ⊢
    rw [if_neg (fun k => k rfl)] at b ⊢
    by_cases c : 18446744073709551615 < (rWord T 18446744073709551615 8 s).1
    · rw [if_pos c] at b
      injection b with _ b
      exact absurd b (by decide)
    · rw [if_neg c] at b ⊢
      exact b
  refine hw.bind (v := fun y s => wList wNum 24 y.l s) (g := fun y : IZ => y.imm) (q := fun m T s => let l := rList T (rNum T) 24 s; ((⟨op, a, b, c, m, l.1⟩ : IZ), l.2)) (fun m => ?_) fun _ _ _ => rfl
  exact (nums_back (by decide)).map (fun l => (⟨op, a, b, c, m, l⟩ : IZ)) fun _ _ _ => rfl
theorem fn_back : Back rFn wFn := by
  refine num_back.bind (v := fun y s => wList wIns 256 y.co (wList wNum 32 y.re (wList wNum 32 y.sl s))) (g := fun y : FZ => y.pa) (q := fun a T s => let b := rList T (rNum T) 32 s; let c := rList T (rNum T) 32 b.2; let d := rList T (rIns T) 256 c.2; ((⟨a, b.1, c.1, d.1⟩ : FZ), d.2)) (fun a => ?_) fun _ _ _ => rfl
  refine (nums_back (lim := 32) (by decide)).bind (v := fun y s => wList wIns 256 y.co (wList wNum 32 y.re s)) (g := fun y : FZ => y.sl) (q := fun b T s => let c := rList T (rNum T) 32 s; let d := rList T (rIns T) 256 c.2; ((⟨a, b, c.1, d.1⟩ : FZ), d.2)) (fun b => ?_) fun _ _ _ => rfl
  refine (nums_back (lim := 32) (by decide)).bind (v := fun y s => wList wIns 256 y.co s) (g := fun y : FZ => y.re) (q := fun c T s => let d := rList T (rIns T) 256 s; ((⟨a, b, c, d.1⟩ : FZ), d.2)) (fun c => ?_) fun _ _ _ => rfl
  exact (list_back ins_back (by decide)).map (fun d => (⟨a, b, c, d⟩ : FZ)) fun _ _ _ => rfl
theorem ty_back : Back rTy wTy := by
  have hw : Back (fun T s => rWord T 1 8 s) (fun n => wNum (if n = 1 then 1 else 0)) := by
    have k := word_back (lim := 1) (ab := 8) (by decide) (by decide)
    refine ⟨k.rs, fun T s hT hs e => ?_⟩
    obtain ⟨D, d1, d2, d3⟩ := k.back T s hT hs e
    refine ⟨D, d1, d2, fun A => ?_⟩
    have b := d3 A
    try simp only at b ⊢
    unfold wNum
    unfold wWord at b ⊢
    rw [if_neg (fun k => k rfl)] at b ⊢
    by_cases c : 1 < (rWord T 1 8 s).1
    · rw [if_pos c] at b
      injection b with _ b
      exact absurd b (by decide)
    · rw [if_neg c] at b
      have e2 : uz (if (rWord T 1 8 s).1 = 1 then 1 else 0) = (rWord T 1 8 s).1 := by
        unfold uz
        split <;> omega
      rw [e2, if_neg (by omega)]
      exact b
  refine ⟨fun T s e => rty_stop T s e, fun T s hT hs e => ?_⟩
  have e0 : (rWord T 1 8 s).2.e = 0 := by
    by_cases c : (rWord T 1 8 s).2.e = 0
    · exact c
    · have e : (rList T (rNum T) 16 (rWord T 1 8 s).2).2.e = 0 := e
      rw [rnums_stop _ T _ c] at e
      exact e
  obtain ⟨D, d1, d2, d3⟩ := hw.back T s hT hs e0
  obtain ⟨E, f1, f2, f3⟩ := (nums_back (lim := 16) (by decide)).back T (rWord T 1 8 s).2 hT d2 e
  refine ⟨D ++ E, by rw [d1, f1, List.append_assoc]; rfl, f2, fun A => ?_⟩
  show wList wNum 16 (rList T (rNum T) 16 (rWord T 1 8 s).2).1 (wNum (if decide ((rWord T 1 8 s).1 = 1) = true then 1 else 0) ⟨A, 0⟩) = _
  have a := d3 A
  simp only [decide_eq_true_eq]
  rw [a]
  have b := f3 (A ++ D)
  rw [List.append_assoc] at b
  exact b
theorem prog_back : Back rProg wProg := by
  refine (list_back (lim := 32) ty_back (by decide)).bind (v := fun y s => wList wFn 32 y.fu (wList wNum 32 y.gl s)) (g := fun y : PZ => y.ty) (q := fun a T s => let b := rList T (rNum T) 32 s; let c := rList T (rFn T) 32 b.2; ((⟨a, b.1, c.1⟩ : PZ), c.2)) (fun a => ?_) fun _ _ _ => rfl
  refine (nums_back (lim := 32) (by decide)).bind (v := fun y s => wList wFn 32 y.fu s) (g := fun y : PZ => y.gl) (q := fun b T s => let c := rList T (rFn T) 32 s; ((⟨a, b, c.1⟩ : PZ), c.2)) (fun b => ?_) fun _ _ _ => rfl
  exact (list_back fn_back (by decide)).map (fun c => (⟨a, b, c⟩ : PZ)) fun _ _ _ => rfl
theorem enc_dec {T : List Nat} {p : PZ} {f : FT} (hT : ∀ x ∈ T, x < 256) (h : dec8 T = (p, f)) (hf : f.e = 0) : enc8 p = ⟨T, 0⟩ := by
  unfold dec8 at h
  by_cases c : 16384 < T.length
  · rw [if_pos c] at h
    injection h with _ h
    subst h
    exact absurd hf (by decide)
  · rw [if_neg c] at h
    try simp only at h
    by_cases c1 : (rProg T ⟨0, 0, 0⟩).2.e = 0
    · rw [if_neg (fun k => k c1)] at h
      by_cases c2 : (rProg T ⟨0, 0, 0⟩).2.at_ < T.length
      · rw [if_pos c2] at h
        injection h with _ h
        subst h
        exact absurd hf (show ¬ (7 : Int) = 0 by decide)
      · rw [if_neg c2] at h
        injection h with h _
        obtain ⟨D, d1, d2, d3⟩ := prog_back.back T ⟨0, 0, 0⟩ hT (Nat.zero_le _) c1
        have a := d3 []
        have d1 : T = D ++ T.drop (rProg T ⟨0, 0, 0⟩).2.at_ := d1
        rw [List.drop_of_length_le (by omega), List.append_nil] at d1
        rw [h, List.nil_append, ← d1] at a
        unfold enc8
        simp only [a]
        rw [if_neg (fun k => k rfl), if_neg c]
    · rw [if_pos c1] at h
      injection h with _ h
      subst h
      exact absurd hf c1
end Go.Proofs.Ytpdjbhnpahkbpaa
