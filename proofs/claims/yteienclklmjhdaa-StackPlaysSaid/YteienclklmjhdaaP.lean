/- Stacks, plainly: words by their distance from the end. -/
import Derived.Test.YteienclklmjhdaaB
import Derived.RowKit
namespace Go.Proofs.Yteienclklmjhdaa

/-- What a word is: a number, or a reference to the word at a distance from the end. -/
inductive Wd where
  | num (v : Int)
  | ref (d : Nat)
  deriving DecidableEq
def Wd.val (n : Nat) : Wd → Int
  | .num v => v
  | .ref d => ((n - d : Nat) : Int)
def Wd.isRef : Wd → Bool
  | .num _ => false
  | .ref _ => true
/-- The words that frames take. -/
def pos : List Nat → Nat
  | [] => 0
  | n :: l => pos l + (n + 1)
/-- A stack: its words' number, its frames' slots (the last one first), what stands at each distance from the end, the copies. -/
structure St where
  n : Nat
  fs : List Nat
  ct : Nat → Wd
  cop : Int
theorem pos_drop {fs : List Nat} {j : Nat} (h : j < fs.length) : pos (fs.drop j) = pos (fs.drop (j + 1)) + (fs[j] + 1) := by
  rw [List.drop_eq_getElem_cons h]; rfl
theorem pos_drop_le {fs : List Nat} : ∀ {j k : Nat}, j ≤ k → pos (fs.drop k) ≤ pos (fs.drop j) := by
  intro j k h
  induction h with
  | refl => exact Nat.le_refl _
  | step _ ih =>
    rename_i k _
    by_cases hk : k < fs.length
    · have := pos_drop hk; show pos (fs.drop (k + 1)) ≤ _; omega
    · rw [List.drop_eq_nil_of_le (by omega : fs.length ≤ k.succ)]; exact Nat.zero_le _
theorem pos_le (fs : List Nat) (j : Nat) : pos (fs.drop j) ≤ pos fs := by
  have := pos_drop_le (fs := fs) (Nat.zero_le j); simpa using this
theorem pos_bound {fs : List Nat} {m : Nat} (h : ∀ n ∈ fs, n ≤ m) : pos fs ≤ fs.length * (m + 1) := by
  induction fs with
  | nil => exact Nat.zero_le _
  | cons n l ih =>
    have h1 := ih fun k hk => h k (List.mem_cons_of_mem _ hk)
    have h2 := h n (List.mem_cons_self ..)
    rw [List.length_cons, Nat.succ_mul]
    show pos l + (n + 1) ≤ _
    omega
/-- A slot stands at a distance. -/
def IsSlot (fs : List Nat) (d : Nat) : Prop := ∃ j i, ∃ h : j < fs.length, i < fs[j] ∧ d + 1 + i = pos (fs.drop j)
/-- Where the slot i of the frame b below the last one stands. -/
def find (fs : List Nat) (b i : Int) : Option Nat :=
  if 0 ≤ b ∧ b < fs.length ∧ 0 ≤ i ∧ i < fs.getD b.toNat 0 then some (pos (fs.drop b.toNat) - 1 - i.toNat) else none
theorem find_nat {fs : List Nat} {j i : Nat} (h : j < fs.length) (hi : i < fs[j]) : find fs j i = some (pos (fs.drop j) - 1 - i) := by
  unfold find
  rw [if_pos]
  · simp
  · refine ⟨by omega, by omega, by omega, ?_⟩
    simp [h]; omega
theorem find_some {fs : List Nat} {b i : Int} {d : Nat} (h : find fs b i = some d) : ∃ j k : Nat, b = j ∧ i = k ∧ ∃ h : j < fs.length, k < fs[j] ∧ d + 1 + k = pos (fs.drop j) := by
  unfold find at h
  split at h
  · rename_i q
    obtain ⟨h1, h2, h3, h4⟩ := q
    have hj : b.toNat < fs.length := by omega
    have h5 : fs.getD b.toNat 0 = fs[b.toNat] := by simp [hj]
    rw [h5] at h4
    refine ⟨b.toNat, i.toNat, by omega, by omega, hj, by omega, ?_⟩
    have := pos_drop hj
    simp at h
    omega
  · cases h
theorem find_none {fs : List Nat} {b i : Int} (h : find fs b i = none) : b < 0 ∨ (fs.length : Int) ≤ b ∨ (0 ≤ b ∧ b < fs.length ∧ (i < 0 ∨ (fs.getD b.toNat 0 : Int) ≤ i)) := by
  unfold find at h
  split at h
  · cases h
  · omega
theorem find_isSlot {fs : List Nat} {b i : Int} {d : Nat} (h : find fs b i = some d) : IsSlot fs d := by
  obtain ⟨j, k, _, _, hj, hk, e⟩ := find_some h
  exact ⟨j, k, hj, hk, e⟩
theorem IsSlot.ge {fs : List Nat} {d : Nat} (h : IsSlot fs d) : 1 ≤ d ∧ d < pos fs := by
  obtain ⟨j, k, hj, hk, e⟩ := h
  have := pos_drop hj
  have := pos_le fs j
  omega
/-- A slot is no head. -/
theorem IsSlot.ne_head {fs : List Nat} {d : Nat} (h : IsSlot fs d) (j : Nat) (hj : j < fs.length) : d ≠ pos (fs.drop j) := by
  obtain ⟨j2, k, hj2, hk, e⟩ := h
  have h1 := pos_drop hj2
  have h2 := pos_drop hj
  rcases Nat.lt_trichotomy j j2 with c | c | c
  · have := pos_drop_le (fs := fs) (show _ + 1 ≤ _ from c)
    omega
  · subst c; omega
  · have := pos_drop_le (fs := fs) (show _ + 1 ≤ _ from c)
    omega
theorem IsSlot.cons {fs : List Nat} {d : Nat} (h : IsSlot fs d) (n : Nat) : IsSlot (n :: fs) d := by
  obtain ⟨j, k, hj, hk, e⟩ := h
  exact ⟨j + 1, k, by simpa using hj, by simpa using hk, by simpa using e⟩
/-- The frame's slots lie between its head and the next one's. -/
theorem slot_inj {fs : List Nat} {j i j2 i2 : Nat} (h : j < fs.length) (h2 : j2 < fs.length) (hi : i < fs[j]) (hi2 : i2 < fs[j2]) (e : pos (fs.drop j) - 1 - i = pos (fs.drop j2) - 1 - i2) : j = j2 ∧ i = i2 := by
  have k1 := pos_drop h
  have k2 := pos_drop h2
  rcases Nat.lt_trichotomy j j2 with c | c | c
  · have := pos_drop_le (fs := fs) (show _ + 1 ≤ _ from c)
    omega
  · subst c; exact ⟨rfl, by omega⟩
  · have := pos_drop_le (fs := fs) (show _ + 1 ≤ _ from c)
    omega

/-- What always holds. -/
structure Ok (s : St) : Prop where
  p2 : s.n = 64 ∨ s.n = 128 ∨ s.n = 256 ∨ s.n = 512 ∨ s.n = 1024 ∨ s.n = 2048 ∨ s.n = 4096
  fit : pos s.fs ≤ s.n
  len : s.fs.length ≤ 64
  slots : ∀ n ∈ s.fs, n ≤ 32
  head : ∀ j (h : j < s.fs.length), s.ct (pos (s.fs.drop j)) = .num s.fs[j]
  refs : ∀ e d, 1 ≤ e → e ≤ pos s.fs → s.ct e = .ref d → IsSlot s.fs d ∧ ∀ j, e ≤ pos (s.fs.drop j) → d ≤ pos (s.fs.drop j)
  nums : ∀ e v, 1 ≤ e → e ≤ pos s.fs → s.ct e = .num v → 0 ≤ v ∧ v ≤ 18446744073709551615
theorem Ok.used_le {s : St} (h : Ok s) : pos s.fs ≤ 2112 := by
  have := pos_bound h.slots
  have := h.len
  have : s.fs.length * 33 ≤ 64 * 33 := Nat.mul_le_mul_right _ h.len
  omega
theorem Ok.n_le {s : St} (h : Ok s) : 64 ≤ s.n ∧ s.n ≤ 4096 := by have := h.p2; omega

def St.new : St := ⟨64, [], fun _ => .num 0, 0⟩
theorem Ok.new : Ok St.new :=
  ⟨.inl rfl, by decide, by decide, fun _ h => (nomatch h), fun _ h => absurd h (Nat.not_lt_zero _), fun e d h1 h2 _ => absurd (show e ≤ 0 from h2) (by omega), fun e d h1 h2 _ => absurd (show e ≤ 0 from h2) (by omega)⟩

/-- A slot is written. -/
def upd (ct : Nat → Wd) (e : Nat) (x : Wd) : Nat → Wd := fun y => if y = e then x else ct y
def St.put (s : St) (e : Nat) (x : Wd) : St := { s with ct := upd s.ct e x }
theorem Ok.put {s : St} (h : Ok s) {e : Nat} (he : IsSlot s.fs e) {x : Wd} (hn : ∀ v, x = .num v → 0 ≤ v ∧ v ≤ 18446744073709551615) (hr : ∀ d, x = .ref d → IsSlot s.fs d ∧ ∀ j, e ≤ pos (s.fs.drop j) → d ≤ pos (s.fs.drop j)) : Ok (s.put e x) := by
  refine ⟨h.p2, h.fit, h.len, h.slots, fun j hj => ?_, fun y d h1 h2 h3 => ?_, fun y v h1 h2 h3 => ?_⟩
  · show upd s.ct e x _ = _
    unfold upd
    rw [if_neg (fun c => he.ne_head j hj c.symm)]
    exact h.head j hj
  · replace h3 : upd s.ct e x y = .ref d := h3
    unfold upd at h3
    split at h3
    · rename_i c; subst c; exact hr d h3
    · exact h.refs y d h1 h2 h3
  · replace h3 : upd s.ct e x y = .num v := h3
    unfold upd at h3
    split at h3
    · exact hn v h3
    · exact h.nums y v h1 h2 h3
/-- A frame more; the words first, if they are too few. -/
def St.lay (s : St) (n : Nat) : St := { s with fs := n :: s.fs, ct := fun e => if e ≤ pos s.fs then s.ct e else if e = pos s.fs + (n + 1) then .num n else .num 0 }
def St.moved (s : St) (m : Nat) : St := { s with n := m, cop := RowKit.wrap64 (s.cop + 1) }
def St.push (s : St) (n : Nat) : St := (if s.n < pos s.fs + (n + 1) then s.moved (2 * s.n) else s).lay n
theorem Ok.moved {s : St} (h : Ok s) {m : Nat} (hm : m = 64 ∨ m = 128 ∨ m = 256 ∨ m = 512 ∨ m = 1024 ∨ m = 2048 ∨ m = 4096) (hf : pos s.fs ≤ m) : Ok (s.moved m) :=
  ⟨hm, hf, h.len, h.slots, h.head, h.refs, h.nums⟩
theorem Ok.lay {s : St} (h : Ok s) {n : Nat} (hn : n ≤ 32) (hl : s.fs.length < 64) (hf : pos s.fs + (n + 1) ≤ s.n) : Ok (s.lay n) := by
  have hp := pos_le s.fs
  refine ⟨h.p2, hf, hl, fun k hk => ?_, fun j hj => ?_, fun y d h1 h2 h3 => ?_, fun y v h1 h2 h3 => ?_⟩
  · rcases List.mem_cons.1 hk with rfl | hk
    · exact hn
    · exact h.slots k hk
  · cases j with
    | zero =>
      show (if pos s.fs + (n + 1) ≤ pos s.fs then _ else if pos s.fs + (n + 1) = pos s.fs + (n + 1) then Wd.num (n : Int) else _) = _
      rw [if_neg (by omega), if_pos rfl]; rfl
    | succ j =>
      have hj : j < s.fs.length := by have : j + 1 < s.fs.length + 1 := hj; omega
      show (if pos (s.fs.drop j) ≤ pos s.fs then s.ct (pos (s.fs.drop j)) else _) = _
      rw [if_pos (hp j)]
      exact h.head j hj
  · have h3 : (if y ≤ pos s.fs then s.ct y else if y = pos s.fs + (n + 1) then Wd.num (n : Int) else .num 0) = .ref d := h3
    split at h3
    · rename_i c
      obtain ⟨k1, k2⟩ := h.refs y d h1 c h3
      refine ⟨k1.cons n, fun j hj => ?_⟩
      cases j with
      | zero => have := k1.ge; show d ≤ pos s.fs + (n + 1); omega
      | succ j => exact k2 j hj
    · split at h3 <;> cases h3
  · have h3 : (if y ≤ pos s.fs then s.ct y else if y = pos s.fs + (n + 1) then Wd.num (n : Int) else .num 0) = .num v := h3
    split at h3
    · rename_i c; exact h.nums y v h1 c h3
    · split at h3
      · cases h3; omega
      · cases h3; omega
theorem Ok.push {s : St} (h : Ok s) {n : Nat} (hn : n ≤ 32) (hl : s.fs.length < 64) : Ok (s.push n) := by
  have h1 := h.n_le
  have h2 := h.fit
  unfold St.push
  have hb : pos (n :: s.fs) ≤ (n :: s.fs).length * 33 := pos_bound (m := 32) fun k hk => by
    rcases List.mem_cons.1 hk with rfl | hk
    · exact hn
    · exact h.slots k hk
  have hb : pos s.fs + (n + 1) ≤ 2112 := by
    have hl' : (n :: s.fs).length * 33 ≤ 64 * 33 := Nat.mul_le_mul_right _ hl
    have : pos (n :: s.fs) = pos s.fs + (n + 1) := rfl
    omega
  split
  · rename_i c
    have h4 : s.n ≤ 2048 := by have := h.p2; omega
    exact (h.moved (m := 2 * s.n) (by have := h.p2; omega) (by omega)).lay hn hl (by show pos s.fs + (n + 1) ≤ 2 * s.n; omega)
  · exact h.lay hn hl (by omega)
/-- The last frame goes. -/
def St.drop (s : St) : St := { s with fs := s.fs.tail }
def St.pop (s : St) : St := if 64 < s.n ∧ pos s.fs.tail ≤ s.n / 4 then s.drop.moved (s.n / 2) else s.drop
theorem Ok.drop {s : St} (h : Ok s) : Ok s.drop := by
  obtain ⟨N, fs, ct, cop⟩ := s
  cases fs with
  | nil => exact h
  | cons n l =>
    have hp : pos (n :: l) = pos l + (n + 1) := rfl
    refine ⟨h.p2, by have := h.fit; show pos l ≤ N; have : pos (n :: l) ≤ N := h.fit; omega, by have : l.length + 1 ≤ 64 := h.len; show l.length ≤ 64; omega, fun k hk => h.slots k (List.mem_cons_of_mem _ hk), fun j hj => h.head (j + 1) (Nat.succ_lt_succ hj), fun y d h1 h2 h3 => ?_, fun y v h1 h2 h3 => h.nums y v h1 (by have : y ≤ pos l := h2; show y ≤ pos (n :: l); omega) h3⟩
    have h2 : y ≤ pos l := h2
    obtain ⟨⟨j, i, hj, hi, he⟩, k2⟩ := h.refs y d h1 (by show y ≤ pos (n :: l); omega) h3
    have hd : d ≤ pos l := k2 1 h2
    refine ⟨?_, fun j hj => k2 (j + 1) hj⟩
    cases j with
    | zero =>
      exfalso
      have hi : i < n := hi
      have he : d + 1 + i = pos l + (n + 1) := he
      omega
    | succ j => exact ⟨j, i, Nat.lt_of_succ_lt_succ hj, hi, he⟩
theorem Ok.pop {s : St} (h : Ok s) : Ok s.pop := by
  unfold St.pop
  split
  · rename_i c
    exact h.drop.moved (by have := h.p2; omega) (by show pos s.fs.tail ≤ _; omega)
  · exact h.drop
end Go.Proofs.Yteienclklmjhdaa
