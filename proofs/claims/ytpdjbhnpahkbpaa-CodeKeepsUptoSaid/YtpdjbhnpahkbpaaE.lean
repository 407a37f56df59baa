/- Programs as bytes, plainly: how a program is written. -/
import Derived.Test.YtpdjbhnpahkbpaaD
namespace Go.Proofs.Ytpdjbhnpahkbpaa

/-- A number's digits. -/
def digs (n : Nat) : List Nat := if n < 128 then [n] else (n % 128 + 128) :: digs (n / 128)
termination_by n
decreasing_by omega
theorem digs_lo {n : Nat} (h : n < 128) : digs n = [n] := by rw [digs, if_pos h]
theorem digs_hi {n : Nat} (h : ¬ n < 128) : digs n = (n % 128 + 128) :: digs (n / 128) := by rw [digs, if_neg h]
theorem digs_len : ∀ (k n : Nat), n < 128 ^ (k + 1) → (digs n).length ≤ k + 1 := by
  intro k
  induction k with
  | zero => intro n h; rw [digs_lo (by simpa using h)]; simp
  | succ k ih =>
    intro n h
    by_cases c : n < 128
    · rw [digs_lo c]; simp
    · rw [digs_hi c]
      have := ih (n / 128) (Nat.div_lt_of_lt_mul (by rw [Nat.pow_succ, Nat.mul_comm] at h; exact h))
      simp only [List.length_cons]
      omega
theorem digs_len10 {n : Nat} (h : n < 18446744073709551616) : (digs n).length ≤ 10 := digs_len 9 n (by omega)
theorem digs_pos (n : Nat) : 1 ≤ (digs n).length := by
  by_cases c : n < 128
  · rw [digs_lo c]; simp
  · rw [digs_hi c]; simp
theorem digs_byte (n : Nat) : ∀ x ∈ digs n, x < 256 := by
  induction n using Nat.strongRecOn with
  | _ n ih =>
    intro x hx
    by_cases c : n < 128
    · rw [digs_lo c] at hx
      obtain rfl := List.mem_singleton.1 hx
      omega
    · rw [digs_hi c] at hx
      rcases List.mem_cons.1 hx with rfl | hx
      · omega
      · exact ih (n / 128) (by omega) x hx

/-- What a writer has: the bytes so far, the first fault. -/
structure St where
  t : List Nat
  e : Int
/-- An int as a word. -/
def uz (z : Int) : Nat := (z % 18446744073709551616).toNat
theorem uz_lt (z : Int) : uz z < 18446744073709551616 := by unfold uz; omega
theorem uz_pos {z : Int} (h : I64 z) (h0 : 0 ≤ z) : uz z = z.toNat := by unfold uz I64 at *; omega
theorem uz_neg {z : Int} (h : I64 z) (h0 : z < 0) : 9223372036854775808 ≤ uz z := by unfold uz I64 at *; omega
def wWord (n lim : Nat) (ab : Int) (s : St) : St := if s.e ≠ 0 then s else if lim < n then ⟨s.t, ab⟩ else ⟨s.t ++ digs n, 0⟩
def wNum (z : Int) (s : St) : St := wWord (uz z) 65535 1 s
def wList {α : Type} (f : α → St → St) (lim : Nat) (xs : List α) (s : St) : St := xs.foldl (fun s x => f x s) (wWord xs.length lim 16 s)
def wIns (i : IZ) (s : St) : St := wList wNum 24 i.l (wWord i.imm 18446744073709551615 1 (wNum i.c (wNum i.b (wNum i.a (wNum i.op s)))))
def wFn (f : FZ) (s : St) : St := wList wIns 256 f.co (wList wNum 32 f.re (wList wNum 32 f.sl (wNum f.pa s)))
def wTy (t : TZ) (s : St) : St := wList wNum 16 t.fi (wNum (if t.ar then 1 else 0) s)
def wProg (p : PZ) (s : St) : St := wList wFn 32 p.fu (wList wNum 32 p.gl (wList wTy 32 p.ty s))
/-- Encode. -/
def enc8 (p : PZ) : St :=
  let s := wProg p ⟨[], 0⟩
  if s.e ≠ 0 then ⟨[], s.e⟩ else if 16384 < s.t.length then ⟨[], 2⟩ else s

/-- A fault stays; a writer's bytes grow by c at most, and by bytes. -/
structure Wf (c : Nat) (f : St → St) : Prop where
  stop : ∀ s, s.e ≠ 0 → f s = s
  len : ∀ s, (f s).t.length ≤ s.t.length + c
  byte : ∀ s, (∀ x ∈ s.t, x < 256) → ∀ x ∈ (f s).t, x < 256
theorem Wf.comp {c d : Nat} {f g : St → St} (hf : Wf c f) (hg : Wf d g) : Wf (c + d) fun s => g (f s) :=
  ⟨fun s h => by rw [hf.stop s h, hg.stop s h], fun s => by have := hg.len (f s); have := hf.len s; omega, fun s h => hg.byte _ (hf.byte _ h)⟩
theorem Wf.mono {c d : Nat} {f : St → St} (hf : Wf c f) (h : c ≤ d) : Wf d f := ⟨hf.stop, fun s => by have := hf.len s; omega, hf.byte⟩
theorem wWord_wf {n lim : Nat} {ab : Int} (h : n < 18446744073709551616) : Wf 10 (wWord n lim ab) := by
  refine ⟨fun s h => by unfold wWord; rw [if_pos h], fun s => ?_, fun s hs => ?_⟩
  · have := digs_len10 h
    unfold wWord
    split
    · omega
    · split
      · simp
      · simp; omega
  · unfold wWord
    split
    · exact hs
    · split
      · exact hs
      · intro x hx
        rcases List.mem_append.1 hx with hx | hx
        · exact hs x hx
        · exact digs_byte n x hx
theorem wNum_wf (z : Int) : Wf 10 (wNum z) := wWord_wf (uz_lt z)
theorem fold_wf {α : Type} {f : α → St → St} {c : Nat} : ∀ (xs : List α), (∀ x ∈ xs, Wf c (f x)) → Wf (xs.length * c) fun s => xs.foldl (fun s x => f x s) s
  | [], _ => ⟨fun _ _ => rfl, fun _ => by simp, fun _ h => h⟩
  | x :: xs, hf => by
    have h := (hf x (List.mem_cons_self ..)).comp (fold_wf xs fun y hy => hf y (List.mem_cons_of_mem _ hy))
    refine (show Wf _ fun s => (x :: xs).foldl (fun s x => f x s) s from h).mono ?_
    simp only [List.length_cons, Nat.add_mul]
    omega
theorem wList_wf {α : Type} {f : α → St → St} {c lim : Nat} (xs : List α) (hf : ∀ x ∈ xs, Wf c (f x)) (h : xs.length < 18446744073709551616) : Wf (10 + lim * c) (wList f lim xs) := by
  have hw := wWord_wf (n := xs.length) (lim := lim) (ab := 16) h
  have hfo := fold_wf (f := f) (c := c) xs hf
  refine ⟨(hw.comp hfo).stop, fun s => ?_, (hw.comp hfo).byte⟩
  by_cases hl : xs.length ≤ lim
  · have := (hw.comp hfo).len s
    have e : xs.length * c ≤ lim * c := Nat.mul_le_mul_right _ hl
    exact Nat.le_trans this (by omega)
  · have h1 : (wWord xs.length lim 16 s).e ≠ 0 := by
      unfold wWord
      split
      · assumption
      · rw [if_pos (by omega)]; show (16 : Int) ≠ 0; omega
    unfold wList
    rw [hfo.stop _ h1]
    have := hw.len s
    omega
def IOk (i : IZ) : Prop := i.imm < 18446744073709551616 ∧ i.l.length ≤ 9223372036854775807
def FOk (f : FZ) : Prop := f.sl.length ≤ 9223372036854775807 ∧ f.re.length ≤ 9223372036854775807 ∧ f.co.length ≤ 9223372036854775807 ∧ ∀ i ∈ f.co, IOk i
def TOk (t : TZ) : Prop := t.fi.length ≤ 9223372036854775807
def POk (p : PZ) : Prop := p.ty.length ≤ 9223372036854775807 ∧ p.gl.length ≤ 9223372036854775807 ∧ p.fu.length ≤ 9223372036854775807 ∧ (∀ t ∈ p.ty, TOk t) ∧ ∀ f ∈ p.fu, FOk f
theorem nums_wf (lim : Nat) (xs : List Int) (h : xs.length ≤ 9223372036854775807) : Wf (10 + lim * 10) (wList wNum lim xs) := wList_wf xs (fun x _ => wNum_wf x) (by omega)
theorem wIns_wf {i : IZ} (h : IOk i) : Wf 300 (wIns i) :=
  (((((wNum_wf i.op).comp (wNum_wf i.a)).comp (wNum_wf i.b)).comp (wNum_wf i.c)).comp ((wWord_wf h.1).comp (nums_wf 24 i.l h.2))).mono (by omega)
theorem wFn_wf {f : FZ} (h : FOk f) : Wf 77500 (wFn f) :=
  (((wNum_wf f.pa).comp (nums_wf 32 f.sl h.1)).comp ((nums_wf 32 f.re h.2.1).comp (wList_wf f.co (fun i hi => wIns_wf (h.2.2.2 i hi)) (by have := h.2.2.1; omega)))).mono (by omega)
theorem wTy_wf {t : TZ} (h : TOk t) : Wf 180 (wTy t) := ((wNum_wf _).comp (nums_wf 16 t.fi h)).mono (by omega)
theorem wProg_wf {p : PZ} (h : POk p) : Wf 2500000 (wProg p) :=
  ((wList_wf (lim := 32) p.ty (fun t ht => wTy_wf (h.2.2.2.1 t ht)) (by have := h.1; omega)).comp ((nums_wf 32 p.gl h.2.1).comp (wList_wf (lim := 32) p.fu (fun f hf => wFn_wf (h.2.2.2.2 f hf)) (by have := h.2.2.1; omega)))).mono (by omega)

section
variable {B : Nat → Prop} {b o : Nat} {W : World} {v : Value} {α : Type} {s : Nat} {R : (Nat → Prop) → World → Nat → Nat → α → Prop} {xs : List α}
theorem RdS.len (h : RdS s R B W v xs) : xs.length ≤ 9223372036854775807 := by
  obtain ⟨_, _, _, h, _⟩ := h
  exact h
theorem RdS.all (h : RdS s R B W v xs) {x : α} (hx : x ∈ xs) : ∃ b o, B b ∧ R B W b o x := by
  obtain ⟨i, hi⟩ := List.getElem?_of_mem hx
  obtain ⟨b, o, _, _, hb, _, h⟩ := h.at hi
  exact ⟨b, _, hb, h⟩
theorem RdIns.ok {x : IZ} (h : RdIns B W b o x) : IOk x := by
  obtain ⟨_, _, h5⟩ := h.c5
  exact ⟨h.k4, h5.len⟩
theorem RdFn.ok {x : FZ} (h : RdFn B W b o x) : FOk x := by
  obtain ⟨_, _, h1⟩ := h.c1
  obtain ⟨_, _, h2⟩ := h.c2
  obtain ⟨_, _, h3⟩ := h.c3
  exact ⟨h1.len, h2.len, h3.len, fun i hi => by obtain ⟨_, _, _, h⟩ := h3.all hi; exact h.ok⟩
theorem RdTy.ok {x : TZ} (h : RdTy B W b o x) : TOk x := by
  obtain ⟨_, _, h1⟩ := h.c1
  exact h1.len
theorem RdP.ok {p : PZ} (h : RdP B W v p) : POk p := by
  obtain ⟨_, _, _, _, h0, h1, h2⟩ := h
  exact ⟨h0.len, h1.len, h2.len, fun t ht => by obtain ⟨_, _, _, h⟩ := h0.all ht; exact h.ok, fun f hf => by obtain ⟨_, _, _, h⟩ := h2.all hf; exact h.ok⟩
end
end Go.Proofs.Ytpdjbhnpahkbpaa
