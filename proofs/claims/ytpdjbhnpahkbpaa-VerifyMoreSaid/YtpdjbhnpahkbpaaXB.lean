/- Plainly: where a fault may be; what may run; a function more. -/
import Derived.Test.YtpdjbhnpahkbpaaVY
namespace Go.Proofs.Ytpdjbhnpahkbpaa
set_option linter.unusedVariables false
open Go.ChangeShapes Go.WideShapes Go.ChangeAt Go.RowKit
theorem fstBad_some {α : Type} {f : α → Int} : ∀ (xs : List α) (k : Nat) {e : Int} {j : Nat}, fstBad f xs k = some (e, j) → ∃ i x, j = k + i ∧ xs[i]? = some x ∧ f x = e ∧ e ≠ 0 ∧ ∀ i', i' < i → ∀ y, xs[i']? = some y → f y = 0
  | [], k, e, j, h => by simp [fstBad] at h
  | x :: xs, k, e, j, h => by
    unfold fstBad at h
    by_cases h0 : f x = 0
    · rw [if_pos h0] at h
      obtain ⟨i, y, h1, h2, h3, h4, h5⟩ := fstBad_some xs (k + 1) h
      refine ⟨i + 1, y, by omega, by simpa using h2, h3, h4, fun i' hi y hy => ?_⟩
      cases i' with
      | zero => obtain rfl : x = y := by simpa using hy
                exact h0
      | succ i' => exact h5 i' (by omega) y (by simpa using hy)
    · rw [if_neg h0] at h
      injection h with h
      injection h with h1 h2
      exact ⟨0, x, by omega, rfl, h1, h1 ▸ h0, fun i' hi => by omega⟩
theorem fstBad_all {α : Type} {f : α → Int} : ∀ (xs : List α) (k : Nat), fstBad f xs k = none → ∀ x ∈ xs, f x = 0
  | [], _, _, x, hx => by cases hx
  | y :: ys, k, h, x, hx => by
    unfold fstBad at h
    by_cases h0 : f y = 0
    · rw [if_pos h0] at h
      rcases List.mem_cons.1 hx with rfl | hx
      · exact h0
      · exact fstBad_all ys (k + 1) h x hx
    · rw [if_neg h0] at h; cases h
theorem headsZ_some {n : Int} : ∀ (fu : List FZ) (k : Nat) {t : FT}, headsZ n fu k = some t → ∃ i f, fu[i]? = some f ∧ t = ⟨headZ f (k + i == 0) n, (k + i : Nat), 0⟩ ∧ headZ f (k + i == 0) n ≠ 0 ∧ ∀ j, j < i → ∀ g, fu[j]? = some g → headZ g (k + j == 0) n = 0
  | [], k, t, h => by simp [headsZ] at h
  | f :: fs, k, t, h => by
    unfold headsZ at h
    by_cases h0 : headZ f (k == 0) n = 0
    · rw [if_pos h0] at h
      obtain ⟨i, g, h1, h2, h3, h4⟩ := headsZ_some fs (k + 1) h
      have e : k + 1 + i = k + (i + 1) := by omega
      rw [e] at h2 h3
      refine ⟨i + 1, g, by simpa using h1, h2, h3, fun j hj y hy => ?_⟩
      cases j with
      | zero => obtain rfl : f = y := by simpa using hy
                exact h0
      | succ j =>
        have := h4 j (by omega) y (by simpa using hy)
        rw [show k + 1 + j = k + (j + 1) by omega] at this
        exact this
    · rw [if_neg h0] at h
      injection h with h
      exact ⟨0, f, rfl, h.symm, h0, fun j hj => by omega⟩
theorem headsZ_all {n : Int} : ∀ (fu : List FZ) (k : Nat), headsZ n fu k = none → ∀ j f, fu[j]? = some f → headZ f (k + j == 0) n = 0
  | [], _, _, j, f, h => by simp at h
  | g :: gs, k, h, j, f, hf => by
    unfold headsZ at h
    by_cases h0 : headZ g (k == 0) n = 0
    · rw [if_pos h0] at h
      cases j with
      | zero => obtain rfl : g = f := by simpa using hf
                exact h0
      | succ j =>
        have := headsZ_all gs (k + 1) h j f (by simpa using hf)
        rw [show k + 1 + j = k + (j + 1) by omega] at this
        exact this
    · rw [if_neg h0] at h; cases h
theorem codesZ_some {p : PZ} : ∀ (fu : List FZ) (k : Nat) {t : FT}, codesZ p fu k = some t → ∃ i f e a, fu[i]? = some f ∧ t = ⟨e, (k + i : Nat), (a : Nat)⟩ ∧ fstBad (insZ p f) f.co 0 = some (e, a) ∧ ∀ j, j < i → ∀ g, fu[j]? = some g → fstBad (insZ p g) g.co 0 = none
  | [], k, t, h => by simp [codesZ] at h
  | f :: fs, k, t, h => by
    unfold codesZ at h
    cases hb : fstBad (insZ p f) f.co 0 with
    | some q =>
      obtain ⟨e, a⟩ := q
      rw [hb] at h
      injection h with h
      exact ⟨0, f, e, a, rfl, h.symm, hb, fun j hj => by omega⟩
    | none =>
      rw [hb] at h
      obtain ⟨i, g, e, a, h1, h2, h3, h4⟩ := codesZ_some fs (k + 1) h
      have e' : k + 1 + i = k + (i + 1) := by omega
      rw [e'] at h2
      refine ⟨i + 1, g, e, a, by simpa using h1, h2, h3, fun j hj y hy => ?_⟩
      cases j with
      | zero => obtain rfl : f = y := by simpa using hy
                exact hb
      | succ j => exact h4 j (by omega) y (by simpa using hy)
theorem codesZ_all {p : PZ} : ∀ (fu : List FZ) (k : Nat), codesZ p fu k = none → ∀ f ∈ fu, fstBad (insZ p f) f.co 0 = none
  | [], _, _, f, hf => by cases hf
  | g :: gs, k, h, f, hf => by
    unfold codesZ at h
    cases hb : fstBad (insZ p g) g.co 0 with
    | some q => rw [hb] at h; cases h
    | none =>
      rw [hb] at h
      rcases List.mem_cons.1 hf with rfl | hf
      · exact hb
      · exact codesZ_all gs (k + 1) h f hf
/-- Where a fault may be. -/
theorem parts_place {p : PZ} (h : (partsZ p).e ≠ 0) : (partsZ p).f = -1 ∧ 0 ≤ (partsZ p).at_ ∧ (partsZ p).at_ ≤ max (p.ty.length : Int) p.gl.length := by
  unfold partsZ at h ⊢
  by_cases h1 : 32 < p.ty.length ∨ 32 < p.gl.length ∨ 32 < p.fu.length ∨ p.fu.length = 0
  · rw [if_pos h1]; exact ⟨rfl, by show (0 : Int) ≤ 0; omega, by show (0 : Int) ≤ _; omega⟩
  · rw [if_neg h1] at h ⊢
    cases hb : fstBad (fun t => tyZ t p.ty.length) p.ty 0 with
    | some q =>
      obtain ⟨e, j⟩ := q
      obtain ⟨i, x, h2, h3, _⟩ := fstBad_some _ _ hb
      have := (List.getElem?_eq_some_iff.1 h3).1
      exact ⟨rfl, by show (0 : Int) ≤ (j : Int); omega, by show (j : Int) ≤ _; omega⟩
    | none =>
      rw [hb] at h
      simp only at h ⊢
      cases hb2 : fstBad (fun k => if kindZ k p.ty.length then 0 else 15) p.gl 0 with
      | some q =>
        obtain ⟨e, j⟩ := q
        obtain ⟨i, x, h2, h3, _⟩ := fstBad_some _ _ hb2
        have := (List.getElem?_eq_some_iff.1 h3).1
        exact ⟨rfl, by show (0 : Int) ≤ (j : Int); omega, by show (j : Int) ≤ _; omega⟩
      | none =>
        rw [hb2] at h
        exact absurd rfl h
theorem chk_place {p : PZ} (h : (chkZ p).e ≠ 0) :
    ((chkZ p).f = -1 ∧ 0 ≤ (chkZ p).at_ ∧ (chkZ p).at_ ≤ max (p.ty.length : Int) p.gl.length) ∨
    ∃ (k : Nat) (g : FZ) (a : Nat), p.fu[k]? = some g ∧ (chkZ p).f = k ∧ (chkZ p).at_ = a ∧ (a = 0 ∨ a < g.co.length) := by
  unfold chkZ at h ⊢
  by_cases h1 : (partsZ p).e = 0
  · rw [if_pos h1] at h ⊢
    cases hh : headsZ p.ty.length p.fu 0 with
    | some t =>
      obtain ⟨i, f, h2, rfl, _⟩ := headsZ_some _ _ hh
      exact .inr ⟨i, f, 0, h2, by simp, rfl, .inl rfl⟩
    | none =>
      rw [hh] at h
      simp only at h ⊢
      cases hc : codesZ p p.fu 0 with
      | some t =>
        obtain ⟨i, f, e, a, h2, rfl, h3, _⟩ := codesZ_some _ _ hc
        obtain ⟨j, x, h4, h5, _⟩ := fstBad_some _ _ h3
        have := (List.getElem?_eq_some_iff.1 h5).1
        exact .inr ⟨i, f, a, h2, by simp, rfl, .inr (by omega)⟩
      | none =>
        rw [hc] at h
        exact absurd rfl h
  · rw [if_neg h1] at h ⊢
    exact .inl (parts_place h1)
/-- What may run. -/
structure MayRun (p : PZ) : Prop where
  parts : (partsZ p).e = 0
  heads : ∀ (k : Nat) (f : FZ), p.fu[k]? = some f → headZ f (k == 0) p.ty.length = 0
  ins : ∀ f ∈ p.fu, ∀ i ∈ f.co, insZ p f i = 0
theorem chk_fine {p : PZ} (h : (chkZ p).e = 0) : MayRun p ∧ chkZ p = ⟨0, 0, 0⟩ := by
  unfold chkZ at h ⊢
  by_cases h1 : (partsZ p).e = 0
  · rw [if_pos h1] at h ⊢
    cases hh : headsZ p.ty.length p.fu 0 with
    | some t =>
      rw [hh] at h
      obtain ⟨i, f, h2, rfl, h3, _⟩ := headsZ_some _ _ hh
      exact absurd h h3
    | none =>
      rw [hh] at h
      simp only at h ⊢
      cases hc : codesZ p p.fu 0 with
      | some t =>
        rw [hc] at h
        obtain ⟨i, f, e, a, h2, rfl, h3, _⟩ := codesZ_some _ _ hc
        obtain ⟨j, x, _, _, _, h4, _⟩ := fstBad_some _ _ h3
        exact absurd h h4
      | none =>
        refine ⟨⟨h1, fun k f hf => ?_, fun f hf i hi => fstBad_all _ _ (codesZ_all _ _ hc f hf) i hi⟩, rfl⟩
        have := headsZ_all _ _ hh k f hf
        rw [Nat.zero_add] at this
        exact this
  · rw [if_neg h1] at h
    exact absurd h h1
theorem MayRun.chk {p : PZ} (h : MayRun p) : chkZ p = ⟨0, 0, 0⟩ := by
  unfold chkZ
  rw [if_pos h.parts, headsZ_none p.fu 0 (fun j f hj => by rw [Nat.zero_add]; exact h.heads j f hj)]
  simp only
  rw [codesZ_none p.fu 0 (fun f hf => fstBad_none _ _ (h.ins f hf))]
theorem wants_ok {sl : List Int} {ws : List (Int × Int)} (h : wantsZ sl ws = 0) : ∀ w ∈ ws, 0 ≤ w.1 ∧ w.1 < sl.length := by
  intro w hw
  unfold wantsZ at h
  by_cases h0 : ∀ w ∈ ws, kdE sl w.1 = 0
  · have := h0 w hw
    unfold kdE at this
    by_cases c : 0 ≤ w.1 ∧ w.1 < (sl.length : Int)
    · exact c
    · rw [if_neg c] at this; cases this
  · rw [if_neg h0] at h; cases h
theorem list_ok {sl li ks : List Int} (h : listZ sl li ks = 0) : ∀ n ∈ li, 0 ≤ n ∧ n < (sl.length : Int) := by
  intro n hn
  unfold listZ at h
  by_cases hl : li.length = ks.length
  · rw [if_pos hl] at h
    obtain ⟨i, hi⟩ := List.getElem?_of_mem hn
    have hi' := (List.getElem?_eq_some_iff.1 hi).1
    have hk := List.getElem?_eq_getElem (l := ks) (i := i) (by omega)
    have : (n, ks[i]) ∈ li.zip ks := List.mem_of_getElem? (by rw [List.getElem?_zip_eq_some]; exact ⟨hi, hk⟩)
    exact wants_ok h _ this
  · rw [if_neg hl] at h; cases h
/-- What an instruction that may run names. -/
theorem ins_ok {p : PZ} {f : FZ} {i : IZ} (h : insZ p f i = 0) : 1 ≤ i.op ∧ i.op ≤ 52 ∧ (i.op = 24 → i.a < f.co.length) ∧ (i.op = 25 → i.b < f.co.length) ∧ (i.op = 36 ∨ i.op = 35 → ∀ n ∈ i.l, 0 ≤ n ∧ n < (f.sl.length : Int)) := by
  unfold insZ at h
  by_cases h0 : i.op < 1 ∨ 52 < i.op
  · rw [if_pos h0] at h; cases h
  rw [if_neg h0] at h
  by_cases h1 : formZ i = false
  · rw [if_pos h1] at h; cases h
  rw [if_neg h1] at h
  by_cases h2 : 24 < i.l.length
  · rw [if_pos h2] at h; cases h
  rw [if_neg h2] at h
  refine ⟨by omega, by omega, fun e => ?_, fun e => ?_, fun e => ?_⟩
  · have : targetZ f.co.length i.a = 0 := by simpa [namedZ, e] using h
    unfold targetZ at this
    by_cases c : 0 ≤ i.a ∧ i.a < (f.co.length : Int)
    · exact c.2
    · rw [if_neg c] at this; cases this
  · have : orZ (wantsZ f.sl [(i.a, 0)]) (targetZ f.co.length i.b) = 0 := by simpa [namedZ, e] using h
    unfold orZ at this
    by_cases d : wantsZ f.sl [(i.a, 0)] = 0
    · rw [if_pos d] at this
      unfold targetZ at this
      by_cases c : 0 ≤ i.b ∧ i.b < (f.co.length : Int)
      · exact c.2
      · rw [if_neg c] at this; cases this
    · rw [if_neg d] at this; exact absurd this d
  · rcases e with e | e
    · have : listZ f.sl i.l f.re = 0 := by simpa [namedZ, e] using h
      exact list_ok this
    · have : callZ p.fu f.sl i.l i.a = 0 := by simpa [namedZ, e] using h
      unfold callZ at this
      by_cases c : 0 ≤ i.a ∧ i.a < (p.fu.length : Int)
      · rw [if_pos c] at this; exact list_ok this
      · rw [if_neg c] at this; cases this
theorem head_ok {f : FZ} {b : Bool} {n : Int} (h : headZ f b n = 0) : f.co.length ≠ 0 ∧ f.pa ≤ f.sl.length := by
  unfold headZ at h
  by_cases h1 : 32 < f.sl.length ∨ 32 < f.re.length ∨ 256 < f.co.length ∨ f.pa < 0 ∨ (f.sl.length : Int) < f.pa
  · rw [if_pos h1] at h; cases h
  rw [if_neg h1] at h
  by_cases h2 : b = true ∧ (0 < f.pa ∨ 0 < f.re.length)
  · rw [if_pos h2] at h; cases h
  rw [if_neg h2] at h
  by_cases h3 : slotsZ f.sl n ∧ kindsZ f.re n
  · rw [if_pos h3] at h
    by_cases h4 : f.co.length = 0 ∨ lastZ (lastOp f.co) = false
    · rw [if_pos h4] at h; cases h
    · exact ⟨by omega, by omega⟩
  · rw [if_neg h3] at h; cases h
/-! ### A function more -/
def more (p : PZ) (x : FZ) : PZ := ⟨p.ty, p.gl, p.fu ++ [x]⟩
theorem fnZ_more {fu : List FZ} {x : FZ} {a : Int} (h : 0 ≤ a ∧ a < (fu.length : Int)) : fnZ (fu ++ [x]) a = fnZ fu a := by
  unfold fnZ
  rw [List.getElem?_append_left (by omega)]
theorem ins_more {p : PZ} {x f : FZ} {i : IZ} (h : insZ p f i ≠ 13) : insZ (more p x) f i = insZ p f i := by
  unfold insZ at h ⊢
  by_cases h0 : i.op < 1 ∨ 52 < i.op
  · rw [if_pos h0, if_pos h0]
  rw [if_neg h0] at h ⊢
  rw [if_neg h0]
  by_cases h1 : formZ i = false
  · rw [if_pos h1, if_pos h1]
  rw [if_neg h1] at h ⊢
  rw [if_neg h1]
  by_cases h2 : 24 < i.l.length
  · rw [if_pos h2, if_pos h2]
  rw [if_neg h2] at h ⊢
  rw [if_neg h2]
  by_cases e : i.op = 35
  · have e1 : ∀ q : PZ, namedZ q f i = callZ q.fu f.sl i.l i.a := fun q => by simp [namedZ, e]
    rw [e1] at h ⊢
    rw [e1]
    unfold callZ at h ⊢
    by_cases c : 0 ≤ i.a ∧ i.a < (p.fu.length : Int)
    · rw [if_pos c, if_pos (by show 0 ≤ i.a ∧ i.a < ((p.fu ++ [x]).length : Int); simp; omega)]
      show listZ f.sl i.l ((fnZ (p.fu ++ [x]) i.a).sl.take (fnZ (p.fu ++ [x]) i.a).pa.toNat ++ (fnZ (p.fu ++ [x]) i.a).re) = _
      rw [fnZ_more c]
    · rw [if_neg c] at h; exact absurd rfl h
  by_cases e2 : i.op = 37 ∨ i.op = 38
  · have e1 : ∀ q : PZ, namedZ q f i = begunZ q.fu f.sl i.l i.a := fun q => by rcases e2 with e2 | e2 <;> simp [namedZ, e2]
    rw [e1] at h ⊢
    rw [e1]
    unfold begunZ at h ⊢
    by_cases c : 0 ≤ i.a ∧ i.a < (p.fu.length : Int)
    · rw [if_pos c, if_pos (by show 0 ≤ i.a ∧ i.a < ((p.fu ++ [x]).length : Int); simp; omega)]
      show (if 0 < (fnZ (p.fu ++ [x]) i.a).re.length then 13 else if (2 : Int) ∈ (fnZ (p.fu ++ [x]) i.a).sl.take (fnZ (p.fu ++ [x]) i.a).pa.toNat then 10 else listZ f.sl i.l ((fnZ (p.fu ++ [x]) i.a).sl.take (fnZ (p.fu ++ [x]) i.a).pa.toNat)) = _
      rw [fnZ_more c]
    · rw [if_neg c] at h; exact absurd rfl h
  · unfold namedZ
    simp only [e, if_false]
    rw [if_neg e2, if_neg e2]
    rfl
theorem parts_more {p : PZ} {x : FZ} (hn : 0 < p.fu.length ∧ p.fu.length < 32) : partsZ (more p x) = partsZ p := by
  unfold partsZ
  have e : (32 < (more p x).ty.length ∨ 32 < (more p x).gl.length ∨ 32 < (more p x).fu.length ∨ (more p x).fu.length = 0) ↔ (32 < p.ty.length ∨ 32 < p.gl.length ∨ 32 < p.fu.length ∨ p.fu.length = 0) := by
    show (32 < p.ty.length ∨ 32 < p.gl.length ∨ 32 < (p.fu ++ [x]).length ∨ (p.fu ++ [x]).length = 0) ↔ _
    simp only [List.length_append, List.length_cons, List.length_nil]
    omega
  by_cases h : 32 < p.ty.length ∨ 32 < p.gl.length ∨ 32 < p.fu.length ∨ p.fu.length = 0
  · rw [if_pos h, if_pos (e.2 h)]
  · rw [if_neg h, if_neg (fun c => h (e.1 c))]
    rfl
theorem chk_count {p : PZ} (h : p.fu.length = 0 ∨ 32 < p.fu.length) : (chkZ p).e = 16 := by
  have e : partsZ p = ⟨16, -1, 0⟩ := by unfold partsZ; exact if_pos (by omega)
  unfold chkZ
  rw [e]
  rfl
/-- The function that is laid behind the others: one that may run, one with a fault. -/
def extraZ (bad : Bool) : FZ := ⟨0, [0], [], if bad then [⟨1, 0, 0, 0, 5, []⟩, ⟨48, 1, 0, 0, 0, []⟩, ⟨36, 0, 0, 0, 0, []⟩] else [⟨1, 0, 0, 0, 5, []⟩, ⟨36, 0, 0, 0, 0, []⟩]⟩
theorem extra_head (bad : Bool) (n : Int) : headZ (extraZ bad) false n = 0 := by
  have hk : slotsZ (extraZ bad).sl n := fun k hk => by
    have hk : k ∈ [(0 : Int)] := hk
    obtain rfl : k = 0 := by simpa using hk
    exact .inr (by unfold kindZ carriedZ; simp)
  have hr : kindsZ (extraZ bad).re n := fun k hk => by cases hk
  unfold headZ
  rw [if_neg (by cases bad <;> simp [extraZ]), if_neg (by simp), if_pos ⟨hk, hr⟩, if_neg (by cases bad <;> simp [extraZ, lastOp, lastZ])]
theorem extra_good (p : PZ) : fstBad (insZ p (extraZ false)) (extraZ false).co 0 = none := by
  rfl
theorem extra_bad (p : PZ) : fstBad (insZ p (extraZ true)) (extraZ true).co 0 = some (11, 1) := by
  rfl
theorem codesZ_append {p : PZ} : ∀ (fu : List FZ) (x : FZ) (k : Nat), (∀ f ∈ fu, fstBad (insZ p f) f.co 0 = none) → codesZ p (fu ++ [x]) k = codesZ p [x] (k + fu.length)
  | [], x, k, h => rfl
  | f :: fs, x, k, h => by
    rw [List.cons_append, codesZ, h f (List.mem_cons_self ..)]
    simp only
    rw [codesZ_append fs x (k + 1) fun g hg => h g (List.mem_cons_of_mem _ hg), List.length_cons, Nat.add_assoc, Nat.add_comm 1]
/-- A function more behind the others. -/
theorem chk_more {p : PZ} (bad : Bool) (hn : 0 < p.fu.length ∧ p.fu.length < 32) (hf : (chkZ p).e ≠ 13) :
    chkZ (more p (extraZ bad)) = if (chkZ p).e = 0 then (if bad then ⟨11, p.fu.length, 1⟩ else ⟨0, 0, 0⟩) else chkZ p := by
  have hp := parts_more (x := extraZ bad) hn
  by_cases h1 : (partsZ p).e = 0
  · cases hh : headsZ p.ty.length p.fu 0 with
    | some t =>
      have e : chkZ p = t := by unfold chkZ; rw [if_pos h1, hh]
      obtain ⟨i, f, h2, h3, h4, h5⟩ := headsZ_some _ _ hh
      have hi := (List.getElem?_eq_some_iff.1 h2).1
      have e2 : headsZ (more p (extraZ bad)).ty.length (more p (extraZ bad)).fu 0 = some ⟨headZ f (0 + i == 0) p.ty.length, (0 + i : Nat), 0⟩ := headsZ_at (p.fu ++ [extraZ bad]) 0 i f (by rw [List.getElem?_append_left hi]; exact h2) h4 fun j hj g hg => h5 j hj g (by rw [List.getElem?_append_left (by omega)] at hg; exact hg)
      have ne : (chkZ p).e ≠ 0 := by rw [e, h3]; exact h4
      rw [if_neg ne, e, h3]
      unfold chkZ
      rw [hp, if_pos h1, e2]
    | none =>
      have e2 : headsZ (more p (extraZ bad)).ty.length (more p (extraZ bad)).fu 0 = none := headsZ_none (p.fu ++ [extraZ bad]) 0 fun j g hg => by
        by_cases hj : j < p.fu.length
        · rw [List.getElem?_append_left hj] at hg
          exact headsZ_all _ _ hh j g hg
        · rw [List.getElem?_append_right (by omega)] at hg
          have : j - p.fu.length = 0 := by
            cases hq : j - p.fu.length with
            | zero => rfl
            | succ q => rw [hq] at hg; simp at hg
          rw [this] at hg
          obtain rfl : extraZ bad = g := by simpa using hg
          have : (0 + j == 0) = false := by simp; omega
          rw [this]
          exact extra_head bad _
      cases hc : codesZ p p.fu 0 with
      | some t =>
        have e : chkZ p = t := by unfold chkZ; rw [if_pos h1, hh]; simp only [hc]
        obtain ⟨i, f, x, a, h2, h3, h4, h5⟩ := codesZ_some _ _ hc
        have hi := (List.getElem?_eq_some_iff.1 h2).1
        obtain ⟨j, y, q1, q2, q3, q4, q5⟩ := fstBad_some _ _ h4
        have hx : x ≠ 13 := by rw [e, h3] at hf; exact hf
        have e3 : codesZ (more p (extraZ bad)) (more p (extraZ bad)).fu 0 = some ⟨x, (0 + i : Nat), (a : Nat)⟩ := codesZ_at (p := more p (extraZ bad)) (p.fu ++ [extraZ bad]) 0 i f x a (by rw [List.getElem?_append_left hi]; exact h2) (by
            have := fstBad_at (f := insZ (more p (extraZ bad)) f) f.co 0 j y q2 (by rw [ins_more (by rw [q3]; exact hx), q3]; exact q4) (fun j' hj' z hz => by
              have := q5 j' hj' z hz
              rw [ins_more (by rw [this]; decide), this])
            rw [this, ins_more (by rw [q3]; exact hx), q3, q1]) fun j' hj' g hg => by
            rw [List.getElem?_append_left (by omega)] at hg
            have := h5 j' hj' g hg
            exact fstBad_none _ _ fun z hz => by
              have := fstBad_all _ _ this z hz
              rw [ins_more (by rw [this]; decide), this]
        have ne : (chkZ p).e ≠ 0 := by rw [e, h3]; exact q4
        rw [if_neg ne, e, h3]
        unfold chkZ
        rw [hp, if_pos h1, e2]
        simp only [e3]
      | none =>
        have e : chkZ p = ⟨0, 0, 0⟩ := by unfold chkZ; rw [if_pos h1, hh]; simp only [hc]
        have e3 : codesZ (more p (extraZ bad)) (more p (extraZ bad)).fu 0 = codesZ (more p (extraZ bad)) [extraZ bad] (0 + p.fu.length) := codesZ_append p.fu (extraZ bad) 0 fun g hg => fstBad_none _ _ fun z hz => by
          have := fstBad_all _ _ (codesZ_all _ _ hc g hg) z hz
          rw [ins_more (by rw [this]; decide), this]
        rw [if_pos (by rw [e])]
        unfold chkZ
        rw [hp, if_pos h1, e2]
        simp only [e3]
        cases bad with
        | false => simp only [codesZ, extra_good]; rfl
        | true => simp only [codesZ, extra_bad, Nat.zero_add]; rfl
  · have e : chkZ p = partsZ p := by unfold chkZ; exact if_neg h1
    rw [e, if_neg h1]
    unfold chkZ
    rw [hp]
    exact if_neg h1
end Go.Proofs.Ytpdjbhnpahkbpaa
