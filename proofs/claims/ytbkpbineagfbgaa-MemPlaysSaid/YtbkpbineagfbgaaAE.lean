/- Both memories beside one another: each call answers the same, and leaves the same. -/
import Derived.Test.YtbkpbineagfbgaaAD
import Derived.Test.YtbkpbineagfbgaaL
namespace Go.Proofs.Ytbkpbineagfbgaa
open Go.ChangeShapes Go.WideShapes Go.ChangeAt Go.RowKit

/-- The program's memory (in state st', wd') and the document's (in state st, wd), in blocks that are new since w. -/
structure Half (w W : World) (bm bp br n : Nat) (T : Nat → Prop) (st wd st' wd' : Nat → Int) : Prop where
  mem : Mem W bm bp n st' wd'
  zer : Zer n st' wd'
  chg : Cha (fun _ => False) w W
  new : w.heap.size ≤ bp ∧ w.heap.size ≤ bm
  ref : ∃ bs bw ws bl, Ref W T br bs bw n st wd ws bl
  far : ¬ T bm ∧ ¬ T bp ∧ ∀ i, T i → w.heap.size ≤ i
/-- Both in one state. -/
def Two (w W : World) (bm bp br n : Nat) (T : Nat → Prop) (st wd : Nat → Int) : Prop := Half w W bm bp br n T st wd st wd
/-- What the document's call leaves. -/
def Next (w W W' : World) (bm bp br n : Nat) (T : Nat → Prop) (st wd : Nat → Int) : Prop := ∃ T', Two w W' bm bp br n T' st wd ∧ Cha T W W' ∧ ∀ i, T' i → T i ∨ W.heap.size ≤ i
variable {w W : World} {bm bp br n : Nat} {T : Nat → Prop} {st wd : Nat → Int}
theorem Half.old {W' : World} {S : Nat → Prop} {st' wd' : Nat → Int} (h : Half w W bm bp br n T st wd st' wd') (c : Cha S W W') (hm : ¬ S bm) (hp : ¬ S bp) (ht : ∀ i, T i → ¬ S i) (hs : ∀ i, S i → w.heap.size ≤ i) : Half w W' bm bp br n T st wd st' wd' := by
  obtain ⟨bs, bw, ws, bl, hr⟩ := h.ref
  exact ⟨h.mem.cha c hm hp, h.zer, h.chg.over c (fun i hi => .inr (hs i hi)), h.new, ⟨bs, bw, ws, bl, hr.chg c ht⟩, h.far⟩
theorem Half.same {W' : World} {st' wd' : Nat → Int} (h : Half w W bm bp br n T st wd st' wd') (c : Chg (fun _ => False) W W') : Half w W' bm bp br n T st wd st' wd' ∧ Cha (· = bp) W W' :=
  ⟨h.old c.cha (fun x => x) (fun x => x) (fun _ _ x => x) (fun _ x => x.elim), c.cha.mono fun _ _ f => f.elim⟩
theorem Half.turn {W' : World} {st' wd' : Nat → Int} (h : Two w W bm bp br n T st wd) (m : Mem W' bm bp n st' wd') (z : Zer n st' wd') (c : Chg (· = bp) W W') : Half w W' bm bp br n T st wd st' wd' ∧ Cha (· = bp) W W' := by
  obtain ⟨bs, bw, ws, bl, hr⟩ := h.ref
  exact ⟨⟨m, z, h.chg.over c.cha (fun i hi => .inr (hi ▸ h.new.1)), h.new, ⟨bs, bw, ws, bl, hr.chg c.cha (fun i hi e => h.far.2.1 (e ▸ hi))⟩, h.far⟩, c.cha⟩
theorem Half.next {W' : World} {st' wd' : Nat → Int} (h : Half w W bm bp br n T st wd st' wd') (l : Left W T W' br n st' wd') : Next w W W' bm bp br n T st' wd' := by
  obtain ⟨T', bs, bw, ws, bl, hr, hc, ht⟩ := l
  have hlt := h.mem.lt
  refine ⟨T', ⟨h.mem.cha hc h.far.1 h.far.2.1, h.zer, h.chg.over hc (fun i hi => .inr (h.far.2.2 i hi)), h.new, ⟨bs, bw, ws, bl, hr⟩, fun c => ?_, fun c => ?_, fun i hi => ?_⟩, hc, ht⟩
  · rcases ht _ c with c | c
    · exact h.far.1 c
    · omega
  · rcases ht _ c with c | c
    · exact h.far.2.1 c
    · omega
  · rcases ht _ hi with c | c
    · exact h.far.2.2 i c
    · have := h.chg.size; omega
theorem Two.next (h : Two w W bm bp br n T st wd) : Next w W W bm bp br n T st wd := by
  obtain ⟨bs, bw, ws, bl, hr⟩ := h.ref
  exact Half.next h hr.left
/-- The document's call, of which all is known. -/
theorem Half.nextOf {W' : World} {st' wd' : Nat → Int} {bs bw : Nat} {ws : Nat → Value} {bl : Nat → Nat} (h : Half w W bm bp br n T st wd st' wd') (hr : Ref W' T br bs bw n st' wd' ws bl) (c : Chg T W W') : Next w W W' bm bp br n T st' wd' :=
  h.next ⟨T, bs, bw, ws, bl, hr, c.cha, fun _ h => .inl h⟩

theorem there_iff (h : Mem W bm bp n st wd) (a : Nat) : There n st a ↔ RThere n st a := by
  unfold There RThere
  constructor
  · intro ⟨h1, h2⟩; exact ⟨h1, by omega⟩
  · intro ⟨h1, h2⟩
    have := h.rng (a / 64) (by omega)
    exact ⟨h1, by omega⟩
theorem thr_iff (h : Mem W bm bp n st wd) (a k : Nat) (hk : 1 ≤ k) : Thr n st a k ↔ ∀ i, i < k → RThere n st (a + i) := by
  unfold Thr RThere
  rw [allB_iff]
  constructor
  · intro ⟨h1, h2⟩ i hi
    refine ⟨by omega, ?_⟩
    have := h2 ((a + i) / 64 - a / 64) (by unfold np; omega)
    rw [show a / 64 + ((a + i) / 64 - a / 64) = (a + i) / 64 by omega] at this
    simp at this
    omega
  · intro h1
    have hl := (h1 (k - 1) (by omega)).1
    refine ⟨by omega, fun i hi => ?_⟩
    unfold np at hi
    have hx : ∃ x, x < k ∧ (a + x) / 64 = a / 64 + i := by
      by_cases c : i = 0
      · exact ⟨0, by omega, by omega⟩
      · exact ⟨(a / 64 + i) * 64 - a, by omega, by omega⟩
    obtain ⟨x, hx1, hx2⟩ := hx
    have h2 := (h1 x hx1).2
    rw [hx2] at h2
    have h3 := h.rng (a / 64 + i) (by omega)
    simp
    omega
theorem ld_iff (st : Nat → Int) (a p : Nat) : ∀ k, ld st a k p = 1 ∧ (∃ i, i < k ∧ (a + i) / 64 = p) ∨ ld st a k p = st p ∧ (∀ i, i < k → (a + i) / 64 ≠ p)
  | 0 => .inr ⟨rfl, fun i hi => absurd hi (by omega)⟩
  | k + 1 => by
    unfold ld
    by_cases e : p = (a + k) / 64
    · left; rw [e, upd_same]; exact ⟨rfl, k, by omega, rfl⟩
    · rw [upd_other _ _ e]
      rcases ld_iff st a p k with ⟨h1, i, hi, h2⟩ | ⟨h1, h2⟩
      · left; exact ⟨h1, i, by omega, h2⟩
      · right
        refine ⟨h1, fun i hi => ?_⟩
        by_cases c : i = k
        · subst c; exact fun h => e h.symm
        · exact h2 i (by omega)
theorem ld_wst {st : Nat → Int} {n : Nat} (hr : ∀ p, p < n → 0 ≤ st p ∧ st p ≤ 2) (a k : Nat) (hk : 1 ≤ k) (ha : ∀ i, i < k → RThere n st (a + i)) (p : Nat) (hp : p < n) : ld st a k p = wst st (a / 64) (np a k) p := by
  have h0 := hr p hp
  unfold wst
  rcases ld_iff st a p k with ⟨h1, i, hi, h2⟩ | ⟨h1, h2⟩
  · have h3 := (ha i hi).2
    rw [h2] at h3
    rw [h1]
    by_cases c : st p = 2
    · rw [if_pos ⟨by omega, by (unfold np; omega), c⟩]
    · rw [if_neg (by omega)]; omega
  · rw [h1]
    have h3 : ¬ (a / 64 ≤ p ∧ p < a / 64 + np a k) := fun ⟨c1, c2⟩ => by
      unfold np at c2
      by_cases c : p = a / 64
      · exact h2 0 (by omega) (by omega)
      · exact h2 (p * 64 - a) (by omega) (by omega)
    rw [if_neg (by omega)]
theorem wst_rng {st : Nat → Int} {n : Nat} (hr : ∀ p, p < n → 0 ≤ st p ∧ st p ≤ 2) (b k : Nat) : ∀ p, p < n → 0 ≤ wst st b k p ∧ wst st b k p ≤ 2 := fun p hp => by
  unfold wst
  have := hr p hp
  split <;> omega
theorem wst_there {st : Nat → Int} {n : Nat} (b k a : Nat) (h : RThere n st a) : RThere n (wst st b k) a := by
  refine ⟨h.1, ?_⟩
  unfold wst
  have := h.2
  split <;> omega
theorem ld_congr {st st' : Nat → Int} {n : Nat} (h : ∀ p, p < n → st p = st' p) (a : Nat) : ∀ (k p : Nat), p < n → ld st a k p = ld st' a k p
  | 0, p, hp => h p hp
  | k + 1, p, hp => by
    unfold ld upd
    split
    · rfl
    · exact ld_congr h a k p hp
theorem ld_ld {st : Nat → Int} {n : Nat} (hr : ∀ p, p < n → 0 ≤ st p ∧ st p ≤ 2) (t f k : Nat) (hk : 1 ≤ k) (ha : ∀ i, i < k → RThere n st (t + i) ∧ RThere n st (f + i)) (p : Nat) (hp : p < n) :
    ld (ld st f k) t k p = wst (wst st (f / 64) (np f k)) (t / 64) (np t k) p := by
  rw [ld_congr (fun q hq => ld_wst hr f k hk (fun i hi => (ha i hi).2) q hq) t k p hp]
  exact ld_wst (wst_rng hr _ _) t k hk (fun i hi => wst_there _ _ _ (ha i hi).1) p hp
end Go.Proofs.Ytbkpbineagfbgaa
