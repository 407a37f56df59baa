/- A program's lists, as far as they are known while they are written over. -/
import Derived.Test.YtpdjbhnpahkbpaaCQ
namespace Go.Proofs.Ytpdjbhnpahkbpaa.Z
open Go.ChangeShapes Go.WideShapes Go.ChangeAt Go.RowKit

/-- A cell that held a number holds one; a slice stays, or (where q) is the empty one. -/
def Kin (q : Bool) (u u' : Value) : Prop := u' = u ∨ (∃ k z z', u = .int k z ∧ u' = .int k z') ∨ (q = true ∧ (∃ a n c, u = .slice a n c) ∧ u' = .slice none 0 0)
theorem Kin.trans {q : Bool} {u v w : Value} (h : Kin q u v) (k : Kin q v w) : Kin q u w := by
  rcases k with rfl | ⟨k, z, z', rfl, rfl⟩ | ⟨hq, ⟨a, n, c, rfl⟩, rfl⟩
  · exact h
  · rcases h with rfl | ⟨k', x, x', rfl, e⟩ | ⟨_, _, e⟩
    · exact .inr (.inl ⟨_, _, _, rfl, rfl⟩)
    · cases e
      exact .inr (.inl ⟨_, _, _, rfl, rfl⟩)
    · cases e
  · rcases h with rfl | ⟨k', x, x', rfl, e⟩ | ⟨_, h, e⟩
    · exact .inr (.inr ⟨hq, ⟨_, _, _, rfl⟩, rfl⟩)
    · cases e
    · exact .inr (.inr ⟨hq, h, rfl⟩)
structure Wi (q : Bool) (B : Nat → Prop) (W w : World) : Prop where
  kp : ∀ b o u, B b → W.cell? ⟨b, o, none⟩ = some u → ∃ u', w.cell? ⟨b, o, none⟩ = some u' ∧ Kin q u u'
  ch : Cha B W w
section
variable {q : Bool} {B : Nat → Prop} {W w w' : World} {b o s : Nat}
theorem Wi.refl (q : Bool) (B : Nat → Prop) (W : World) : Wi q B W W := ⟨fun _ _ u _ h => ⟨u, h, .inl rfl⟩, Cha.refl _ _⟩
theorem Wi.trans (h : Wi q B W w) (k : Wi q B w w') : Wi q B W w' := ⟨fun b o u hb hu => by
  obtain ⟨u', h1, h2⟩ := h.kp b o u hb hu
  obtain ⟨u2, h3, h4⟩ := k.kp b o u' hb h1
  exact ⟨u2, h3, h2.trans h4⟩, h.ch.trans k.ch⟩
theorem Wi.wide (h : Wi false B W w) : Wi true B W w := ⟨fun b o u hb hu => by
  obtain ⟨u', h1, h2⟩ := h.kp b o u hb hu
  refine ⟨u', h1, ?_⟩
  rcases h2 with h2 | h2 | h2
  · exact .inl h2
  · exact .inr (.inl h2)
  · simp at h2, h.ch⟩
theorem Wi.alloc (h : Wi q B W w) (x : Obj) (hf : Fre x := by first | exact rfl | exact trivial) : Wi q B W (w.alloc x) := ⟨fun b o u hb hu => by
  obtain ⟨u', h1, h2⟩ := h.kp b o u hb hu
  exact ⟨u', (World.cell?_alloc_past x b o (block_lt_of_cell h1)).trans h1, h2⟩, h.ch.alloc x hf⟩
theorem Wi.set {u0 x : Value} (h : Wi q B W w) (hb : B b) (hc : w.cell? ⟨b, o, none⟩ = some u0) (hx : Kin q u0 x) : Wi q B W (w.setCell ⟨b, o, none⟩ x) := ⟨fun b' o' u hb' hu => by
  obtain ⟨u', h1, h2⟩ := h.kp b' o' u hb' hu
  by_cases e : (⟨b, o, none⟩ : Addr) = ⟨b', o', none⟩
  · rw [← e] at h1 ⊢
    rw [hc] at h1
    cases h1
    exact ⟨x, World.cell?_setCell_same _ _ _ hc, h2.trans hx⟩
  · exact ⟨u', (World.cell?_setCell_other _ _ _ _ e).trans h1, h2⟩, h.ch.setCell (p := ⟨b, o, none⟩) (fun _ => hb) x⟩
theorem Wi.setInt {k : IntKind} {z : Int} (h : Wi q B W w) (hb : B b) (hc : w.cell? ⟨b, o, none⟩ = some (.int k z)) (z' : Int) : Wi q B W (w.setCell ⟨b, o, none⟩ (.int k z')) := h.set hb hc (.inr (.inl ⟨_, _, _, rfl, rfl⟩))
theorem Wi.setNil {a : Option Addr} {n c : Nat} (h : Wi true B W w) (hb : B b) (hc : w.cell? ⟨b, o, none⟩ = some (.slice a n c)) : Wi true B W (w.setCell ⟨b, o, none⟩ (.slice none 0 0)) := h.set hb hc (.inr (.inr ⟨rfl, ⟨_, _, _, rfl⟩, rfl⟩))
end

/-- A list of so many elements of s cells. -/
def Ls (P : World → Nat → Nat → Prop) (s : Nat) (B : Nat → Prop) (W : World) (v : Value) : Prop :=
  ∃ a n c, v = .slice a n c ∧ n ≤ 9223372036854775807 ∧ (0 < n → ∃ b o, a = some ⟨b, o, none⟩ ∧ B b ∧ ∀ i, i < n → P W b (o + i * s))
def In (W : World) (b o : Nat) : Prop := ∃ z, W.cell? ⟨b, o, none⟩ = some (.int .i64 z)
/-- A cell that holds a list. -/
def Hs (P : World → Nat → Nat → Prop) (s : Nat) (B : Nat → Prop) (W : World) (b o : Nat) : Prop := ∃ v, W.cell? ⟨b, o, none⟩ = some v ∧ Ls P s B W v
structure InsW (B : Nat → Prop) (W : World) (b o : Nat) : Prop where
  c0 : In W b o
  c1 : In W b (o + 1)
  c2 : In W b (o + 2)
  c3 : In W b (o + 3)
  c4 : ∃ z, W.cell? ⟨b, o + 4, none⟩ = some (.int .u64 z)
  c5 : Hs In 1 B W b (o + 5)
structure FnW (B : Nat → Prop) (W : World) (b o : Nat) : Prop where
  c0 : In W b o
  c1 : Hs In 1 B W b (o + 1)
  c2 : Hs In 1 B W b (o + 2)
  c3 : Hs (InsW B) 6 B W b (o + 3)
structure TyW (B : Nat → Prop) (W : World) (b o : Nat) : Prop where
  c1 : Hs In 1 B W b (o + 1)
section
variable {q : Bool} {P : World → Nat → Nat → Prop} {B : Nat → Prop} {W w w' : World} {b o s : Nat} {v : Value}
theorem Ls.nil : Ls P s B W (.slice none 0 0) := ⟨_, _, _, rfl, by simp, fun h => by omega⟩
theorem Ls.wi (h : Ls P s B W v) (f : ∀ b o, B b → P W b o → P w b o) : Ls P s B w v := by
  obtain ⟨a, n, c, e, hn, h⟩ := h
  refine ⟨a, n, c, e, hn, fun h0 => ?_⟩
  obtain ⟨b, o, ea, hb, h⟩ := h h0
  exact ⟨b, o, ea, hb, fun i hi => f b _ hb (h i hi)⟩
theorem int_wi {k : IntKind} {z : Int} (c : Wi q B W w) (hb : B b) (h : W.cell? ⟨b, o, none⟩ = some (.int k z)) : ∃ z, w.cell? ⟨b, o, none⟩ = some (.int k z) := by
  obtain ⟨u', h1, h2⟩ := c.kp b o _ hb h
  rcases h2 with rfl | ⟨k, x, x', e, rfl⟩ | ⟨_, ⟨_, _, _, e⟩, _⟩
  · exact ⟨_, h1⟩
  · cases e
    exact ⟨_, h1⟩
  · cases e
theorem In.wi (c : Wi q B W w) (hb : B b) (h : In W b o) : In w b o := by
  obtain ⟨z, h⟩ := h
  exact int_wi c hb h
theorem Hs.wi (c : Wi q B W w) (hb : B b) (h : Hs P s B W b o) (f : ∀ b o, B b → P W b o → P w b o) : Hs P s B w b o := by
  obtain ⟨v, h, l⟩ := h
  obtain ⟨u', h1, h2⟩ := c.kp b o _ hb h
  rcases h2 with rfl | ⟨k, x, x', rfl, rfl⟩ | ⟨_, _, rfl⟩
  · exact ⟨_, h1, l.wi f⟩
  · obtain ⟨_, _, _, e, _⟩ := l
    cases e
  · exact ⟨_, h1, Ls.nil⟩
theorem InsW.wi (c : Wi q B W w) (hb : B b) (h : InsW B W b o) : InsW B w b o :=
  ⟨h.c0.wi c hb, h.c1.wi c hb, h.c2.wi c hb, h.c3.wi c hb, by obtain ⟨z, h⟩ := h.c4; exact int_wi c hb h, h.c5.wi c hb fun _ _ hb h => h.wi c hb⟩
theorem FnW.wi (c : Wi q B W w) (hb : B b) (h : FnW B W b o) : FnW B w b o :=
  ⟨h.c0.wi c hb, h.c1.wi c hb fun _ _ hb h => h.wi c hb, h.c2.wi c hb fun _ _ hb h => h.wi c hb, h.c3.wi c hb fun _ _ hb h => h.wi c hb⟩
theorem TyW.wi (c : Wi q B W w) (hb : B b) (h : TyW B W b o) : TyW B w b o := ⟨h.c1.wi c hb fun _ _ hb h => h.wi c hb⟩
theorem Ls.ints (h : Ls In 1 B W v) (c : Wi q B W w) : Ls In 1 B w v := h.wi fun _ _ hb h => h.wi c hb
theorem Ls.inss (h : Ls (InsW B) 6 B W v) (c : Wi q B W w) : Ls (InsW B) 6 B w v := h.wi fun _ _ hb h => h.wi c hb
theorem Ls.fns (h : Ls (FnW B) 4 B W v) (c : Wi q B W w) : Ls (FnW B) 4 B w v := h.wi fun _ _ hb h => h.wi c hb
theorem Ls.tys (h : Ls (TyW B) 2 B W v) (c : Wi q B W w) : Ls (TyW B) 2 B w v := h.wi fun _ _ hb h => h.wi c hb
/-- The element at i. -/
theorem Ls.at {a : Option Addr} {n c : Nat} (h : Ls P s B W (.slice a n c)) {i : Nat} (hi : i < n) : ∃ b o, a = some ⟨b, o, none⟩ ∧ B b ∧ P W b (o + i * s) := by
  obtain ⟨a, n, c, e, _, h⟩ := h
  cases e
  obtain ⟨b, o, ea, hb, h⟩ := h (by omega)
  exact ⟨b, o, ea, hb, h i hi⟩
theorem Ls.len {a : Option Addr} {n c : Nat} (h : Ls P s B W (.slice a n c)) : n ≤ 9223372036854775807 := by
  obtain ⟨a, n, c, e, h, _⟩ := h
  cases e
  exact h
theorem Ls.shape (h : Ls P s B W v) : ∃ a n c, v = .slice a n c := by
  obtain ⟨a, n, c, e, _⟩ := h
  exact ⟨a, n, c, e⟩
theorem Ls.of {α : Type} {R : (Nat → Prop) → World → Nat → Nat → α → Prop} {xs : List α} (h : RdS s R B W v xs) (f : ∀ b o x, R B W b o x → P W b o) : Ls P s B W v := by
  obtain ⟨a, c, e, hl, h⟩ := h
  refine ⟨a, _, c, e, hl, fun h0 => ?_⟩
  obtain ⟨b, o, ea, hb, _, h⟩ := h h0
  exact ⟨b, o, ea, hb, fun i hi => f _ _ _ (h i _ (List.getElem?_eq_getElem hi))⟩
theorem In.of {z : Int} (h : RdI B W b o z) : In W b o := ⟨_, h.1⟩
theorem Hs.of {α : Type} {R : (Nat → Prop) → World → Nat → Nat → α → Prop} {xs : List α} (h : ∃ v, W.cell? ⟨b, o, none⟩ = some v ∧ RdS s R B W v xs) (f : ∀ b o x, R B W b o x → P W b o) : Hs P s B W b o := by
  obtain ⟨v, h1, h2⟩ := h
  exact ⟨v, h1, Ls.of h2 f⟩
theorem InsW.of {z : IZ} (h : RdIns B W b o z) : InsW B W b o := ⟨⟨_, h.c0⟩, ⟨_, h.c1⟩, ⟨_, h.c2⟩, ⟨_, h.c3⟩, ⟨_, h.c4⟩, Hs.of h.c5 fun _ _ _ h => In.of h⟩
theorem FnW.of {z : FZ} (h : RdFn B W b o z) : FnW B W b o := ⟨⟨_, h.c0⟩, Hs.of h.c1 fun _ _ _ h => In.of h, Hs.of h.c2 fun _ _ _ h => In.of h, Hs.of h.c3 fun _ _ _ h => InsW.of h⟩
theorem TyW.of {z : TZ} (h : RdTy B W b o z) : TyW B W b o := ⟨Hs.of h.c1 fun _ _ _ h => In.of h⟩
end
end Go.Proofs.Ytpdjbhnpahkbpaa.Z
