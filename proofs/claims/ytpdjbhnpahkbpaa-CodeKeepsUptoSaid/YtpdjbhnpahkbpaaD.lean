/- Programs in memory: what it says that a value reads as one. -/
import Derived.Test.YtpdjbhnpahkbpaaW
import Derived.OpenShut
import Derived.ChangeSame
import Derived.JoinedOf
import Derived.JoinedAt
import Derived.RowKit3
import Derived.ReadAgain
import Derived.Laws.IdiomElems
import Derived.Laws.IdiomAt
import Derived.RowKit2
import Derived.ChangeSlices
import Derived.Carry
namespace Go.Proofs.Ytpdjbhnpahkbpaa
open Go.ChangeShapes Go.WideShapes Go.ChangeAt Go.RowKit

/-- An instruction, a function, a type, a program. -/
structure IZ where
  op : Int
  a : Int
  b : Int
  c : Int
  imm : Nat
  l : List Int
structure FZ where
  pa : Int
  sl : List Int
  re : List Int
  co : List IZ
structure TZ where
  ar : Bool
  fi : List Int
structure PZ where
  ty : List TZ
  gl : List Int
  fu : List FZ

/-- An int of 64 bits. -/
def I64 (z : Int) : Prop := -9223372036854775808 ≤ z ∧ z ≤ 9223372036854775807
theorem I64.of {z : Int} (h : (Lit.int .i64 z).wf = true) : I64 z := ⟨i64_lo h, i64_hi h⟩

/-- A slice whose elements, of s cells each, read as xs; it lies in a block of B. -/
def RdS {α : Type} (s : Nat) (R : (Nat → Prop) → World → Nat → Nat → α → Prop) (B : Nat → Prop) (W : World) (v : Value) (xs : List α) : Prop :=
  ∃ a c, v = .slice a xs.length c ∧ xs.length ≤ 9223372036854775807 ∧ (0 < xs.length → ∃ b o, a = some ⟨b, o, none⟩ ∧ B b ∧ b < W.heap.size ∧ ∀ i x, xs[i]? = some x → R B W b (o + i * s) x)
def RdI (_ : Nat → Prop) (W : World) (b o : Nat) (z : Int) : Prop := W.cell? ⟨b, o, none⟩ = some (.int .i64 z) ∧ I64 z
structure RdIns (B : Nat → Prop) (W : World) (b o : Nat) (x : IZ) : Prop where
  c0 : W.cell? ⟨b, o, none⟩ = some (.int .i64 x.op)
  c1 : W.cell? ⟨b, o + 1, none⟩ = some (.int .i64 x.a)
  c2 : W.cell? ⟨b, o + 2, none⟩ = some (.int .i64 x.b)
  c3 : W.cell? ⟨b, o + 3, none⟩ = some (.int .i64 x.c)
  c4 : W.cell? ⟨b, o + 4, none⟩ = some (.int .u64 (x.imm : Int))
  c5 : ∃ v, W.cell? ⟨b, o + 5, none⟩ = some v ∧ RdS 1 RdI B W v x.l
  k0 : I64 x.op
  k1 : I64 x.a
  k2 : I64 x.b
  k3 : I64 x.c
  k4 : x.imm < 18446744073709551616
structure RdFn (B : Nat → Prop) (W : World) (b o : Nat) (x : FZ) : Prop where
  c0 : W.cell? ⟨b, o, none⟩ = some (.int .i64 x.pa)
  c1 : ∃ v, W.cell? ⟨b, o + 1, none⟩ = some v ∧ RdS 1 RdI B W v x.sl
  c2 : ∃ v, W.cell? ⟨b, o + 2, none⟩ = some v ∧ RdS 1 RdI B W v x.re
  c3 : ∃ v, W.cell? ⟨b, o + 3, none⟩ = some v ∧ RdS 6 RdIns B W v x.co
  k0 : I64 x.pa
structure RdTy (B : Nat → Prop) (W : World) (b o : Nat) (x : TZ) : Prop where
  c0 : W.cell? ⟨b, o, none⟩ = some (.bool x.ar)
  c1 : ∃ v, W.cell? ⟨b, o + 1, none⟩ = some v ∧ RdS 1 RdI B W v x.fi
/-- A program by value. -/
def RdP (B : Nat → Prop) (W : World) (v : Value) (p : PZ) : Prop :=
  ∃ v0 v1 v2, v = .agg #[v0, v1, v2] ∧ RdS 2 RdTy B W v0 p.ty ∧ RdS 1 RdI B W v1 p.gl ∧ RdS 4 RdFn B W v2 p.fu

section
variable {α : Type} {R R' : (Nat → Prop) → World → Nat → Nat → α → Prop} {B B' : Nat → Prop} {s b o : Nat} {W W' : World} {v : Value} {xs : List α} {S : Nat → Prop}
theorem cell_cha {u : Value} (c : Cha S W W') (hS : ∀ i, S i → ¬ B i) (hb : B b) (h : W.cell? ⟨b, o, none⟩ = some u) : W'.cell? ⟨b, o, none⟩ = some u :=
  (World.cell?_of_block (a := ⟨b, o, none⟩) (c.old b (block_lt_of_cell h) fun e => hS b e hb)).trans h
theorem RdS.map (h : RdS s R B W v xs) (hB : ∀ i, B i → B' i) (hz : W.heap.size ≤ W'.heap.size) (f : ∀ b o x, B b → R B W b o x → R B' W' b o x) : RdS s R B' W' v xs := by
  obtain ⟨a, c, e, hl, h⟩ := h
  refine ⟨a, c, e, hl, fun h0 => ?_⟩
  obtain ⟨b, o, e, hb, hbs, h⟩ := h h0
  exact ⟨b, o, e, hB b hb, by omega, fun i x hx => f b _ x hb (h i x hx)⟩
theorem RdI.cha {z : Int} (hb : B b) (h : RdI B W b o z) (c : Cha S W W') (hS : ∀ i, S i → ¬ B i) : RdI B' W' b o z := ⟨cell_cha c hS hb h.1, h.2⟩
theorem RdIns.cha {z : IZ} (hb : B b) (h : RdIns B W b o z) (c : Cha S W W') (hS : ∀ i, S i → ¬ B i) (hB : ∀ i, B i → B' i) : RdIns B' W' b o z := by
  obtain ⟨v, h5, h6⟩ := h.c5
  exact ⟨cell_cha c hS hb h.c0, cell_cha c hS hb h.c1, cell_cha c hS hb h.c2, cell_cha c hS hb h.c3, cell_cha c hS hb h.c4, ⟨v, cell_cha c hS hb h5, h6.map hB c.size fun _ _ _ hb h => h.cha hb c hS⟩, h.k0, h.k1, h.k2, h.k3, h.k4⟩
theorem RdFn.cha {z : FZ} (hb : B b) (h : RdFn B W b o z) (c : Cha S W W') (hS : ∀ i, S i → ¬ B i) (hB : ∀ i, B i → B' i) : RdFn B' W' b o z := by
  obtain ⟨v1, g1, g2⟩ := h.c1
  obtain ⟨v2, g3, g4⟩ := h.c2
  obtain ⟨v3, g5, g6⟩ := h.c3
  exact ⟨cell_cha c hS hb h.c0, ⟨v1, cell_cha c hS hb g1, g2.map hB c.size fun _ _ _ hb h => h.cha hb c hS⟩, ⟨v2, cell_cha c hS hb g3, g4.map hB c.size fun _ _ _ hb h => h.cha hb c hS⟩, ⟨v3, cell_cha c hS hb g5, g6.map hB c.size fun _ _ _ hb h => h.cha hb c hS hB⟩, h.k0⟩
theorem RdTy.cha {z : TZ} (hb : B b) (h : RdTy B W b o z) (c : Cha S W W') (hS : ∀ i, S i → ¬ B i) (hB : ∀ i, B i → B' i) : RdTy B' W' b o z := by
  obtain ⟨v1, g1, g2⟩ := h.c1
  exact ⟨cell_cha c hS hb h.c0, ⟨v1, cell_cha c hS hb g1, g2.map hB c.size fun _ _ _ hb h => h.cha hb c hS⟩⟩
theorem RdS.ints {z : List Int} (h : RdS 1 RdI B W v z) (c : Cha S W W') (hS : ∀ i, S i → ¬ B i) (hB : ∀ i, B i → B' i) : RdS 1 RdI B' W' v z := h.map hB c.size fun _ _ _ hb h => h.cha hb c hS
theorem RdS.inss {z : List IZ} (h : RdS 6 RdIns B W v z) (c : Cha S W W') (hS : ∀ i, S i → ¬ B i) (hB : ∀ i, B i → B' i) : RdS 6 RdIns B' W' v z := h.map hB c.size fun _ _ _ hb h => h.cha hb c hS hB
theorem RdS.fns {z : List FZ} (h : RdS 4 RdFn B W v z) (c : Cha S W W') (hS : ∀ i, S i → ¬ B i) (hB : ∀ i, B i → B' i) : RdS 4 RdFn B' W' v z := h.map hB c.size fun _ _ _ hb h => h.cha hb c hS hB
theorem RdS.tys {z : List TZ} (h : RdS 2 RdTy B W v z) (c : Cha S W W') (hS : ∀ i, S i → ¬ B i) (hB : ∀ i, B i → B' i) : RdS 2 RdTy B' W' v z := h.map hB c.size fun _ _ _ hb h => h.cha hb c hS hB
theorem RdP.cha {p : PZ} (h : RdP B W v p) (c : Cha S W W') (hS : ∀ i, S i → ¬ B i) (hB : ∀ i, B i → B' i) : RdP B' W' v p := by
  obtain ⟨v0, v1, v2, e, h0, h1, h2⟩ := h
  exact ⟨v0, v1, v2, e, h0.tys c hS hB, h1.ints c hS hB, h2.fns c hS hB⟩
theorem RdS.nil (B : Nat → Prop) (W : World) (s : Nat) (R : (Nat → Prop) → World → Nat → Nat → α → Prop) : RdS s R B W (.slice none 0 0) [] := ⟨none, 0, rfl, by simp, fun h => by simp at h⟩
/-- The element at i. -/
theorem RdS.at (h : RdS s R B W v xs) {i : Nat} {x : α} (hi : xs[i]? = some x) : ∃ b o c, v = .slice (some ⟨b, o, none⟩) xs.length c ∧ B b ∧ b < W.heap.size ∧ R B W b (o + i * s) x := by
  obtain ⟨a, c, e, hl, h⟩ := h
  have : i < xs.length := (List.getElem?_eq_some_iff.1 hi).1
  obtain ⟨b, o, ea, hb, hbs, h⟩ := h (by omega)
  exact ⟨b, o, c, by rw [e, ea], hb, hbs, h i x hi⟩
end

/-! ### An argument that is a program -/
section
variable {H : Type} {enc : TypeId × Value → H} {W : World} {base : Nat} {spare : Nat → Bool} {held : Bool}
theorem list_of {α : Type} (n : Nat) (Q : Nat → α → Prop) (h : ∀ i, i < n → ∃ y, Q i y) : ∃ xs : List α, xs.length = n ∧ ∀ (i : Nat) (x : α), xs[i]? = some x → Q i x := by
  induction n with
  | zero => exact ⟨[], rfl, fun i x h => by simp at h⟩
  | succ n ih =>
    obtain ⟨xs, hl, hx⟩ := ih fun i hi => h i (by omega)
    obtain ⟨y, hy⟩ := h n (by omega)
    refine ⟨xs ++ [y], by simp [hl], fun i x hi => ?_⟩
    by_cases c : i < n
    · rw [List.getElem?_append_left (by omega)] at hi
      exact hx i x hi
    · rw [List.getElem?_append_right (by omega)] at hi
      have e : i - xs.length = 0 := by
        have := (List.getElem?_eq_some_iff.1 hi).1
        simp at this
        omega
      rw [e] at hi
      obtain rfl : y = x := by simpa using hi
      obtain rfl : i = n := by omega
      exact hy
theorem rds_of {α : Type} {R : (Nat → Prop) → World → Nat → Nat → α → Prop} {t e : TypeId} {s : Nat} (ht : Try.prog.underlying t = some (.slice e)) (hc : Try.prog.cellsOf e = s) (hs0 : 0 < s)
    (h3 : ∀ (fuel : Nat) (cs : List Value) (x : DataW H × List MemPlace), DataW.trod enc Try.prog W base spare held fuel e cs = some x → cs.length = s ∧ ∃ y : α, ∀ b o, (∀ (j : Nat) (v : Value), cs[j]? = some v → W.cell? ⟨b, o + j, none⟩ = some v) → R (· < W.heap.size) W b o y)
    {fuel : Nat} {a : Option Addr} {len c : Nat} {x : DataW H × List MemPlace}
    (h : DataW.trod enc Try.prog W base spare held fuel t (Value.slice a len c).cells.toList = some x) : ∃ xs : List α, len = xs.length ∧ RdS s R (· < W.heap.size) W (.slice a len c) xs := by
  rcases DataW.trod_slice ht h with ⟨hcs, _⟩ | ⟨a', len', cap', elems, rest, n, _, hcs, _, hb, hl, hm, hlen, hel, _⟩
  · simp [Value.cells] at hcs
    obtain ⟨rfl, rfl, rfl⟩ := hcs
    exact ⟨[], rfl, none, 0, rfl, by simp, fun h => by simp at h⟩
  · simp [Value.cells] at hcs
    obtain ⟨rfl, rfl, rfl⟩ := hcs
    unfold maxLen at hm
    rw [hc] at hel
    have each : ∀ i, i < len → ∃ cs y, W.cells? base (a'.add (i * s)) s = some cs ∧ DataW.trod enc Try.prog W base spare held n e cs = some y := fun i hi => by
      have h1 := hel i hi
      rw [List.getElem?_eq_getElem (by omega), Option.bind_eq_some_iff] at h1
      obtain ⟨cs, h2, h3⟩ := h1
      exact ⟨cs, _, h2, h3⟩
    by_cases h0 : len = 0
    · subst h0
      exact ⟨[], rfl, some a', c, rfl, by simp, fun h => by simp at h⟩
    obtain ⟨b, o, sub⟩ := a'
    have hs : sub = none := by
      obtain ⟨cs, y, h2, k3⟩ := each 0 (by omega)
      have h4 := (World.cells?_some h2).2.2 0 hs0
      cases sub with
      | none => rfl
      | some q =>
        have e : ((⟨b, o, some q⟩ : Addr).add (0 * s)).add 0 = ⟨b, o, some q⟩ := by simp [Addr.add]
        rw [e] at h4
        have hcs := (h3 n cs y k3).1
        rw [List.getElem?_eq_getElem (by omega)] at h4
        unfold World.cell? at h4
        split at h4
        · simp at h4
        · cases h4
    subst hs
    have each2 : ∀ i, i < len → ∃ y : α, R (· < W.heap.size) W b (o + i * s) y ∧ b < W.heap.size := fun i hi => by
      obtain ⟨cs, y, h2, k3⟩ := each i hi
      obtain ⟨hcs, z, hz⟩ := h3 n cs y k3
      have hcell : ∀ (j : Nat) (v : Value), cs[j]? = some v → W.cell? ⟨b, o + i * s + j, none⟩ = some v := fun j v hv => by
        have hj : j < s := by
          have := (List.getElem?_eq_some_iff.1 hv).1
          omega
        have h4 := (World.cells?_some h2).2.2 j hj
        rw [Addr.add_mid, Addr.add_mid] at h4
        rw [h4]
        exact hv
      refine ⟨z, hz b _ hcell, ?_⟩
      exact block_lt_of_cell (hcell 0 _ (List.getElem?_eq_getElem (by omega)))
    obtain ⟨xs, hxl, hx⟩ := list_of len _ each2
    refine ⟨xs, hxl.symm, some ⟨b, o, none⟩, c, by rw [hxl], by omega, fun _ => ⟨b, o, rfl, ?_, ?_, fun i x hi => (hx i x hi).1⟩⟩
    · obtain ⟨_, _, h⟩ := each2 0 (by omega)
      exact h
    · obtain ⟨_, _, h⟩ := each2 0 (by omega)
      exact h
theorem cell3 : Try.prog.cellsOf 3 = 1 := by kernel_rfl
theorem cell4 : Try.prog.cellsOf 4 = 1 := by kernel_rfl
theorem cell5 : Try.prog.cellsOf 5 = 1 := by kernel_rfl
theorem cell48 : Try.prog.cellsOf 48 = 1 := by kernel_rfl
theorem cell64 : Try.prog.cellsOf 64 = 1 := by kernel_rfl
theorem cell50 : Try.prog.cellsOf 50 = 1 := by kernel_rfl
theorem cell23 : Try.prog.cellsOf 23 = 1 := by kernel_rfl
theorem cell53 : Try.prog.cellsOf 53 = 1 := by kernel_rfl
theorem cell22 : Try.prog.cellsOf 22 = 1 := by kernel_rfl
theorem cell24 : Try.prog.cellsOf 24 = 1 := by kernel_rfl
theorem cell52 : Try.prog.cellsOf 52 = 6 := by kernel_rfl
theorem cell55 : Try.prog.cellsOf 55 = 4 := by kernel_rfl
theorem cell69 : Try.prog.cellsOf 69 = 2 := by kernel_rfl
theorem cell26 : Try.prog.cellsOf 26 = 3 := by kernel_rfl
theorem laidOut : laidOutB Try.prog = true := by kernel_rfl
theorem slice_is {t e : TypeId} {fuel : Nat} {cs : List Value} {x : DataW H × List MemPlace} (ht : Try.prog.underlying t = some (.slice e)) (h : DataW.trod enc Try.prog W base spare held fuel t cs = some x) : ∃ a n c, cs = [.slice a n c] := by
  rcases DataW.trod_slice ht h with ⟨hcs, _⟩ | ⟨a', len', cap', elems, rest, n, _, hcs, _⟩
  · exact ⟨_, _, _, hcs⟩
  · exact ⟨_, _, _, hcs⟩
theorem int_elem {e : TypeId} (he : Try.prog.underlying e = some (.int .i64)) {fuel : Nat} {cs : List Value} {x : DataW H × List MemPlace} (h : DataW.trod enc Try.prog W base spare held fuel e cs = some x) :
    cs.length = 1 ∧ ∃ y : Int, ∀ b o, (∀ (j : Nat) (v : Value), cs[j]? = some v → W.cell? ⟨b, o + j, none⟩ = some v) → RdI (· < W.heap.size) W b o y := by
  obtain ⟨z, rfl, _, w⟩ := DataW.trod_int he h
  exact ⟨rfl, z, fun b o hc => ⟨hc 0 _ rfl, I64.of w⟩⟩
theorem ints_of {t e : TypeId} (ht : Try.prog.underlying t = some (.slice e)) (he : Try.prog.underlying e = some (.int .i64)) (hc : Try.prog.cellsOf e = 1) {fuel : Nat} {cs : List Value} {x : DataW H × List MemPlace} (h : DataW.trod enc Try.prog W base spare held fuel t cs = some x) :
    ∃ v, cs = [v] ∧ ∃ xs, RdS 1 RdI (· < W.heap.size) W v xs := by
  obtain ⟨a, n, c, rfl⟩ := slice_is ht h
  obtain ⟨xs, _, hx⟩ := rds_of ht hc (by omega) (fun _ _ _ h => int_elem he h) h
  exact ⟨_, rfl, xs, hx⟩
end
/-! ### The parts of a program -/
section
variable {H : Type} {enc : TypeId × Value → H} {W : World} {base : Nat} {spare : Nat → Bool} {held : Bool}
/-- A list of one cell that is a slice of ints. -/
theorem ints_cell {t e : TypeId} (ht : Try.prog.underlying t = some (.slice e)) (he : Try.prog.underlying e = some (.int .i64)) (hc : Try.prog.cellsOf e = 1) {fuel : Nat} {c : Value} {x : DataW H × List MemPlace} (h : DataW.trod enc Try.prog W base spare held fuel t [c] = some x) :
    ∃ xs, RdS 1 RdI (· < W.heap.size) W c xs := by
  obtain ⟨v, e, xs, h⟩ := ints_of ht he hc h
  obtain rfl : c = v := by simpa using e
  exact ⟨xs, h⟩
set_option maxRecDepth 100000 in
theorem ins_elem {fuel : Nat} {cs : List Value} {x : DataW H × List MemPlace} (h : DataW.trod enc Try.prog W base spare held fuel 52 cs = some x) :
    cs.length = 6 ∧ ∃ y : IZ, ∀ b o, (∀ (j : Nat) (v : Value), cs[j]? = some v → W.cell? ⟨b, o + j, none⟩ = some v) → RdIns (· < W.heap.size) W b o y := by
  obtain ⟨xs, n, _, _, hl, hlen, hf⟩ := DataW.trod_struct Try.underlying52 h
  rw [cell52] at hl
  match cs, hl, xs, hlen with
  | [c0, c1, c2, c3, c4, c5], _, [y0, y1, y2, y3, y4, y5], _ =>
    have f0 : DataW.trod enc Try.prog W base spare held n 3 [c0] = some y0 := by have := hf 0 _ rfl; simpa [cell3] using this
    have f1 : DataW.trod enc Try.prog W base spare held n 3 [c1] = some y1 := by have := hf 1 _ rfl; simpa [cell3] using this
    have f2 : DataW.trod enc Try.prog W base spare held n 3 [c2] = some y2 := by have := hf 2 _ rfl; simpa [cell3] using this
    have f3 : DataW.trod enc Try.prog W base spare held n 3 [c3] = some y3 := by have := hf 3 _ rfl; simpa [cell3] using this
    have f4 : DataW.trod enc Try.prog W base spare held n 48 [c4] = some y4 := by have := hf 4 _ rfl; simpa [cell48] using this
    have f5 : DataW.trod enc Try.prog W base spare held n 50 [c5] = some y5 := by have := hf 5 _ rfl; simpa [cell50] using this
    obtain ⟨z0, e0, _, w0⟩ := DataW.trod_int Try.underlying3 f0
    obtain ⟨z1, e1, _, w1⟩ := DataW.trod_int Try.underlying3 f1
    obtain ⟨z2, e2, _, w2⟩ := DataW.trod_int Try.underlying3 f2
    obtain ⟨z3, e3, _, w3⟩ := DataW.trod_int Try.underlying3 f3
    obtain ⟨z4, e4, _, w4⟩ := DataW.trod_int Try.underlying48 f4
    obtain ⟨l, h5⟩ := ints_cell Try.underlying50 Try.underlying3 cell3 f5
    simp at e0 e1 e2 e3 e4
    have g1 := u64_lo w4
    have g2 := u64_hi w4
    refine ⟨rfl, ⟨z0, z1, z2, z3, z4.toNat, l⟩, fun b o hc => ⟨?_, ?_, ?_, ?_, ?_, ⟨c5, hc 5 _ rfl, h5⟩, I64.of w0, I64.of w1, I64.of w2, I64.of w3, by show z4.toNat < _; omega⟩⟩
    · have := hc 0 _ rfl; rw [e0] at this; exact this
    · have := hc 1 _ rfl; rw [e1] at this; exact this
    · have := hc 2 _ rfl; rw [e2] at this; exact this
    · have := hc 3 _ rfl; rw [e3] at this; exact this
    · have := hc 4 _ rfl
      rw [e4] at this
      show W.cell? ⟨b, o + 4, none⟩ = some (.int .u64 ((z4.toNat : Nat) : Int))
      rw [this, Int.toNat_of_nonneg g1]
set_option maxRecDepth 100000 in
theorem fn_elem {fuel : Nat} {cs : List Value} {x : DataW H × List MemPlace} (h : DataW.trod enc Try.prog W base spare held fuel 55 cs = some x) :
    cs.length = 4 ∧ ∃ y : FZ, ∀ b o, (∀ (j : Nat) (v : Value), cs[j]? = some v → W.cell? ⟨b, o + j, none⟩ = some v) → RdFn (· < W.heap.size) W b o y := by
  obtain ⟨xs, n, _, _, hl, hlen, hf⟩ := DataW.trod_struct Try.underlying55 h
  rw [cell55] at hl
  match cs, hl, xs, hlen with
  | [c0, c1, c2, c3], _, [y0, y1, y2, y3], _ =>
    have f0 : DataW.trod enc Try.prog W base spare held n 3 [c0] = some y0 := by have := hf 0 _ rfl; simpa [cell3] using this
    have f1 : DataW.trod enc Try.prog W base spare held n 23 [c1] = some y1 := by have := hf 1 _ rfl; simpa [cell23] using this
    have f2 : DataW.trod enc Try.prog W base spare held n 23 [c2] = some y2 := by have := hf 2 _ rfl; simpa [cell23] using this
    have f3 : DataW.trod enc Try.prog W base spare held n 53 [c3] = some y3 := by have := hf 3 _ rfl; simpa [cell53] using this
    obtain ⟨z0, e0, _, w0⟩ := DataW.trod_int Try.underlying3 f0
    obtain ⟨l1, h1⟩ := ints_cell Try.underlying23 Try.underlying64 cell64 f1
    obtain ⟨l2, h2⟩ := ints_cell Try.underlying23 Try.underlying64 cell64 f2
    obtain ⟨a, m, k, e3⟩ := slice_is Try.underlying53 f3
    rw [e3] at f3
    obtain rfl : c3 = .slice a m k := by simpa using e3
    obtain ⟨l3, _, h3⟩ := rds_of Try.underlying53 cell52 (by omega) (fun _ _ _ h => ins_elem h) f3
    simp at e0
    refine ⟨rfl, ⟨z0, l1, l2, l3⟩, fun b o hc => ⟨?_, ⟨c1, hc 1 _ rfl, h1⟩, ⟨c2, hc 2 _ rfl, h2⟩, ⟨_, hc 3 _ rfl, h3⟩, I64.of w0⟩⟩
    have := hc 0 _ rfl; rw [e0] at this; exact this
set_option maxRecDepth 100000 in
theorem ty_elem {fuel : Nat} {cs : List Value} {x : DataW H × List MemPlace} (h : DataW.trod enc Try.prog W base spare held fuel 69 cs = some x) :
    cs.length = 2 ∧ ∃ y : TZ, ∀ b o, (∀ (j : Nat) (v : Value), cs[j]? = some v → W.cell? ⟨b, o + j, none⟩ = some v) → RdTy (· < W.heap.size) W b o y := by
  obtain ⟨xs, n, _, _, hl, hlen, hf⟩ := DataW.trod_struct Try.underlying69 h
  rw [cell69] at hl
  match cs, hl, xs, hlen with
  | [c0, c1], _, [y0, y1], _ =>
    have f0 : DataW.trod enc Try.prog W base spare held n 4 [c0] = some y0 := by have := hf 0 _ rfl; simpa [cell4] using this
    have f1 : DataW.trod enc Try.prog W base spare held n 23 [c1] = some y1 := by have := hf 1 _ rfl; simpa [cell23] using this
    obtain ⟨z0, e0, _⟩ := DataW.trod_bool Try.underlying4 f0
    obtain ⟨l1, h1⟩ := ints_cell Try.underlying23 Try.underlying64 cell64 f1
    simp at e0
    refine ⟨rfl, ⟨z0, l1⟩, fun b o hc => ⟨?_, ⟨c1, hc 1 _ rfl, h1⟩⟩⟩
    have := hc 0 _ rfl; rw [e0] at this; exact this
set_option maxRecDepth 100000 in
theorem prog_of {r : Reach} {b0 fuel : Nat} {v : Value} {x : DataW H × List MemPlace} (hv : Value.okWide Try.prog W r b0 26 v) (h : DataW.trod enc Try.prog W base spare held fuel 26 v.cells.toList = some x) : ∃ p, RdP (· < W.heap.size) W v p := by
  obtain ⟨cs, rfl, hsz⟩ := okWide_struct Try.underlying26 hv
  rw [cell26] at hsz
  obtain ⟨l⟩ := cs
  obtain ⟨xs, n, _, _, hl, hlen, hf⟩ := DataW.trod_struct Try.underlying26 h
  match l, hsz, xs, hlen with
  | [c0, c1, c2], _, [y0, y1, y2], _ =>
    have f0 : DataW.trod enc Try.prog W base spare held n 22 [c0] = some y0 := by have := hf 0 _ rfl; simpa [Value.cells, cell22] using this
    have f1 : DataW.trod enc Try.prog W base spare held n 23 [c1] = some y1 := by have := hf 1 _ rfl; simpa [Value.cells, cell23] using this
    have f2 : DataW.trod enc Try.prog W base spare held n 24 [c2] = some y2 := by have := hf 2 _ rfl; simpa [Value.cells, cell24] using this
    obtain ⟨l1, h1⟩ := ints_cell Try.underlying23 Try.underlying64 cell64 f1
    obtain ⟨a0, m0, k0, e0⟩ := slice_is Try.underlying22 f0
    rw [e0] at f0
    obtain rfl : c0 = .slice a0 m0 k0 := by simpa using e0
    obtain ⟨l0, _, h0⟩ := rds_of Try.underlying22 cell69 (by omega) (fun _ _ _ h => ty_elem h) f0
    obtain ⟨a2, m2, k2, e2⟩ := slice_is Try.underlying24 f2
    rw [e2] at f2
    obtain rfl : c2 = .slice a2 m2 k2 := by simpa using e2
    obtain ⟨l2, _, h2⟩ := rds_of Try.underlying24 cell55 (by omega) (fun _ _ _ h => fn_elem h) f2
    exact ⟨⟨l0, l1, l2⟩, _, _, _, rfl, h0, h1, h2⟩
end
end Go.Proofs.Ytpdjbhnpahkbpaa
