/- Programs in memory: what it says that a value reads as one. -/
import Derived.Test.YtpdjbhnpahkbpaaW
import Derived.OpenShut
import Derived.ChangeSame
import Derived.JoinedOf
import Derived.JoinedAt
import Derived.RowKit3
import Derived.ReadAgain
import Derived.Laws.IdiomElems
import Derived.Laws.IdiomAt
import Derived.RowKit2
import Derived.ChangeSlices
import Derived.Carry
import Derived.Lib.Hide
import Derived.Deep.RegionHeld3
import Derived.Deep.CutBlock
import Derived.Deep.QuietTactic
import Derived.BigQuiet
import Derived.Deep.DeepCutAuto
import Derived.IntWalk
import Derived.RangeFuncBox
namespace Go.Proofs.Ytpdjbhnpahkbpaa
open Go.ChangeShapes Go.WideShapes Go.ChangeAt Go.RowKit

/-- An instruction, a function, a type, a program. -/
structure IZ where
  op : Int
  a : Int
  b : Int
  c : Int
  imm : Nat
  l : List Int
structure FZ where
  pa : Int
  sl : List Int
  re : List Int
  co : List IZ
structure TZ where
  ar : Bool
  fi : List Int
structure PZ where
  ty : List TZ
  gl : List Int
  fu : List FZ

/-- An int of 64 bits. -/
def I64 (z : Int) : Prop := -9223372036854775808 ≤ z ∧ z ≤ 9223372036854775807
theorem I64.of {z : Int} (h : (Lit.int .i64 z).wf = true) : I64 z := ⟨i64_lo h, i64_hi h⟩

/-- A slice whose elements, of s cells each, read as xs; it lies in a block of B. -/
def RdS {α : Type} (s : Nat) (R : (Nat → Prop) → World → Nat → Nat → α → Prop) (B : Nat → Prop) (W : World) (v : Value) (xs : List α) : Prop :=
  ∃ a c, v = .slice a xs.length c ∧ xs.length ≤ 9223372036854775807 ∧ (0 < xs.length → ∃ b o, a = some ⟨b, o, none⟩ ∧ B b ∧ b < W.heap.size ∧ ∀ i x, xs[i]? = some x → R B W b (o + i * s) x)
def RdI (_ : Nat → Prop) (W : World) (b o : Nat) (z : Int) : Prop := W.cell? ⟨b, o, none⟩ = some (.int .i64 z) ∧ I64 z
structure RdIns (B : Nat → Prop) (W : World) (b o : Nat) (x : IZ) : Prop where
  c0 : W.cell? ⟨b, o, none⟩ = some (.int .i64 x.op)
  c1 : W.cell? ⟨b, o + 1, none⟩ = some (.int .i64 x.a)
  c2 : W.cell? ⟨b, o + 2, none⟩ = some (.int .i64 x.b)
  c3 : W.cell? ⟨b, o + 3, none⟩ = some (.int .i64 x.c)
  c4 : W.cell? ⟨b, o + 4, none⟩ = some (.int .u64 (x.imm : Int))
  c5 : ∃ v, W.cell? ⟨b, o + 5, none⟩ = some v ∧ RdS 1 RdI B W v x.l
  k0 : I64 x.op
  k1 : I64 x.a
  k2 : I64 x.b
  k3 : I64 x.c
  k4 : x.imm < 18446744073709551616
structure RdFn (B : Nat → Prop) (W : World) (b o : Nat) (x : FZ) : Prop where
  c0 : W.cell? ⟨b, o, none⟩ = some (.int .i64 x.pa)
  c1 : ∃ v, W.cell? ⟨b, o + 1, none⟩ = some v ∧ RdS 1 RdI B W v x.sl
  c2 : ∃ v, W.cell? ⟨b, o + 2, none⟩ = some v ∧ RdS 1 RdI B W v x.re
  c3 : ∃ v, W.cell? ⟨b, o + 3, none⟩ = some v ∧ RdS 6 RdIns B W v x.co
  k0 : I64 x.pa
structure RdTy (B : Nat → Prop) (W : World) (b o : Nat) (x : TZ) : Prop where
  c0 : W.cell? ⟨b, o, none⟩ = some (.bool x.ar)
  c1 : ∃ v, W.cell? ⟨b, o + 1, none⟩ = some v ∧ RdS 1 RdI B W v x.fi
/-- A program by value. -/
def RdP (B : Nat → Prop) (W : World) (v : Value) (p : PZ) : Prop :=
  ∃ v0 v1 v2, v = .agg #[v0, v1, v2] ∧ RdS 2 RdTy B W v0 p.ty ∧ RdS 1 RdI B W v1 p.gl ∧ RdS 4 RdFn B W v2 p.fu

section
variable {α : Type} {R R' : (Nat → Prop) → World → Nat → Nat → α → Prop} {B B' : Nat → Prop} {s b o : Nat} {W W' : World} {v : Value} {xs : List α} {S : Nat → Prop}
theorem cell_cha {u : Value} (c : Cha S W W') (hS : ∀ i, S i → ¬ B i) (hb : B b) (h : W.cell? ⟨b, o, none⟩ = some u) : W'.cell? ⟨b, o, none⟩ = some u :=
  (World.cell?_of_block (a := ⟨b, o, none⟩) (c.old b (block_lt_of_cell h) fun e => hS b e hb)).trans h
theorem RdS.map (h : RdS s R B W v xs) (hB : ∀ i, B i → B' i) (hz : W.heap.size ≤ W'.heap.size) (f : ∀ b o x, B b → R B W b o x → R B' W' b o x) : RdS s R B' W' v xs := by
  obtain ⟨a, c, e, hl, h⟩ := h
  refine ⟨a, c, e, hl, fun h0 => ?_⟩
  obtain ⟨b, o, e, hb, hbs, h⟩ := h h0
  exact ⟨b, o, e, hB b hb, by omega, fun i x hx => f b _ x hb (h i x hx)⟩
theorem RdI.cha {z : Int} (hb : B b) (h : RdI B W b o z) (c : Cha S W W') (hS : ∀ i, S i → ¬ B i) : RdI B' W' b o z := ⟨cell_cha c hS hb h.1, h.2⟩
theorem RdIns.cha {z : IZ} (hb : B b) (h : RdIns B W b o z) (c : Cha S W W') (hS : ∀ i, S i → ¬ B i) (hB : ∀ i, B i → B' i) : RdIns B' W' b o z := by
  obtain ⟨v, h5, h6⟩ := h.c5
  exact ⟨cell_cha c hS hb h.c0, cell_cha c hS hb h.c1, cell_cha c hS hb h.c2, cell_cha c hS hb h.c3, cell_cha c hS hb h.c4, ⟨v, cell_cha c hS hb h5, h6.map hB c.size fun _ _ _ hb h => h.cha hb c hS⟩, h.k0, h.k1, h.k2, h.k3, h.k4⟩
theorem RdFn.cha {z : FZ} (hb : B b) (h : RdFn B W b o z) (c : Cha S W W') (hS : ∀ i, S i → ¬ B i) (hB : ∀ i, B i → B' i) : RdFn B' W' b o z := by
  obtain ⟨v1, g1, g2⟩ := h.c1
  obtain ⟨v2, g3, g4⟩ := h.c2
  obtain ⟨v3, g5, g6⟩ := h.c3
  exact ⟨cell_cha c hS hb h.c0, ⟨v1, cell_cha c hS hb g1, g2.map hB c.size fun _ _ _ hb h => h.cha hb c hS⟩, ⟨v2, cell_cha c hS hb g3, g4.map hB c.size fun _ _ _ hb h => h.cha hb c hS⟩, ⟨v3, cell_cha c hS hb g5, g6.map hB c.size fun _ _ _ hb h => h.cha hb c hS hB⟩, h.k0⟩
theorem RdTy.cha {z : TZ} (hb : B b) (h : RdTy B W b o z) (c : Cha S W W') (hS : ∀ i, S i → ¬ B i) (hB : ∀ i, B i → B' i) : RdTy B' W' b o z := by
  obtain ⟨v1, g1, g2⟩ := h.c1
  exact ⟨cell_cha c hS hb h.c0, ⟨v1, cell_cha c hS hb g1, g2.map hB c.size fun _ _ _ hb h => h.cha hb c hS⟩⟩
theorem RdS.ints {z : List Int} (h : RdS 1 RdI B W v z) (c : Cha S W W') (hS : ∀ i, S i → ¬ B i) (hB : ∀ i, B i → B' i) : RdS 1 RdI B' W' v z := h.map hB c.size fun _ _ _ hb h => h.cha hb c hS
theorem RdS.inss {z : List IZ} (h : RdS 6 RdIns B W v z) (c : Cha S W W') (hS : ∀ i, S i → ¬ B i) (hB : ∀ i, B i → B' i) : RdS 6 RdIns B' W' v z := h.map hB c.size fun _ _ _ hb h => h.cha hb c hS hB
theorem RdS.fns {z : List FZ} (h : RdS 4 RdFn B W v z) (c : Cha S W W') (hS : ∀ i, S i → ¬ B i) (hB : ∀ i, B i → B' i) : RdS 4 RdFn B' W' v z := h.map hB c.size fun _ _ _ hb h => h.cha hb c hS hB
theorem RdS.tys {z : List TZ} (h : RdS 2 RdTy B W v z) (c : Cha S W W') (hS : ∀ i, S i → ¬ B i) (hB : ∀ i, B i → B' i) : RdS 2 RdTy B' W' v z := h.map hB c.size fun _ _ _ hb h => h.cha hb c hS hB
theorem RdP.cha {p : PZ} (h : RdP B W v p) (c : Cha S W W') (hS : ∀ i, S i → ¬ B i) (hB : ∀ i, B i → B' i) : RdP B' W' v p := by
  obtain ⟨v0, v1, v2, e, h0, h1, h2⟩ := h
  exact ⟨v0, v1, v2, e, h0.tys c hS hB, h1.ints c hS hB, h2.fns c hS hB⟩
theorem RdS.nil (B : Nat → Prop) (W : World) (s : Nat) (R : (Nat → Prop) → World → Nat → Nat → α → Prop) : RdS s R B W (.slice none 0 0) [] := ⟨none, 0, rfl, by simp, fun h => by simp at h⟩
/-- The element at i. -/
theorem RdS.at (h : RdS s R B W v xs) {i : Nat} {x : α} (hi : xs[i]? = some x) : ∃ b o c, v = .slice (some ⟨b, o, none⟩) xs.length c ∧ B b ∧ b < W.heap.size ∧ R B W b (o + i * s) x := by
  obtain ⟨a, c, e, hl, h⟩ := h
  have : i < xs.length := (List.getElem?_eq_some_iff.1 hi).1
  obtain ⟨b, o, ea, hb, hbs, h⟩ := h (by omega)
  exact ⟨b, o, c, by rw [e, ea], hb, hbs, h i x hi⟩
end

/-! ### An argument that is a program -/
section
variable {H : Type} {enc : TypeId × Value → H} {W : World} {base : Nat} {spare : Nat → Bool} {held : Bool}
theorem list_of {α : Type} (n : Nat) (Q : Nat → α → Prop) (h : ∀ i, i < n → ∃ y, Q i y) : ∃ xs : List α, xs.length = n ∧ ∀ (i : Nat) (x : α), xs[i]? = some x → Q i x := by
  induction n with
  | zero => exact ⟨[], rfl, fun i x h => by simp at h⟩
  | succ n ih =>
    obtain ⟨xs, hl, hx⟩ := ih fun i hi => h i (by omega)
    obtain ⟨y, hy⟩ := h n (by omega)
    refine ⟨xs ++ [y], by simp [hl], fun i x hi => ?_⟩
    by_cases c : i < n
    · rw [List.getElem?_append_left (by omega)] at hi
      exact hx i x hi
    · rw [List.getElem?_append_right (by omega)] at hi
      have e : i - xs.length = 0 := by
        have := (List.getElem?_eq_some_iff.1 hi).1
        simp at this
        omega
      rw [e] at hi
      obtain rfl : y = x := by simpa using hi
      obtain rfl : i = n := by omega
      exact hy
theorem rds_of {α : Type} {R : (Nat → Prop) → World → Nat → Nat → α → Prop} {t e : TypeId} {s : Nat} (ht : Try.prog.underlying t = some (.slice e)) (hc : Try.prog.cellsOf e = s) (hs0 : 0 < s)
    (h3 : ∀ (fuel : Nat) (cs : List Value) (x : DataW H × List MemPlace), DataW.trod enc Try.prog W base spare held fuel e cs = some x → cs.length = s ∧ ∃ y : α, ∀ b o, (∀ (j : Nat) (v : Value), cs[j]? = some v → W.cell? ⟨b, o + j, none⟩ = some v) → R (· < W.heap.size) W b o y)
    {fuel : Nat} {a : Option Addr} {len c : Nat} {x : DataW H × List MemPlace}
    (h : DataW.trod enc Try.prog W base spare held fuel t (Value.slice a len c).cells.toList = some x) : ∃ xs : List α, len = xs.length ∧ RdS s R (· < W.heap.size) W (.slice a len c) xs := by
  rcases DataW.trod_slice ht h with ⟨hcs, _⟩ | ⟨a', len', cap', elems, rest, n, _, hcs, _, hb, hl, hm, hlen, hel, _⟩
  · simp [Value.cells] at hcs
    obtain ⟨rfl, rfl, rfl⟩ := hcs
    exact ⟨[], rfl, none, 0, rfl, by simp, fun h => by simp at h⟩
  · simp [Value.cells] at hcs
    obtain ⟨rfl, rfl, rfl⟩ := hcs
    unfold maxLen at hm
    rw [hc] at hel
    have each : ∀ i, i < len → ∃ cs y, W.cells? base (a'.add (i * s)) s = some cs ∧ DataW.trod enc Try.prog W base spare held n e cs = some y := fun i hi => by
      have h1 := hel i hi
      rw [List.getElem?_eq_getElem (by omega), Option.bind_eq_some_iff] at h1
      obtain ⟨cs, h2, h3⟩ := h1
      exact ⟨cs, _, h2, h3⟩
    by_cases h0 : len = 0
    · subst h0
      exact ⟨[], rfl, some a', c, rfl, by simp, fun h => by simp at h⟩
    obtain ⟨b, o, sub⟩ := a'
    have hs : sub = none := by
      obtain ⟨cs, y, h2, k3⟩ := each 0 (by omega)
      have h4 := (World.cells?_some h2).2.2 0 hs0
      cases sub with
      | none => rfl
      | some q =>
        have e : ((⟨b, o, some q⟩ : Addr).add (0 * s)).add 0 = ⟨b, o, some q⟩ := by simp [Addr.add]
        rw [e] at h4
        have hcs := (h3 n cs y k3).1
        rw [List.getElem?_eq_getElem (by omega)] at h4
        unfold World.cell? at h4
        split at h4
        · simp at h4
        · cases h4
    subst hs
    have each2 : ∀ i, i < len → ∃ y : α, R (· < W.heap.size) W b (o + i * s) y ∧ b < W.heap.size := fun i hi => by
      obtain ⟨cs, y, h2, k3⟩ := each i hi
      obtain ⟨hcs, z, hz⟩ := h3 n cs y k3
      have hcell : ∀ (j : Nat) (v : Value), cs[j]? = some v → W.cell? ⟨b, o + i * s + j, none⟩ = some v := fun j v hv => by
        have hj : j < s := by
          have := (List.getElem?_eq_some_iff.1 hv).1
          omega
        have h4 := (World.cells?_some h2).2.2 j hj
        rw [Addr.add_mid, Addr.add_mid] at h4
        rw [h4]
        exact hv
      refine ⟨z, hz b _ hcell, ?_⟩
      exact block_lt_of_cell (hcell 0 _ (List.getElem?_eq_getElem (by omega)))
    obtain ⟨xs, hxl, hx⟩ := list_of len _ each2
    refine ⟨xs, hxl.symm, some ⟨b, o, none⟩, c, by rw [hxl], by omega, fun _ => ⟨b, o, rfl, ?_, ?_, fun i x hi => (hx i x hi).1⟩⟩
    · obtain ⟨_, _, h⟩ := each2 0 (by omega)
      exact h
    · obtain ⟨_, _, h⟩ := each2 0 (by omega)
      exact h
theorem cell3 : Try.prog.cellsOf 3 = 1 := by kernel_rfl
theorem cell4 : Try.prog.cellsOf 4 = 1 := by kernel_rfl
theorem cell5 : Try.prog.cellsOf 5 = 1 := by kernel_rfl
theorem cell48 : Try.prog.cellsOf 48 = 1 := by kernel_rfl
theorem cell64 : Try.prog.cellsOf 64 = 1 := by kernel_rfl
theorem cell50 : Try.prog.cellsOf 50 = 1 := by kernel_rfl
theorem cell23 : Try.prog.cellsOf 23 = 1 := by kernel_rfl
theorem cell53 : Try.prog.cellsOf 53 = 1 := by kernel_rfl
theorem cell22 : Try.prog.cellsOf 22 = 1 := by kernel_rfl
theorem cell24 : Try.prog.cellsOf 24 = 1 := by kernel_rfl
theorem cell52 : Try.prog.cellsOf 52 = 6 := by kernel_rfl
theorem cell55 : Try.prog.cellsOf 55 = 4 := by kernel_rfl
theorem cell69 : Try.prog.cellsOf 69 = 2 := by kernel_rfl
theorem cell26 : Try.prog.cellsOf 26 = 3 := by kernel_rfl
theorem laidOut : laidOutB Try.prog = true := by kernel_rfl
theorem slice_is {t e : TypeId} {fuel : Nat} {cs : List Value} {x : DataW H × List MemPlace} (ht : Try.prog.underlying t = some (.slice e)) (h : DataW.trod enc Try.prog W base spare held fuel t cs = some x) : ∃ a n c, cs = [.slice a n c] := by
  rcases DataW.trod_slice ht h with ⟨hcs, _⟩ | ⟨a', len', cap', elems, rest, n, _, hcs, _⟩
  · exact ⟨_, _, _, hcs⟩
  · exact ⟨_, _, _, hcs⟩
theorem int_elem {e : TypeId} (he : Try.prog.underlying e = some (.int .i64)) {fuel : Nat} {cs : List Value} {x : DataW H × List MemPlace} (h : DataW.trod enc Try.prog W base spare held fuel e cs = some x) :
    cs.length = 1 ∧ ∃ y : Int, ∀ b o, (∀ (j : Nat) (v : Value), cs[j]? = some v → W.cell? ⟨b, o + j, none⟩ = some v) → RdI (· < W.heap.size) W b o y := by
  obtain ⟨z, rfl, _, w⟩ := DataW.trod_int he h
  exact ⟨rfl, z, fun b o hc => ⟨hc 0 _ rfl, I64.of w⟩⟩
theorem ints_of {t e : TypeId} (ht : Try.prog.underlying t = some (.slice e)) (he : Try.prog.underlying e = some (.int .i64)) (hc : Try.prog.cellsOf e = 1) {fuel : Nat} {cs : List Value} {x : DataW H × List MemPlace} (h : DataW.trod enc Try.prog W base spare held fuel t cs = some x) :
    ∃ v, cs = [v] ∧ ∃ xs, RdS 1 RdI (· < W.heap.size) W v xs := by
  obtain ⟨a, n, c, rfl⟩ := slice_is ht h
  obtain ⟨xs, _, hx⟩ := rds_of ht hc (by omega) (fun _ _ _ h => int_elem he h) h
  exact ⟨_, rfl, xs, hx⟩
end
/-! ### The parts of a program -/
section
variable {H : Type} {enc : TypeId × Value → H} {W : World} {base : Nat} {spare : Nat → Bool} {held : Bool}
/-- A list of one cell that is a slice of ints. -/
theorem ints_cell {t e : TypeId} (ht : Try.prog.underlying t = some (.slice e)) (he : Try.prog.underlying e = some (.int .i64)) (hc : Try.prog.cellsOf e = 1) {fuel : Nat} {c : Value} {x : DataW H × List MemPlace} (h : DataW.trod enc Try.prog W base spare held fuel t [c] = some x) :
    ∃ xs, RdS 1 RdI (· < W.heap.size) W c xs := by
  obtain ⟨v, e, xs, h⟩ := ints_of ht he hc h
  obtain rfl : c = v := by simpa using e
  exact ⟨xs, h⟩
set_option maxRecDepth 100000 in
theorem ins_elem {fuel : Nat} {cs : List Value} {x : DataW H × List MemPlace} (h : DataW.trod enc Try.prog W base spare held fuel 52 cs = some x) :
    cs.length = 6 ∧ ∃ y : IZ, ∀ b o, (∀ (j : Nat) (v : Value), cs[j]? = some v → W.cell? ⟨b, o + j, none⟩ = some v) → RdIns (· < W.heap.size) W b o y := by
  obtain ⟨xs, n, _, _, hl, hlen, hf⟩ := DataW.trod_struct Try.underlying52 h
  rw [cell52] at hl
  match cs, hl, xs, hlen with
  | [c0, c1, c2, c3, c4, c5], _, [y0, y1, y2, y3, y4, y5], _ =>
    have f0 : DataW.trod enc Try.prog W base spare held n 3 [c0] = some y0 := by have := hf 0 _ rfl; simpa [cell3] using this
    have f1 : DataW.trod enc Try.prog W base spare held n 3 [c1] = some y1 := by have := hf 1 _ rfl; simpa [cell3] using this
    have f2 : DataW.trod enc Try.prog W base spare held n 3 [c2] = some y2 := by have := hf 2 _ rfl; simpa [cell3] using this
    have f3 : DataW.trod enc Try.prog W base spare held n 3 [c3] = some y3 := by have := hf 3 _ rfl; simpa [cell3] using this
    have f4 : DataW.trod enc Try.prog W base spare held n 48 [c4] = some y4 := by have := hf 4 _ rfl; simpa [cell48] using this
    have f5 : DataW.trod enc Try.prog W base spare held n 50 [c5] = some y5 := by have := hf 5 _ rfl; simpa [cell50] using this
    obtain ⟨z0, e0, _, w0⟩ := DataW.trod_int Try.underlying3 f0
    obtain ⟨z1, e1, _, w1⟩ := DataW.trod_int Try.underlying3 f1
    obtain ⟨z2, e2, _, w2⟩ := DataW.trod_int Try.underlying3 f2
    obtain ⟨z3, e3, _, w3⟩ := DataW.trod_int Try.underlying3 f3
    obtain ⟨z4, e4, _, w4⟩ := DataW.trod_int Try.underlying48 f4
    obtain ⟨l, h5⟩ := ints_cell Try.underlying50 Try.underlying3 cell3 f5
    simp at e0 e1 e2 e3 e4
    have g1 := u64_lo w4
    have g2 := u64_hi w4
    refine ⟨rfl, ⟨z0, z1, z2, z3, z4.toNat, l⟩, fun b o hc => ⟨?_, ?_, ?_, ?_, ?_, ⟨c5, hc 5 _ rfl, h5⟩, I64.of w0, I64.of w1, I64.of w2, I64.of w3, by show z4.toNat < _; omega⟩⟩
    · have := hc 0 _ rfl; rw [e0] at this; exact this
    · have := hc 1 _ rfl; rw [e1] at this; exact this
    · have := hc 2 _ rfl; rw [e2] at this; exact this
    · have := hc 3 _ rfl; rw [e3] at this; exact this
    · have := hc 4 _ rfl
      rw [e4] at this
      show W.cell? ⟨b, o + 4, none⟩ = some (.int .u64 ((z4.toNat : Nat) : Int))
      rw [this, Int.toNat_of_nonneg g1]
set_option maxRecDepth 100000 in
theorem fn_elem {fuel : Nat} {cs : List Value} {x : DataW H × List MemPlace} (h : DataW.trod enc Try.prog W base spare held fuel 55 cs = some x) :
    cs.length = 4 ∧ ∃ y : FZ, ∀ b o, (∀ (j : Nat) (v : Value), cs[j]? = some v → W.cell? ⟨b, o + j, none⟩ = some v) → RdFn (· < W.heap.size) W b o y := by
  obtain ⟨xs, n, _, _, hl, hlen, hf⟩ := DataW.trod_struct Try.underlying55 h
  rw [cell55] at hl
  match cs, hl, xs, hlen with
  | [c0, c1, c2, c3], _, [y0, y1, y2, y3], _ =>
    have f0 : DataW.trod enc Try.prog W base spare held n 3 [c0] = some y0 := by have := hf 0 _ rfl; simpa [cell3] using this
    have f1 : DataW.trod enc Try.prog W base spare held n 23 [c1] = some y1 := by have := hf 1 _ rfl; simpa [cell23] using this
    have f2 : DataW.trod enc Try.prog W base spare held n 23 [c2] = some y2 := by have := hf 2 _ rfl; simpa [cell23] using this
    have f3 : DataW.trod enc Try.prog W base spare held n 53 [c3] = some y3 := by have := hf 3 _ rfl; simpa [cell53] using this
    obtain ⟨z0, e0, _, w0⟩ := DataW.trod_int Try.underlying3 f0
    obtain ⟨l1, h1⟩ := ints_cell Try.underlying23 Try.underlying64 cell64 f1
    obtain ⟨l2, h2⟩ := ints_cell Try.underlying23 Try.underlying64 cell64 f2
    obtain ⟨a, m, k, e3⟩ := slice_is Try.underlying53 f3
    rw [e3] at f3
    obtain rfl : c3 = .slice a m k := by simpa using e3
    obtain ⟨l3, _, h3⟩ := rds_of Try.underlying53 cell52 (by omega) (fun _ _ _ h => ins_elem h) f3
    simp at e0
    refine ⟨rfl, ⟨z0, l1, l2, l3⟩, fun b o hc => ⟨?_, ⟨c1, hc 1 _ rfl, h1⟩, ⟨c2, hc 2 _ rfl, h2⟩, ⟨_, hc 3 _ rfl, h3⟩, I64.of w0⟩⟩
    have := hc 0 _ rfl; rw [e0] at this; exact this
set_option maxRecDepth 100000 in
theorem ty_elem {fuel : Nat} {cs : List Value} {x : DataW H × List MemPlace} (h : DataW.trod enc Try.prog W base spare held fuel 69 cs = some x) :
    cs.length = 2 ∧ ∃ y : TZ, ∀ b o, (∀ (j : Nat) (v : Value), cs[j]? = some v → W.cell? ⟨b, o + j, none⟩ = some v) → RdTy (· < W.heap.size) W b o y := by
  obtain ⟨xs, n, _, _, hl, hlen, hf⟩ := DataW.trod_struct Try.underlying69 h
  rw [cell69] at hl
  match cs, hl, xs, hlen with
  | [c0, c1], _, [y0, y1], _ =>
    have f0 : DataW.trod enc Try.prog W base spare held n 4 [c0] = some y0 := by have := hf 0 _ rfl; simpa [cell4] using this
    have f1 : DataW.trod enc Try.prog W base spare held n 23 [c1] = some y1 := by have := hf 1 _ rfl; simpa [cell23] using this
    obtain ⟨z0, e0, _⟩ := DataW.trod_bool Try.underlying4 f0
    obtain ⟨l1, h1⟩ := ints_cell Try.underlying23 Try.underlying64 cell64 f1
    simp at e0
    refine ⟨rfl, ⟨z0, l1⟩, fun b o hc => ⟨?_, ⟨c1, hc 1 _ rfl, h1⟩⟩⟩
    have := hc 0 _ rfl; rw [e0] at this; exact this
set_option maxRecDepth 100000 in
theorem prog_of {r : Reach} {b0 fuel : Nat} {v : Value} {x : DataW H × List MemPlace} (hv : Value.okWide Try.prog W r b0 26 v) (h : DataW.trod enc Try.prog W base spare held fuel 26 v.cells.toList = some x) : ∃ p, RdP (· < W.heap.size) W v p := by
  obtain ⟨cs, rfl, hsz⟩ := okWide_struct Try.underlying26 hv
  rw [cell26] at hsz
  obtain ⟨l⟩ := cs
  obtain ⟨xs, n, _, _, hl, hlen, hf⟩ := DataW.trod_struct Try.underlying26 h
  match l, hsz, xs, hlen with
  | [c0, c1, c2], _, [y0, y1, y2], _ =>
    have f0 : DataW.trod enc Try.prog W base spare held n 22 [c0] = some y0 := by have := hf 0 _ rfl; simpa [Value.cells, cell22] using this
    have f1 : DataW.trod enc Try.prog W base spare held n 23 [c1] = some y1 := by have := hf 1 _ rfl; simpa [Value.cells, cell23] using this
    have f2 : DataW.trod enc Try.prog W base spare held n 24 [c2] = some y2 := by have := hf 2 _ rfl; simpa [Value.cells, cell24] using this
    obtain ⟨l1, h1⟩ := ints_cell Try.underlying23 Try.underlying64 cell64 f1
    obtain ⟨a0, m0, k0, e0⟩ := slice_is Try.underlying22 f0
    rw [e0] at f0
    obtain rfl : c0 = .slice a0 m0 k0 := by simpa using e0
    obtain ⟨l0, _, h0⟩ := rds_of Try.underlying22 cell69 (by omega) (fun _ _ _ h => ty_elem h) f0
    obtain ⟨a2, m2, k2, e2⟩ := slice_is Try.underlying24 f2
    rw [e2] at f2
    obtain rfl : c2 = .slice a2 m2 k2 := by simpa using e2
    obtain ⟨l2, _, h2⟩ := rds_of Try.underlying24 cell55 (by omega) (fun _ _ _ h => fn_elem h) f2
    exact ⟨⟨l0, l1, l2⟩, _, _, _, rfl, h0, h1, h2⟩
end
end Go.Proofs.Ytpdjbhnpahkbpaa

namespace Go.Proofs.Ytpdjbhnpahkbpaa

/-- A number's digits. -/
def digs (n : Nat) : List Nat := if n < 128 then [n] else (n % 128 + 128) :: digs (n / 128)
termination_by n
decreasing_by omega
theorem digs_lo {n : Nat} (h : n < 128) : digs n = [n] := by rw [digs, if_pos h]
theorem digs_hi {n : Nat} (h : ¬ n < 128) : digs n = (n % 128 + 128) :: digs (n / 128) := by rw [digs, if_neg h]
theorem digs_len : ∀ (k n : Nat), n < 128 ^ (k + 1) → (digs n).length ≤ k + 1 := by
  intro k
  induction k with
  | zero => intro n h; rw [digs_lo (by simpa using h)]; simp
  | succ k ih =>
    intro n h
    by_cases c : n < 128
    · rw [digs_lo c]; simp
    · rw [digs_hi c]
      have := ih (n / 128) (Nat.div_lt_of_lt_mul (by rw [Nat.pow_succ, Nat.mul_comm] at h; exact h))
      simp only [List.length_cons]
      omega
theorem digs_len10 {n : Nat} (h : n < 18446744073709551616) : (digs n).length ≤ 10 := digs_len 9 n (by omega)
theorem digs_pos (n : Nat) : 1 ≤ (digs n).length := by
  by_cases c : n < 128
  · rw [digs_lo c]; simp
  · rw [digs_hi c]; simp
theorem digs_byte (n : Nat) : ∀ x ∈ digs n, x < 256 := by
  induction n using Nat.strongRecOn with
  | _ n ih =>
    intro x hx
    by_cases c : n < 128
    · rw [digs_lo c] at hx
      obtain rfl := List.mem_singleton.1 hx
      omega
    · rw [digs_hi c] at hx
      rcases List.mem_cons.1 hx with rfl | hx
      · omega
      · exact ih (n / 128) (by omega) x hx

/-- What a writer has: the bytes so far, the first fault. -/
structure St where
  t : List Nat
  e : Int
/-- An int as a word. -/
def uz (z : Int) : Nat := (z % 18446744073709551616).toNat
theorem uz_lt (z : Int) : uz z < 18446744073709551616 := by unfold uz; omega
theorem uz_pos {z : Int} (h : I64 z) (h0 : 0 ≤ z) : uz z = z.toNat := by unfold uz I64 at *; omega
theorem uz_neg {z : Int} (h : I64 z) (h0 : z < 0) : 9223372036854775808 ≤ uz z := by unfold uz I64 at *; omega
def wWord (n lim : Nat) (ab : Int) (s : St) : St := if s.e ≠ 0 then s else if lim < n then ⟨s.t, ab⟩ else ⟨s.t ++ digs n, 0⟩
def wNum (z : Int) (s : St) : St := wWord (uz z) 65535 1 s
def wList {α : Type} (f : α → St → St) (lim : Nat) (xs : List α) (s : St) : St := xs.foldl (fun s x => f x s) (wWord xs.length lim 16 s)
def wIns (i : IZ) (s : St) : St := wList wNum 24 i.l (wWord i.imm 18446744073709551615 1 (wNum i.c (wNum i.b (wNum i.a (wNum i.op s)))))
def wFn (f : FZ) (s : St) : St := wList wIns 256 f.co (wList wNum 32 f.re (wList wNum 32 f.sl (wNum f.pa s)))
def wTy (t : TZ) (s : St) : St := wList wNum 16 t.fi (wNum (if t.ar then 1 else 0) s)
def wProg (p : PZ) (s : St) : St := wList wFn 32 p.fu (wList wNum 32 p.gl (wList wTy 32 p.ty s))
/-- Encode. -/
def enc8 (p : PZ) : St :=
  let s := wProg p ⟨[], 0⟩
  if s.e ≠ 0 then ⟨[], s.e⟩ else if 16384 < s.t.length then ⟨[], 2⟩ else s

/-- A fault stays; a writer's bytes grow by c at most, and by bytes. -/
structure Wf (c : Nat) (f : St → St) : Prop where
  stop : ∀ s, s.e ≠ 0 → f s = s
  len : ∀ s, (f s).t.length ≤ s.t.length + c
  byte : ∀ s, (∀ x ∈ s.t, x < 256) → ∀ x ∈ (f s).t, x < 256
theorem Wf.comp {c d : Nat} {f g : St → St} (hf : Wf c f) (hg : Wf d g) : Wf (c + d) fun s => g (f s) :=
  ⟨fun s h => by rw [hf.stop s h, hg.stop s h], fun s => by have := hg.len (f s); have := hf.len s; omega, fun s h => hg.byte _ (hf.byte _ h)⟩
theorem Wf.mono {c d : Nat} {f : St → St} (hf : Wf c f) (h : c ≤ d) : Wf d f := ⟨hf.stop, fun s => by have := hf.len s; omega, hf.byte⟩
theorem wWord_wf {n lim : Nat} {ab : Int} (h : n < 18446744073709551616) : Wf 10 (wWord n lim ab) := by
  refine ⟨fun s h => by unfold wWord; rw [if_pos h], fun s => ?_, fun s hs => ?_⟩
  · have := digs_len10 h
    unfold wWord
    split
    · omega
    · split
      · simp
      · simp; omega
  · unfold wWord
    split
    · exact hs
    · split
      · exact hs
      · intro x hx
        rcases List.mem_append.1 hx with hx | hx
        · exact hs x hx
        · exact digs_byte n x hx
theorem wNum_wf (z : Int) : Wf 10 (wNum z) := wWord_wf (uz_lt z)
theorem fold_wf {α : Type} {f : α → St → St} {c : Nat} : ∀ (xs : List α), (∀ x ∈ xs, Wf c (f x)) → Wf (xs.length * c) fun s => xs.foldl (fun s x => f x s) s
  | [], _ => ⟨fun _ _ => rfl, fun _ => by simp, fun _ h => h⟩
  | x :: xs, hf => by
    have h := (hf x (List.mem_cons_self ..)).comp (fold_wf xs fun y hy => hf y (List.mem_cons_of_mem _ hy))
    refine (show Wf _ fun s => (x :: xs).foldl (fun s x => f x s) s from h).mono ?_
    simp only [List.length_cons, Nat.add_mul]
    omega
theorem wList_wf {α : Type} {f : α → St → St} {c lim : Nat} (xs : List α) (hf : ∀ x ∈ xs, Wf c (f x)) (h : xs.length < 18446744073709551616) : Wf (10 + lim * c) (wList f lim xs) := by
  have hw := wWord_wf (n := xs.length) (lim := lim) (ab := 16) h
  have hfo := fold_wf (f := f) (c := c) xs hf
  refine ⟨(hw.comp hfo).stop, fun s => ?_, (hw.comp hfo).byte⟩
  by_cases hl : xs.length ≤ lim
  · have := (hw.comp hfo).len s
    have e : xs.length * c ≤ lim * c := Nat.mul_le_mul_right _ hl
    exact Nat.le_trans this (by omega)
  · have h1 : (wWord xs.length lim 16 s).e ≠ 0 := by
      unfold wWord
      split
      · assumption
      · rw [if_pos (by omega)]; show (16 : Int) ≠ 0; omega
    unfold wList
    rw [hfo.stop _ h1]
    have := hw.len s
    omega
def IOk (i : IZ) : Prop := i.imm < 18446744073709551616 ∧ i.l.length ≤ 9223372036854775807
def FOk (f : FZ) : Prop := f.sl.length ≤ 9223372036854775807 ∧ f.re.length ≤ 9223372036854775807 ∧ f.co.length ≤ 9223372036854775807 ∧ ∀ i ∈ f.co, IOk i
def TOk (t : TZ) : Prop := t.fi.length ≤ 9223372036854775807
def POk (p : PZ) : Prop := p.ty.length ≤ 9223372036854775807 ∧ p.gl.length ≤ 9223372036854775807 ∧ p.fu.length ≤ 9223372036854775807 ∧ (∀ t ∈ p.ty, TOk t) ∧ ∀ f ∈ p.fu, FOk f
theorem nums_wf (lim : Nat) (xs : List Int) (h : xs.length ≤ 9223372036854775807) : Wf (10 + lim * 10) (wList wNum lim xs) := wList_wf xs (fun x _ => wNum_wf x) (by omega)
theorem wIns_wf {i : IZ} (h : IOk i) : Wf 300 (wIns i) :=
  (((((wNum_wf i.op).comp (wNum_wf i.a)).comp (wNum_wf i.b)).comp (wNum_wf i.c)).comp ((wWord_wf h.1).comp (nums_wf 24 i.l h.2))).mono (by omega)
theorem wFn_wf {f : FZ} (h : FOk f) : Wf 77500 (wFn f) :=
  (((wNum_wf f.pa).comp (nums_wf 32 f.sl h.1)).comp ((nums_wf 32 f.re h.2.1).comp (wList_wf f.co (fun i hi => wIns_wf (h.2.2.2 i hi)) (by have := h.2.2.1; omega)))).mono (by omega)
theorem wTy_wf {t : TZ} (h : TOk t) : Wf 180 (wTy t) := ((wNum_wf _).comp (nums_wf 16 t.fi h)).mono (by omega)
theorem wProg_wf {p : PZ} (h : POk p) : Wf 2500000 (wProg p) :=
  ((wList_wf (lim := 32) p.ty (fun t ht => wTy_wf (h.2.2.2.1 t ht)) (by have := h.1; omega)).comp ((nums_wf 32 p.gl h.2.1).comp (wList_wf (lim := 32) p.fu (fun f hf => wFn_wf (h.2.2.2.2 f hf)) (by have := h.2.2.1; omega)))).mono (by omega)

section
variable {B : Nat → Prop} {b o : Nat} {W : World} {v : Value} {α : Type} {s : Nat} {R : (Nat → Prop) → World → Nat → Nat → α → Prop} {xs : List α}
theorem RdS.len (h : RdS s R B W v xs) : xs.length ≤ 9223372036854775807 := by
  obtain ⟨_, _, _, h, _⟩ := h
  exact h
theorem RdS.all (h : RdS s R B W v xs) {x : α} (hx : x ∈ xs) : ∃ b o, B b ∧ R B W b o x := by
  obtain ⟨i, hi⟩ := List.getElem?_of_mem hx
  obtain ⟨b, o, _, _, hb, _, h⟩ := h.at hi
  exact ⟨b, _, hb, h⟩
theorem RdIns.ok {x : IZ} (h : RdIns B W b o x) : IOk x := by
  obtain ⟨_, _, h5⟩ := h.c5
  exact ⟨h.k4, h5.len⟩
theorem RdFn.ok {x : FZ} (h : RdFn B W b o x) : FOk x := by
  obtain ⟨_, _, h1⟩ := h.c1
  obtain ⟨_, _, h2⟩ := h.c2
  obtain ⟨_, _, h3⟩ := h.c3
  exact ⟨h1.len, h2.len, h3.len, fun i hi => by obtain ⟨_, _, _, h⟩ := h3.all hi; exact h.ok⟩
theorem RdTy.ok {x : TZ} (h : RdTy B W b o x) : TOk x := by
  obtain ⟨_, _, h1⟩ := h.c1
  exact h1.len
theorem RdP.ok {p : PZ} (h : RdP B W v p) : POk p := by
  obtain ⟨_, _, _, _, h0, h1, h2⟩ := h
  exact ⟨h0.len, h1.len, h2.len, fun t ht => by obtain ⟨_, _, _, h⟩ := h0.all ht; exact h.ok, fun f hf => by obtain ⟨_, _, _, h⟩ := h2.all hf; exact h.ok⟩
end
end Go.Proofs.Ytpdjbhnpahkbpaa

namespace Go.Proofs.Ytpdjbhnpahkbpaa
open Go.ChangeShapes Go.WideShapes Go.ChangeAt Go.RowKit

theorem info5 : (Try.prog.info? 5).map (fun i => (i.zero, i.size, i.bytes)) = some (some (.int .u8 0), 1, 1) := by kernel_rfl
/-- Bytes as cells. -/
def bz (T : List Nat) : List Value := T.map fun (x : Nat) => .int .u8 (x : Int)
theorem bz_snoc (T : List Nat) (x : Nat) : bz (T ++ [x]) = bz T ++ [.int .u8 (x : Int)] := by unfold bz; simp
theorem one_byte (x : Int) : ∀ u ∈ ([.int .u8 x] : List Value), u.oneCell' = true := fun u h => by
  obtain rfl := List.mem_singleton.1 h
  rfl
/-- A call leaves the blocks F to F', its own ones or new. -/
structure Mv (F : Nat → Prop) (W : World) (F' : Nat → Prop) (W' : World) : Prop where
  cha : Cha F W W'
  new : ∀ i, F' i → F i ∨ W.heap.size ≤ i
theorem Mv.refl (F : Nat → Prop) (W : World) : Mv F W F W := ⟨Cha.refl _ _, fun _ h => .inl h⟩
theorem Mv.trans {F F' F'' : Nat → Prop} {W W' W'' : World} (h : Mv F W F' W') (k : Mv F' W' F'' W'') : Mv F W F'' W'' :=
  ⟨h.cha.over k.cha h.new, fun i hi => by
    rcases k.new i hi with e | e
    · exact h.new i e
    · exact .inr (Nat.le_trans h.cha.size e)⟩
theorem Mv.alloc {F F' : Nat → Prop} {W W' : World} (h : Mv F W F' W') (o : Obj) : Mv F W F' (W'.alloc o) := ⟨h.cha.alloc o, h.new⟩
theorem Mv.drew {F F' : Nat → Prop} {W W' : World} (h : Mv F W F' W') : Mv F W F' W'.drew := ⟨h.cha.drew, h.new⟩
theorem Mv.of {F F' : Nat → Prop} {W W' W1 : World} (c : Cha (fun _ => False) W W1) (h : Mv F W1 F' W') : Mv F W F' W' :=
  ⟨(Cha.wide c).trans h.cha, fun i hi => by
    rcases h.new i hi with e | e
    · exact .inl e
    · exact .inr (Nat.le_trans c.size e)⟩

/-- The writer at block bw: its bytes, its fault; F: its blocks. -/
structure Wr (B : Nat) (F : Nat → Prop) (W : World) (bw : Nat) (T : List Nat) (e : Int) : Prop where
  head : ∃ v, W.heap[bw]? = some (.cells #[v, .int .i64 e] 71 (0, 0)) ∧ W.ownsRow B 5 1 v T.length (bz T) ∧ ∀ g, v.ownBlock = some g → F g ∧ g ≠ bw
  fb : F bw
  lt : ∀ i, F i → i < W.heap.size
  ge : ∀ i, F i → B ≤ i
section
variable {B bw x : Nat} {F F' S : Nat → Prop} {W W' w6 : World} {T : List Nat} {e : Int} {v v' : Value} {o : Obj}
theorem Wr.cha (h : Wr B F W bw T e) (c : Cha S W W') (hs : ∀ i, F i → ¬ S i) : Wr B F W' bw T e := by
  obtain ⟨v, h1, h2, h3⟩ := h.head
  exact ⟨⟨v, (c.old bw (h.lt bw h.fb) (hs bw h.fb)).trans h1, own_but h2 c fun g hg => hs g (h3 g hg).1, h3⟩, h.fb, fun i hi => Nat.lt_of_lt_of_le (h.lt i hi) c.size, h.ge⟩
theorem Wr.same (h : Wr B F W bw T e) (c : Cha (fun _ => False) W W') : Wr B F W' bw T e := h.cha c fun _ _ f => f
theorem Wr.alloc (h : Wr B F W bw T e) (o : Obj) : Wr B F (W.alloc o) bw T e := h.same ((Cha.refl _ W).alloc o)
theorem Wr.err (h : Wr B F W bw T e) : W.cell? ⟨bw, 1, none⟩ = some (.int .i64 e) := by
  obtain ⟨v, h1, _⟩ := h.head
  exact cell_of_row W bw 1 _ 71 (0, 0) h1
theorem Wr.free (h : Wr B F W bw T e) (i : Nat) : W.frozen? ⟨bw, i, none⟩ = false := by
  obtain ⟨v, h1, _⟩ := h.head
  exact frozen_of_row W bw i _ 71 h1
/-- The fault is set. -/
theorem Wr.fail (h : Wr B F W bw T e) (e' : Int) : Wr B F (W.setCell ⟨bw, 1, none⟩ (.int .i64 e')) bw T e' ∧ Mv F W F (W.setCell ⟨bw, 1, none⟩ (.int .i64 e')) := by
  obtain ⟨v, h1, h2, h3⟩ := h.head
  have c : Cha (fun i => i = bw) W (W.setCell ⟨bw, 1, none⟩ (.int .i64 e')) := (Cha.refl (fun i => i = bw) W).setCell (p := ⟨bw, 1, none⟩) (fun _ => rfl) _
  have e1 := heap_setCell_same W bw 1 _ 71 (.int .i64 e') h1
  exact ⟨⟨⟨v, e1, own_but h2 c fun g hg => (h3 g hg).2, h3⟩, h.fb, fun i hi => Nat.lt_of_lt_of_le (h.lt i hi) c.size, h.ge⟩, ⟨c.mono fun i _ hi => by have e : i = bw := hi; rw [e]; exact h.fb, fun _ hi => .inl hi⟩⟩
/-- A byte is written behind the others. -/
theorem Wr.push (hh : Wr B F W bw T e) (h1 : W.heap[bw]? = some (.cells #[v, .int .i64 e] 71 (0, 0))) (h3 : ∀ g, v.ownBlock = some g → F g ∧ g ≠ bw)
    (hown : w6.ownsRow B 5 1 v' (T.length + 1) (bz T ++ [.int .u8 (x : Int)])) (hg : (W.alloc o).grownBy w6 v.ownBlock) (hw : v'.ownBlock = v.ownBlock ∨ ∀ g, v'.ownBlock = some g → (W.alloc o).heap.size ≤ g) :
    ∃ F', Wr B F' (w6.setCell ⟨bw, 0, none⟩ v') bw (T ++ [x]) e ∧ Mv F W F' (w6.setCell ⟨bw, 0, none⟩ v') := by
  have c1 : Cha (fun i => v.ownBlock = some i) (W.alloc o) w6 := Cha.of_grownBy hg fun k e => e
  have c0 : Cha (fun i => v.ownBlock = some i) W w6 := ((Cha.refl _ W).alloc o).trans c1
  have hbw := hh.lt bw hh.fb
  have h6 : w6.heap[bw]? = some (.cells #[v, .int .i64 e] 71 (0, 0)) := (c0.old bw hbw fun e => (h3 bw e).2 rfl).trans h1
  have c2 : Cha (fun i => i = bw) w6 (w6.setCell ⟨bw, 0, none⟩ v') := (Cha.refl (fun i => i = bw) w6).setCell (p := ⟨bw, 0, none⟩) (fun _ => rfl) _
  have e1 := heap_setCell_same w6 bw 0 _ 71 v' h6
  have hsz : (W.alloc o).heap.size = W.heap.size + 1 := World.size_alloc _ _
  have hnew : ∀ g, v'.ownBlock = some g → (F g ∨ W.heap.size ≤ g) ∧ g ≠ bw := fun g hg' => by
    rcases hw with e | e
    · obtain ⟨a, b⟩ := h3 g (e ▸ hg')
      exact ⟨.inl a, b⟩
    · have := e g hg'
      exact ⟨.inr (by omega), by omega⟩
  refine ⟨fun i => i = bw ∨ v'.ownBlock = some i, ⟨⟨v', e1, ?_, fun g hg' => ⟨.inr hg', (hnew g hg').2⟩⟩, .inl rfl, fun i hi => ?_, fun i hi => ?_⟩, ⟨?_, fun i hi => ?_⟩⟩
  · rw [bz_snoc, List.length_append]
    exact own_but hown c2 fun g hg' => (hnew g hg').2
  · rcases hi with rfl | hi
    · exact Nat.lt_of_lt_of_le hbw (Nat.le_trans c0.size c2.size)
    · exact Nat.lt_of_lt_of_le (hown.lt i hi).2 c2.size
  · rcases hi with rfl | hi
    · exact hh.ge _ hh.fb
    · exact (hown.lt i hi).1
  · exact (c0.mono (T := F) fun i _ hi => (h3 i hi).1).trans (c2.mono fun i _ hi => by have e : i = bw := hi; rw [e]; exact hh.fb)
  · rcases hi with rfl | hi
    · exact .inl hh.fb
    · exact (hnew i hi).1
end
theorem kept_head {bw : Nat} {F : Nat → Prop} {W w6 : World} {e : Int} {v : Value} {o : Obj} (hb : bw < W.heap.size) (h1 : W.heap[bw]? = some (.cells #[v, .int .i64 e] 71 (0, 0))) (h3 : ∀ g, v.ownBlock = some g → F g ∧ g ≠ bw) (hg : (W.alloc o).grownBy w6 v.ownBlock) :
    w6.cell? ⟨bw, 0, none⟩ = some v ∧ w6.frozen? ⟨bw, 0, none⟩ = false := by
  have c1 : Cha (fun i => v.ownBlock = some i) (W.alloc o) w6 := Cha.of_grownBy hg fun k e => e
  have h6 := (((Cha.refl _ W).alloc o).trans c1).old bw hb fun e => (h3 bw e).2 rfl
  rw [h1] at h6
  exact ⟨cell_of_row w6 bw 0 _ 71 (0, 0) h6, frozen_of_row w6 bw 0 _ 71 h6⟩
section
variable {B bw : Nat} {F F' : Nat → Prop} {W W' : World} {T : List Nat} {e : Int}
/-- What a call of the writer's leaves. -/
def Wrote (B bw : Nat) (F : Nat → Prop) (W : World) (s : St) : Ending → World → Prop := fun e w' => e = .returned (.tuple #[]) ∧ ∃ F', Wr B F' w' bw s.t s.e ∧ Mv F W F' w'

theorem word_stop (n lim : Nat) (ab : Int) (h : Wr B F W bw T e) (he : e ≠ 0) :
    Calls Try.prog 73 #[.pointer (some ⟨bw, 0, none⟩), .int .u64 (n : Int), .int .u64 (lim : Int), .int .i64 ab] W (Wrote B bw F W ⟨T, e⟩) := by
  have h1 := h.err
  have H := Lib.hid h
  clear h
  go_enter Try.func73, Try.ntmps73
  go_wp2
  go_end0
  exact ⟨rfl, F, H.out, Mv.refl _ _⟩
theorem word_over (n lim : Nat) (ab : Int) (h : Wr B F W bw T 0) (hn : lim < n) :
    Calls Try.prog 73 #[.pointer (some ⟨bw, 0, none⟩), .int .u64 (n : Int), .int .u64 (lim : Int), .int .i64 ab] W (Wrote B bw F W ⟨T, ab⟩) := by
  have h1 := h.err
  have h2 := h.free 1
  have H := Lib.hid h
  clear h
  go_enter Try.func73, Try.ntmps73
  go_wp2
  go_end0
  exact ⟨rfl, F, (H.out.fail ab).1, (H.out.fail ab).2⟩
set_option maxRecDepth 100000 in
set_option maxHeartbeats 1000000 in
theorem word_fits (n lim : Nat) (ab : Int) (h : Wr B F W bw T 0) (hn : n ≤ lim) (hb : n < 18446744073709551616) (hT : T.length ≤ 1000000000) (h0 : B ≤ W.heap.size) :
    Calls Try.prog 73 #[.pointer (some ⟨bw, 0, none⟩), .int .u64 (n : Int), .int .u64 (lim : Int), .int .i64 ab] W (Wrote B bw F W ⟨T ++ digs n, 0⟩) := by
  have h1 := h.err
  have H := Lib.hid h
  have hl10 := digs_len10 hb
  obtain ⟨i0, hi, hz0, hz1, hz2⟩ := info_parts info5
  have hge : ¬ lim < n := by omega
  clear h hn
  go_enter Try.func73, Try.ntmps73
  go_wp2
  go_loopw [1] (fun x wr => ∃ (k : Nat) (T' : List Nat) (F' : Nat → Prop), x = .int .u64 (k : Int) ∧ k ≤ n ∧ T' ++ digs k = T ++ digs n ∧ Wr B F' wr bw T' 0 ∧ Mv F W F' wr) (fun x _ => (intOf x).toNat)
  case atStart => exact ⟨n, T, F, rfl, by omega, rfl, H.out, Mv.refl _ _⟩
  case round =>
    obtain ⟨k, T', F', rfl, hk, ht, hW, hM⟩ := hrel
    obtain ⟨v, w1, w2, w3⟩ := hW.head
    have hlen : T'.length + (digs k).length = T.length + (digs n).length := by
      have := congrArg List.length ht
      simpa using this
    have hk10 := digs_pos k
    have c0 : wr.cell? ⟨bw, 0, none⟩ = some v := cell_of_row wr bw 0 _ 71 (0, 0) w1
    have c1 := hW.err
    have f0 := hW.free 0
    have HW := Lib.hid hW
    have HM := Lib.hid hM
    have W1 := Lib.hid w1
    have W2 := Lib.hid w2
    have W3 := Lib.hid w3
    have HT := Lib.hid ht
    have HB : Hid (B ≤ wr.heap.size) := Lib.hid (Nat.le_trans h0 hM.cha.size)
    clear hW hM w1 w2 w3 ht H h1
    have hT' : T'.length ≤ 1000000009 := by omega
    clear hlen
    by_cases c : k < 128
    · have hx : IntKind.u8.wrap (k : Int) = (k : Int) := by rw [IntKind.wrap_u8]; omega
      have hd : ¬ (128 : Int) ≤ (k : Int) := by omega
      go_wp2_with (at_builtin; refine wpList_append_where _ rfl _ _ 27 rfl B 5 i0 (.int .u8 0) 1 1 Try.underlying27 hi hz0 hz1 hz2 rfl (by decide) _ _ _ rfl (W2.out.alloc _) ⟨wr.heap.size, 0, none⟩ 1 1 [.int .u8 (k : Int)] rfl rfl (one_new _ _ _) (one_byte _) (by unfold maxLen; omega) (by omega) (by rw [World.size_alloc]; have := HB.out; omega) ?_; intro v' w6 hown hg hw; obtain ⟨F6, p1, p2⟩ := HW.out.push W1.out W3.out hown hg hw; have P1 := Lib.hid p1; have P2 := Lib.hid p2; obtain ⟨c6, f6⟩ := kept_head (HW.out.lt bw HW.out.fb) W1.out W3.out hg; obtain ⟨a6, k6, rfl⟩ := ownsRow_succ hown; clear p1 p2 hown hg hw)
      go_end0
      refine ⟨rfl, F6, ?_, HM.out.trans P2.out⟩
      have h := P1.out
      rw [← digs_lo c, HT.out] at h
      exact h
    · have hd : (128 : Int) ≤ (k : Int) := by omega
      obtain ⟨y, hy⟩ : ∃ y : Nat, y = k % 128 + 128 := ⟨_, rfl⟩
      have hw8 : IntKind.u64.wrap ((k : Int) % 128 + 128) = (y : Int) := by rw [IntKind.wrap_u64]; omega
      have hx : IntKind.u8.wrap (y : Int) = (y : Int) := by rw [IntKind.wrap_u8]; omega
      have HY := Lib.hid hy
      clear hy
      go_wp2_with (at_builtin; refine wpList_append_where _ rfl _ _ 27 rfl B 5 i0 (.int .u8 0) 1 1 Try.underlying27 hi hz0 hz1 hz2 rfl (by decide) _ _ _ rfl (W2.out.alloc _) ⟨wr.heap.size, 0, none⟩ 1 1 [.int .u8 (y : Int)] rfl rfl (one_new _ _ _) (one_byte _) (by unfold maxLen; omega) (by omega) (by rw [World.size_alloc]; have := HB.out; omega) ?_; intro v' w6 hown hg hw; obtain ⟨F6, p1, p2⟩ := HW.out.push W1.out W3.out hown hg hw; have P1 := Lib.hid p1; have P2 := Lib.hid p2; obtain ⟨c6, f6⟩ := kept_head (HW.out.lt bw HW.out.fb) W1.out W3.out hg; obtain ⟨a6, k6, rfl⟩ := ownsRow_succ hown; clear p1 p2 hown hg hw)
      go_roundw
      case rel => exact ⟨k / 128, _, F6, by go_num, by omega, by rw [← HT.out, digs_hi c, HY.out]; simp, P1.out, HM.out.trans P2.out⟩
      case measure => simp [intOf]; omega
end
end Go.Proofs.Ytpdjbhnpahkbpaa
