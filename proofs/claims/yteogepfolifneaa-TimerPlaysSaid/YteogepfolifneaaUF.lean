/- The document's timers: Due. -/
import Derived.Test.YteogepfolifneaaUE
namespace Go.Proofs.Yteogepfolifneaa
open Go.ChangeShapes Go.WideShapes Go.ChangeAt Go.RowKit
variable {w w' w1 w2 W : World} {F F' S : Nat → Prop} {bd n m cap g o b : Nat} {v v' u l : Value} {D D' N : List Tm} {p q t id now : Int} {a : Option Addr} {A : List Int}

/-- The first of p's timers is taken, as often as it is due. -/
inductive Steps (p now : Int) (D0 : List Tm) : List Int → List Tm → Prop
  | nil : Steps p now D0 [] D0
  | next {A : List Int} {D : List Tm} (b : Nat) : Steps p now D0 A D → bst D p D.length = (b : Int) → b < D.length → (D.getD b d0).when ≤ now → Steps p now D0 (A ++ [(D.getD b d0).id]) (D.take b ++ D.drop (b + 1))
def Halts (p now : Int) (D : List Tm) : Prop := bst D p D.length = -1 ∨ ∃ b : Nat, bst D p D.length = (b : Int) ∧ b < D.length ∧ now < (D.getD b d0).when
theorem Steps.len (h : Steps p now D A D') : A.length + D'.length = D.length := by
  induction h with
  | nil => simp
  | next b h1 h2 h3 h4 ih => simp only [List.length_append, List.length_singleton, List.length_take, List.length_drop]; omega
/-- The timers, and the ids that were told. -/
structure Cur (w : World) (F : Nat → Prop) (bd n : Nat) (w' : World) (D : List Tm) (l : Value) (A : List Int) : Prop where
  all : ∃ F' v, Dt w' F' bd n v D ∧ (∀ i, F' i → F i ∨ w.heap.size ≤ i) ∧ ∀ g, l.ownBlock = some g → ¬ F' g ∧ w.heap.size ≤ g
  cha : Cha F w w'
  lies : Lies w' l A
set_option maxRecDepth 100000 in
theorem tl64 (g o m cap b : Nat) (hb : b + 1 ≤ m) (W : World) :
    (Instr.slice 64 (.slice (some ⟨g, o, none⟩) m cap) (some (.int .i64 ((b : Int) + 1))) none none).run Try.prog W = .ok (.slice (some ⟨g, if cap = b + 1 then o else o + (b + 1) * 3, none⟩) (m - (b + 1)) (cap - (b + 1))) W := by
  have e : sliced (some ⟨g, o, none⟩) (b + 1) m cap 3 = .slice (some ⟨g, if cap = b + 1 then o else o + (b + 1) * 3, none⟩) (m - (b + 1)) (cap - (b + 1)) := by
    unfold sliced
    by_cases h : cap = b + 1
    · rw [if_pos h, if_pos h]
    · rw [if_neg h, if_neg h]; simp [Addr.add_lit]
  rw [run_slice_l (P := Try.prog) W 64 (some ⟨g, o, none⟩) m cap Try.underlying64 .i64 ((b : Int) + 1) (by omega) (by omega), show ((b : Int) + 1).toNat = b + 1 by omega, ← e]
  rfl
theorem due_step {x : Int} {w3 : World} {g3 o3 cap3 : Nat} (hT : Dt w1 F' bd n (.slice (some ⟨g, o, none⟩) m cap) D') (hn : ∀ i, F' i → F i ∨ w.heap.size ≤ i) (hl : ∀ g, l.ownBlock = some g → ¬ F' g ∧ w.heap.size ≤ g) (hc : Cha F w w1)
    (hm : m = D'.length) (hb : b + 1 ≤ m) (hm2 : m ≤ 1024) (hA : App (w1.alloc (.cells #[.int .i64 x] 3)) w3 l A [x] g3 o3 cap3) :
    ∃ s4 n4 c4 w4 s5 n5 c5 w5, w3.cell? ⟨bd, 1, none⟩ = some (.slice (some ⟨g, o, none⟩) m cap) ∧ (Builtin.append_ #[64, 64] 64 #[.slice none 0 0, .slice (some ⟨g, o, none⟩) b cap]).run Try.prog w3 = .ok (.slice s4 n4 c4) w4 ∧ w4.cell? ⟨bd, 1, none⟩ = some (.slice (some ⟨g, o, none⟩) m cap) ∧
      (Builtin.append_ #[64, 64] 64 #[.slice s4 n4 c4, .slice (some ⟨g, if cap = b + 1 then o else o + (b + 1) * 3, none⟩) (m - (b + 1)) (cap - (b + 1))]).run Try.prog w4 = .ok (.slice s5 n5 c5) w5 ∧ w5.cell? ⟨bd, 1, none⟩ = some (.slice (some ⟨g, o, none⟩) m cap) ∧ w5.frozen? ⟨bd, 1, none⟩ = false ∧
      Cur w F bd n (w5.setCell ⟨bd, 1, none⟩ (.slice s5 n5 c5)) (D'.take b ++ D'.drop (b + 1)) (.slice (some ⟨g3, o3, none⟩) (A.length + [x].length) cap3) (A ++ [x]) := by
  have a3 : Cha (fun i => l.ownBlock = some i) w1 w3 := ((Cha.refl (fun i => l.ownBlock = some i) w1).alloc _).trans hA.cha
  have T3 : Dt w3 F' bd n (.slice (some ⟨g, o, none⟩) m cap) D' := hT.cha a3 (fun i hi e => (hl i e).1 hi)
  obtain ⟨v4, w4, r4, k4⟩ := En.run_any tmE_ok 64 (En.Lies.nil tmE w3) (T3.l.take tmE_ok (i := b) (by omega)) (by simp only [List.length_nil, List.length_take, maxLen]; omega) (by simp only [List.length_nil, List.length_take]; show _ * 24 ≤ _; omega)
  rw [List.nil_append] at k4
  have a4 : Cha (fun _ => False) w3 w4 := k4.cha.mono fun i _ e => by cases e
  have T4 := T3.same a4
  have own4 : ∀ g, v4.ownBlock = some g → w3.heap.size ≤ g := fun g hg => (k4.at' g hg).resolve_left (fun e => by cases e)
  obtain ⟨v5, w5, r5, k5⟩ := En.run_any tmE_ok 64 k4.lies (T4.l.drop tmE_ok (i := b + 1) (by omega)) (by simp only [List.length_drop, List.length_take, maxLen]; omega) (by simp only [List.length_drop, List.length_take]; show _ * 24 ≤ _; omega)
  have a5 : Cha (fun _ => False) w3 w5 := a4.over k5.cha fun i hi => .inr (own4 i hi)
  have T5 := T3.same a5
  have own5 : ∀ g, v5.ownBlock = some g → w3.heap.size ≤ g := fun g hg => (k5.at' g hg).elim (own4 g) (Nat.le_trans a4.size)
  obtain ⟨s4, c4, e4, _⟩ := k4.lies.form
  obtain ⟨s5, c5, e5, _⟩ := k5.lies.form
  subst e4 e5
  have hs1 := hc.size
  have hs3 := a3.size
  have hs5 := a5.size
  refine ⟨s4, _, c4, w4, s5, _, c5, w5, T3.list, r4, T4.list, r5, T5.list, T5.free 1, ?_⟩
  have ll : Lies w5 (.slice (some ⟨g3, o3, none⟩) (A.length + [x].length) cap3) (A ++ [x]) := hA.lies.cha a5 (fun _ _ f => f)
  have own3 : ∀ q, (Value.slice (some ⟨g3, o3, none⟩) (A.length + [x].length) cap3).ownBlock = some q → ¬ F' q ∧ w.heap.size ≤ q ∧ q < w3.heap.size := fun q hq => by
    have e : g3 = q := by simpa [Value.ownBlock] using hq
    subst e
    rcases hA.at' with e | e
    · exact ⟨(hl _ e).1, (hl _ e).2, hA.lt⟩
    · rw [World.size_alloc] at e
      exact ⟨fun hf => by have := hT.old _ hf; omega, by omega, hA.lt⟩
  have hput := T5.put (w1 := w5) (u := .slice s5 (D'.take b ++ D'.drop (b + 1)).length c5) (Cha.refl _ _) k5.lies
  have hset : Cha (fun i => i = bd) w5 (w5.setCell ⟨bd, 1, none⟩ (.slice s5 (D'.take b ++ D'.drop (b + 1)).length c5)) := (Cha.refl (· = bd) w5).setCell (p := ⟨bd, 1, none⟩) (fun _ => rfl) _
  have cF : Cha F w w5 := by
    have c3 : Cha F w w3 := hc.over a3 fun i hi => .inr (hl i hi).2
    exact c3.trans a5.wide
  have hbd : F bd ∨ w.heap.size ≤ bd := hn _ hT.fc
  refine ⟨⟨fun i => (i = bd) ∨ (Value.slice s5 (D'.take b ++ D'.drop (b + 1)).length c5).ownBlock = some i, _, ⟨?_, k5.lies.cha hset (fun q hq e => ?_), .inl rfl, fun q hq => ⟨.inr hq, fun e => ?_⟩, fun i hi => ?_⟩, fun i hi => ?_, fun q hq => ⟨fun hf => ?_, (own3 q hq).2.1⟩⟩, cF.over hset (fun i e => by rw [e]; exact hbd), ll.cha hset (fun q hq e => (own3 q hq).1 (e ▸ hT.fc))⟩
  · exact heap_setCell_same w5 bd 1 _ 66 _ T5.head
  · have := own5 q hq; have := T3.old _ T3.fc; omega
  · have := own5 q hq; have := T3.old _ T3.fc; omega
  · rcases hi with hi | hi
    · rw [hi]; exact Nat.lt_of_lt_of_le (T5.old _ T5.fc) hset.size
    · exact Nat.lt_of_lt_of_le (k5.lies.lt hi) hset.size
  · rcases hi with hi | hi
    · rw [hi]; exact hbd
    · have := own5 i hi; exact .inr (by omega)
  · rcases hf with hf | hf
    · rw [hf] at hq; exact (own3 bd hq).1 hT.fc
    · have := own5 q hf; have := (own3 q hq).2.2; omega
end Go.Proofs.Yteogepfolifneaa
