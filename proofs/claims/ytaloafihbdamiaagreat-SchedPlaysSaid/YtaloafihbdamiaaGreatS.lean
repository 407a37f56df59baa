/- What lies in blocks of its own; things beside one another. -/
import Derived.Test.YtaloafihbdamiaaGreatE
namespace Go.Proofs.YtaloafihbdamiaaGreat
open Go.ChangeShapes Go.WideShapes Go.ChangeAt Go.RowKit

/-- Something that lies in the blocks F. -/
abbrev Asn := World → (Nat → Prop) → Prop
structure Fit (P : Asn) : Prop where
  cha : ∀ {w w' : World} {F S : Nat → Prop}, P w F → Cha S w w' → (∀ i, F i → ¬ S i) → P w' F
  old : ∀ {w : World} {F : Nat → Prop}, P w F → ∀ i, F i → i < w.heap.size
/-- What a call leaves that changes it. -/
def Goes (P : Asn) (w w' : World) (F : Nat → Prop) : Prop := ∃ F', P w' F' ∧ Cha F w w' ∧ ∀ i, F' i → F i ∨ w.heap.size ≤ i
/-- Two things that have no block in common. -/
def Star (P Q : Asn) : Asn := fun w F => ∃ F1 F2, P w F1 ∧ Q w F2 ∧ (∀ i, F1 i → ¬ F2 i) ∧ (∀ i, F1 i → F i) ∧ (∀ i, F2 i → F i) ∧ ∀ i, F i → i < w.heap.size
/-- What has been made since w0. -/
def Mine (w0 : World) (P : Asn) (W : World) : Prop := ∃ F, P W F ∧ Cha (fun _ => False) w0 W ∧ ∀ i, F i → w0.heap.size ≤ i
section
variable {P P' Q Q' : Asn} {w w' w1 w2 w0 W W' : World} {F F' S : Nat → Prop}
theorem Fit.same (f : Fit P) (h : P w F) (c : Cha (fun _ => False) w w') : P w' F := f.cha h c fun _ _ x => x
theorem Goes.same (f : Fit P) (h : P w F) (c : Cha (fun _ => False) w w') : Goes P w w' F := ⟨F, f.same h c, c.wide, fun _ h => .inl h⟩
theorem Goes.refl (h : P w F) : Goes P w w F := ⟨F, h, Cha.refl _ _, fun _ h => .inl h⟩
theorem Goes.trans (h : Goes P w w1 F) (k : ∀ F1, P w1 F1 → Goes Q w1 w2 F1) : Goes Q w w2 F := by
  obtain ⟨F1, q, c, n⟩ := h
  obtain ⟨F2, q2, c2, n2⟩ := k F1 q
  refine ⟨F2, q2, c.over c2 n, fun i hi => ?_⟩
  rcases n2 i hi with e | e
  · exact n i e
  · exact .inr (Nat.le_trans c.size e)
theorem Goes.before (c : Cha (fun _ => False) w w1) (h : Goes P w1 w2 F) : Goes P w w2 F := by
  obtain ⟨F1, q, c1, n⟩ := h
  exact ⟨F1, q, c.wide.trans c1, fun i hi => (n i hi).imp id fun e => Nat.le_trans c.size e⟩
theorem Goes.cha (h : Goes P w w' F) : Cha F w w' := by obtain ⟨_, _, c, _⟩ := h; exact c
theorem Goes.mono (h : Goes P w w' F) (k : ∀ F, P w' F → Q w' F) : Goes Q w w' F := by obtain ⟨F1, q, c, n⟩ := h; exact ⟨F1, k _ q, c, n⟩
theorem Fit.star (f : Fit P) (k : Fit Q) : Fit (Star P Q) :=
  ⟨fun ⟨F1, F2, a, b, d, e1, e2, o⟩ c hs => ⟨F1, F2, f.cha a c (fun i x => hs i (e1 i x)), k.cha b c (fun i x => hs i (e2 i x)), d, e1, e2, fun i x => Nat.lt_of_lt_of_le (o i x) c.size⟩, fun ⟨_, _, _, _, _, _, _, o⟩ => o⟩
theorem Star.swap (h : Star P Q w F) : Star Q P w F := by
  obtain ⟨F1, F2, a, b, d, e1, e2, o⟩ := h
  exact ⟨F2, F1, b, a, fun i x y => d i y x, e2, e1, o⟩
theorem Star.left (k' : Fit P') (k : Fit Q) (h : Star P Q w F) (s : ∀ F1, P w F1 → Goes P' w w' F1) : Goes (Star P' Q) w w' F := by
  obtain ⟨F1, F2, a, b, d, e1, e2, o⟩ := h
  obtain ⟨F3, q, c, n⟩ := s F1 a
  refine ⟨fun i => F i ∨ F3 i, ⟨F3, F2, q, k.cha b c (fun i x y => d i y x), fun i x y => ?_, fun i x => .inr x, fun i x => .inl (e2 i x), fun i x => ?_⟩, c.mono fun i _ x => e1 i x, fun i x => ?_⟩
  · rcases n i x with z | z
    · exact d i z y
    · have := o i (e2 i y); omega
  · rcases x with x | x
    · exact Nat.lt_of_lt_of_le (o i x) c.size
    · exact k'.old q i x
  · rcases x with x | x
    · exact .inl x
    · exact (n i x).imp (e1 i) id
theorem Star.right (kp : Fit P) (k' : Fit Q') (h : Star P Q w F) (s : ∀ F1, Q w F1 → Goes Q' w w' F1) : Goes (Star P Q') w w' F := by
  obtain ⟨F1, q, c, n⟩ := Star.left k' kp h.swap s
  exact ⟨F1, q.swap, c, n⟩
section
variable {f : FuncId} {args : Array Value} {v : Ending}
theorem Star.stepL (k' : Fit P') (kq : Fit Q) (h : Star P Q W F) (k : ∀ F1, P W F1 → Calls Tryz.prog f args W fun e W' => e = v ∧ Goes P' W W' F1) : Calls Tryz.prog f args W fun e W' => e = v ∧ Goes (Star P' Q) W W' F := by
  obtain ⟨F1, F2, a, b, d, e1, e2, o⟩ := h
  refine (k F1 a).mono fun e W' ⟨he, F3, q, c, n⟩ => ⟨he, fun i => F i ∨ F3 i, ⟨F3, F2, q, kq.cha b c (fun i x y => d i y x), fun i x y => ?_, fun i x => .inr x, fun i x => .inl (e2 i x), fun i x => ?_⟩, c.mono fun i _ x => e1 i x, fun i x => ?_⟩
  · rcases n i x with z | z
    · exact d i z y
    · have := o i (e2 i y); omega
  · rcases x with x | x
    · exact Nat.lt_of_lt_of_le (o i x) c.size
    · exact k'.old q i x
  · rcases x with x | x
    · exact .inl x
    · exact (n i x).imp (e1 i) id
theorem Star.stepR (kp : Fit P) (k' : Fit Q') (h : Star P Q W F) (k : ∀ F1, Q W F1 → Calls Tryz.prog f args W fun e W' => e = v ∧ Goes Q' W W' F1) : Calls Tryz.prog f args W fun e W' => e = v ∧ Goes (Star P Q') W W' F :=
  (Star.stepL k' kp h.swap k).mono fun _ _ ⟨a, b⟩ => ⟨a, b.mono fun _ q => q.swap⟩
theorem Star.lookL (fs : Fit (Star P Q)) (h : Star P Q W F) (k : ∀ F1, P W F1 → Calls Tryz.prog f args W fun e W' => e = v ∧ Cha (fun _ => False) W W') : Calls Tryz.prog f args W fun e W' => e = v ∧ Goes (Star P Q) W W' F := by
  have h' := h
  obtain ⟨F1, F2, a, b, d, e1, e2, o⟩ := h
  exact (k F1 a).mono fun _ _ ⟨x, c⟩ => ⟨x, .same fs h' c⟩
theorem Star.lookR (fs : Fit (Star P Q)) (h : Star P Q W F) (k : ∀ F1, Q W F1 → Calls Tryz.prog f args W fun e W' => e = v ∧ Cha (fun _ => False) W W') : Calls Tryz.prog f args W fun e W' => e = v ∧ Goes (Star P Q) W W' F := by
  have h' := h
  obtain ⟨F1, F2, a, b, d, e1, e2, o⟩ := h
  exact (k F2 b).mono fun _ _ ⟨x, c⟩ => ⟨x, .same fs h' c⟩
theorem Mine.step (h : Mine w0 P W) (k : ∀ F, P W F → Calls Tryz.prog f args W fun e W' => e = v ∧ Goes P' W W' F) : Calls Tryz.prog f args W fun e W' => e = v ∧ Mine w0 P' W' := by
  obtain ⟨F, q, c, n⟩ := h
  refine (k F q).mono fun e W' ⟨he, F2, q2, c2, n2⟩ => ⟨he, F2, q2, c.over c2 fun i hi => .inr (n i hi), fun i hi => ?_⟩
  rcases n2 i hi with e | e
  · exact n i e
  · exact Nat.le_trans c.size e
theorem Mine.look (fp : Fit P) (h : Mine w0 P W) (k : ∀ F, P W F → Calls Tryz.prog f args W fun e W' => e = v ∧ Cha (fun _ => False) W W') : Calls Tryz.prog f args W fun e W' => e = v ∧ Mine w0 P W' :=
  h.step fun F q => (k F q).mono fun _ _ ⟨a, c⟩ => ⟨a, .same fp q c⟩
end
theorem Mine.cha (h : Mine w0 P W) : Cha (fun _ => False) w0 W := by obtain ⟨_, _, c, _⟩ := h; exact c
theorem Mine.same (fp : Fit P) (h : Mine w0 P W) (c : Cha (fun _ => False) W W') : Mine w0 P W' := by
  obtain ⟨F, q, c1, n⟩ := h
  exact ⟨F, fp.same q c, c1.trans c, n⟩
theorem Mine.goes (h : Mine w0 P W) (k : ∀ F, P W F → Goes P' W W' F) : Mine w0 P' W' := by
  obtain ⟨F, q, c, n⟩ := h
  obtain ⟨F2, q2, c2, n2⟩ := k F q
  refine ⟨F2, q2, c.over c2 fun i hi => .inr (n i hi), fun i hi => ?_⟩
  rcases n2 i hi with e | e
  · exact n i e
  · exact Nat.le_trans c.size e
theorem Mine.before (c : Cha (fun _ => False) w0 W) (h : Mine W P W') : Mine w0 P W' := by
  obtain ⟨F, q, c1, n⟩ := h
  exact ⟨F, q, c.trans c1, fun i hi => Nat.le_trans c.size (n i hi)⟩
/-- Beside what has been made, more. -/
theorem Mine.star (fp : Fit P) (fq : Fit Q) (h : Mine w0 P W) (k : Mine W Q W') : Mine w0 (Star P Q) W' := by
  obtain ⟨F, p, c, n⟩ := h
  obtain ⟨U, q, c2, m⟩ := k
  exact ⟨fun i => F i ∨ U i, ⟨F, U, fp.same p c2, q, fun i x y => by have := fp.old p i x; have := m i y; omega, fun _ x => .inl x, fun _ x => .inr x, fun i x => x.elim (fun x => Nat.lt_of_lt_of_le (fp.old p i x) c2.size) (fq.old q i)⟩, c.trans c2, fun i x => x.elim (n i) fun y => Nat.le_trans c.size (m i y)⟩
end
/-- A block. -/
def Blk (b : Nat) (t : TypeId) (cs : Array Value) : Asn := fun w F => w.heap[b]? = some (.cells cs t (0, 0)) ∧ F b ∧ ∀ i, F i → i < w.heap.size
theorem fit_blk (b : Nat) (t : TypeId) (cs : Array Value) : Fit (Blk b t cs) :=
  ⟨fun ⟨h, f, o⟩ c hs => ⟨(c.old b (o b f) (hs b f)).trans h, f, fun i x => Nat.lt_of_lt_of_le (o i x) c.size⟩, fun ⟨_, _, o⟩ => o⟩
theorem blk_new (W : World) (cs : Array Value) (t : TypeId) : Mine W (Blk W.heap.size t cs) (W.alloc (.cells cs t)) :=
  ⟨fun i => i = W.heap.size, ⟨heap_alloc_new W _, rfl, fun i e => by subst e; show _ < (W.heap.push _).size; simp⟩, (Cha.refl _ W).alloc _, fun i e => by omega⟩
theorem Blk.cell {b : Nat} {t : TypeId} {cs : Array Value} {w : World} {F : Nat → Prop} (h : Blk b t cs w F) (i : Nat) : w.cell? ⟨b, i, none⟩ = cs[i]? := cell_of_row w b i cs t (0, 0) h.1
end Go.Proofs.YtaloafihbdamiaaGreat
