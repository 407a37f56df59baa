/- Both stacks beside one another; pairs of calls. -/
import Derived.Test.YteienclklmjhdaaYH
import Derived.Test.YteienclklmjhdaaQ
namespace Go.Proofs.Yteienclklmjhdaa
open Go.ChangeShapes Go.WideShapes Go.ChangeAt Go.RowKit
variable {w0 w w' W : World} {F U : Nat → Prop} {bs rs gb : Nat} {s t : St} {cs : Array Value}

/-- The program's stack at s, the document's at t. -/
structure Two (w0 w : World) (F U : Nat → Prop) (bs rs : Nat) (s t : St) : Prop where
  q : ∃ bw bm, Sk w F bs bw bm s
  r : ∃ vf A sl, Dk w U rs vf A sl t
  a : ∀ i, F i → ¬ U i
  c : Cha (fun _ => False) w0 w
  n1 : ∀ i, F i → w0.heap.size ≤ i
  n2 : ∀ i, U i → w0.heap.size ≤ i
/-- A block beside both. -/
structure Box (w : World) (F U : Nat → Prop) (gb : Nat) (cs : Array Value) : Prop where
  row : w.heap[gb]? = some (.cells cs 30 (0, 0))
  b1 : ¬ F gb
  b2 : ¬ U gb
def Both (w0 w : World) (bs rs gb : Nat) (cs : Array Value) (s t : St) : Prop := ∃ F U, Two w0 w F U bs rs s t ∧ Box w F U gb cs
def Duo (w0 w : World) (bs rs : Nat) (s t : St) : Prop := ∃ F U, Two w0 w F U bs rs s t
theorem Two.same (h : Two w0 w F U bs rs s t) (c : Cha (fun _ => False) w w') : Two w0 w' F U bs rs s t := by
  obtain ⟨⟨v1, v2, q⟩, ⟨u1, u2, u3, r⟩, a, c0, n1, n2⟩ := h
  exact ⟨⟨v1, v2, q.same c⟩, ⟨u1, u2, u3, r.same c⟩, a, c0.trans c, n1, n2⟩
theorem Box.same (b : Box w F U gb cs) (c : Cha (fun _ => False) w w') : Box w' F U gb cs := ⟨(c.old _ (Array.getElem?_eq_some_iff.1 b.row).1 (fun f => f)).trans b.row, b.b1, b.b2⟩
theorem Both.same (h : Both w0 w bs rs gb cs s t) (c : Cha (fun _ => False) w w') : Both w0 w' bs rs gb cs s t := by
  obtain ⟨F, U, T, b⟩ := h
  exact ⟨F, U, T.same c, b.same c⟩
theorem Both.cell (h : Both w0 w bs rs gb cs s t) (i : Nat) : w.cell? ⟨gb, i, none⟩ = cs[i]? := by
  obtain ⟨F, U, _, b⟩ := h
  exact cell_of_row w gb i cs 30 (0, 0) b.row
theorem Both.duo (h : Both w0 w bs rs gb cs s t) : Duo w0 w bs rs s t := by
  obtain ⟨F, U, T, _⟩ := h
  exact ⟨F, U, T⟩
theorem Duo.cha (h : Duo w0 w bs rs s t) : Cha (fun _ => False) w0 w := by obtain ⟨F, U, T⟩ := h; exact T.c
theorem Duo.same (h : Duo w0 w bs rs s t) (c : Cha (fun _ => False) w w') : Duo w0 w' bs rs s t := by obtain ⟨F, U, T⟩ := h; exact ⟨F, U, T.same c⟩
/-- A new block beside both. -/
theorem Duo.box (h : Duo w0 w bs rs s t) (cs : Array Value) : Both w0 (w.alloc (.cells cs 30)) bs rs w.heap.size cs s t := by
  obtain ⟨F, U, T⟩ := h
  obtain ⟨v1, v2, q⟩ := T.q
  obtain ⟨u1, u2, u3, r⟩ := T.r
  exact ⟨F, U, T.same ((Cha.refl _ w).alloc _), heap_alloc_new w _, fun e => Nat.lt_irrefl _ (q.old _ e), fun e => Nat.lt_irrefl _ (r.old _ e)⟩
/-- Behind a call to the program's. -/
theorem Two.left (h : Two w0 w F U bs rs s t) (b : Box w F U gb cs) {s' : St} (hk : Left w w' F bs s') : Both w0 w' bs rs gb cs s' t := by
  obtain ⟨⟨v1, v2, q⟩, ⟨u1, u2, u3, r⟩, a, c0, n1, n2⟩ := h
  obtain ⟨F', x1, x2, q', c, m⟩ := hk
  have hb := (Array.getElem?_eq_some_iff.1 b.row).1
  refine ⟨F', U, ⟨⟨x1, x2, q'⟩, ⟨u1, u2, u3, r.cha c (fun i hu hf => a i hf hu)⟩, fun i hi hu => ?_, c0.over c (fun i e => .inr (n1 i e)), fun i hi => ?_, n2⟩, ⟨(c.old _ hb b.b1).trans b.row, fun e => ?_, b.b2⟩⟩
  · rcases m _ hi with e | e
    · exact a i e hu
    · have := r.old i hu; omega
  · rcases m _ hi with e | e
    · exact n1 i e
    · exact Nat.le_trans c0.size e
  · rcases m _ e with e | e
    · exact b.b1 e
    · omega
/-- Behind a call to the document's. -/
theorem Two.right (h : Two w0 w F U bs rs s t) (b : Box w F U gb cs) {t' : St} (hk : DLeft w w' U rs t') : Both w0 w' bs rs gb cs s t' := by
  obtain ⟨⟨v1, v2, q⟩, ⟨u1, u2, u3, r⟩, a, c0, n1, n2⟩ := h
  obtain ⟨U', x1, x2, x3, r', c, m⟩ := hk
  have hb := (Array.getElem?_eq_some_iff.1 b.row).1
  refine ⟨F, U', ⟨⟨v1, v2, q.cha c (fun i hf hu => a i hf hu)⟩, ⟨x1, x2, x3, r'⟩, fun i hi hu => ?_, c0.over c (fun i e => .inr (n2 i e)), n1, fun i hi => ?_⟩, ⟨(c.old _ hb b.b2).trans b.row, b.b1, fun e => ?_⟩⟩
  · rcases m _ hu with e | e
    · exact a i hi e
    · have := q.old i hi; omega
  · rcases m _ hi with e | e
    · exact n2 i e
    · exact Nat.le_trans c0.size e
  · rcases m _ e with e | e
    · exact b.b2 e
    · omega
theorem Both.step {f : FuncId} {args : Array Value} {v : Ending} {s' : St} (h : Both w0 W bs rs gb cs s t) (k : ∀ F bw bm, Sk W F bs bw bm s → Calls Try.prog f args W fun e W' => e = v ∧ Left W W' F bs s') :
    Calls Try.prog f args W fun e W' => e = v ∧ Both w0 W' bs rs gb cs s' t := by
  obtain ⟨F, U, T, B⟩ := h
  obtain ⟨v1, v2, q⟩ := T.q
  exact (k F v1 v2 q).mono fun _ _ ⟨a, b⟩ => ⟨a, T.left B b⟩
theorem Both.dstep {f : FuncId} {args : Array Value} {v : Ending} {t' : St} (h : Both w0 W bs rs gb cs s t) (k : ∀ U vf A sl, Dk W U rs vf A sl t → Calls Try.prog f args W fun e W' => e = v ∧ DLeft W W' U rs t') :
    Calls Try.prog f args W fun e W' => e = v ∧ Both w0 W' bs rs gb cs s t' := by
  obtain ⟨F, U, T, B⟩ := h
  obtain ⟨u1, u2, u3, r⟩ := T.r
  exact (k U u1 u2 u3 r).mono fun _ _ ⟨a, b⟩ => ⟨a, T.right B b⟩
theorem Both.look {f : FuncId} {args : Array Value} {v : Ending} (h : Both w0 W bs rs gb cs s t) (k : ∀ F bw bm, Sk W F bs bw bm s → Calls Try.prog f args W fun e W' => e = v ∧ Cha (fun _ => False) W W') :
    Calls Try.prog f args W fun e W' => e = v ∧ Both w0 W' bs rs gb cs s t := by
  have h' := h
  obtain ⟨F, U, T, B⟩ := h
  obtain ⟨v1, v2, q⟩ := T.q
  exact (k F v1 v2 q).mono fun _ _ ⟨a, b⟩ => ⟨a, h'.same b⟩
theorem Both.dlook {f : FuncId} {args : Array Value} {v : Ending} (h : Both w0 W bs rs gb cs s t) (k : ∀ U vf A sl, Dk W U rs vf A sl t → Calls Try.prog f args W fun e W' => e = v ∧ Cha (fun _ => False) W W') :
    Calls Try.prog f args W fun e W' => e = v ∧ Both w0 W' bs rs gb cs s t := by
  have h' := h
  obtain ⟨F, U, T, B⟩ := h
  obtain ⟨u1, u2, u3, r⟩ := T.r
  exact (k U u1 u2 u3 r).mono fun _ _ ⟨a, b⟩ => ⟨a, h'.same b⟩
section
variable (h : Both w0 W bs rs gb cs s t)
include h
theorem b11 (a : Int) : Calls Try.prog 11 #[.pointer (some ⟨bs, 0, none⟩), .int .i64 a] W fun e W' => e = .returned (.int .i64 (s.pushR a).1) ∧ Both w0 W' bs rs gb cs (s.pushR a).2 t := h.step fun _ _ _ q => push_any q a
theorem b12 (a : Int) : Calls Try.prog 12 #[.pointer (some ⟨rs, 0, none⟩), .int .i64 a] W fun e W' => e = .returned (.int .i64 (t.pushR a).1) ∧ Both w0 W' bs rs gb cs s (t.pushR a).2 := h.dstep fun _ _ _ _ q => dpush_any q a
theorem b13 : Calls Try.prog 13 #[.pointer (some ⟨bs, 0, none⟩)] W fun e W' => e = .returned (.int .i64 s.popR.1) ∧ Both w0 W' bs rs gb cs s.popR.2 t := h.step fun _ _ _ q => pop_any q
theorem b14 : Calls Try.prog 14 #[.pointer (some ⟨rs, 0, none⟩)] W fun e W' => e = .returned (.int .i64 t.popR.1) ∧ Both w0 W' bs rs gb cs s t.popR.2 := h.dstep fun _ _ _ _ q => dpop_any q
theorem b15 (b i v : Int) (h0 : 0 ≤ v) (h1 : v ≤ 18446744073709551615) : Calls Try.prog 15 #[.pointer (some ⟨bs, 0, none⟩), .int .i64 b, .int .i64 i, .int .u64 v] W fun e W' => e = .returned (.int .i64 (s.set b i v).1) ∧ Both w0 W' bs rs gb cs (s.set b i v).2 t := h.step fun _ _ _ q => set_word q b i v h0 h1
theorem b16 (b i v : Int) (hb : b ≤ 9223372036854775807) (h0 : 0 ≤ v) (h1 : v ≤ 18446744073709551615) : Calls Try.prog 16 #[.pointer (some ⟨rs, 0, none⟩), .int .i64 b, .int .i64 i, .int .u64 v] W fun e W' => e = .returned (.int .i64 (t.set b i v).1) ∧ Both w0 W' bs rs gb cs s (t.set b i v).2 := h.dstep fun _ _ _ _ q => dset_any q b i v hb h0 h1
theorem b17 (b i c d : Int) : Calls Try.prog 17 #[.pointer (some ⟨bs, 0, none⟩), .int .i64 b, .int .i64 i, .int .i64 c, .int .i64 d] W fun e W' => e = .returned (.int .i64 (s.link b i c d).1) ∧ Both w0 W' bs rs gb cs (s.link b i c d).2 t := h.step fun _ _ _ q => link_any q b i c d
theorem b18 (b i c d : Int) (hb : b ≤ 9223372036854775807) (hc : c ≤ 9223372036854775807) : Calls Try.prog 18 #[.pointer (some ⟨rs, 0, none⟩), .int .i64 b, .int .i64 i, .int .i64 c, .int .i64 d] W fun e W' => e = .returned (.int .i64 (t.link b i c d).1) ∧ Both w0 W' bs rs gb cs s (t.link b i c d).2 := h.dstep fun _ _ _ _ q => dlink_any q b i c d hb hc
theorem b19 (b i v : Int) (h0 : 0 ≤ v) (h1 : v ≤ 18446744073709551615) : Calls Try.prog 19 #[.pointer (some ⟨bs, 0, none⟩), .int .i64 b, .int .i64 i, .int .u64 v] W fun e W' => e = .returned (.int .i64 (s.store b i v).1) ∧ Both w0 W' bs rs gb cs (s.store b i v).2 t := h.step fun _ _ _ q => store_word q b i v h0 h1
theorem b20 (b i v : Int) (hb : b ≤ 9223372036854775807) (h0 : 0 ≤ v) (h1 : v ≤ 18446744073709551615) : Calls Try.prog 20 #[.pointer (some ⟨rs, 0, none⟩), .int .i64 b, .int .i64 i, .int .u64 v] W fun e W' => e = .returned (.int .i64 (t.store b i v).1) ∧ Both w0 W' bs rs gb cs s (t.store b i v).2 := h.dstep fun _ _ _ _ q => dstore_any q b i v hb h0 h1
theorem b21 (b i : Int) : Calls Try.prog 21 #[.pointer (some ⟨bs, 0, none⟩), .int .i64 b, .int .i64 i] W fun e W' => e = .returned (wordV (s.get b i).1 (s.get b i).2) ∧ Both w0 W' bs rs gb cs s t := h.look fun _ _ _ q => get_any q b i
theorem b22 (b i : Int) (hb : b ≤ 9223372036854775807) : Calls Try.prog 22 #[.pointer (some ⟨rs, 0, none⟩), .int .i64 b, .int .i64 i] W fun e W' => e = .returned (wordV (t.get b i).1 (t.get b i).2) ∧ Both w0 W' bs rs gb cs s t := h.dlook fun _ _ _ _ q => dget_any q b i hb
theorem b23 (b i : Int) : Calls Try.prog 23 #[.pointer (some ⟨bs, 0, none⟩), .int .i64 b, .int .i64 i] W fun e W' => e = .returned (wordV (s.load b i).1 (s.load b i).2) ∧ Both w0 W' bs rs gb cs s t := h.look fun _ _ _ q => load_word q b i
theorem b24 (b i : Int) (hb : b ≤ 9223372036854775807) : Calls Try.prog 24 #[.pointer (some ⟨rs, 0, none⟩), .int .i64 b, .int .i64 i] W fun e W' => e = .returned (wordV (t.load b i).1 (t.load b i).2) ∧ Both w0 W' bs rs gb cs s t := h.dlook fun _ _ _ _ q => dload_any q b i hb
theorem b25 : Calls Try.prog 25 #[.pointer (some ⟨bs, 0, none⟩)] W fun e W' => e = .returned (.tuple #[.int .i64 (s.fs.length : Nat), .int .i64 (s.n : Nat), .int .i64 s.cop]) ∧ Both w0 W' bs rs gb cs s t := h.look fun _ _ _ q => counts_any q
theorem Both.heads : ∃ a c, W.cell? ⟨rs, 0, none⟩ = some (.slice a t.fs.length c) ∧ W.cell? ⟨rs, 1, none⟩ = some (.int .i64 (t.n : Nat)) ∧ W.cell? ⟨rs, 2, none⟩ = some (.int .i64 t.cop) := by
  obtain ⟨F, U, T, B⟩ := h
  obtain ⟨u1, u2, u3, r⟩ := T.r
  obtain ⟨a, c, e, _⟩ := r.open
  obtain ⟨c0, c1, c2, _⟩ := r.facts
  rw [e, r.len] at c0
  exact ⟨a, c, c0, c1, c2⟩
end
theorem duo_new (h : Cha (fun _ => False) w0 W) : Calls Try.prog 8 #[] W fun e W1 => ∃ bs, e = .returned (.pointer (some ⟨bs, 0, none⟩)) ∧ Calls Try.prog 9 #[] W1 fun e W2 => ∃ rs, e = .returned (.pointer (some ⟨rs, 0, none⟩)) ∧ Duo w0 W2 bs rs St.new St.new :=
  (new_any W).mono fun _ W1 ⟨bs, bw, bm, F, he, q, c, n⟩ => ⟨bs, he, (dnew_any W1).mono fun _ W2 ⟨rs, vf, A, sl, G, he2, r, c2, n2⟩ =>
    ⟨rs, he2, F, G, ⟨⟨bw, bm, q.same c2⟩, ⟨vf, A, sl, r⟩, fun i hi hu => by have := q.old i hi; have := n2 i hu; omega, (h.trans c).trans c2, fun i hi => Nat.le_trans h.size (n i hi), fun i hi => Nat.le_trans (h.trans c).size (n2 i hi)⟩⟩⟩
end Go.Proofs.Yteienclklmjhdaa
