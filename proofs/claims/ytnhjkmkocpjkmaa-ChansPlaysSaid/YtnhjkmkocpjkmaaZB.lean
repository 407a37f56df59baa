/- Both channels beside one another; pairs of calls. -/
import Derived.Test.YtnhjkmkocpjkmaaZA
namespace Go.Proofs.Ytnhjkmkocpjkmaa
open Go.ChangeShapes Go.WideShapes Go.ChangeAt Go.RowKit
variable {w0 w w' W : World} {F U : Nat → Prop} {bc bd gb : Nat} {s t : St} {cs : Array Value} {v : Value} {L : List Int}

/-- The program's channel at s, the document's at t. -/
structure Two (w0 w : World) (F U : Nat → Prop) (bc bd : Nat) (s t : St) : Prop where
  q : ∃ v1 v2 v3, Ch w F bc v1 v2 v3 s
  r : ∃ v1 v2 v3, Dc w U bd v1 v2 v3 t
  a : ∀ i, F i → ¬ U i
  c : Cha (fun _ => False) w0 w
  n1 : ∀ i, F i → w0.heap.size ≤ i
  n2 : ∀ i, U i → w0.heap.size ≤ i
/-- A block beside both. -/
structure Box (w : World) (F U : Nat → Prop) (gb : Nat) (cs : Array Value) : Prop where
  row : w.heap[gb]? = some (.cells cs 33 (0, 0))
  b1 : ¬ F gb
  b2 : ¬ U gb
def Both (w0 w : World) (bc bd gb : Nat) (cs : Array Value) (s t : St) : Prop := ∃ F U, Two w0 w F U bc bd s t ∧ Box w F U gb cs
theorem Two.same (h : Two w0 w F U bc bd s t) (c : Cha (fun _ => False) w w') : Two w0 w' F U bc bd s t := by
  obtain ⟨⟨v1, v2, v3, q⟩, ⟨u1, u2, u3, r⟩, a, c0, n1, n2⟩ := h
  exact ⟨⟨v1, v2, v3, q.same c⟩, ⟨u1, u2, u3, r.same c⟩, a, c0.trans c, n1, n2⟩
theorem Box.same (b : Box w F U gb cs) (c : Cha (fun _ => False) w w') : Box w' F U gb cs := ⟨(c.old _ (Array.getElem?_eq_some_iff.1 b.row).1 (fun f => f)).trans b.row, b.b1, b.b2⟩
theorem Both.same (h : Both w0 w bc bd gb cs s t) (c : Cha (fun _ => False) w w') : Both w0 w' bc bd gb cs s t := by
  obtain ⟨F, U, T, b⟩ := h
  exact ⟨F, U, T.same c, b.same c⟩
theorem Both.cell (h : Both w0 w bc bd gb cs s t) (i : Nat) : w.cell? ⟨gb, i, none⟩ = cs[i]? := by
  obtain ⟨F, U, _, b⟩ := h
  exact cell_of_row w gb i cs 33 (0, 0) b.row
/-- Behind a call to the program's. -/
theorem Two.left (h : Two w0 w F U bc bd s t) (b : Box w F U gb cs) {s' : St} (hk : Left w w' F bc s') : Both w0 w' bc bd gb cs s' t := by
  obtain ⟨⟨v1, v2, v3, q⟩, ⟨u1, u2, u3, r⟩, a, c0, n1, n2⟩ := h
  obtain ⟨F', x1, x2, x3, q', c, m⟩ := hk
  have hb := (Array.getElem?_eq_some_iff.1 b.row).1
  refine ⟨F', U, ⟨⟨x1, x2, x3, q'⟩, ⟨u1, u2, u3, r.cha c (fun i hu hf => a i hf hu)⟩, fun i hi hu => ?_, c0.over c (fun i e => .inr (n1 i e)), fun i hi => ?_, n2⟩, ⟨(c.old _ hb b.b1).trans b.row, fun e => ?_, b.b2⟩⟩
  · rcases m _ hi with e | e
    · exact a i e hu
    · have := r.old i hu; omega
  · rcases m _ hi with e | e
    · exact n1 i e
    · exact Nat.le_trans c0.size e
  · rcases m _ e with e | e
    · exact b.b1 e
    · omega
/-- Behind a call to the document's. -/
theorem Two.right (h : Two w0 w F U bc bd s t) (b : Box w F U gb cs) {t' : St} (hk : DLeft w w' U bd t') : Both w0 w' bc bd gb cs s t' := by
  obtain ⟨⟨v1, v2, v3, q⟩, ⟨u1, u2, u3, r⟩, a, c0, n1, n2⟩ := h
  obtain ⟨U', x1, x2, x3, r', c, m⟩ := hk
  have hb := (Array.getElem?_eq_some_iff.1 b.row).1
  refine ⟨F, U', ⟨⟨v1, v2, v3, q.cha c (fun i hf hu => a i hf hu)⟩, ⟨x1, x2, x3, r'⟩, fun i hi hu => ?_, c0.over c (fun i e => .inr (n2 i e)), n1, fun i hi => ?_⟩, ⟨(c.old _ hb b.b2).trans b.row, b.b1, fun e => ?_⟩⟩
  · rcases m _ hu with e | e
    · exact a i hi e
    · have := q.old i hi; omega
  · rcases m _ hi with e | e
    · exact n2 i e
    · exact Nat.le_trans c0.size e
  · rcases m _ e with e | e
    · exact b.b2 e
    · omega
/-- A list beside both. -/
def Pair (w0 w : World) (bc bd gb : Nat) (cs : Array Value) (v : Value) (L : List Int) (s t : St) : Prop := ∃ F U, Two w0 w F U bc bd s t ∧ Box w F U gb cs ∧ Lies intE w v L ∧ ∀ g, v.ownBlock = some g → ¬ U g
theorem Pair.both (h : Pair w0 w bc bd gb cs v L s t) : Both w0 w bc bd gb cs s t := by
  obtain ⟨F, U, T, b, _⟩ := h
  exact ⟨F, U, T, b⟩
theorem send_val (s : St) (id x : Int) (b : Bool) : (s.send id x b).1.val = 0 := by
  unfold St.send
  split
  · rfl
  · split
    · rfl
    · split <;> rfl
section
variable (h : Both w0 w bc bd gb cs s t)
include h
theorem b12 (id x : Int) (b : Bool) (hA : t.size < 8796093022208) :
    Calls Try.prog 12 #[.pointer (some ⟨bd, 0, none⟩), .int .i64 id, .int .u64 x, .bool b] w fun e w' => e = .returned (.tuple #[.int .i64 (t.send id x b).1.what, .int .i64 (t.send id x b).1.who]) ∧ Both w0 w' bc bd gb cs s (t.send id x b).2 := by
  obtain ⟨F, U, T, B⟩ := h
  obtain ⟨u1, u2, u3, r⟩ := T.r
  exact (dsend_any r id x b hA).mono fun e w' ⟨a, k⟩ => ⟨a, T.right B k⟩
theorem b13 (id x : Int) (b : Bool) (hA : s.size < 8796093022208) :
    Calls Try.prog 13 #[.pointer (some ⟨bc, 0, none⟩), .int .i64 id, .int .u64 x, .bool b] w fun e w' => e = .returned (s.send id x b).1.v ∧ Both w0 w' bc bd gb cs (s.send id x b).2 t := by
  obtain ⟨F, U, T, B⟩ := h
  obtain ⟨u1, u2, u3, q⟩ := T.q
  exact (send_any q id x b hA).mono fun e w' ⟨a, k⟩ => ⟨a, T.left B k⟩
theorem b14 (id : Int) (b : Bool) (hA : t.size < 8796093022208) :
    Calls Try.prog 14 #[.pointer (some ⟨bd, 0, none⟩), .int .i64 id, .bool b] w fun e w' => e = .returned (.tuple #[.int .i64 (t.recv id b).1.what, .int .i64 (t.recv id b).1.who, .int .u64 (t.recv id b).1.val]) ∧ Both w0 w' bc bd gb cs s (t.recv id b).2 := by
  obtain ⟨F, U, T, B⟩ := h
  obtain ⟨u1, u2, u3, r⟩ := T.r
  exact (drecv_any r id b hA).mono fun e w' ⟨a, k⟩ => ⟨a, T.right B k⟩
theorem b15 (id : Int) (b : Bool) (hA : s.size < 8796093022208) :
    Calls Try.prog 15 #[.pointer (some ⟨bc, 0, none⟩), .int .i64 id, .bool b] w fun e w' => e = .returned (s.recv id b).1.v ∧ Both w0 w' bc bd gb cs (s.recv id b).2 t := by
  obtain ⟨F, U, T, B⟩ := h
  obtain ⟨u1, u2, u3, q⟩ := T.q
  exact (recv_any q id b hA).mono fun e w' ⟨a, k⟩ => ⟨a, T.left B k⟩
theorem b16 (id x : Int) (b : Bool) (hA : s.size < 8796093022208) :
    Calls Try.prog 16 #[.pointer (some ⟨bc, 0, none⟩), .int .i64 id, .int .u64 x, .bool b] w fun e w' => e = .returned (.tuple #[]) ∧ Both w0 w' bc bd gb cs (s.queue id x b) t := by
  obtain ⟨F, U, T, B⟩ := h
  obtain ⟨u1, u2, u3, q⟩ := T.q
  exact (queue_any q id x b hA).mono fun e w' ⟨a, k⟩ => ⟨a, T.left B k⟩
theorem b17 (id x : Int) (b : Bool) (hA : t.size < 8796093022208) :
    Calls Try.prog 17 #[.pointer (some ⟨bd, 0, none⟩), .int .i64 id, .int .u64 x, .bool b] w fun e w' => e = .returned (.tuple #[]) ∧ Both w0 w' bc bd gb cs s (t.queue id x b) := by
  obtain ⟨F, U, T, B⟩ := h
  obtain ⟨u1, u2, u3, r⟩ := T.r
  cases b
  · exact (dqueue_rcv r id x hA).mono fun e w' ⟨a, k⟩ => ⟨a, T.right B k⟩
  · exact (dqueue_snd r id x hA).mono fun e w' ⟨a, k⟩ => ⟨a, T.right B k⟩
theorem b18 (hA : s.size < 8796093022208) :
    Calls Try.prog 18 #[.pointer (some ⟨bc, 0, none⟩)] w fun e w' => ∃ a n c, e = .returned (.tuple #[.slice a n c, .bool s.close.1.2]) ∧ Pair w0 w' bc bd gb cs (.slice a n c) s.close.1.1 s.close.2 t := by
  obtain ⟨F, U, T, B⟩ := h
  obtain ⟨u1, u2, u3, q⟩ := T.q
  by_cases hs : s.shut = true
  · have e : s.close = (([], false), s) := if_pos hs
    rw [e]
    exact (close_shut q hs).mono fun e w' ⟨a, b⟩ => ⟨_, _, _, a, F, U, b ▸ T, b ▸ B, Lies.nil _ _, fun g e => by cases e⟩
  · have hs2 : s.shut = false := by simpa using hs
    have e : s.close.1.2 = true := by unfold St.close; rw [if_neg hs]
    rw [e]
    refine (close_open q hs2 hA).mono fun e w' ⟨v, a, k1, k2, k3, k4⟩ => ?_
    obtain ⟨a', c', rfl, _⟩ := k3.form
    obtain ⟨x1, x2, x3, r⟩ := T.r
    have hb := (Array.getElem?_eq_some_iff.1 B.row).1
    exact ⟨_, _, _, a, F, U, ⟨⟨_, _, _, k1⟩, ⟨_, _, _, r.cha k2 fun i hu hf => T.a i hf hu⟩, T.a, T.c.over k2 (fun i e => .inr (T.n1 i e)), T.n1, T.n2⟩, ⟨(k2.old _ hb B.b1).trans B.row, B.b1, B.b2⟩, k3, fun g hg hu => by have := k4 g hg; have := r.old g hu; omega⟩
theorem b21 (id : Int) : Calls Try.prog 21 #[.pointer (some ⟨bc, 0, none⟩), .int .i64 id] w fun e w' => e = .returned (.tuple #[]) ∧ Both w0 w' bc bd gb cs (s.leave id) t := by
  obtain ⟨F, U, T, B⟩ := h
  obtain ⟨u1, u2, u3, q⟩ := T.q
  exact (leave_any q id).mono fun e w' ⟨a, k⟩ => ⟨a, T.left B k⟩
theorem b22 (id : Int) (hA : t.size < 8796093022208) : Calls Try.prog 22 #[.pointer (some ⟨bd, 0, none⟩), .int .i64 id] w fun e w' => e = .returned (.tuple #[]) ∧ Both w0 w' bc bd gb cs s (t.leave id) := by
  obtain ⟨F, U, T, B⟩ := h
  obtain ⟨u1, u2, u3, r⟩ := T.r
  exact (dleave_any r id hA).mono fun e w' ⟨a, k⟩ => ⟨a, T.right B k⟩
theorem b23 : Calls Try.prog 23 #[.pointer (some ⟨bc, 0, none⟩)] w fun e w' => e = .returned (.tuple #[.int .i64 (s.vals.length : Nat), .int .i64 (s.snds.length : Nat), .int .i64 (s.rcvs.length : Nat)]) ∧ Both w0 w' bc bd gb cs s t := by
  have h0 := h
  obtain ⟨F, U, T, B⟩ := h0
  obtain ⟨u1, u2, u3, q⟩ := T.q
  exact (counts_any q).mono fun e w' ⟨a, k⟩ => ⟨a, h.same k⟩
theorem b25 (hA : s.size < 8796093022208) : Calls Try.prog 25 #[.pointer (some ⟨bc, 0, none⟩)] w fun e w' => ∃ a n c, e = .returned (.slice a n c) ∧ Lies u64E w' (.slice a n c) s.values ∧ Cha (fun _ => False) w w' := by
  obtain ⟨F, U, T, B⟩ := h
  obtain ⟨u1, u2, u3, q⟩ := T.q
  refine (values_any q hA).mono fun e w' ⟨v, a, k⟩ => ?_
  obtain ⟨a', c', rfl, _⟩ := k.lies.form
  exact ⟨_, _, _, a, k.lies, k.cha⟩
theorem b26 (hA : t.size < 8796093022208) : Calls Try.prog 26 #[.pointer (some ⟨bd, 0, none⟩)] w fun e w' => ∃ a n c, e = .returned (.slice a n c) ∧ Lies u64E w' (.slice a n c) t.values ∧ Cha (fun _ => False) w w' := by
  obtain ⟨F, U, T, B⟩ := h
  obtain ⟨u1, u2, u3, r⟩ := T.r
  refine (dvalues_any r hA).mono fun e w' ⟨v, a, k⟩ => ?_
  obtain ⟨a', c', rfl, _⟩ := k.lies.form
  exact ⟨_, _, _, a, k.lies, k.cha⟩
theorem b27 : Calls Try.prog 27 #[.pointer (some ⟨bc, 0, none⟩)] w fun e w' => e = .returned (.bool s.shut) ∧ w = w' := by
  obtain ⟨F, U, T, B⟩ := h
  obtain ⟨u1, u2, u3, q⟩ := T.q
  exact closed_any q
theorem b28 (b : Bool) : Calls Try.prog 28 #[.pointer (some ⟨bc, 0, none⟩), .bool b] w fun e w' => e = .returned (.bool (s.ready b)) ∧ Cha (fun _ => False) w w' := by
  obtain ⟨F, U, T, B⟩ := h
  obtain ⟨u1, u2, u3, q⟩ := T.q
  exact ready_any q b
theorem b29 (b : Bool) : Calls Try.prog 29 #[.pointer (some ⟨bd, 0, none⟩), .bool b] w fun e w' => e = .returned (.bool (t.ready b)) ∧ Cha (fun _ => False) w w' := by
  obtain ⟨F, U, T, B⟩ := h
  obtain ⟨u1, u2, u3, r⟩ := T.r
  exact dready_any r b
/-- The document's head, wherever nothing of it changes. -/
theorem Both.heads : ∃ a1 c1 a2 c2 a3 c3, ∀ W, Cha (fun _ => False) w W → W.cell? ⟨bd, 0, none⟩ = some (.slice a1 t.vals.length c1) ∧ W.cell? ⟨bd, 2, none⟩ = some (.bool t.shut) ∧ W.cell? ⟨bd, 3, none⟩ = some (.slice a2 t.snds.length c2) ∧ W.cell? ⟨bd, 4, none⟩ = some (.slice a3 t.rcvs.length c3) := by
  obtain ⟨F, U, T, B⟩ := h
  obtain ⟨u1, u2, u3, r⟩ := T.r
  obtain ⟨a1, c1, e1⟩ := r.len1
  obtain ⟨a2, c2, e2⟩ := r.len2
  obtain ⟨a3, c3, e3⟩ := r.len3
  refine ⟨a1, c1, a2, c2, a3, c3, fun W c => ?_⟩
  have k := r.keeps (c.mono fun _ _ f => f.elim)
  have e2' : w.cell? ⟨bd, 2, none⟩ = some (.bool t.shut) := r.cell 2
  exact ⟨((k 0).1.trans (r.cell 0).symm).trans e1, ((k 2).1.trans (r.cell 2).symm).trans e2', ((k 3).1.trans (r.cell 3).symm).trans e2, ((k 4).1.trans (r.cell 4).symm).trans e3⟩
end
theorem b19 (h : Pair w0 w bc bd gb cs v L s t) (hA : t.size < 8796093022208) :
    Calls Try.prog 19 #[.pointer (some ⟨bd, 0, none⟩)] w fun e w' => ∃ a n c, e = .returned (.tuple #[.slice a n c, .bool t.close.1.2]) ∧ Lies intE w' v L ∧ Lies intE w' (.slice a n c) t.close.1.1 ∧ Both w0 w' bc bd gb cs s t.close.2 := by
  obtain ⟨F, U, T, B, l, n⟩ := h
  obtain ⟨u1, u2, u3, r⟩ := T.r
  by_cases hs : t.shut = true
  · have e : t.close = (([], false), t) := if_pos hs
    rw [e]
    exact (dclose_shut r hs).mono fun e w' ⟨a, b⟩ => ⟨_, _, _, a, b ▸ l, Lies.nil _ _, F, U, b ▸ T, b ▸ B⟩
  · have hs2 : t.shut = false := by simpa using hs
    have e : t.close.1.2 = true := by unfold St.close; rw [if_neg hs]
    rw [e]
    refine (dclose_open r hs2 hA).mono fun e w' ⟨v, a, k1, k2, k3, k4⟩ => ?_
    obtain ⟨a', c', rfl, _⟩ := k3.form
    exact ⟨_, _, _, a, l.cha k2 n, k3, T.right B ⟨U, _, _, _, k1, k2, fun i hi => .inl hi⟩⟩
/-- Both, with no block beside. -/
def Duo (w0 w : World) (bc bd : Nat) (s t : St) : Prop := ∃ F U, Two w0 w F U bc bd s t
theorem Both.duo (h : Both w0 w bc bd gb cs s t) : Duo w0 w bc bd s t := by
  obtain ⟨F, U, T, _⟩ := h
  exact ⟨F, U, T⟩
theorem Duo.same (h : Duo w0 w bc bd s t) (c : Cha (fun _ => False) w w') : Duo w0 w' bc bd s t := by
  obtain ⟨F, U, T⟩ := h
  exact ⟨F, U, T.same c⟩
theorem Duo.box (h : Duo w0 w bc bd s t) (cs : Array Value) : Both w0 (w.alloc (.cells cs 33)) bc bd w.heap.size cs s t := by
  obtain ⟨F, U, T⟩ := h
  obtain ⟨v1, v2, v3, q⟩ := T.q
  obtain ⟨u1, u2, u3, r⟩ := T.r
  exact ⟨F, U, T.same ((Cha.refl _ w).alloc _), heap_alloc_new w _, fun e => by have := q.old _ e; omega, fun e => by have := r.old _ e; omega⟩
theorem duo_new {n : Nat} (hn : n ≤ 16) : Duo w ((w.alloc (.cells #[.int .i64 (n : Int), .bool false, .slice none 0 0, .slice none 0 0, .slice none 0 0] 65)).alloc (.cells #[.slice none 0 0, .int .i64 (n : Int), .bool false, .slice none 0 0, .slice none 0 0] 53)) w.heap.size (w.heap.size + 1) (St.new n) (St.new n) := by
  have q := ch_new n w hn
  have r := dc_new n (w.alloc (.cells #[.int .i64 (n : Int), .bool false, .slice none 0 0, .slice none 0 0, .slice none 0 0] 65)) hn
  rw [World.size_alloc] at r
  refine ⟨_, _, ⟨_, _, _, q.same ((Cha.refl _ _).alloc _)⟩, ⟨_, _, _, r⟩, fun i e1 e2 => ?_, ((Cha.refl _ w).alloc _).alloc _, fun i e => ?_, fun i e => ?_⟩
  · have e1 : i = w.heap.size := e1
    have e2 : i = w.heap.size + 1 := e2
    omega
  · have e1 : i = w.heap.size := e
    omega
  · have e1 : i = w.heap.size + 1 := e
    omega
end Go.Proofs.Ytnhjkmkocpjkmaa
