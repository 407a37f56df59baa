/- A stack in memory. -/
import Derived.Test.YteienclklmjhdaaM
import Derived.Test.YteienclklmjhdaaP
import Derived.Deep.RegionLaw
import Derived.Deep.RegionWith
import Derived.Handy
namespace Go.Proofs.Yteienclklmjhdaa
open Go.ChangeShapes Go.WideShapes Go.ChangeAt Go.RowKit

/-- A word as a value. -/
def Wd.v (n : Nat) (x : Wd) : Value := .int .u64 (x.val n)
def St.cells (s : St) (bw bm : Nat) : Array Value := #[.slice (some ⟨bw, 0, none⟩) s.n s.n, .int .i64 ((s.n - pos s.fs : Nat) : Int), .map (some bm), .int .i64 (s.fs.length : Nat), .int .i64 s.cop]
/-- Is a place one that holds a reference? -/
def St.isPlace (s : St) (x : Nat) : Bool := decide (x < s.n) && decide (s.n ≤ x + pos s.fs) && (s.ct (s.n - x)).isRef
/-- The stack at bs is s, its words in bw, its references' places in bm; F: its blocks. -/
structure Sk (w : World) (F : Nat → Prop) (bs bw bm : Nat) (s : St) : Prop where
  head : w.heap[bs]? = some (.cells (s.cells bw bm) 57 (0, 0))
  row : ∃ r, FRow 28 w bw s.n r ∧ ∀ e, 1 ≤ e → e ≤ pos s.fs → r (s.n - e) = (s.ct e).v s.n
  map : SM w bm s.isPlace
  ok : Ok s
  ne : bs ≠ bw ∧ bs ≠ bm ∧ bw ≠ bm
  fs : F bs
  fw : F bw
  fm : F bm
  old : ∀ i, F i → i < w.heap.size
def Left (w w' : World) (F : Nat → Prop) (bs : Nat) (s : St) : Prop := ∃ F' bw bm, Sk w' F' bs bw bm s ∧ Cha F w w' ∧ ∀ i, F' i → F i ∨ w.heap.size ≤ i
section
variable {w w' w1 w2 W : World} {F F' : Nat → Prop} {bs bw bm : Nat} {s s' : St} {S : Nat → Prop}
theorem Sk.cha (h : Sk w F bs bw bm s) (c : Cha S w w') (hs : ∀ i, F i → ¬ S i) : Sk w' F bs bw bm s := by
  obtain ⟨r, r1, r2⟩ := h.row
  exact ⟨(c.old bs (h.old _ h.fs) (hs _ h.fs)).trans h.head, ⟨r, c.row r1 (hs _ h.fw), r2⟩, h.map.cha c (hs _ h.fm), h.ok, h.ne, h.fs, h.fw, h.fm, fun i hi => Nat.lt_of_lt_of_le (h.old i hi) c.size⟩
theorem Sk.same (h : Sk w F bs bw bm s) (c : Cha (fun _ => False) w w') : Sk w' F bs bw bm s := h.cha c fun _ _ f => f
theorem Sk.left (h : Sk w F bs bw bm s) (c : Cha (fun _ => False) w w') : Left w w' F bs s := ⟨F, bw, bm, h.same c, c.wide, fun _ h => .inl h⟩
theorem Left.trans (h : Left w w1 F bs s) (k : ∀ F1 bw bm, Sk w1 F1 bs bw bm s → Left w1 w2 F1 bs s') : Left w w2 F bs s' := by
  obtain ⟨F1, bw, bm, q, c, n⟩ := h
  obtain ⟨F2, bw2, bm2, q2, c2, n2⟩ := k F1 bw bm q
  refine ⟨F2, bw2, bm2, q2, c.over c2 n, fun i hi => ?_⟩
  rcases n2 i hi with e | e
  · exact n i e
  · exact .inr (Nat.le_trans c.size e)
theorem Left.same (h : Left w w1 F bs s) (c : Cha (fun _ => False) w1 w2) : Left w w2 F bs s := h.trans fun _ _ _ q => q.left c
theorem Left.before (c : Cha (fun _ => False) w w1) (h : Left w1 w2 F bs s) : Left w w2 F bs s := by
  obtain ⟨F1, bw, bm, q, c1, n⟩ := h
  exact ⟨F1, bw, bm, q, c.wide.trans c1, fun i hi => (n i hi).imp id fun e => Nat.le_trans c.size e⟩
theorem Sk.cell (h : Sk w F bs bw bm s) (i : Nat) : w.cell? ⟨bs, i, none⟩ = (s.cells bw bm)[i]? := cell_of_row w bs i _ 57 (0, 0) h.head
theorem Sk.free (h : Sk w F bs bw bm s) (i : Nat) : w.frozen? ⟨bs, i, none⟩ = false := frozen_of_row w bs i _ 57 h.head
theorem Sk.word (h : Sk w F bs bw bm s) {e : Nat} (h1 : 1 ≤ e) (h2 : e ≤ pos s.fs) : w.cell? ⟨bw, s.n - e, none⟩ = some ((s.ct e).v s.n) := by
  obtain ⟨r, r1, r2⟩ := h.row
  rw [r1.cell (by have := h.ok.n_le; omega), r2 e h1 h2]
theorem Sk.wfree (h : Sk w F bs bw bm s) (i : Nat) : w.frozen? ⟨bw, i, none⟩ = false := by
  obtain ⟨r, r1, r2⟩ := h.row
  exact r1.free i
end

section
variable {W : World} {F : Nat → Prop} {bs bw bm : Nat} {s : St}
theorem Sk.facts (h : Sk W F bs bw bm s) : W.cell? ⟨bs, 0, none⟩ = some (.slice (some ⟨bw, 0, none⟩) s.n s.n) ∧ W.cell? ⟨bs, 1, none⟩ = some (.int .i64 ((s.n - pos s.fs : Nat) : Int)) ∧ W.cell? ⟨bs, 2, none⟩ = some (.map (some bm)) ∧ W.cell? ⟨bs, 3, none⟩ = some (.int .i64 (s.fs.length : Nat)) ∧ W.cell? ⟨bs, 4, none⟩ = some (.int .i64 s.cop) := ⟨h.cell 0, h.cell 1, h.cell 2, h.cell 3, h.cell 4⟩
/-- A word at a place is read. -/
theorem load_any {n p : Nat} {v : Int} (c0 : W.cell? ⟨bs, 0, none⟩ = some (.slice (some ⟨bw, 0, none⟩) n n)) (hp : p < n) (hw : W.cell? ⟨bw, p, none⟩ = some (.int .u64 v)) (h0 : 0 ≤ v) (h1 : v ≤ 9223372036854775807) :
    Calls Try.prog 38 #[.pointer (some ⟨bs, 0, none⟩), .int .i64 (p : Int)] W fun e W' => e = .returned (.int .i64 v) ∧ W = W' := by
  have hv : IntKind.i64.wrap v = v := IntWalk.i64_in _ (by omega)
  go_enter Try.func38, Try.ntmps38
  go_wp2
  go_returns
  exact ⟨rfl, rfl⟩
theorem slots_any {n p : Nat} {v : Int} (c0 : W.cell? ⟨bs, 0, none⟩ = some (.slice (some ⟨bw, 0, none⟩) n n)) (hp : p < n) (hw : W.cell? ⟨bw, p, none⟩ = some (.int .u64 v)) (h0 : 0 ≤ v) (h1 : v ≤ 9223372036854775807) :
    Calls Try.prog 39 #[.pointer (some ⟨bs, 0, none⟩), .int .i64 (p : Int)] W fun e W' => e = .returned (.int .i64 v) ∧ W = W' := by
  have hv : IntKind.i64.wrap v = v := IntWalk.i64_in _ (by omega)
  go_enter Try.func39, Try.ntmps39
  go_wp2
  go_returns
  exact ⟨rfl, rfl⟩
theorem behind_any {n p : Nat} {v : Nat} (c0 : W.cell? ⟨bs, 0, none⟩ = some (.slice (some ⟨bw, 0, none⟩) n n)) (hn : n ≤ 4096) (hp : p < n) (hw : W.cell? ⟨bw, p, none⟩ = some (.int .u64 (v : Int))) (h1 : v ≤ 4096) :
    Calls Try.prog 31 #[.pointer (some ⟨bs, 0, none⟩), .int .i64 (p : Int)] W fun e W' => e = .returned (.int .i64 ((p + 1 + v : Nat) : Int)) ∧ W = W' := by
  have C := Lib.hid (slots_any c0 hp hw (by omega) (by omega))
  go_enter Try.func31, Try.ntmps31
  go_wp2_with (go_at_call 39; ((with_reducible refine (C.out).mono ?_); rintro e w1 ⟨rfl, rfl⟩))
  go_returns
  exact ⟨rfl, rfl⟩
end
end Go.Proofs.Yteienclklmjhdaa
