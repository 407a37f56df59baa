/- A channel in memory. -/
import Derived.Test.YtnhjkmkocpjkmaaA
import Derived.Test.YtnhjkmkocpjkmaaP
import Derived.Deep.RegionLaw
import Derived.Deep.RegionWith
import Derived.Handy
namespace Go.Proofs.Ytnhjkmkocpjkmaa
open Go.ChangeShapes Go.WideShapes Go.ChangeAt Go.RowKit

/-- Words, ids, those who wait to send. -/
def u64E : Enc Int := ⟨50, 31, 1, 8, .int .u64 0, fun x => [.int .u64 x]⟩
def intE : Enc Int := ⟨43, 3, 1, 8, .int .i64 0, fun x => [.int .i64 x]⟩
def sndE : Enc Snd := ⟨63, 73, 2, 16, .agg #[.int .i64 0, .int .u64 0], fun a => [.int .i64 a.id, .int .u64 a.val]⟩
theorem u64E_ok : u64E.Ok := ⟨Try.underlying50, by kernel_rfl, rfl, by decide, fun _ => rfl, fun a u h => by simp [u64E] at h; subst h; rfl⟩
theorem intE_ok : intE.Ok := ⟨Try.underlying43, by kernel_rfl, rfl, by decide, fun _ => rfl, fun a u h => by simp [intE] at h; subst h; rfl⟩
theorem sndE_ok : sndE.Ok := ⟨Try.underlying63, by kernel_rfl, rfl, by decide, fun _ => rfl, fun a u h => by simp [sndE] at h; rcases h with rfl | rfl <;> rfl⟩

def Res.v (r : Res) : Value := .agg #[.int .i64 r.what, .int .i64 r.who, .int .u64 r.val]
def St.cells (s : St) (v1 v2 v3 : Value) : Array Value := #[.int .i64 (s.cap : Nat), .bool s.shut, v1, v2, v3]
/-- The channel at bc is s; F: its blocks. -/
structure Ch (w : World) (F : Nat → Prop) (bc : Nat) (v1 v2 v3 : Value) (s : St) : Prop where
  head : w.heap[bc]? = some (.cells (s.cells v1 v2 v3) 65 (0, 0))
  l1 : Lies u64E w v1 s.vals
  l2 : Lies sndE w v2 s.snds
  l3 : Lies intE w v3 s.rcvs
  fc : F bc
  f1 : ∀ g, v1.ownBlock = some g → F g ∧ g ≠ bc
  f2 : ∀ g, v2.ownBlock = some g → F g ∧ g ≠ bc
  f3 : ∀ g, v3.ownBlock = some g → F g ∧ g ≠ bc
  d12 : ∀ g, v1.ownBlock = some g → v2.ownBlock ≠ some g
  d13 : ∀ g, v1.ownBlock = some g → v3.ownBlock ≠ some g
  d23 : ∀ g, v2.ownBlock = some g → v3.ownBlock ≠ some g
  old : ∀ i, F i → i < w.heap.size
  c16 : s.cap ≤ 16
def Left (w w' : World) (F : Nat → Prop) (bc : Nat) (s : St) : Prop := ∃ F' v1 v2 v3, Ch w' F' bc v1 v2 v3 s ∧ Cha F w w' ∧ ∀ i, F' i → F i ∨ w.heap.size ≤ i
section
variable {w w' w1 w2 : World} {F F' : Nat → Prop} {bc : Nat} {v1 v2 v3 v : Value} {s s' : St} {S : Nat → Prop}
theorem Ch.cha (h : Ch w F bc v1 v2 v3 s) (c : Cha S w w') (hs : ∀ i, F i → ¬ S i) : Ch w' F bc v1 v2 v3 s :=
  ⟨(c.old bc (h.old _ h.fc) (hs _ h.fc)).trans h.head, h.l1.cha c fun g hg => hs g (h.f1 g hg).1, h.l2.cha c fun g hg => hs g (h.f2 g hg).1, h.l3.cha c fun g hg => hs g (h.f3 g hg).1, h.fc, h.f1, h.f2, h.f3, h.d12, h.d13, h.d23, fun i hi => Nat.lt_of_lt_of_le (h.old i hi) c.size, h.c16⟩
theorem Ch.same (h : Ch w F bc v1 v2 v3 s) (c : Cha (fun _ => False) w w') : Ch w' F bc v1 v2 v3 s := h.cha c fun _ _ f => f
theorem Ch.left (h : Ch w F bc v1 v2 v3 s) (c : Cha (fun _ => False) w w') : Left w w' F bc s := ⟨F, v1, v2, v3, h.same c, c.wide, fun _ h => .inl h⟩
theorem Left.trans (h : Left w w1 F bc s) (k : ∀ F1 v1 v2 v3, Ch w1 F1 bc v1 v2 v3 s → Left w1 w2 F1 bc s') : Left w w2 F bc s' := by
  obtain ⟨F1, v1, v2, v3, q, c, n⟩ := h
  obtain ⟨F2, u1, u2, u3, q2, c2, n2⟩ := k F1 v1 v2 v3 q
  refine ⟨F2, u1, u2, u3, q2, c.over c2 n, fun i hi => ?_⟩
  rcases n2 i hi with e | e
  · exact n i e
  · exact .inr (Nat.le_trans c.size e)
theorem Left.same (h : Left w w1 F bc s) (c : Cha (fun _ => False) w1 w2) : Left w w2 F bc s := h.trans fun _ _ _ _ q => q.left c
theorem Left.before (c : Cha (fun _ => False) w w1) (h : Left w1 w2 F bc s) : Left w w2 F bc s := by
  obtain ⟨F1, v1, v2, v3, q, c1, n⟩ := h
  exact ⟨F1, v1, v2, v3, q, c.wide.trans c1, fun i hi => (n i hi).imp id fun e => Nat.le_trans c.size e⟩
theorem Ch.cell (h : Ch w F bc v1 v2 v3 s) (i : Nat) : w.cell? ⟨bc, i, none⟩ = (s.cells v1 v2 v3)[i]? := cell_of_row w bc i _ 65 (0, 0) h.head
theorem Ch.free (h : Ch w F bc v1 v2 v3 s) (i : Nat) : w.frozen? ⟨bc, i, none⟩ = false := frozen_of_row w bc i _ 65 h.head
/-- The head, wherever something else changes. -/
theorem Ch.keeps (h : Ch w F bc v1 v2 v3 s) (c : Cha (fun i => i ≠ bc) w w') (i : Nat) : w'.cell? ⟨bc, i, none⟩ = (s.cells v1 v2 v3)[i]? ∧ w'.frozen? ⟨bc, i, none⟩ = false := by
  have e := (c.old bc (h.old _ h.fc) (fun e => e rfl)).trans h.head
  exact ⟨cell_of_row w' bc i _ 65 (0, 0) e, frozen_of_row w' bc i _ 65 e⟩

theorem heap_at {bc i : Nat} {v : Value} {cs : Array Value} {t : TypeId} {w W : World} (hw : w.heap[bc]? = some (.cells cs t (0, 0))) (hW : W.heap[bc]? = some (.cells cs t (0, 0))) :
    (W.setCell ⟨bc, i, none⟩ v).heap[bc]? = (w.setCell ⟨bc, i, none⟩ v).heap[bc]? := by
  rw [heap_setCell_same W bc i cs t v hW, heap_setCell_same w bc i cs t v hw]
variable {W : World} {u1 u2 u3 : Value}
theorem Ch.upd (h : Ch w F bc v1 v2 v3 s) (hh : W.heap[bc]? = some (.cells (s'.cells u1 u2 u3) 65 (0, 0))) (c : Cha F w W) (l1 : Lies u64E W u1 s'.vals) (l2 : Lies sndE W u2 s'.snds) (l3 : Lies intE W u3 s'.rcvs)
    (n1 : ∀ g, u1.ownBlock = some g → v1.ownBlock = some g ∨ w.heap.size ≤ g) (n2 : ∀ g, u2.ownBlock = some g → v2.ownBlock = some g ∨ w.heap.size ≤ g) (n3 : ∀ g, u3.ownBlock = some g → v3.ownBlock = some g ∨ w.heap.size ≤ g)
    (d12 : ∀ g, u1.ownBlock = some g → u2.ownBlock ≠ some g) (d13 : ∀ g, u1.ownBlock = some g → u3.ownBlock ≠ some g) (d23 : ∀ g, u2.ownBlock = some g → u3.ownBlock ≠ some g) (h16 : s'.cap ≤ 16) : Left w W F bc s' := by
  have hb := h.old _ h.fc
  refine ⟨fun i => F i ∨ u1.ownBlock = some i ∨ u2.ownBlock = some i ∨ u3.ownBlock = some i, u1, u2, u3, ⟨hh, l1, l2, l3, .inl h.fc, fun g e => ⟨.inr (.inl e), ?_⟩, fun g e => ⟨.inr (.inr (.inl e)), ?_⟩, fun g e => ⟨.inr (.inr (.inr e)), ?_⟩, d12, d13, d23, fun i hi => ?_, h16⟩, c, fun i hi => ?_⟩
  · rcases n1 g e with e | e
    · exact (h.f1 g e).2
    · omega
  · rcases n2 g e with e | e
    · exact (h.f2 g e).2
    · omega
  · rcases n3 g e with e | e
    · exact (h.f3 g e).2
    · omega
  · rcases hi with hi | hi | hi | hi
    · exact Nat.lt_of_lt_of_le (h.old i hi) c.size
    · exact l1.lt hi
    · exact l2.lt hi
    · exact l3.lt hi
  · rcases hi with hi | hi | hi | hi
    · exact .inl hi
    · exact (n1 i hi).imp (fun e => (h.f1 i e).1) id
    · exact (n2 i hi).imp (fun e => (h.f2 i e).1) id
    · exact (n3 i hi).imp (fun e => (h.f3 i e).1) id
theorem Ch.put1 (h : Ch w F bc v1 v2 v3 s) (hh : W.heap[bc]? = (w.setCell ⟨bc, 2, none⟩ v).heap[bc]?) (c : Cha (fun i => i = bc ∨ v1.ownBlock = some i) w W) {A : List Int} (l : Lies u64E W v A) (hn : ∀ g, v.ownBlock = some g → v1.ownBlock = some g ∨ w.heap.size ≤ g) :
    Left w W F bc { s with vals := A } := by
  have o2 : ∀ g, v2.ownBlock = some g → g < w.heap.size := fun g e => h.old _ (h.f2 g e).1
  have o3 : ∀ g, v3.ownBlock = some g → g < w.heap.size := fun g e => h.old _ (h.f3 g e).1
  refine h.upd (u1 := v) (u2 := v2) (u3 := v3) (hh.trans (heap_setCell_same w bc 2 _ 65 v h.head)) (c.mono fun i _ e => e.elim (fun e => e ▸ h.fc) fun e => (h.f1 i e).1) l (h.l2.cha c fun g hg e => e.elim (h.f2 g hg).2 fun e => h.d12 g e hg) (h.l3.cha c fun g hg e => e.elim (h.f3 g hg).2 fun e => h.d13 g e hg) hn (fun _ e => .inl e) (fun _ e => .inl e) (fun g hg e => ?_) (fun g hg e => ?_) h.d23 h.c16
  · rcases hn g hg with e2 | e2
    · exact h.d12 g e2 e
    · have := o2 g e; omega
  · rcases hn g hg with e2 | e2
    · exact h.d13 g e2 e
    · have := o3 g e; omega
theorem Ch.put2 (h : Ch w F bc v1 v2 v3 s) (hh : W.heap[bc]? = (w.setCell ⟨bc, 3, none⟩ v).heap[bc]?) (c : Cha (fun i => i = bc ∨ v2.ownBlock = some i) w W) {A : List Snd} (l : Lies sndE W v A) (hn : ∀ g, v.ownBlock = some g → v2.ownBlock = some g ∨ w.heap.size ≤ g) :
    Left w W F bc { s with snds := A } := by
  have o1 : ∀ g, v1.ownBlock = some g → g < w.heap.size := fun g e => h.old _ (h.f1 g e).1
  have o3 : ∀ g, v3.ownBlock = some g → g < w.heap.size := fun g e => h.old _ (h.f3 g e).1
  refine h.upd (u1 := v1) (u2 := v) (u3 := v3) (hh.trans (heap_setCell_same w bc 3 _ 65 v h.head)) (c.mono fun i _ e => e.elim (fun e => e ▸ h.fc) fun e => (h.f2 i e).1) (h.l1.cha c fun g hg e => e.elim (h.f1 g hg).2 fun e => h.d12 g hg e) l (h.l3.cha c fun g hg e => e.elim (h.f3 g hg).2 fun e => h.d23 g e hg) (fun _ e => .inl e) hn (fun _ e => .inl e) (fun g hg e => ?_) h.d13 (fun g hg e => ?_) h.c16
  · rcases hn g e with e2 | e2
    · exact h.d12 g hg e2
    · have := o1 g hg; omega
  · rcases hn g hg with e2 | e2
    · exact h.d23 g e2 e
    · have := o3 g e; omega
theorem Ch.put3 (h : Ch w F bc v1 v2 v3 s) (hh : W.heap[bc]? = (w.setCell ⟨bc, 4, none⟩ v).heap[bc]?) (c : Cha (fun i => i = bc ∨ v3.ownBlock = some i) w W) {A : List Int} (l : Lies intE W v A) (hn : ∀ g, v.ownBlock = some g → v3.ownBlock = some g ∨ w.heap.size ≤ g) :
    Left w W F bc { s with rcvs := A } := by
  have o1 : ∀ g, v1.ownBlock = some g → g < w.heap.size := fun g e => h.old _ (h.f1 g e).1
  have o2 : ∀ g, v2.ownBlock = some g → g < w.heap.size := fun g e => h.old _ (h.f2 g e).1
  refine h.upd (u1 := v1) (u2 := v2) (u3 := v) (hh.trans (heap_setCell_same w bc 4 _ 65 v h.head)) (c.mono fun i _ e => e.elim (fun e => e ▸ h.fc) fun e => (h.f3 i e).1) (h.l1.cha c fun g hg e => e.elim (h.f1 g hg).2 fun e => h.d13 g hg e) (h.l2.cha c fun g hg e => e.elim (h.f2 g hg).2 fun e => h.d23 g hg e) l (fun _ e => .inl e) (fun _ e => .inl e) hn h.d12 (fun g hg e => ?_) (fun g hg e => ?_) h.c16
  · rcases hn g e with e2 | e2
    · exact h.d13 g hg e2
    · have := o1 g hg; omega
  · rcases hn g e with e2 | e2
    · exact h.d23 g hg e2
    · have := o2 g hg; omega
end
/-- Where a list's head goes. -/
def tailV (g o n cap k : Nat) : Value := .slice (some ⟨g, if cap = 1 then o else o + k, none⟩) (n - 1) (cap - 1)
theorem tailV_own (g o n cap k : Nat) : (tailV g o n cap k).ownBlock = some g := rfl

section
variable {w : World} {p : Addr} {g o n cap : Nat} {x y : Int}
theorem take8_any (hp : w.cell? p = some (.slice (some ⟨g, o, none⟩) n cap)) (hf : w.frozen? p = false) (hn : 0 < n) (hc : n ≤ cap) (hm : cap ≤ maxLen) (hx : w.cell? ⟨g, o, none⟩ = some (.int .u64 x)) :
    Calls Try.prog 39 #[.pointer (some p)] w fun e w' => e = .returned (.int .u64 x) ∧ w' = w.setCell p (tailV g o n cap 1) := by
  unfold maxLen at hm
  by_cases h1 : cap = 1
  · subst h1
    obtain rfl : n = 1 := by omega
    go_enter Try.func39, Try.ntmps39
    go_wp2
    go_ret
    exact ⟨rfl, rfl⟩
  · have e : tailV g o n cap 1 = .slice (some ⟨g, o + 1, none⟩) (n - 1) (cap - 1) := by unfold tailV; rw [if_neg h1]
    rw [e]
    go_enter Try.func39, Try.ntmps39
    go_wp2
    go_ret
    exact ⟨rfl, rfl⟩
theorem takeI_any (hp : w.cell? p = some (.slice (some ⟨g, o, none⟩) n cap)) (hf : w.frozen? p = false) (hn : 0 < n) (hc : n ≤ cap) (hm : cap ≤ maxLen) (hx : w.cell? ⟨g, o, none⟩ = some (.int .i64 x)) :
    Calls Try.prog 31 #[.pointer (some p)] w fun e w' => e = .returned (.int .i64 x) ∧ w' = w.setCell p (tailV g o n cap 1) := by
  unfold maxLen at hm
  by_cases h1 : cap = 1
  · subst h1
    obtain rfl : n = 1 := by omega
    go_enter Try.func31, Try.ntmps31
    go_wp2
    go_ret
    exact ⟨rfl, rfl⟩
  · have e : tailV g o n cap 1 = .slice (some ⟨g, o + 1, none⟩) (n - 1) (cap - 1) := by unfold tailV; rw [if_neg h1]
    rw [e]
    go_enter Try.func31, Try.ntmps31
    go_wp2
    go_ret
    exact ⟨rfl, rfl⟩
end
end Go.Proofs.Ytnhjkmkocpjkmaa
