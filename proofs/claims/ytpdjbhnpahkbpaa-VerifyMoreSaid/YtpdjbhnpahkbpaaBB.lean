/- The document's writer: a word's bytes. -/
import Derived.Test.YtpdjbhnpahkbpaaI
import Derived.Test.YtpdjbhnpahkbpaaW
import Derived.Deep.AppendLies
import Derived.Deep.RegionLaw
namespace Go.Proofs.Ytpdjbhnpahkbpaa
set_option linter.unusedVariables false
open Go.ChangeShapes Go.WideShapes Go.ChangeAt Go.RowKit
section
variable {W : World}
set_option maxRecDepth 100000 in
/-- The document's Word: a number's bytes, in new memory. -/
theorem docword_any (n : Nat) (hb : n < 18446744073709551616) :
    Calls Try.prog 53 #[.int .u64 (n : Int)] W (fun e w' => ∃ v, e = .returned v ∧ w'.ownsRow W.heap.size 5 1 v (digs n).length (bz (digs n)) ∧ Cha (fun _ => False) W w') := by
  have hl10 := digs_len10 hb
  obtain ⟨i0, hi, hz0, hz1, hz2⟩ := info_parts info5
  go_enter Try.func53, Try.ntmps53
  go_wp2
  go_loopw [0, 3] (fun x l wr => ∃ (k : Nat) (T' : List Nat), x = .int .u64 (k : Int) ∧ k ≤ n ∧ T' ++ digs k = digs n ∧ wr.ownsRow W.heap.size 5 1 l T'.length (bz T') ∧ Cha (fun _ => False) W wr) (fun x _ _ => (intOf x).toNat)
  case atStart => exact ⟨n, [], rfl, by omega, rfl, World.ownsRow_nil _ _ _ _, Cha.refl _ _⟩
  case round =>
    obtain ⟨k, T', rfl, hk, ht, hO, hC⟩ := hrel
    have hlen : T'.length + (digs k).length = (digs n).length := by
      have := congrArg List.length ht
      simpa using this
    have hk10 := digs_pos k
    obtain ⟨va, vc, rfl⟩ := own_shape hO
    have O := Lib.hid hO
    have HC := Lib.hid hC
    have HT := Lib.hid ht
    have HB : Hid (W.heap.size ≤ wr.heap.size) := Lib.hid hC.size
    have hT' : T'.length ≤ 1000000009 := by omega
    clear hO hC ht hlen
    by_cases c : k < 128
    · have hx : IntKind.u8.wrap (k : Int) = (k : Int) := by rw [IntKind.wrap_u8]; omega
      have hd : ¬ (128 : Int) ≤ (k : Int) := by omega
      go_wp2_with (at_builtin; refine wpList_append_where _ rfl _ _ 27 rfl W.heap.size 5 i0 (.int .u8 0) 1 1 Try.underlying27 hi hz0 hz1 hz2 rfl (by decide) _ _ _ rfl (O.out.alloc _) ⟨wr.heap.size, 0, none⟩ 1 1 [.int .u8 (k : Int)] rfl rfl (one_new _ _ _) (one_byte _) (by unfold maxLen; omega) (by omega) (by rw [World.size_alloc]; have := HB.out; omega) ?_; intro v' w6 hown hg hw; obtain ⟨a6, k6, rfl⟩ := own_shape hown; have c3 : Cha (fun i => W.heap.size ≤ i) wr w6 := ((Cha.refl _ wr).alloc _).trans (Cha.of_grownBy hg (fun j e => (O.out.lt j e).1)); have O6 := Lib.hid hown; have HC6 := Lib.hid (HC.out.over c3 (fun i e => .inr e)); clear hown hg hw c3)
      go_ret
      refine ⟨_, rfl, ?_, HC6.out⟩
      have h := O6.out
      have e : digs n = T' ++ [k] := by rw [← HT.out, digs_lo c]
      rw [e, bz_snoc, List.length_append]
      exact h
    · have hd : (128 : Int) ≤ (k : Int) := by omega
      obtain ⟨y, hy⟩ : ∃ y : Nat, y = k % 128 + 128 := ⟨_, rfl⟩
      have hw8 : IntKind.u64.wrap ((k : Int) % 128 + 128) = (y : Int) := by rw [IntKind.wrap_u64]; omega
      have hx : IntKind.u8.wrap (y : Int) = (y : Int) := by rw [IntKind.wrap_u8]; omega
      have HY := Lib.hid hy
      clear hy
      go_wp2_with (at_builtin; refine wpList_append_where _ rfl _ _ 27 rfl W.heap.size 5 i0 (.int .u8 0) 1 1 Try.underlying27 hi hz0 hz1 hz2 rfl (by decide) _ _ _ rfl (O.out.alloc _) ⟨wr.heap.size, 0, none⟩ 1 1 [.int .u8 (y : Int)] rfl rfl (one_new _ _ _) (one_byte _) (by unfold maxLen; omega) (by omega) (by rw [World.size_alloc]; have := HB.out; omega) ?_; intro v' w6 hown hg hw; obtain ⟨a6, k6, rfl⟩ := own_shape hown; have c3 : Cha (fun i => W.heap.size ≤ i) wr w6 := ((Cha.refl _ wr).alloc _).trans (Cha.of_grownBy hg (fun j e => (O.out.lt j e).1)); have O6 := Lib.hid hown; have HC6 := Lib.hid (HC.out.over c3 (fun i e => .inr e)); clear hown hg hw c3)
      go_roundw
      case rel => exact ⟨k / 128, T' ++ [y], by go_num, by omega, by rw [← HT.out, digs_hi c, HY.out]; simp, by rw [bz_snoc, List.length_append]; exact O6.out, HC6.out⟩
      case measure => simp [intOf]; omega
end
end Go.Proofs.Ytpdjbhnpahkbpaa

namespace Go.Proofs.Ytpdjbhnpahkbpaa
set_option linter.unusedVariables false
open Go.ChangeShapes Go.WideShapes Go.ChangeAt Go.RowKit

/-- The document's writer at block bw: its bytes, its fault; F: its blocks. -/
structure Wd (B : Nat) (F : Nat → Prop) (W : World) (bw : Nat) (T : List Nat) (e : Int) : Prop where
  head : ∃ v, W.heap[bw]? = some (.cells #[v, .int .i64 e] 74 (0, 0)) ∧ W.ownsRow B 5 1 v T.length (bz T) ∧ ∀ g, v.ownBlock = some g → F g ∧ g ≠ bw
  fb : F bw
  lt : ∀ i, F i → i < W.heap.size
  ge : ∀ i, F i → B ≤ i
section
variable {B bw x : Nat} {F F' S : Nat → Prop} {W W' w6 : World} {T : List Nat} {e : Int} {v v' : Value} {o : Obj}
theorem Wd.cha (h : Wd B F W bw T e) (c : Cha S W W') (hs : ∀ i, F i → ¬ S i) : Wd B F W' bw T e := by
  obtain ⟨v, h1, h2, h3⟩ := h.head
  exact ⟨⟨v, (c.old bw (h.lt bw h.fb) (hs bw h.fb)).trans h1, own_but h2 c fun g hg => hs g (h3 g hg).1, h3⟩, h.fb, fun i hi => Nat.lt_of_lt_of_le (h.lt i hi) c.size, h.ge⟩
theorem Wd.same (h : Wd B F W bw T e) (c : Cha (fun _ => False) W W') : Wd B F W' bw T e := h.cha c fun _ _ f => f
theorem Wd.alloc (h : Wd B F W bw T e) (o : Obj) : Wd B F (W.alloc o) bw T e := h.same ((Cha.refl _ W).alloc o)
theorem Wd.err (h : Wd B F W bw T e) : W.cell? ⟨bw, 1, none⟩ = some (.int .i64 e) := by
  obtain ⟨v, h1, _⟩ := h.head
  exact cell_of_row W bw 1 _ 74 (0, 0) h1
theorem Wd.free (h : Wd B F W bw T e) (i : Nat) : W.frozen? ⟨bw, i, none⟩ = false := by
  obtain ⟨v, h1, _⟩ := h.head
  exact frozen_of_row W bw i _ 74 h1
/-- The fault is set. -/
theorem Wd.fail (h : Wd B F W bw T e) (e' : Int) : Wd B F (W.setCell ⟨bw, 1, none⟩ (.int .i64 e')) bw T e' ∧ Mv F W F (W.setCell ⟨bw, 1, none⟩ (.int .i64 e')) := by
  obtain ⟨v, h1, h2, h3⟩ := h.head
  have c : Cha (fun i => i = bw) W (W.setCell ⟨bw, 1, none⟩ (.int .i64 e')) := (Cha.refl (fun i => i = bw) W).setCell (p := ⟨bw, 1, none⟩) (fun _ => rfl) _
  have e1 := heap_setCell_same W bw 1 _ 74 (.int .i64 e') h1
  exact ⟨⟨⟨v, e1, own_but h2 c fun g hg => (h3 g hg).2, h3⟩, h.fb, fun i hi => Nat.lt_of_lt_of_le (h.lt i hi) c.size, h.ge⟩, ⟨c.mono fun i _ hi => by have e : i = bw := hi; rw [e]; exact h.fb, fun _ hi => .inl hi⟩⟩
/-- Bytes are written behind the others. -/
theorem Wd.puts {ds : List Nat} (hh : Wd B F W bw T e) (h1 : W.heap[bw]? = some (.cells #[v, .int .i64 e] 74 (0, 0))) (h3 : ∀ g, v.ownBlock = some g → F g ∧ g ≠ bw)
    (hown : w6.ownsRow B 5 1 v' (T.length + ds.length) (bz T ++ bz ds)) (hg : W.grownBy w6 v.ownBlock) (hw : ∀ g, v'.ownBlock = some g → v.ownBlock = some g ∨ W.heap.size ≤ g) :
    ∃ F', Wd B F' (w6.setCell ⟨bw, 0, none⟩ v') bw (T ++ ds) e ∧ Mv F W F' (w6.setCell ⟨bw, 0, none⟩ v') := by
  have c0 : Cha (fun i => v.ownBlock = some i) W w6 := Cha.of_grownBy hg fun k e => e
  have hbw := hh.lt bw hh.fb
  have h6 : w6.heap[bw]? = some (.cells #[v, .int .i64 e] 74 (0, 0)) := (c0.old bw hbw fun e => (h3 bw e).2 rfl).trans h1
  have c2 : Cha (fun i => i = bw) w6 (w6.setCell ⟨bw, 0, none⟩ v') := (Cha.refl (fun i => i = bw) w6).setCell (p := ⟨bw, 0, none⟩) (fun _ => rfl) _
  have e1 := heap_setCell_same w6 bw 0 _ 74 v' h6
  have hnew : ∀ g, v'.ownBlock = some g → (F g ∨ W.heap.size ≤ g) ∧ g ≠ bw := fun g hg' => by
    rcases hw g hg' with e | e
    · obtain ⟨a, b⟩ := h3 g e
      exact ⟨.inl a, b⟩
    · exact ⟨.inr e, by omega⟩
  refine ⟨fun i => i = bw ∨ v'.ownBlock = some i, ⟨⟨v', e1, ?_, fun g hg' => ⟨.inr hg', (hnew g hg').2⟩⟩, .inl rfl, fun i hi => ?_, fun i hi => ?_⟩, ⟨?_, fun i hi => ?_⟩⟩
  · have eb : bz (T ++ ds) = bz T ++ bz ds := by unfold bz; simp
    rw [eb, List.length_append]
    exact own_but hown c2 fun g hg' => (hnew g hg').2
  · rcases hi with rfl | hi
    · exact Nat.lt_of_lt_of_le hbw (Nat.le_trans c0.size c2.size)
    · exact Nat.lt_of_lt_of_le (hown.lt i hi).2 c2.size
  · rcases hi with rfl | hi
    · exact hh.ge _ hh.fb
    · exact (hown.lt i hi).1
  · exact (c0.mono (T := F) fun i _ hi => (h3 i hi).1).trans (c2.mono fun i _ hi => by have e : i = bw := hi; rw [e]; exact hh.fb)
  · rcases hi with rfl | hi
    · exact .inl hh.fb
    · exact (hnew i hi).1
end
theorem bz_one (T : List Nat) : ∀ u ∈ bz T, u.oneCell' = true := fun u h => by
  unfold bz at h
  obtain ⟨x, _, rfl⟩ := List.mem_map.1 h
  rfl
/-- Bytes of one's own lie one behind the other. -/
theorem own_lie {w : World} {B n : Nat} {v : Value} {T : List Nat} (h : w.ownsRow B 5 1 v n (bz T)) (hn : 0 < n) : ∃ g c, v = .slice (some ⟨g, 0, none⟩) n c ∧ ∀ (j : Nat) (u : Value), (bz T)[j]? = some u → w.cell? ((⟨g, 0, none⟩ : Addr).add j) = some u := by
  have hc := fun g (hv : v.ownBlock = some g) => h.cells (g := g) hv
  rcases h.2 with ⟨e, h1⟩ | ⟨g, cap, cur, e, _⟩
  · omega
  · subst e
    exact ⟨g, cap, rfl, fun j u hj => hc g rfl j u hj⟩
section
variable {B bw : Nat} {F F' : Nat → Prop} {W W' : World} {A : List Nat} {e : Int}
/-- A number, as the document writes it: it writes on behind a fault. -/
def dNum (z : Int) (s : St) : St := ⟨if 0 ≤ z then s.t ++ digs z.toNat else s.t, if s.e = 0 ∧ (z < 0 ∨ 65535 < z) then 1 else s.e⟩
/-- What a call of the document's writer's leaves. -/
def DWrote (B bw : Nat) (F : Nat → Prop) (W : World) (s : St) : Ending → World → Prop := fun e w' => e = .returned (.tuple #[]) ∧ ∃ F', Wd B F' w' bw s.t s.e ∧ Mv F W F' w'
theorem DWrote.of {s r : St} {en : Ending} {w : World} (h : DWrote B bw F W s en w) (e : r = s) : DWrote B bw F W r en w := e ▸ h
end
end Go.Proofs.Ytpdjbhnpahkbpaa
