/- The writer in memory: word, number, kind. -/
import Derived.Test.YtpdjbhnpahkbpaaE
import Derived.Lib.Hide
import Derived.Deep.RegionHeld3
import Derived.Deep.CutBlock
import Derived.Deep.QuietTactic
import Derived.BigQuiet
import Derived.Deep.DeepCutAuto
import Derived.IntWalk
import Derived.RangeFuncBox
namespace Go.Proofs.Ytpdjbhnpahkbpaa
open Go.ChangeShapes Go.WideShapes Go.ChangeAt Go.RowKit

theorem info5 : (Try.prog.info? 5).map (fun i => (i.zero, i.size, i.bytes)) = some (some (.int .u8 0), 1, 1) := by kernel_rfl
/-- Bytes as cells. -/
def bz (T : List Nat) : List Value := T.map fun (x : Nat) => .int .u8 (x : Int)
theorem bz_snoc (T : List Nat) (x : Nat) : bz (T ++ [x]) = bz T ++ [.int .u8 (x : Int)] := by unfold bz; simp
theorem one_byte (x : Int) : ∀ u ∈ ([.int .u8 x] : List Value), u.oneCell' = true := fun u h => by
  obtain rfl := List.mem_singleton.1 h
  rfl
/-- A call leaves the blocks F to F', its own ones or new. -/
structure Mv (F : Nat → Prop) (W : World) (F' : Nat → Prop) (W' : World) : Prop where
  cha : Cha F W W'
  new : ∀ i, F' i → F i ∨ W.heap.size ≤ i
theorem Mv.refl (F : Nat → Prop) (W : World) : Mv F W F W := ⟨Cha.refl _ _, fun _ h => .inl h⟩
theorem Mv.trans {F F' F'' : Nat → Prop} {W W' W'' : World} (h : Mv F W F' W') (k : Mv F' W' F'' W'') : Mv F W F'' W'' :=
  ⟨h.cha.over k.cha h.new, fun i hi => by
    rcases k.new i hi with e | e
    · exact h.new i e
    · exact .inr (Nat.le_trans h.cha.size e)⟩
theorem Mv.alloc {F F' : Nat → Prop} {W W' : World} (h : Mv F W F' W') (o : Obj) : Mv F W F' (W'.alloc o) := ⟨h.cha.alloc o, h.new⟩
theorem Mv.drew {F F' : Nat → Prop} {W W' : World} (h : Mv F W F' W') : Mv F W F' W'.drew := ⟨h.cha.drew, h.new⟩
theorem Mv.of {F F' : Nat → Prop} {W W' W1 : World} (c : Cha (fun _ => False) W W1) (h : Mv F W1 F' W') : Mv F W F' W' :=
  ⟨(Cha.wide c).trans h.cha, fun i hi => by
    rcases h.new i hi with e | e
    · exact .inl e
    · exact .inr (Nat.le_trans c.size e)⟩

/-- The writer at block bw: its bytes, its fault; F: its blocks. -/
structure Wr (B : Nat) (F : Nat → Prop) (W : World) (bw : Nat) (T : List Nat) (e : Int) : Prop where
  head : ∃ v, W.heap[bw]? = some (.cells #[v, .int .i64 e] 71 (0, 0)) ∧ W.ownsRow B 5 1 v T.length (bz T) ∧ ∀ g, v.ownBlock = some g → F g ∧ g ≠ bw
  fb : F bw
  lt : ∀ i, F i → i < W.heap.size
  ge : ∀ i, F i → B ≤ i
section
variable {B bw x : Nat} {F F' S : Nat → Prop} {W W' w6 : World} {T : List Nat} {e : Int} {v v' : Value} {o : Obj}
theorem Wr.cha (h : Wr B F W bw T e) (c : Cha S W W') (hs : ∀ i, F i → ¬ S i) : Wr B F W' bw T e := by
  obtain ⟨v, h1, h2, h3⟩ := h.head
  exact ⟨⟨v, (c.old bw (h.lt bw h.fb) (hs bw h.fb)).trans h1, own_but h2 c fun g hg => hs g (h3 g hg).1, h3⟩, h.fb, fun i hi => Nat.lt_of_lt_of_le (h.lt i hi) c.size, h.ge⟩
theorem Wr.same (h : Wr B F W bw T e) (c : Cha (fun _ => False) W W') : Wr B F W' bw T e := h.cha c fun _ _ f => f
theorem Wr.alloc (h : Wr B F W bw T e) (o : Obj) : Wr B F (W.alloc o) bw T e := h.same ((Cha.refl _ W).alloc o)
theorem Wr.err (h : Wr B F W bw T e) : W.cell? ⟨bw, 1, none⟩ = some (.int .i64 e) := by
  obtain ⟨v, h1, _⟩ := h.head
  exact cell_of_row W bw 1 _ 71 (0, 0) h1
theorem Wr.free (h : Wr B F W bw T e) (i : Nat) : W.frozen? ⟨bw, i, none⟩ = false := by
  obtain ⟨v, h1, _⟩ := h.head
  exact frozen_of_row W bw i _ 71 h1
/-- The fault is set. -/
theorem Wr.fail (h : Wr B F W bw T e) (e' : Int) : Wr B F (W.setCell ⟨bw, 1, none⟩ (.int .i64 e')) bw T e' ∧ Mv F W F (W.setCell ⟨bw, 1, none⟩ (.int .i64 e')) := by
  obtain ⟨v, h1, h2, h3⟩ := h.head
  have c : Cha (fun i => i = bw) W (W.setCell ⟨bw, 1, none⟩ (.int .i64 e')) := (Cha.refl (fun i => i = bw) W).setCell (p := ⟨bw, 1, none⟩) (fun _ => rfl) _
  have e1 := heap_setCell_same W bw 1 _ 71 (.int .i64 e') h1
  exact ⟨⟨⟨v, e1, own_but h2 c fun g hg => (h3 g hg).2, h3⟩, h.fb, fun i hi => Nat.lt_of_lt_of_le (h.lt i hi) c.size, h.ge⟩, ⟨c.mono fun i _ hi => by have e : i = bw := hi; rw [e]; exact h.fb, fun _ hi => .inl hi⟩⟩
/-- A byte is written behind the others. -/
theorem Wr.push (hh : Wr B F W bw T e) (h1 : W.heap[bw]? = some (.cells #[v, .int .i64 e] 71 (0, 0))) (h3 : ∀ g, v.ownBlock = some g → F g ∧ g ≠ bw)
    (hown : w6.ownsRow B 5 1 v' (T.length + 1) (bz T ++ [.int .u8 (x : Int)])) (hg : (W.alloc o).grownBy w6 v.ownBlock) (hw : v'.ownBlock = v.ownBlock ∨ ∀ g, v'.ownBlock = some g → (W.alloc o).heap.size ≤ g) :
    ∃ F', Wr B F' (w6.setCell ⟨bw, 0, none⟩ v') bw (T ++ [x]) e ∧ Mv F W F' (w6.setCell ⟨bw, 0, none⟩ v') := by
  have c1 : Cha (fun i => v.ownBlock = some i) (W.alloc o) w6 := Cha.of_grownBy hg fun k e => e
  have c0 : Cha (fun i => v.ownBlock = some i) W w6 := ((Cha.refl _ W).alloc o).trans c1
  have hbw := hh.lt bw hh.fb
  have h6 : w6.heap[bw]? = some (.cells #[v, .int .i64 e] 71 (0, 0)) := (c0.old bw hbw fun e => (h3 bw e).2 rfl).trans h1
  have c2 : Cha (fun i => i = bw) w6 (w6.setCell ⟨bw, 0, none⟩ v') := (Cha.refl (fun i => i = bw) w6).setCell (p := ⟨bw, 0, none⟩) (fun _ => rfl) _
  have e1 := heap_setCell_same w6 bw 0 _ 71 v' h6
  have hsz : (W.alloc o).heap.size = W.heap.size + 1 := World.size_alloc _ _
  have hnew : ∀ g, v'.ownBlock = some g → (F g ∨ W.heap.size ≤ g) ∧ g ≠ bw := fun g hg' => by
    rcases hw with e | e
    · obtain ⟨a, b⟩ := h3 g (e ▸ hg')
      exact ⟨.inl a, b⟩
    · have := e g hg'
      exact ⟨.inr (by omega), by omega⟩
  refine ⟨fun i => i = bw ∨ v'.ownBlock = some i, ⟨⟨v', e1, ?_, fun g hg' => ⟨.inr hg', (hnew g hg').2⟩⟩, .inl rfl, fun i hi => ?_, fun i hi => ?_⟩, ⟨?_, fun i hi => ?_⟩⟩
  · rw [bz_snoc, List.length_append]
    exact own_but hown c2 fun g hg' => (hnew g hg').2
  · rcases hi with rfl | hi
    · exact Nat.lt_of_lt_of_le hbw (Nat.le_trans c0.size c2.size)
    · exact Nat.lt_of_lt_of_le (hown.lt i hi).2 c2.size
  · rcases hi with rfl | hi
    · exact hh.ge _ hh.fb
    · exact (hown.lt i hi).1
  · exact (c0.mono (T := F) fun i _ hi => (h3 i hi).1).trans (c2.mono fun i _ hi => by have e : i = bw := hi; rw [e]; exact hh.fb)
  · rcases hi with rfl | hi
    · exact .inl hh.fb
    · exact (hnew i hi).1
end
theorem kept_head {bw : Nat} {F : Nat → Prop} {W w6 : World} {e : Int} {v : Value} {o : Obj} (hb : bw < W.heap.size) (h1 : W.heap[bw]? = some (.cells #[v, .int .i64 e] 71 (0, 0))) (h3 : ∀ g, v.ownBlock = some g → F g ∧ g ≠ bw) (hg : (W.alloc o).grownBy w6 v.ownBlock) :
    w6.cell? ⟨bw, 0, none⟩ = some v ∧ w6.frozen? ⟨bw, 0, none⟩ = false := by
  have c1 : Cha (fun i => v.ownBlock = some i) (W.alloc o) w6 := Cha.of_grownBy hg fun k e => e
  have h6 := (((Cha.refl _ W).alloc o).trans c1).old bw hb fun e => (h3 bw e).2 rfl
  rw [h1] at h6
  exact ⟨cell_of_row w6 bw 0 _ 71 (0, 0) h6, frozen_of_row w6 bw 0 _ 71 h6⟩
section
variable {B bw : Nat} {F F' : Nat → Prop} {W W' : World} {T : List Nat} {e : Int}
/-- What a call of the writer's leaves. -/
def Wrote (B bw : Nat) (F : Nat → Prop) (W : World) (s : St) : Ending → World → Prop := fun e w' => e = .returned (.tuple #[]) ∧ ∃ F', Wr B F' w' bw s.t s.e ∧ Mv F W F' w'

theorem word_stop (n lim : Nat) (ab : Int) (h : Wr B F W bw T e) (he : e ≠ 0) :
    Calls Try.prog 73 #[.pointer (some ⟨bw, 0, none⟩), .int .u64 (n : Int), .int .u64 (lim : Int), .int .i64 ab] W (Wrote B bw F W ⟨T, e⟩) := by
  have h1 := h.err
  have H := Lib.hid h
  clear h
  go_enter Try.func73, Try.ntmps73
  go_wp2
  go_end0
  exact ⟨rfl, F, H.out, Mv.refl _ _⟩
theorem word_over (n lim : Nat) (ab : Int) (h : Wr B F W bw T 0) (hn : lim < n) :
    Calls Try.prog 73 #[.pointer (some ⟨bw, 0, none⟩), .int .u64 (n : Int), .int .u64 (lim : Int), .int .i64 ab] W (Wrote B bw F W ⟨T, ab⟩) := by
  have h1 := h.err
  have h2 := h.free 1
  have H := Lib.hid h
  clear h
  go_enter Try.func73, Try.ntmps73
  go_wp2
  go_end0
  exact ⟨rfl, F, (H.out.fail ab).1, (H.out.fail ab).2⟩
set_option maxRecDepth 100000 in
set_option maxHeartbeats 1000000 in
theorem word_fits (n lim : Nat) (ab : Int) (h : Wr B F W bw T 0) (hn : n ≤ lim) (hb : n < 18446744073709551616) (hT : T.length ≤ 1000000000) (h0 : B ≤ W.heap.size) :
    Calls Try.prog 73 #[.pointer (some ⟨bw, 0, none⟩), .int .u64 (n : Int), .int .u64 (lim : Int), .int .i64 ab] W (Wrote B bw F W ⟨T ++ digs n, 0⟩) := by
  have h1 := h.err
  have H := Lib.hid h
  have hl10 := digs_len10 hb
  obtain ⟨i0, hi, hz0, hz1, hz2⟩ := info_parts info5
  have hge : ¬ lim < n := by omega
  clear h hn
  go_enter Try.func73, Try.ntmps73
  go_wp2
  go_loopw [1] (fun x wr => ∃ (k : Nat) (T' : List Nat) (F' : Nat → Prop), x = .int .u64 (k : Int) ∧ k ≤ n ∧ T' ++ digs k = T ++ digs n ∧ Wr B F' wr bw T' 0 ∧ Mv F W F' wr) (fun x _ => (intOf x).toNat)
  case atStart => exact ⟨n, T, F, rfl, by omega, rfl, H.out, Mv.refl _ _⟩
  case round =>
    obtain ⟨k, T', F', rfl, hk, ht, hW, hM⟩ := hrel
    obtain ⟨v, w1, w2, w3⟩ := hW.head
    have hlen : T'.length + (digs k).length = T.length + (digs n).length := by
      have := congrArg List.length ht
      simpa using this
    have hk10 := digs_pos k
    have c0 : wr.cell? ⟨bw, 0, none⟩ = some v := cell_of_row wr bw 0 _ 71 (0, 0) w1
    have c1 := hW.err
    have f0 := hW.free 0
    have HW := Lib.hid hW
    have HM := Lib.hid hM
    have W1 := Lib.hid w1
    have W2 := Lib.hid w2
    have W3 := Lib.hid w3
    have HT := Lib.hid ht
    have HB : Hid (B ≤ wr.heap.size) := Lib.hid (Nat.le_trans h0 hM.cha.size)
    clear hW hM w1 w2 w3 ht H h1
    have hT' : T'.length ≤ 1000000009 := by omega
    clear hlen
    by_cases c : k < 128
    · have hx : IntKind.u8.wrap (k : Int) = (k : Int) := by rw [IntKind.wrap_u8]; omega
      have hd : ¬ (128 : Int) ≤ (k : Int) := by omega
      go_wp2_with (at_builtin; refine wpList_append_where _ rfl _ _ 27 rfl B 5 i0 (.int .u8 0) 1 1 Try.underlying27 hi hz0 hz1 hz2 rfl (by decide) _ _ _ rfl (W2.out.alloc _) ⟨wr.heap.size, 0, none⟩ 1 1 [.int .u8 (k : Int)] rfl rfl (one_new _ _ _) (one_byte _) (by unfold maxLen; omega) (by omega) (by rw [World.size_alloc]; have := HB.out; omega) ?_; intro v' w6 hown hg hw; obtain ⟨F6, p1, p2⟩ := HW.out.push W1.out W3.out hown hg hw; have P1 := Lib.hid p1; have P2 := Lib.hid p2; obtain ⟨c6, f6⟩ := kept_head (HW.out.lt bw HW.out.fb) W1.out W3.out hg; obtain ⟨a6, k6, rfl⟩ := ownsRow_succ hown; clear p1 p2 hown hg hw)
      go_end0
      refine ⟨rfl, F6, ?_, HM.out.trans P2.out⟩
      have h := P1.out
      rw [← digs_lo c, HT.out] at h
      exact h
    · have hd : (128 : Int) ≤ (k : Int) := by omega
      obtain ⟨y, hy⟩ : ∃ y : Nat, y = k % 128 + 128 := ⟨_, rfl⟩
      have hw8 : IntKind.u64.wrap ((k : Int) % 128 + 128) = (y : Int) := by rw [IntKind.wrap_u64]; omega
      have hx : IntKind.u8.wrap (y : Int) = (y : Int) := by rw [IntKind.wrap_u8]; omega
      have HY := Lib.hid hy
      clear hy
      go_wp2_with (at_builtin; refine wpList_append_where _ rfl _ _ 27 rfl B 5 i0 (.int .u8 0) 1 1 Try.underlying27 hi hz0 hz1 hz2 rfl (by decide) _ _ _ rfl (W2.out.alloc _) ⟨wr.heap.size, 0, none⟩ 1 1 [.int .u8 (y : Int)] rfl rfl (one_new _ _ _) (one_byte _) (by unfold maxLen; omega) (by omega) (by rw [World.size_alloc]; have := HB.out; omega) ?_; intro v' w6 hown hg hw; obtain ⟨F6, p1, p2⟩ := HW.out.push W1.out W3.out hown hg hw; have P1 := Lib.hid p1; have P2 := Lib.hid p2; obtain ⟨c6, f6⟩ := kept_head (HW.out.lt bw HW.out.fb) W1.out W3.out hg; obtain ⟨a6, k6, rfl⟩ := ownsRow_succ hown; clear p1 p2 hown hg hw)
      go_roundw
      case rel => exact ⟨k / 128, _, F6, by go_num, by omega, by rw [← HT.out, digs_hi c, HY.out]; simp, P1.out, HM.out.trans P2.out⟩
      case measure => simp [intOf]; omega
end
end Go.Proofs.Ytpdjbhnpahkbpaa
