/- The document's writer: a word's bytes. -/
import Derived.Test.YtpdjbhnpahkbpaaI
import Derived.Test.YtpdjbhnpahkbpaaW
namespace Go.Proofs.Ytpdjbhnpahkbpaa
set_option linter.unusedVariables false
open Go.ChangeShapes Go.WideShapes Go.ChangeAt Go.RowKit
section
variable {W : World}
set_option maxRecDepth 100000 in
/-- The document's Word: a number's bytes, in new memory. -/
theorem docword_any (n : Nat) (hb : n < 18446744073709551616) :
    Calls Try.prog 53 #[.int .u64 (n : Int)] W (fun e w' => ∃ v, e = .returned v ∧ w'.ownsRow W.heap.size 5 1 v (digs n).length (bz (digs n)) ∧ Cha (fun _ => False) W w') := by
  have hl10 := digs_len10 hb
  obtain ⟨i0, hi, hz0, hz1, hz2⟩ := info_parts info5
  go_enter Try.func53, Try.ntmps53
  go_wp2
  go_loopw [0, 3] (fun x l wr => ∃ (k : Nat) (T' : List Nat), x = .int .u64 (k : Int) ∧ k ≤ n ∧ T' ++ digs k = digs n ∧ wr.ownsRow W.heap.size 5 1 l T'.length (bz T') ∧ Cha (fun _ => False) W wr) (fun x _ _ => (intOf x).toNat)
  case atStart => exact ⟨n, [], rfl, by omega, rfl, World.ownsRow_nil _ _ _ _, Cha.refl _ _⟩
  case round =>
    obtain ⟨k, T', rfl, hk, ht, hO, hC⟩ := hrel
    have hlen : T'.length + (digs k).length = (digs n).length := by
      have := congrArg List.length ht
      simpa using this
    have hk10 := digs_pos k
    obtain ⟨va, vc, rfl⟩ := own_shape hO
    have O := Lib.hid hO
    have HC := Lib.hid hC
    have HT := Lib.hid ht
    have HB : Hid (W.heap.size ≤ wr.heap.size) := Lib.hid hC.size
    have hT' : T'.length ≤ 1000000009 := by omega
    clear hO hC ht hlen
    by_cases c : k < 128
    · have hx : IntKind.u8.wrap (k : Int) = (k : Int) := by rw [IntKind.wrap_u8]; omega
      have hd : ¬ (128 : Int) ≤ (k : Int) := by omega
      go_wp2_with (at_builtin; refine wpList_append_where _ rfl _ _ 27 rfl W.heap.size 5 i0 (.int .u8 0) 1 1 Try.underlying27 hi hz0 hz1 hz2 rfl (by decide) _ _ _ rfl (O.out.alloc _) ⟨wr.heap.size, 0, none⟩ 1 1 [.int .u8 (k : Int)] rfl rfl (one_new _ _ _) (one_byte _) (by unfold maxLen; omega) (by omega) (by rw [World.size_alloc]; have := HB.out; omega) ?_; intro v' w6 hown hg hw; obtain ⟨a6, k6, rfl⟩ := own_shape hown; have c3 : Cha (fun i => W.heap.size ≤ i) wr w6 := ((Cha.refl _ wr).alloc _).trans (Cha.of_grownBy hg (fun j e => (O.out.lt j e).1)); have O6 := Lib.hid hown; have HC6 := Lib.hid (HC.out.over c3 (fun i e => .inr e)); clear hown hg hw c3)
      go_ret
      refine ⟨_, rfl, ?_, HC6.out⟩
      have h := O6.out
      have e : digs n = T' ++ [k] := by rw [← HT.out, digs_lo c]
      rw [e, bz_snoc, List.length_append]
      exact h
    · have hd : (128 : Int) ≤ (k : Int) := by omega
      obtain ⟨y, hy⟩ : ∃ y : Nat, y = k % 128 + 128 := ⟨_, rfl⟩
      have hw8 : IntKind.u64.wrap ((k : Int) % 128 + 128) = (y : Int) := by rw [IntKind.wrap_u64]; omega
      have hx : IntKind.u8.wrap (y : Int) = (y : Int) := by rw [IntKind.wrap_u8]; omega
      have HY := Lib.hid hy
      clear hy
      go_wp2_with (at_builtin; refine wpList_append_where _ rfl _ _ 27 rfl W.heap.size 5 i0 (.int .u8 0) 1 1 Try.underlying27 hi hz0 hz1 hz2 rfl (by decide) _ _ _ rfl (O.out.alloc _) ⟨wr.heap.size, 0, none⟩ 1 1 [.int .u8 (y : Int)] rfl rfl (one_new _ _ _) (one_byte _) (by unfold maxLen; omega) (by omega) (by rw [World.size_alloc]; have := HB.out; omega) ?_; intro v' w6 hown hg hw; obtain ⟨a6, k6, rfl⟩ := own_shape hown; have c3 : Cha (fun i => W.heap.size ≤ i) wr w6 := ((Cha.refl _ wr).alloc _).trans (Cha.of_grownBy hg (fun j e => (O.out.lt j e).1)); have O6 := Lib.hid hown; have HC6 := Lib.hid (HC.out.over c3 (fun i e => .inr e)); clear hown hg hw c3)
      go_roundw
      case rel => exact ⟨k / 128, T' ++ [y], by go_num, by omega, by rw [← HT.out, digs_hi c, HY.out]; simp, by rw [bz_snoc, List.length_append]; exact O6.out, HC6.out⟩
      case measure => simp [intOf]; omega
end
end Go.Proofs.Ytpdjbhnpahkbpaa
