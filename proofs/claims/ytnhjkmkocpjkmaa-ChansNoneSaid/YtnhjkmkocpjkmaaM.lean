/- ChansFixed: the walk. -/
import Derived.Test.YtnhjkmkocpjkmaaL
namespace Go.Proofs.Ytnhjkmkocpjkmaa
open Go.ChangeShapes Go.WideShapes Go.ChangeAt Go.RowKit
theorem lies_new {α : Type} {E : Enc α} (ok : E.Ok) (w : World) (A : List α) (hl : A.length ≤ maxLen) : Lies E (w.alloc (.cells (E.cs A).toArray E.e)) (.slice (some ⟨w.heap.size, 0, none⟩) A.length A.length) A :=
  .inr ⟨_, 0, _, _, rfl, Nat.le_refl _, hl, heap_alloc_new w _, by rw [List.size_toArray, ok.cs_len]; omega, fun i _ => by rw [Nat.zero_add]; simp⟩
theorem field0 (a b c : Value) (w : World) : (Instr.field 37 (.agg #[a, b, c]) 0).run Try.prog w = .ok a w := by
  simp [Instr.field, asAgg, go_sem]
set_option maxRecDepth 100000 in
set_option maxHeartbeats 2000000 in
theorem fixed_walk (w : World) : Calls Try.prog 8 #[] w fun e w' => e = .returned (.bool true) ∧ Cha (fun _ => False) w w' := by
  have C0 : Calls Try.prog 9 #[.int .i64 1] w _ := live_new 1 (by decide) (Cha.refl _ w)
  have C0 := Lib.hid C0
  have B1 := Lib.hid fun W => new_bad 17 W (by omega)
  have B2 := Lib.hid fun W => new_bad (-1) W (by omega)
  have S1 : Hid (∀ bc W, Live w W bc (St.new 1) → Calls Try.prog 13 #[.pointer (some ⟨bc, 0, none⟩), .int .i64 1, .int .u64 5, .bool true] W fun e w' => e = .returned (.agg #[.int .i64 1, .int .i64 0, .int .u64 0]) ∧ Live w w' bc ⟨1, false, [5], [], []⟩) := Lib.hid fun bc W h => live_send h 1 5 true (by decide)
  have S2 : Hid (∀ bc W, Live w W bc ⟨1, false, [5], [], []⟩ → Calls Try.prog 13 #[.pointer (some ⟨bc, 0, none⟩), .int .i64 2, .int .u64 6, .bool true] W fun e w' => e = .returned (.agg #[.int .i64 3, .int .i64 0, .int .u64 0]) ∧ Live w w' bc ⟨1, false, [5], [⟨2, 6⟩], []⟩) := Lib.hid fun bc W h => live_send h 2 6 true (by decide)
  have R1 : Hid (∀ bc W, Live w W bc ⟨1, false, [5], [⟨2, 6⟩], []⟩ → Calls Try.prog 15 #[.pointer (some ⟨bc, 0, none⟩), .int .i64 3, .bool true] W fun e w' => e = .returned (.agg #[.int .i64 2, .int .i64 2, .int .u64 5]) ∧ Live w w' bc ⟨1, false, [6], [], []⟩) := Lib.hid fun bc W h => live_recv h 3 true (by decide)
  have R2 : Hid (∀ bc W, Live w W bc ⟨1, false, [6], [], []⟩ → Calls Try.prog 15 #[.pointer (some ⟨bc, 0, none⟩), .int .i64 3, .bool true] W fun e w' => e = .returned (.agg #[.int .i64 1, .int .i64 0, .int .u64 6]) ∧ Live w w' bc ⟨1, false, [], [], []⟩) := Lib.hid fun bc W h => live_recv h 3 true (by decide)
  have R3 : Hid (∀ bc W, Live w W bc ⟨1, false, [], [], []⟩ → Calls Try.prog 15 #[.pointer (some ⟨bc, 0, none⟩), .int .i64 3, .bool true] W fun e w' => e = .returned (.agg #[.int .i64 3, .int .i64 0, .int .u64 0]) ∧ Live w w' bc ⟨1, false, [], [], [3]⟩) := Lib.hid fun bc W h => live_recv h 3 true (by decide)
  have K1 : Hid (∀ bc W, Live w W bc ⟨1, false, [], [], [3]⟩ → Calls Try.prog 18 #[.pointer (some ⟨bc, 0, none⟩)] W fun e w' => ∃ v, e = .returned (.tuple #[v, .bool true]) ∧ Lies intE w' v [3] ∧ Live w w' bc ⟨1, true, [], [], []⟩) := Lib.hid fun bc W h => live_close h (by decide)
  have S3 : Hid (∀ bc W, Live w W bc ⟨1, true, [], [], []⟩ → Calls Try.prog 13 #[.pointer (some ⟨bc, 0, none⟩), .int .i64 1, .int .u64 1, .bool true] W fun e w' => e = .returned (.agg #[.int .i64 4, .int .i64 0, .int .u64 0]) ∧ Live w w' bc ⟨1, true, [], [], []⟩) := Lib.hid fun bc W h => live_send h 1 1 true (by decide)
  have R4 : Hid (∀ bc W, Live w W bc ⟨1, true, [], [], []⟩ → Calls Try.prog 15 #[.pointer (some ⟨bc, 0, none⟩), .int .i64 1, .bool true] W fun e w' => e = .returned (.agg #[.int .i64 4, .int .i64 0, .int .u64 0]) ∧ Live w w' bc ⟨1, true, [], [], []⟩) := Lib.hid fun bc W h => live_recv h 1 true (by decide)
  have SM : Hid (∀ W a c b d, Lies intE W (.slice a 1 c) [3] → Lies intE W (.slice b 1 d) [3] → Calls Try.prog 20 #[.slice a 1 c, .slice b 1 d] W fun e w' => e = .returned (.bool true) ∧ Cha (fun _ => False) W w') := Lib.hid fun W a c b d h1 h2 => same_ints h1 h2
  have N3 : Hid (∀ W : World, Lies intE (W.alloc (.cells #[.int .i64 3] 3)) (.slice (some ⟨W.heap.size, 0, none⟩) 1 1) [3]) := Lib.hid fun (W : World) => lies_new intE_ok W [3] (by decide)
  have AW := Lib.hid awake_any
  have F0 := field0
  go_enter Try.func8, Try.ntmps8
  go_wp2_with (first
    | (go_at_call 9; ((with_reducible refine (C0.out).mono ?_); rintro e w1 ⟨rfl, h⟩; have H1 := Lib.hid h; clear h))
    | (go_at_call 9; ((with_reducible refine (B1.out _).mono ?_); rintro e w1b ⟨rfl, h⟩; have H1b := Lib.hid (H1.out.same h); clear h))
    | (go_at_call 9; ((with_reducible refine (B2.out _).mono ?_); rintro e w1c ⟨rfl, h⟩; have H1c := Lib.hid (H1b.out.same h); clear h))
    | (go_at_call 13; ((with_reducible refine (S1.out _ _ H1c.out).mono ?_); rintro e w2 ⟨rfl, h⟩; have H2 := Lib.hid h; clear h))
    | (go_at_call 13; ((with_reducible refine (S2.out _ _ H2.out).mono ?_); rintro e w3 ⟨rfl, h⟩; have H3 := Lib.hid h; clear h))
    | (go_at_call 15; ((with_reducible refine (R1.out _ _ H3.out).mono ?_); rintro e w4 ⟨rfl, h⟩; have H4 := Lib.hid h; clear h))
    | (go_at_call 15; ((with_reducible refine (R2.out _ _ H4.out).mono ?_); rintro e w5 ⟨rfl, h⟩; have H5 := Lib.hid h; clear h))
    | (go_at_call 15; ((with_reducible refine (R3.out _ _ H5.out).mono ?_); rintro e w6 ⟨rfl, h⟩; have H6 := Lib.hid h; clear h))
    | (go_at_call 18; ((with_reducible refine (K1.out _ _ H6.out).mono ?_); rintro e w7 ⟨v, rfl, h1, h⟩; (obtain ⟨a, c, rfl, _, _⟩ := h1.form); have L7 := Lib.hid h1; have H7 := Lib.hid h; clear h h1))
    | (go_at_call 11; ((with_reducible refine (AW.out _).mono ?_); rintro e w8 ⟨rfl, h⟩; have L8 := Lib.hid (L7.out.same h); have H8 := Lib.hid (H7.out.same h); clear h))
    | (go_at_call 20; ((with_reducible refine (SM.out _ a c _ _ (L8.out.same ((Cha.refl _ w8).alloc _)) (N3.out w8)).mono ?_); rintro e w9 ⟨rfl, h⟩; have H9 := Lib.hid (H8.out.same (((Cha.refl _ w8).alloc _).trans h)); clear h))
    | (go_at_call 13; ((with_reducible refine (S3.out _ _ H9.out).mono ?_); rintro e w10 ⟨rfl, h⟩; have H10 := Lib.hid h; clear h))
    | (go_at_call 15; ((with_reducible refine (R4.out _ _ H10.out).mono ?_); rintro e w11 ⟨rfl, h⟩; have H11 := Lib.hid h.cha; clear h)))
  go_ret
  exact ⟨rfl, H11.out⟩
end Go.Proofs.Ytnhjkmkocpjkmaa
