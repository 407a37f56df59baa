/- A map that a law made; awake; ScavFixed. -/
import Derived.Test.YtlpgfdphoiideaaSF
namespace Go.Proofs.Ytlpgfdphoiideaa
open Go.ChangeShapes Go.WideShapes Go.ChangeAt Go.RowKit
/-- A map that was made since w0. -/
def Lv (w0 W : World) (bs bp N : Nat) (st : Nat → Int) : Prop := Sv 79 85 W bs bp N st ∧ Cha (fun _ => False) w0 W ∧ w0.heap.size ≤ bp
section
variable {w0 w W W' : World} {bs bp N : Nat} {st st' : Nat → Int}
theorem Lv.same (h : Lv w0 W bs bp N st) (c : Cha (fun _ => False) W W') : Lv w0 W' bs bp N st := ⟨h.1.same c, h.2.1.trans c, h.2.2⟩
theorem Lv.left (h : Lv w0 W bs bp N st) (k : SvL W W' bs bp N st') : Lv w0 W' bs bp N st' := ⟨k.1, h.2.1.over k.2 fun i hi => .inr (by have := h.2.2; omega), h.2.2⟩
theorem lv_new (n : Nat) (h1 : 1 ≤ n) (h2 : n ≤ 4096) (c : Cha (fun _ => False) w0 W) : Calls Try.prog 30 #[.int .i64 n] W fun e w' => e = .returned (.tuple #[.pointer (some ⟨W.heap.size + 1, 0, none⟩), .int .i64 0]) ∧ Lv w0 w' (W.heap.size + 1) W.heap.size n (fun _ => 0) :=
  (snew_ok n W h1 h2).mono fun _ _ ⟨a, b, d⟩ => ⟨a, b, c.trans d, c.size⟩
theorem lv_use (h : Lv w0 W bs bp N st) (base n : Int) (hb : isI base) (hn : isI n) {a b : Int} {s : Nat → Int} (e1 : useR N st base n = (a, b)) (e2 : useS N st base n = s) :
    Calls Try.prog 33 #[.pointer (some ⟨bs, 0, none⟩), .int .i64 base, .int .i64 n] W fun e w' => e = .returned (.tuple #[.int .i64 a, .int .i64 b]) ∧ Lv w0 w' bs bp N s :=
  (use_any h.1 base n hb hn).mono fun _ _ ⟨x, k⟩ => by rw [e1] at x; rw [e2] at k; exact ⟨x, h.left k⟩
theorem lv_free (h : Lv w0 W bs bp N st) (base n : Int) (hb : isI base) (hn : isI n) {a : Int} {s : Nat → Int} (e1 : freR N st base n = a) (e2 : freS N st base n = s) :
    Calls Try.prog 35 #[.pointer (some ⟨bs, 0, none⟩), .int .i64 base, .int .i64 n] W fun e w' => e = .returned (.int .i64 a) ∧ Lv w0 w' bs bp N s :=
  (sfree_any h.1 base n hb hn).mono fun _ _ ⟨x, k⟩ => by rw [e1] at x; rw [e2] at k; exact ⟨x, h.left k⟩
theorem lv_counts (h : Lv w0 W bs bp N st) {a b c : Nat} (e1 : cn st 2 0 N = a) (e2 : cn st 1 0 N = b) (e3 : cn st 0 0 N = c) :
    Calls Try.prog 40 #[.pointer (some ⟨bs, 0, none⟩)] W fun e w' => e = .returned (.tuple #[.int .i64 (a : Nat), .int .i64 (b : Nat), .int .i64 (c : Nat)]) ∧ Lv w0 w' bs bp N st :=
  (scounts_any h.1).mono fun _ _ ⟨x, k⟩ => by rw [e1, e2, e3] at x; exact ⟨x, h.same k⟩
theorem lv_give (h : Lv w0 W bs bp N st) (n : Int) (hn : isI n) {L : List Int} {s : Nat → Int} {m : Nat} (e1 : giv st N n.toNat = L) (e2 : giS st N n.toNat = s) (e3 : L.length = m) :
    Calls Try.prog 38 #[.pointer (some ⟨bs, 0, none⟩), .int .i64 n] W fun e w' => ∃ a c, e = .returned (.slice a m c) ∧ m ≤ c ∧ c ≤ maxLen ∧ Made W w' (.slice a m c) L ∧ Lv w0 w' bs bp N s :=
  (give_any h.1 n hn).mono fun _ _ ⟨v, x, k, l⟩ => by
    rw [e1] at k; rw [e2] at l
    obtain ⟨a, c, rfl, h1, h2⟩ := k.lies.form
    rw [e3] at x k h1
    exact ⟨a, c, x, h1, h2, k, h.left l⟩
def st0 : Nat → Int := fun _ => 0
def st1 : Nat → Int := useS 4 st0 0 3
def st2 : Nat → Int := freS 4 st1 1 2
def st3 : Nat → Int := giS st2 4 1
theorem isI_k {x : Int} (h : -9223372036854775808 ≤ x) (k : x ≤ 9223372036854775807) : isI x := ⟨h, k⟩
theorem lies_two (W : World) : Lies intE (W.alloc (.cells #[.int .i64 2] 3)) (.slice (some ⟨W.heap.size, 0, none⟩) 1 1) [2] :=
  .inr ⟨_, 0, 1, _, rfl, Nat.le_refl _, by decide, heap_alloc_new W _, by decide, fun i hi => by
    have : i = 0 := by simp [intE] at hi; exact hi
    subst this; rfl⟩
set_option maxRecDepth 100000 in
theorem sawake (w : World) : Calls Try.prog 32 #[] w fun e w' => e = .returned (.bool true) ∧ Cha (fun _ => False) w w' := by
  have N : Hid (Calls Try.prog 30 #[.int .i64 4] w fun e w' => e = .returned (.tuple #[.pointer (some ⟨w.heap.size + 1, 0, none⟩), .int .i64 0]) ∧ Lv w w' (w.heap.size + 1) w.heap.size 4 st0) := Lib.hid (lv_new 4 (by omega) (by omega) (Cha.refl (fun _ => False) w))
  have i0 : isI 0 := isI_k (by omega) (by omega)
  have i1 : isI 1 := isI_k (by omega) (by omega)
  have i2 : isI 2 := isI_k (by omega) (by omega)
  have i3 : isI 3 := isI_k (by omega) (by omega)
  have G : Hid (∀ W bs bp, Lv w W bs bp 4 st2 → Calls Try.prog 38 #[.pointer (some ⟨bs, 0, none⟩), .int .i64 1] W fun e w' => ∃ a c, e = .returned (.slice a 1 c) ∧ 1 ≤ c ∧ c ≤ maxLen ∧ Made W w' (.slice a 1 c) [2] ∧ Lv w w' bs bp 4 st3) :=
    Lib.hid fun W bs bp h => lv_give h 1 i1 (L := [2]) (s := st3) (m := 1) rfl rfl rfl
  have SM : Hid (∀ W a c b d, Lies intE W (.slice a 1 c) [2] → Lies intE W (.slice b 1 d) [2] → Calls Try.prog 37 #[.slice a 1 c, .slice b 1 d] W fun e w' => e = .returned (.bool true) ∧ Cha (fun _ => False) W w') :=
    Lib.hid fun W a c b d h1 h2 => same_ints h1 h2
  have LT := Lib.hid lies_two
  go_enter Try.func32, Try.ntmps32
  go_wp2_with (first
    | (go_at_call 30; (with_reducible refine (N.out).mono ?_); rintro e w1 ⟨rfl, h1⟩; have H1 := Lib.hid h1; clear h1)
    | (go_at_call 33; (with_reducible refine (lv_use (a := 3) (b := 0) (s := st1) H1.out 0 3 i0 i3 rfl rfl).mono ?_); rintro e w2 ⟨rfl, h2⟩; have H2 := Lib.hid h2; clear h2)
    | (go_at_call 35; (with_reducible refine (lv_free (a := 0) (s := st2) H2.out 1 2 i1 i2 rfl rfl).mono ?_); rintro e w3 ⟨rfl, h3⟩; have H3 := Lib.hid h3; clear h3)
    | (go_at_call 38; (with_reducible refine (G.out _ _ _ H3.out).mono ?_); rintro e w4 ⟨a, c, rfl, hc1, hc2, hm, h4⟩; have H4 := Lib.hid h4; have HM := Lib.hid hm; clear h4 hm)
    | (go_at_call 37; (with_reducible refine (SM.out _ _ _ _ _ (Lies.same HM.out.lies ((Cha.refl _ _).alloc _)) (LT.out _)).mono ?_); rintro e w5 ⟨rfl, h5⟩; have H5 := Lib.hid h5; clear h5))
  go_returns
  exact ⟨rfl, (H4.out.2.1.trans ((Cha.refl _ _).alloc _)).trans H5.out⟩
end
end Go.Proofs.Ytlpgfdphoiideaa
