/- The document's Same, of programs that are alike. -/
import Derived.Test.YtpdjbhnpahkbpaaN
namespace Go.Proofs.Ytpdjbhnpahkbpaa
open Go.ChangeShapes Go.WideShapes Go.ChangeAt Go.RowKit

/-- Two slices of ints that read alike. -/
theorem RdS.drewN {α : Type} {s : Nat} {R : (Nat → Prop) → World → Nat → Nat → α → Prop} {B : Nat → Prop} {W : World} {v : Value} {xs : List α} (K : Keeps s R) (h : RdS s R B W v xs) (n : Nat) : RdS s R B (W.drewN n) v xs :=
  h.map (fun _ h => h) (Nat.le_refl _) fun _ _ _ _ h => K _ (fun _ => False) _ _ _ _ _ h (fun _ _ => rfl) ((Cha.refl _ W).drewN n) (fun _ f => f.elim)
set_option maxRecDepth 100000 in
set_option maxHeartbeats 1000000 in
theorem samek_any {B B' : Nat → Prop} {W : World} {v v' : Value} {xs : List Int} (h : RdS 1 RdI B W v xs) (h' : RdS 1 RdI B' W v' xs) :
    Calls Try.prog 39 #[v, v'] W fun e w' => e = .returned (.bool true) ∧ ∃ n, w' = W.drewN n := by
  have hlen := h.len
  have H := Lib.hid h
  have H' := Lib.hid h'
  obtain ⟨a, c, rfl, _, _⟩ := h
  obtain ⟨a', c', rfl, _, _⟩ := h'
  obtain ⟨n, hn⟩ : ∃ n, n = xs.length := ⟨_, rfl⟩
  rw [← hn] at hlen ⊢
  have HN := Lib.hid hn
  clear hn
  go_enter Try.func39, Try.ntmps39
  go_wp2
  go_loopw [5] (fun i wr => ∃ (k m : Nat), k ≤ n ∧ i = .int .i64 (k : Int) ∧ wr = W.drewN m) (fun i _ => n - (intOf i).toNat)
  case atStart => exact ⟨0, 0, Nat.zero_le _, rfl, rfl⟩
  case round =>
    obtain ⟨k, m, hk, rfl, rfl⟩ := hrel
    by_cases hlt : k < n
    · obtain ⟨z, hz⟩ : ∃ z, xs[k]? = some z := ⟨_, List.getElem?_eq_getElem (by have := HN.out; omega)⟩
      obtain ⟨g, o, _, he, _, _, hx⟩ := H.out.at hz
      obtain rfl : a = some ⟨g, o, none⟩ := by injection he
      obtain ⟨g', o', _, he', _, _, hx'⟩ := H'.out.at hz
      obtain rfl : a' = some ⟨g', o', none⟩ := by injection he'
      have hc := hx.1
      have hc' := hx'.1
      rw [Nat.mul_one] at hc hc'
      clear he hx he' hx' hz
      go_wp2
      go_quiet (fail)
      go_wp2
      go_roundw
      case rel => exact ⟨k + 1, _, by omega, by go_num, rfl⟩
      case measure => simp [intOf]; omega
    · go_wp2
      go_ret
      exact ⟨rfl, _, rfl⟩
set_option maxRecDepth 100000 in
set_option maxHeartbeats 2000000 in
theorem samei_any {B B' : Nat → Prop} {W : World} {l l' : Value} {xs : List Int} (op xa xb xc : Int) (imm : Nat) (h : RdS 1 RdI B W l xs) (h' : RdS 1 RdI B' W l' xs) :
    Calls Try.prog 40 #[.agg #[.int .i64 op, .int .i64 xa, .int .i64 xb, .int .i64 xc, .int .u64 (imm : Int), l], .agg #[.int .i64 op, .int .i64 xa, .int .i64 xb, .int .i64 xc, .int .u64 (imm : Int), l']] W fun e w' => e = .returned (.bool true) ∧ Cha (fun _ => False) W w' := by
  have hlen := h.len
  have H := Lib.hid h
  have H' := Lib.hid h'
  obtain ⟨a, c, rfl, _, _⟩ := h
  obtain ⟨a', c', rfl, _, _⟩ := h'
  obtain ⟨n, hn⟩ : ∃ n, n = xs.length := ⟨_, rfl⟩
  rw [← hn] at hlen ⊢
  have HN := Lib.hid hn
  clear hn
  have X0 := heap_alloc_new W (.cells #[.int .i64 op, .int .i64 xa, .int .i64 xb, .int .i64 xc, .int .u64 (imm : Int), .slice a n c] 52)
  have X1 := heap_alloc_new (W.alloc (.cells #[.int .i64 op, .int .i64 xa, .int .i64 xb, .int .i64 xc, .int .u64 (imm : Int), .slice a n c] 52)) (.cells #[.int .i64 op, .int .i64 xa, .int .i64 xb, .int .i64 xc, .int .u64 (imm : Int), .slice a' n c'] 52)
  have X2 := (heap_alloc_old (W.alloc (.cells #[.int .i64 op, .int .i64 xa, .int .i64 xb, .int .i64 xc, .int .u64 (imm : Int), .slice a n c] 52)) (.cells #[.int .i64 op, .int .i64 xa, .int .i64 xb, .int .i64 xc, .int .u64 (imm : Int), .slice a' n c'] 52) (show W.heap.size < _ by rw [World.size_alloc]; omega)).trans X0
  rw [World.size_alloc] at X1
  have C2 : Hid (Cha (fun _ => False) W ((W.alloc (.cells #[.int .i64 op, .int .i64 xa, .int .i64 xb, .int .i64 xc, .int .u64 (imm : Int), .slice a n c] 52)).alloc (.cells #[.int .i64 op, .int .i64 xa, .int .i64 xb, .int .i64 xc, .int .u64 (imm : Int), .slice a' n c'] 52))) := Lib.hid (((Cha.refl _ W).alloc _).alloc _)
  have HX1 := Lib.hid X1
  have HX2 := Lib.hid X2
  clear X0 X1 X2
  go_enter Try.func40, Try.ntmps40
  go_wp2
  have H2 := Lib.hid (H.out.ints C2.out (fun _ f => f.elim) (fun _ h => h))
  have H3 := Lib.hid (H'.out.ints C2.out (fun _ f => f.elim) (fun _ h => h))
  obtain ⟨b1, hb1⟩ : ∃ b1, b1 = W.heap.size := ⟨_, rfl⟩
  rw [← hb1] at HX1 HX2 ⊢
  generalize (W.alloc (.cells #[.int .i64 op, .int .i64 xa, .int .i64 xb, .int .i64 xc, .int .u64 (imm : Int), .slice a n c] 52)).alloc (.cells #[.int .i64 op, .int .i64 xa, .int .i64 xb, .int .i64 xc, .int .u64 (imm : Int), .slice a' n c'] 52) = W2 at *
  clear hb1
  go_loopw [5] (fun i wr => ∃ (k m : Nat), k ≤ n ∧ i = .int .i64 (k : Int) ∧ wr = W2.drewN m) (fun i _ => n - (intOf i).toNat)
  case atStart => exact ⟨0, 0, Nat.zero_le _, rfl, rfl⟩
  case round =>
    obtain ⟨k, m, hk, rfl, rfl⟩ := hrel
    have d5 := cell_of_row W2 b1 5 _ 52 (0, 0) HX2.out
    have e5 := cell_of_row W2 (b1 + 1) 5 _ 52 (0, 0) HX1.out
    by_cases hlt : k < n
    · obtain ⟨z, hz⟩ : ∃ z, xs[k]? = some z := ⟨_, List.getElem?_eq_getElem (by have := HN.out; omega)⟩
      obtain ⟨g, o, _, he, _, _, hx⟩ := H2.out.at hz
      obtain rfl : a = some ⟨g, o, none⟩ := by injection he
      obtain ⟨g', o', _, he', _, _, hx'⟩ := H3.out.at hz
      obtain rfl : a' = some ⟨g', o', none⟩ := by injection he'
      have hc := hx.1
      have hc' := hx'.1
      rw [Nat.mul_one] at hc hc'
      clear he hx he' hx' hz
      go_wp2
      go_quiet (fail)
      go_wp2
      go_roundw
      case rel => exact ⟨k + 1, _, by omega, by go_num, rfl⟩
      case measure => simp [intOf]; omega
    · go_wp2
      go_ret
      exact ⟨rfl, C2.out.drewN _⟩
end Go.Proofs.Ytpdjbhnpahkbpaa
