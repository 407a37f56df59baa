/- The document's Same, of programs that are alike. -/
import Derived.Test.YtpdjbhnpahkbpaaN
import Derived.StillTailTactics
namespace Go.Proofs.Ytpdjbhnpahkbpaa
open Go.ChangeShapes Go.WideShapes Go.ChangeAt Go.RowKit

/-- Two slices of ints that read alike. -/
theorem RdS.drewN {α : Type} {s : Nat} {R : (Nat → Prop) → World → Nat → Nat → α → Prop} {B : Nat → Prop} {W : World} {v : Value} {xs : List α} (K : Keeps s R) (h : RdS s R B W v xs) (n : Nat) : RdS s R B (W.drewN n) v xs :=
  h.map (fun _ h => h) (Nat.le_refl _) fun _ _ _ _ h => K _ (fun _ => False) _ _ _ _ _ h (fun _ _ => rfl) ((Cha.refl _ W).drewN n) (fun _ f => f.elim)
set_option maxRecDepth 100000 in
set_option maxHeartbeats 1000000 in
theorem samek_any {B B' : Nat → Prop} {W : World} {v v' : Value} {xs : List Int} (h : RdS 1 RdI B W v xs) (h' : RdS 1 RdI B' W v' xs) :
    Calls Try.prog 39 #[v, v'] W fun e w' => e = .returned (.bool true) ∧ ∃ n, w' = W.drewN n := by
  have hlen := h.len
  have H := Lib.hid h
  have H' := Lib.hid h'
  obtain ⟨a, c, rfl, _, _⟩ := h
  obtain ⟨a', c', rfl, _, _⟩ := h'
  obtain ⟨n, hn⟩ : ∃ n, n = xs.length := ⟨_, rfl⟩
  rw [← hn] at hlen ⊢
  have HN := Lib.hid hn
  clear hn
  go_enter Try.func39, Try.ntmps39
  go_wp2
  go_loopw [5] (fun i wr => ∃ (k m : Nat), k ≤ n ∧ i = .int .i64 (k : Int) ∧ wr = W.drewN m) (fun i _ => n - (intOf i).toNat)
  case atStart => exact ⟨0, 0, Nat.zero_le _, rfl, rfl⟩
  case round =>
    obtain ⟨k, m, hk, rfl, rfl⟩ := hrel
    by_cases hlt : k < n
    · obtain ⟨z, hz⟩ : ∃ z, xs[k]? = some z := ⟨_, List.getElem?_eq_getElem (by have := HN.out; omega)⟩
      obtain ⟨g, o, _, he, _, _, hx⟩ := H.out.at hz
      obtain rfl : a = some ⟨g, o, none⟩ := by injection he
      obtain ⟨g', o', _, he', _, _, hx'⟩ := H'.out.at hz
      obtain rfl : a' = some ⟨g', o', none⟩ := by injection he'
      have hc := hx.1
      have hc' := hx'.1
      rw [Nat.mul_one] at hc hc'
      clear he hx he' hx' hz
      go_wp2
      go_quiet (fail)
      go_wp2
      go_roundw
      case rel => exact ⟨k + 1, _, by omega, by go_num, rfl⟩
      case measure => simp [intOf]; omega
    · go_wp2
      go_ret
      exact ⟨rfl, _, rfl⟩
set_option maxRecDepth 100000 in
set_option maxHeartbeats 2000000 in
theorem samei_any {B B' : Nat → Prop} {W : World} {l l' : Value} {xs : List Int} (op xa xb xc : Int) (imm : Nat) (h : RdS 1 RdI B W l xs) (h' : RdS 1 RdI B' W l' xs) :
    Calls Try.prog 40 #[.agg #[.int .i64 op, .int .i64 xa, .int .i64 xb, .int .i64 xc, .int .u64 (imm : Int), l], .agg #[.int .i64 op, .int .i64 xa, .int .i64 xb, .int .i64 xc, .int .u64 (imm : Int), l']] W fun e w' => e = .returned (.bool true) ∧ Cha (fun _ => False) W w' := by
  have hlen := h.len
  have H := Lib.hid h
  have H' := Lib.hid h'
  obtain ⟨a, c, rfl, _, _⟩ := h
  obtain ⟨a', c', rfl, _, _⟩ := h'
  obtain ⟨n, hn⟩ : ∃ n, n = xs.length := ⟨_, rfl⟩
  rw [← hn] at hlen ⊢
  have HN := Lib.hid hn
  clear hn
  have X0 := heap_alloc_new W (.cells #[.int .i64 op, .int .i64 xa, .int .i64 xb, .int .i64 xc, .int .u64 (imm : Int), .slice a n c] 52)
  have X1 := heap_alloc_new (W.alloc (.cells #[.int .i64 op, .int .i64 xa, .int .i64 xb, .int .i64 xc, .int .u64 (imm : Int), .slice a n c] 52)) (.cells #[.int .i64 op, .int .i64 xa, .int .i64 xb, .int .i64 xc, .int .u64 (imm : Int), .slice a' n c'] 52)
  have X2 := (heap_alloc_old (W.alloc (.cells #[.int .i64 op, .int .i64 xa, .int .i64 xb, .int .i64 xc, .int .u64 (imm : Int), .slice a n c] 52)) (.cells #[.int .i64 op, .int .i64 xa, .int .i64 xb, .int .i64 xc, .int .u64 (imm : Int), .slice a' n c'] 52) (show W.heap.size < _ by rw [World.size_alloc]; omega)).trans X0
  rw [World.size_alloc] at X1
  have C2 : Hid (Cha (fun _ => False) W ((W.alloc (.cells #[.int .i64 op, .int .i64 xa, .int .i64 xb, .int .i64 xc, .int .u64 (imm : Int), .slice a n c] 52)).alloc (.cells #[.int .i64 op, .int .i64 xa, .int .i64 xb, .int .i64 xc, .int .u64 (imm : Int), .slice a' n c'] 52))) := Lib.hid (((Cha.refl _ W).alloc _).alloc _)
  have HX1 := Lib.hid X1
  have HX2 := Lib.hid X2
  clear X0 X1 X2
  go_enter Try.func40, Try.ntmps40
  go_wp2
  have H2 := Lib.hid (H.out.ints C2.out (fun _ f => f.elim) (fun _ h => h))
  have H3 := Lib.hid (H'.out.ints C2.out (fun _ f => f.elim) (fun _ h => h))
  obtain ⟨b1, hb1⟩ : ∃ b1, b1 = W.heap.size := ⟨_, rfl⟩
  rw [← hb1] at HX1 HX2 ⊢
  generalize (W.alloc (.cells #[.int .i64 op, .int .i64 xa, .int .i64 xb, .int .i64 xc, .int .u64 (imm : Int), .slice a n c] 52)).alloc (.cells #[.int .i64 op, .int .i64 xa, .int .i64 xb, .int .i64 xc, .int .u64 (imm : Int), .slice a' n c'] 52) = W2 at *
  clear hb1
  go_loopw [5] (fun i wr => ∃ (k m : Nat), k ≤ n ∧ i = .int .i64 (k : Int) ∧ wr = W2.drewN m) (fun i _ => n - (intOf i).toNat)
  case atStart => exact ⟨0, 0, Nat.zero_le _, rfl, rfl⟩
  case round =>
    obtain ⟨k, m, hk, rfl, rfl⟩ := hrel
    have d5 := cell_of_row W2 b1 5 _ 52 (0, 0) HX2.out
    have e5 := cell_of_row W2 (b1 + 1) 5 _ 52 (0, 0) HX1.out
    by_cases hlt : k < n
    · obtain ⟨z, hz⟩ : ∃ z, xs[k]? = some z := ⟨_, List.getElem?_eq_getElem (by have := HN.out; omega)⟩
      obtain ⟨g, o, _, he, _, _, hx⟩ := H2.out.at hz
      obtain rfl : a = some ⟨g, o, none⟩ := by injection he
      obtain ⟨g', o', _, he', _, _, hx'⟩ := H3.out.at hz
      obtain rfl : a' = some ⟨g', o', none⟩ := by injection he'
      have hc := hx.1
      have hc' := hx'.1
      rw [Nat.mul_one] at hc hc'
      clear he hx he' hx' hz
      go_wp2
      go_quiet (fail)
      go_wp2
      go_roundw
      case rel => exact ⟨k + 1, _, by omega, by go_num, rfl⟩
      case measure => simp [intOf]; omega
    · go_wp2
      go_ret
      exact ⟨rfl, C2.out.drewN _⟩
end Go.Proofs.Ytpdjbhnpahkbpaa

namespace Go.Proofs.Ytpdjbhnpahkbpaa
open Go.ChangeShapes Go.WideShapes Go.ChangeAt Go.RowKit
set_option maxRecDepth 100000 in
set_option maxHeartbeats 4000000 in
theorem same_walk {B B' : Nat → Prop} {W : World} {v0 v1 v2 u0 u1 u2 : Value} {ts : List TZ} {gs : List Int} {fs : List FZ} (h0 : RdS 2 RdTy B W v0 ts) (h1 : RdS 1 RdI B W v1 gs) (h2 : RdS 4 RdFn B W v2 fs) (k0 : RdS 2 RdTy B' W u0 ts) (k1 : RdS 1 RdI B' W u1 gs) (k2 : RdS 4 RdFn B' W u2 fs) :
    Calls Try.prog 21 #[.agg #[v0, v1, v2], .agg #[u0, u1, u2]] W fun e w' => e = .returned (.bool true) ∧ Cha (fun _ => False) W w' := by
  have hl0 := h0.len
  have hl2 := h2.len
  have H0 := Lib.hid h0
  have H1 := Lib.hid h1
  have H2 := Lib.hid h2
  have K0 := Lib.hid k0
  have K1 := Lib.hid k1
  have K2 := Lib.hid k2
  obtain ⟨a0, c0, rfl, -, -⟩ := h0
  obtain ⟨a1, c1, rfl, -, -⟩ := h1
  obtain ⟨a2, c2, rfl, -, -⟩ := h2
  obtain ⟨d0, e0, rfl, -, -⟩ := k0
  obtain ⟨d1, e1, rfl, -, -⟩ := k1
  obtain ⟨d2, e2, rfl, -, -⟩ := k2
  obtain ⟨n0, hn0⟩ : ∃ n, n = ts.length := ⟨_, rfl⟩
  obtain ⟨n1, hn1⟩ : ∃ n, n = gs.length := ⟨_, rfl⟩
  obtain ⟨n2, hn2⟩ : ∃ n, n = fs.length := ⟨_, rfl⟩
  simp only [← hn0, ← hn1, ← hn2] at hl0 hl2 H0 H1 H2 K0 K1 K2 ⊢
  have N0 := Lib.hid hn0
  have N2 := Lib.hid hn2
  clear hn0 hn1 hn2
  have X0 := heap_alloc_new W (.cells #[.slice a0 n0 c0, .slice a1 n1 c1, .slice a2 n2 c2] 26)
  have X1 := heap_alloc_new (W.alloc (.cells #[.slice a0 n0 c0, .slice a1 n1 c1, .slice a2 n2 c2] 26)) (.cells #[.slice d0 n0 e0, .slice d1 n1 e1, .slice d2 n2 e2] 26)
  have X2 := (heap_alloc_old (W.alloc (.cells #[.slice a0 n0 c0, .slice a1 n1 c1, .slice a2 n2 c2] 26)) (.cells #[.slice d0 n0 e0, .slice d1 n1 e1, .slice d2 n2 e2] 26) (show W.heap.size < _ by rw [World.size_alloc]; omega)).trans X0
  rw [World.size_alloc] at X1
  have C2 : Hid (Cha (fun _ => False) W ((W.alloc (.cells #[.slice a0 n0 c0, .slice a1 n1 c1, .slice a2 n2 c2] 26)).alloc (.cells #[.slice d0 n0 e0, .slice d1 n1 e1, .slice d2 n2 e2] 26))) := Lib.hid (((Cha.refl _ W).alloc _).alloc _)
  have HX1 := Lib.hid X1
  have HX2 := Lib.hid X2
  have H0' := Lib.hid (H0.out.tys C2.out (fun _ f => f.elim) (fun _ h => h))
  have H1' := Lib.hid (H1.out.ints C2.out (fun _ f => f.elim) (fun _ h => h))
  have H2' := Lib.hid (H2.out.fns C2.out (fun _ f => f.elim) (fun _ h => h))
  have K0' := Lib.hid (K0.out.tys C2.out (fun _ f => f.elim) (fun _ h => h))
  have K1' := Lib.hid (K1.out.ints C2.out (fun _ f => f.elim) (fun _ h => h))
  have K2' := Lib.hid (K2.out.fns C2.out (fun _ f => f.elim) (fun _ h => h))
  clear X0 X1 X2 H0 H1 H2 K0 K1 K2
  go_enter Try.func21, Try.ntmps21
  go_wp2_with (go_at_call 39; ((with_reducible refine ((samek_any H1'.out K1'.out)).mono ?_); rintro e w1 ⟨rfl, nq, rfl⟩))
  obtain ⟨b1, hb1⟩ : ∃ b1, b1 = W.heap.size := ⟨_, rfl⟩
  rw [← hb1] at HX1 HX2 ⊢
  generalize (W.alloc (.cells #[.slice a0 n0 c0, .slice a1 n1 c1, .slice a2 n2 c2] 26)).alloc (.cells #[.slice d0 n0 e0, .slice d1 n1 e1, .slice d2 n2 e2] 26) = W2 at *
  clear hb1
  go_loopw [5] (fun i wr => ∃ (k : Nat), k ≤ n0 ∧ i = .int .i64 (k : Int) ∧ Cha (fun _ => False) W2 wr) (fun i _ => n0 - (intOf i).toNat)
  case atStart => exact ⟨0, Nat.zero_le _, rfl, (Cha.refl _ W2).drewN _⟩
  case round =>
    obtain ⟨k, hk, rfl, hC⟩ := hrel
    have HC := Lib.hid hC
    have hX1 := (hC.old _ (Array.getElem?_eq_some_iff.1 HX1.out).1 (fun f => f)).trans HX1.out
    have hX2 := (hC.old _ (Array.getElem?_eq_some_iff.1 HX2.out).1 (fun f => f)).trans HX2.out
    have p0 := cell_of_row wr b1 0 _ 26 (0, 0) hX2
    have q0 := cell_of_row wr (b1 + 1) 0 _ 26 (0, 0) hX1
    have p2 := cell_of_row wr b1 2 _ 26 (0, 0) hX2
    have q2 := cell_of_row wr (b1 + 1) 2 _ 26 (0, 0) hX1
    clear hX1 hX2 hC
    by_cases hlt : k < n0
    · obtain ⟨z, hz⟩ : ∃ z, ts[k]? = some z := ⟨_, List.getElem?_eq_getElem (by have := N0.out; omega)⟩
      obtain ⟨g, o, _, he, _, _, hx⟩ := (H0'.out.tys HC.out (fun _ f => f.elim) (fun _ h => h)).at hz
      obtain rfl : a0 = some ⟨g, o, none⟩ := by injection he
      obtain ⟨g', o', _, he', _, _, hx'⟩ := (K0'.out.tys HC.out (fun _ f => f.elim) (fun _ h => h)).at hz
      obtain rfl : d0 = some ⟨g', o', none⟩ := by injection he'
      have s0 := hx.c0
      have t0 := hx'.c0
      obtain ⟨l, s1, s2⟩ := hx.c1
      obtain ⟨l', t1, t2⟩ := hx'.c1
      obtain ⟨la, ln, lc, rfl⟩ := rds_shape s2
      obtain ⟨la', ln', lc', rfl⟩ := rds_shape t2
      have S2 := Lib.hid s2
      have T2 := Lib.hid t2
      clear he hx he' hx' hz s2 t2
      go_wp2
      go_quiet ((go_at_call 39; exact Calls.quiet_of (samek_any (S2.out.drewN keeps_int _) (T2.out.drewN keeps_int _))))
      go_wp2
      go_roundw
      case rel => exact ⟨k + 1, by omega, by go_num, HC.out.drewN _⟩
      case measure => simp [intOf]; omega
    · go_wp2
      clear p0 q0 p2 q2 hlt hk
      go_loopw [6] (fun i wr => ∃ (k : Nat), k ≤ n2 ∧ i = .int .i64 (k : Int) ∧ Cha (fun _ => False) W2 wr) (fun i _ => n2 - (intOf i).toNat)
      case atStart => exact ⟨0, Nat.zero_le _, rfl, HC.out⟩
      case round =>
        clear HC
        obtain ⟨k, hk, rfl, hC⟩ := hrel
        have HC := Lib.hid hC
        have hX1 := (hC.old _ (Array.getElem?_eq_some_iff.1 HX1.out).1 (fun f => f)).trans HX1.out
        have hX2 := (hC.old _ (Array.getElem?_eq_some_iff.1 HX2.out).1 (fun f => f)).trans HX2.out
        have p2 := cell_of_row wr b1 2 _ 26 (0, 0) hX2
        have q2 := cell_of_row wr (b1 + 1) 2 _ 26 (0, 0) hX1
        have hb1 := (Array.getElem?_eq_some_iff.1 hX2).1
        have hb2 := (Array.getElem?_eq_some_iff.1 hX1).1
        clear hX1 hX2 hC
        by_cases hlt : k < n2
        · obtain ⟨z, hz⟩ : ∃ z, fs[k]? = some z := ⟨_, List.getElem?_eq_getElem (by have := N2.out; omega)⟩
          obtain ⟨g, o, _, he, -, hgl, hx⟩ := (H2'.out.fns HC.out (fun _ f => f.elim) (fun _ h => h)).at hz
          obtain rfl : a2 = some ⟨g, o, none⟩ := by injection he
          obtain ⟨g', o', _, he', -, hgl', hx'⟩ := (K2'.out.fns HC.out (fun _ f => f.elim) (fun _ h => h)).at hz
          obtain rfl : d2 = some ⟨g', o', none⟩ := by injection he'
          obtain ⟨pa, sl, re, co⟩ := z
          have s0 : wr.cell? ⟨g, o + k * 4, none⟩ = some (.int .i64 pa) := hx.c0
          have t0 : wr.cell? ⟨g', o' + k * 4, none⟩ = some (.int .i64 pa) := hx'.c0
          obtain ⟨l1, s1, s1r⟩ := hx.c1
          obtain ⟨l1', t1, t1r⟩ := hx'.c1
          obtain ⟨l2, s2, s2r⟩ := hx.c2
          obtain ⟨l2', t2, t2r⟩ := hx'.c2
          obtain ⟨l3, s3, s3r⟩ := hx.c3
          obtain ⟨l3', t3, t3r⟩ := hx'.c3
          have S1 : Hid (RdS 1 RdI B wr l1 sl) := Lib.hid s1r
          have S2 : Hid (RdS 1 RdI B wr l2 re) := Lib.hid s2r
          have S3 : Hid (RdS 6 RdIns B wr l3 co) := Lib.hid s3r
          have T1 : Hid (RdS 1 RdI B' wr l1' sl) := Lib.hid t1r
          have T2 : Hid (RdS 1 RdI B' wr l2' re) := Lib.hid t2r
          have T3 : Hid (RdS 6 RdIns B' wr l3' co) := Lib.hid t3r
          obtain ⟨la1, ln1, lc1, rfl⟩ := rds_shape s1r
          obtain ⟨la2, ln2, lc2, rfl⟩ := rds_shape s2r
          obtain ⟨la3, lc3, rfl, hl3, -⟩ := S3.out
          obtain ⟨ma1, mn1, mc1, rfl⟩ := rds_shape t1r
          obtain ⟨ma2, mn2, mc2, rfl⟩ := rds_shape t2r
          obtain ⟨ma3, mc3, rfl, -, -⟩ := T3.out
          clear he hx he' hx' hz s1r s2r s3r t1r t2r t3r
          obtain ⟨n3, hn3⟩ : ∃ n, n = co.length := ⟨_, rfl⟩
          rw [← hn3] at s3 t3 S3 T3 hl3
          have N3 := Lib.hid hn3
          clear hn3
          go_wp2
          go_region
          · as_aux_lemma =>
            clear H0' H1' K0' K1' N0 hl0
            have XA0 := heap_alloc_new wr (.cells #[.int .i64 pa, .slice la1 ln1 lc1, .slice la2 ln2 lc2, .slice la3 n3 lc3] 55)
            have XB0 := heap_alloc_new (wr.alloc (.cells #[.int .i64 pa, .slice la1 ln1 lc1, .slice la2 ln2 lc2, .slice la3 n3 lc3] 55)) (.cells #[.int .i64 pa, .slice ma1 mn1 mc1, .slice ma2 mn2 mc2, .slice ma3 n3 mc3] 55)
            have XA1 := (heap_alloc_old (wr.alloc (.cells #[.int .i64 pa, .slice la1 ln1 lc1, .slice la2 ln2 lc2, .slice la3 n3 lc3] 55)) (.cells #[.int .i64 pa, .slice ma1 mn1 mc1, .slice ma2 mn2 mc2, .slice ma3 n3 mc3] 55) (show wr.heap.size < _ by rw [World.size_alloc]; omega)).trans XA0
            rw [World.size_alloc] at XB0
            have XA2 : Hid (((wr.alloc (.cells #[.int .i64 pa, .slice la1 ln1 lc1, .slice la2 ln2 lc2, .slice la3 n3 lc3] 55)).alloc (.cells #[.int .i64 pa, .slice ma1 mn1 mc1, .slice ma2 mn2 mc2, .slice ma3 n3 mc3] 55)).drew.heap[wr.heap.size]? = some (.cells #[.int .i64 pa, .slice la1 ln1 lc1, .slice la2 ln2 lc2, .slice la3 n3 lc3] 55)) := Lib.hid XA1
            have XB2 : Hid (((wr.alloc (.cells #[.int .i64 pa, .slice la1 ln1 lc1, .slice la2 ln2 lc2, .slice la3 n3 lc3] 55)).alloc (.cells #[.int .i64 pa, .slice ma1 mn1 mc1, .slice ma2 mn2 mc2, .slice ma3 n3 mc3] 55)).drew.heap[wr.heap.size + 1]? = some (.cells #[.int .i64 pa, .slice ma1 mn1 mc1, .slice ma2 mn2 mc2, .slice ma3 n3 mc3] 55)) := Lib.hid XB0
            have C5 : Hid (Cha (fun _ => False) wr ((wr.alloc (.cells #[.int .i64 pa, .slice la1 ln1 lc1, .slice la2 ln2 lc2, .slice la3 n3 lc3] 55)).alloc (.cells #[.int .i64 pa, .slice ma1 mn1 mc1, .slice ma2 mn2 mc2, .slice ma3 n3 mc3] 55)).drew) := Lib.hid (((Cha.refl _ wr).alloc _).alloc _).drew
            clear XA0 XB0 XA1
            have C6 := Lib.hid (HC.out.trans C5.out)
            have S1' := Lib.hid (S1.out.ints C5.out (fun _ f => f.elim) (fun _ h => h))
            have S2' := Lib.hid (S2.out.ints C5.out (fun _ f => f.elim) (fun _ h => h))
            have S3' := Lib.hid (S3.out.inss C5.out (fun _ f => f.elim) (fun _ h => h))
            have T1' := Lib.hid (T1.out.ints C5.out (fun _ f => f.elim) (fun _ h => h))
            have T2' := Lib.hid (T2.out.ints C5.out (fun _ f => f.elim) (fun _ h => h))
            have T3' := Lib.hid (T3.out.inss C5.out (fun _ f => f.elim) (fun _ h => h))
            clear S1 S2 S3 T1 T2 T3 s0 t0 s1 s2 s3 t1 t2 t3 p2 q2 hb1 hb2 hgl hgl'
            obtain ⟨b3, hb3⟩ : ∃ b, b = wr.heap.size := ⟨_, rfl⟩
            rw [← hb3] at XA2 XB2 ⊢
            generalize ((wr.alloc (.cells #[.int .i64 pa, .slice la1 ln1 lc1, .slice la2 ln2 lc2, .slice la3 n3 lc3] 55)).alloc (.cells #[.int .i64 pa, .slice ma1 mn1 mc1, .slice ma2 mn2 mc2, .slice ma3 n3 mc3] 55)).drew = W5 at *
            clear C5 HC hb3
            have r0 := cell_of_row W5 (b3) 0 _ 55 (0, 0) XA2.out
            have r1 := cell_of_row W5 (b3) 1 _ 55 (0, 0) XA2.out
            have r2 := cell_of_row W5 (b3) 2 _ 55 (0, 0) XA2.out
            have r3 := cell_of_row W5 (b3) 3 _ 55 (0, 0) XA2.out
            have z0 := cell_of_row W5 (b3 + 1) 0 _ 55 (0, 0) XB2.out
            have z1 := cell_of_row W5 (b3 + 1) 1 _ 55 (0, 0) XB2.out
            have z2 := cell_of_row W5 (b3 + 1) 2 _ 55 (0, 0) XB2.out
            have z3 := cell_of_row W5 (b3 + 1) 3 _ 55 (0, 0) XB2.out
            go_wp2_with (first
              | (go_at_call 39; ((with_reducible refine ((samek_any S1'.out T1'.out)).mono ?_); rintro e w1 ⟨rfl, nq, rfl⟩))
              | (go_at_call 39; ((with_reducible refine ((samek_any (S2'.out.drewN keeps_int _) (T2'.out.drewN keeps_int _))).mono ?_); rintro e w1 ⟨rfl, nq2, rfl⟩)))
            clear r0 r1 r2 r3 z0 z1 z2 z3
            go_loopw [9] (fun i wr => ∃ (k : Nat), k ≤ n3 ∧ i = .int .i64 (k : Int) ∧ Cha (fun _ => False) W5 wr) (fun i _ => n3 - (intOf i).toNat)
            case atStart => exact ⟨0, Nat.zero_le _, rfl, (Cha.refl _ W5).drewN _⟩
            case round =>
              obtain ⟨k3, hk3, rfl, hC3⟩ := hrel
              have HC3 := Lib.hid hC3
              have hXA := (hC3.old _ (Array.getElem?_eq_some_iff.1 XA2.out).1 (fun f => f)).trans XA2.out
              have hXB := (hC3.old _ (Array.getElem?_eq_some_iff.1 XB2.out).1 (fun f => f)).trans XB2.out
              have r3 := cell_of_row wr (b3) 3 _ 55 (0, 0) hXA
              have z3 := cell_of_row wr (b3 + 1) 3 _ 55 (0, 0) hXB
              clear hXA hXB hC3
              by_cases hlt3 : k3 < n3
              · obtain ⟨y, hy⟩ : ∃ y, co[k3]? = some y := ⟨_, List.getElem?_eq_getElem (by have := N3.out; omega)⟩
                obtain ⟨i1, j1, _, he, -, -, hx⟩ := (S3'.out.inss HC3.out (fun _ f => f.elim) (fun _ h => h)).at hy
                obtain rfl : la3 = some ⟨i1, j1, none⟩ := by injection he
                obtain ⟨i2, j2, _, he', -, -, hx'⟩ := (T3'.out.inss HC3.out (fun _ f => f.elim) (fun _ h => h)).at hy
                obtain rfl : ma3 = some ⟨i2, j2, none⟩ := by injection he'
                obtain ⟨op, xa, xb, xc, imm, xs⟩ := y
                have y0 : wr.cell? ⟨i1, j1 + k3 * 6, none⟩ = some (.int .i64 op) := hx.c0
                have y1 : wr.cell? ⟨i1, j1 + k3 * 6 + 1, none⟩ = some (.int .i64 xa) := hx.c1
                have y2 : wr.cell? ⟨i1, j1 + k3 * 6 + 2, none⟩ = some (.int .i64 xb) := hx.c2
                have y3 : wr.cell? ⟨i1, j1 + k3 * 6 + 3, none⟩ = some (.int .i64 xc) := hx.c3
                have y4 : wr.cell? ⟨i1, j1 + k3 * 6 + 4, none⟩ = some (.int .u64 (imm : Int)) := hx.c4
                obtain ⟨ly, y5, yr⟩ := hx.c5
                have x0 : wr.cell? ⟨i2, j2 + k3 * 6, none⟩ = some (.int .i64 op) := hx'.c0
                have x1 : wr.cell? ⟨i2, j2 + k3 * 6 + 1, none⟩ = some (.int .i64 xa) := hx'.c1
                have x2 : wr.cell? ⟨i2, j2 + k3 * 6 + 2, none⟩ = some (.int .i64 xb) := hx'.c2
                have x3 : wr.cell? ⟨i2, j2 + k3 * 6 + 3, none⟩ = some (.int .i64 xc) := hx'.c3
                have x4 : wr.cell? ⟨i2, j2 + k3 * 6 + 4, none⟩ = some (.int .u64 (imm : Int)) := hx'.c4
                obtain ⟨lx, x5, xr⟩ := hx'.c5
                have YR := Lib.hid (RdS.ints yr ((Cha.refl (fun _ => False) wr).drew) (fun _ f => f.elim) (fun _ h => h))
                have XR := Lib.hid (RdS.ints xr ((Cha.refl (fun _ => False) wr).drew) (fun _ f => f.elim) (fun _ h => h))
                obtain ⟨ya, yn, yc, rfl⟩ := rds_shape yr
                obtain ⟨xa', xn, xc', rfl⟩ := rds_shape xr
                have HC4 := Lib.hid HC3.out.drew
                clear he hx he' hx' hy yr xr
                go_wp2
                refine wp_region_still_tail 10 (by kernel_rfl) (by kernel_rfl) ?_
                change wpStill _ _ wr.drew _ _ _
                simp only [List.take_succ_cons, List.take_zero, List.drop_succ_cons, List.drop_zero]
                repeat still_step
                refine wpStill_nil ?_
                change wpList _ _ _ _ _ wr.drew
                generalize wr.drew = W7 at *
                clear y0 y1 y2 y3 y4 y5 x0 x1 x2 x3 x4 x5 r3 z3
                go_wp2_with (go_at_call 40; ((with_reducible refine ((samei_any op xa xb xc imm YR.out XR.out)).mono ?_); rintro e w8 ⟨rfl, k8⟩; have K8 := Lib.hid k8; clear k8))
                go_roundw
                case rel => exact ⟨k3 + 1, by omega, by go_num, HC4.out.trans K8.out⟩
                case measure => simp [intOf]; omega
              · go_wp2
                go_roundw
                case rel => exact ⟨k + 1, by omega, by go_num, C6.out.trans HC3.out⟩
                case measure => simp [intOf]; omega
          · as_aux_lemma =>
            clear H0' H1' K0' K1' N0 hl0
            have XA0 := heap_alloc_new wr (.cells #[.int .i64 pa, .slice ma1 mn1 mc1, .slice ma2 mn2 mc2, .slice ma3 n3 mc3] 55)
            have XB0 := heap_alloc_new (wr.alloc (.cells #[.int .i64 pa, .slice ma1 mn1 mc1, .slice ma2 mn2 mc2, .slice ma3 n3 mc3] 55)) (.cells #[.int .i64 pa, .slice la1 ln1 lc1, .slice la2 ln2 lc2, .slice la3 n3 lc3] 55)
            have XA1 := (heap_alloc_old (wr.alloc (.cells #[.int .i64 pa, .slice ma1 mn1 mc1, .slice ma2 mn2 mc2, .slice ma3 n3 mc3] 55)) (.cells #[.int .i64 pa, .slice la1 ln1 lc1, .slice la2 ln2 lc2, .slice la3 n3 lc3] 55) (show wr.heap.size < _ by rw [World.size_alloc]; omega)).trans XA0
            rw [World.size_alloc] at XB0
            have XA2 : Hid (((wr.alloc (.cells #[.int .i64 pa, .slice ma1 mn1 mc1, .slice ma2 mn2 mc2, .slice ma3 n3 mc3] 55)).alloc (.cells #[.int .i64 pa, .slice la1 ln1 lc1, .slice la2 ln2 lc2, .slice la3 n3 lc3] 55)).drew.heap[wr.heap.size]? = some (.cells #[.int .i64 pa, .slice ma1 mn1 mc1, .slice ma2 mn2 mc2, .slice ma3 n3 mc3] 55)) := Lib.hid XA1
            have XB2 : Hid (((wr.alloc (.cells #[.int .i64 pa, .slice ma1 mn1 mc1, .slice ma2 mn2 mc2, .slice ma3 n3 mc3] 55)).alloc (.cells #[.int .i64 pa, .slice la1 ln1 lc1, .slice la2 ln2 lc2, .slice la3 n3 lc3] 55)).drew.heap[wr.heap.size + 1]? = some (.cells #[.int .i64 pa, .slice la1 ln1 lc1, .slice la2 ln2 lc2, .slice la3 n3 lc3] 55)) := Lib.hid XB0
            have C5 : Hid (Cha (fun _ => False) wr ((wr.alloc (.cells #[.int .i64 pa, .slice ma1 mn1 mc1, .slice ma2 mn2 mc2, .slice ma3 n3 mc3] 55)).alloc (.cells #[.int .i64 pa, .slice la1 ln1 lc1, .slice la2 ln2 lc2, .slice la3 n3 lc3] 55)).drew) := Lib.hid (((Cha.refl _ wr).alloc _).alloc _).drew
            clear XA0 XB0 XA1
            have C6 := Lib.hid (HC.out.trans C5.out)
            have S1' := Lib.hid (S1.out.ints C5.out (fun _ f => f.elim) (fun _ h => h))
            have S2' := Lib.hid (S2.out.ints C5.out (fun _ f => f.elim) (fun _ h => h))
            have S3' := Lib.hid (S3.out.inss C5.out (fun _ f => f.elim) (fun _ h => h))
            have T1' := Lib.hid (T1.out.ints C5.out (fun _ f => f.elim) (fun _ h => h))
            have T2' := Lib.hid (T2.out.ints C5.out (fun _ f => f.elim) (fun _ h => h))
            have T3' := Lib.hid (T3.out.inss C5.out (fun _ f => f.elim) (fun _ h => h))
            clear S1 S2 S3 T1 T2 T3 s0 t0 s1 s2 s3 t1 t2 t3 p2 q2 hb1 hb2 hgl hgl'
            obtain ⟨b3, hb3⟩ : ∃ b, b = wr.heap.size := ⟨_, rfl⟩
            rw [← hb3] at XA2 XB2 ⊢
            generalize ((wr.alloc (.cells #[.int .i64 pa, .slice ma1 mn1 mc1, .slice ma2 mn2 mc2, .slice ma3 n3 mc3] 55)).alloc (.cells #[.int .i64 pa, .slice la1 ln1 lc1, .slice la2 ln2 lc2, .slice la3 n3 lc3] 55)).drew = W5 at *
            clear C5 HC hb3
            have r0 := cell_of_row W5 (b3 + 1) 0 _ 55 (0, 0) XB2.out
            have r1 := cell_of_row W5 (b3 + 1) 1 _ 55 (0, 0) XB2.out
            have r2 := cell_of_row W5 (b3 + 1) 2 _ 55 (0, 0) XB2.out
            have r3 := cell_of_row W5 (b3 + 1) 3 _ 55 (0, 0) XB2.out
            have z0 := cell_of_row W5 (b3) 0 _ 55 (0, 0) XA2.out
            have z1 := cell_of_row W5 (b3) 1 _ 55 (0, 0) XA2.out
            have z2 := cell_of_row W5 (b3) 2 _ 55 (0, 0) XA2.out
            have z3 := cell_of_row W5 (b3) 3 _ 55 (0, 0) XA2.out
            go_wp2_with (first
              | (go_at_call 39; ((with_reducible refine ((samek_any S1'.out T1'.out)).mono ?_); rintro e w1 ⟨rfl, nq, rfl⟩))
              | (go_at_call 39; ((with_reducible refine ((samek_any (S2'.out.drewN keeps_int _) (T2'.out.drewN keeps_int _))).mono ?_); rintro e w1 ⟨rfl, nq2, rfl⟩)))
            clear r0 r1 r2 r3 z0 z1 z2 z3
            go_loopw [9] (fun i wr => ∃ (k : Nat), k ≤ n3 ∧ i = .int .i64 (k : Int) ∧ Cha (fun _ => False) W5 wr) (fun i _ => n3 - (intOf i).toNat)
            case atStart => exact ⟨0, Nat.zero_le _, rfl, (Cha.refl _ W5).drewN _⟩
            case round =>
              obtain ⟨k3, hk3, rfl, hC3⟩ := hrel
              have HC3 := Lib.hid hC3
              have hXA := (hC3.old _ (Array.getElem?_eq_some_iff.1 XA2.out).1 (fun f => f)).trans XA2.out
              have hXB := (hC3.old _ (Array.getElem?_eq_some_iff.1 XB2.out).1 (fun f => f)).trans XB2.out
              have r3 := cell_of_row wr (b3 + 1) 3 _ 55 (0, 0) hXB
              have z3 := cell_of_row wr (b3) 3 _ 55 (0, 0) hXA
              clear hXA hXB hC3
              by_cases hlt3 : k3 < n3
              · obtain ⟨y, hy⟩ : ∃ y, co[k3]? = some y := ⟨_, List.getElem?_eq_getElem (by have := N3.out; omega)⟩
                obtain ⟨i1, j1, _, he, -, -, hx⟩ := (S3'.out.inss HC3.out (fun _ f => f.elim) (fun _ h => h)).at hy
                obtain rfl : la3 = some ⟨i1, j1, none⟩ := by injection he
                obtain ⟨i2, j2, _, he', -, -, hx'⟩ := (T3'.out.inss HC3.out (fun _ f => f.elim) (fun _ h => h)).at hy
                obtain rfl : ma3 = some ⟨i2, j2, none⟩ := by injection he'
                obtain ⟨op, xa, xb, xc, imm, xs⟩ := y
                have y0 : wr.cell? ⟨i1, j1 + k3 * 6, none⟩ = some (.int .i64 op) := hx.c0
                have y1 : wr.cell? ⟨i1, j1 + k3 * 6 + 1, none⟩ = some (.int .i64 xa) := hx.c1
                have y2 : wr.cell? ⟨i1, j1 + k3 * 6 + 2, none⟩ = some (.int .i64 xb) := hx.c2
                have y3 : wr.cell? ⟨i1, j1 + k3 * 6 + 3, none⟩ = some (.int .i64 xc) := hx.c3
                have y4 : wr.cell? ⟨i1, j1 + k3 * 6 + 4, none⟩ = some (.int .u64 (imm : Int)) := hx.c4
                obtain ⟨ly, y5, yr⟩ := hx.c5
                have x0 : wr.cell? ⟨i2, j2 + k3 * 6, none⟩ = some (.int .i64 op) := hx'.c0
                have x1 : wr.cell? ⟨i2, j2 + k3 * 6 + 1, none⟩ = some (.int .i64 xa) := hx'.c1
                have x2 : wr.cell? ⟨i2, j2 + k3 * 6 + 2, none⟩ = some (.int .i64 xb) := hx'.c2
                have x3 : wr.cell? ⟨i2, j2 + k3 * 6 + 3, none⟩ = some (.int .i64 xc) := hx'.c3
                have x4 : wr.cell? ⟨i2, j2 + k3 * 6 + 4, none⟩ = some (.int .u64 (imm : Int)) := hx'.c4
                obtain ⟨lx, x5, xr⟩ := hx'.c5
                have YR := Lib.hid (RdS.ints yr ((Cha.refl (fun _ => False) wr).drew) (fun _ f => f.elim) (fun _ h => h))
                have XR := Lib.hid (RdS.ints xr ((Cha.refl (fun _ => False) wr).drew) (fun _ f => f.elim) (fun _ h => h))
                obtain ⟨ya, yn, yc, rfl⟩ := rds_shape yr
                obtain ⟨xa', xn, xc', rfl⟩ := rds_shape xr
                have HC4 := Lib.hid HC3.out.drew
                clear he hx he' hx' hy yr xr
                go_wp2
                refine wp_region_still_tail 10 (by kernel_rfl) (by kernel_rfl) ?_
                change wpStill _ _ wr.drew _ _ _
                simp only [List.take_succ_cons, List.take_zero, List.drop_succ_cons, List.drop_zero]
                repeat still_step
                refine wpStill_nil ?_
                change wpList _ _ _ _ _ wr.drew
                generalize wr.drew = W7 at *
                clear y0 y1 y2 y3 y4 y5 x0 x1 x2 x3 x4 x5 r3 z3
                go_wp2_with (go_at_call 40; ((with_reducible refine ((samei_any op xa xb xc imm YR.out XR.out)).mono ?_); rintro e w8 ⟨rfl, k8⟩; have K8 := Lib.hid k8; clear k8))
                go_roundw
                case rel => exact ⟨k3 + 1, by omega, by go_num, HC4.out.trans K8.out⟩
                case measure => simp [intOf]; omega
              · go_wp2
                go_roundw
                case rel => exact ⟨k + 1, by omega, by go_num, C6.out.trans HC3.out⟩
                case measure => simp [intOf]; omega
        · go_wp2
          go_ret
          exact ⟨rfl, C2.out.trans HC.out⟩
theorem samep_any {B B' : Nat → Prop} {W : World} {v v' : Value} {p : PZ} (h : RdP B W v p) (h' : RdP B' W v' p) : Calls Try.prog 21 #[v, v'] W fun e w' => e = .returned (.bool true) ∧ Cha (fun _ => False) W w' := by
  obtain ⟨v0, v1, v2, rfl, h0, h1, h2⟩ := h
  obtain ⟨u0, u1, u2, rfl, k0, k1, k2⟩ := h'
  exact same_walk h0 h1 h2 k0 k1 k2
end Go.Proofs.Ytpdjbhnpahkbpaa
