/- CodeImms: the walk. -/
import Derived.Test.YtpdjbhnpahkbpaaX
namespace Go.Proofs.Ytpdjbhnpahkbpaa
open Go.ChangeShapes Go.WideShapes Go.ChangeAt Go.RowKit

/-- The small program in the blocks behind b. -/
structure SmallAt (w : World) (b : Nat) (m n : Nat) : Prop where
  s1 : w.heap[b + 1]? = some (.cells #[.int .i64 0] 64 (0, 0))
  s2 : w.heap[b + 2]? = some (.cells #[.int .i64 1, .int .i64 (n : Int), .int .i64 0, .int .i64 0, .int .u64 (m : Int), .slice none 0 0] 52 (0, 0))
  s3 : w.heap[b + 3]? = some (.cells #[.int .i64 0, .slice (some ⟨b + 1, 0, none⟩) 1 1, .slice none 0 0, .slice (some ⟨b + 2, 0, none⟩) 1 1] 55 (0, 0))
theorem one_of {α : Type} (y : α) (i : Nat) (x : α) (h : [y][i]? = some x) : i = 0 ∧ y = x := by
  cases i with
  | zero => exact ⟨rfl, by simpa using h⟩
  | succ i => simp at h
theorem SmallAt.reads {w : World} {b m n : Nat} (h : SmallAt w b m n) (hm : m < 18446744073709551616) (hn : n ≤ 65535) : HasP w (.agg #[.slice none 0 0, .slice none 0 0, .slice (some ⟨b + 3, 0, none⟩) 1 1]) (smallZ m n) := by
  have l1 := (Array.getElem?_eq_some_iff.1 h.s1).1
  have l2 := (Array.getElem?_eq_some_iff.1 h.s2).1
  have l3 := (Array.getElem?_eq_some_iff.1 h.s3).1
  have i0 : I64 0 := by unfold I64; omega
  have i1 : I64 1 := by unfold I64; omega
  have i2 : I64 (n : Int) := by unfold I64; omega
  refine ⟨_, _, _, rfl, RdS.nil _ _ _ _, RdS.nil _ _ _ _, _, _, rfl, by simp [smallZ], fun _ => ⟨_, _, rfl, l3, l3, fun i x hi => ?_⟩⟩
  obtain ⟨rfl, rfl⟩ := one_of _ _ _ hi
  refine ⟨cell_of_row w _ 0 _ 55 (0, 0) h.s3, ⟨_, cell_of_row w _ 1 _ 55 (0, 0) h.s3, _, _, rfl, by simp, fun _ => ⟨_, _, rfl, l1, l1, fun i x hi => ?_⟩⟩, ⟨_, cell_of_row w _ 2 _ 55 (0, 0) h.s3, RdS.nil _ _ _ _⟩, ⟨_, cell_of_row w _ 3 _ 55 (0, 0) h.s3, _, _, rfl, by simp, fun _ => ⟨_, _, rfl, l2, l2, fun i x hi => ?_⟩⟩, i0⟩
  · obtain ⟨rfl, rfl⟩ := one_of _ _ _ hi
    exact ⟨cell_of_row w _ 0 _ 64 (0, 0) h.s1, i0⟩
  · obtain ⟨rfl, rfl⟩ := one_of _ _ _ hi
    exact ⟨cell_of_row w _ 0 _ 52 (0, 0) h.s2, cell_of_row w _ 1 _ 52 (0, 0) h.s2, cell_of_row w _ 2 _ 52 (0, 0) h.s2, cell_of_row w _ 3 _ 52 (0, 0) h.s2, cell_of_row w _ 4 _ 52 (0, 0) h.s2, ⟨_, cell_of_row w _ 5 _ 52 (0, 0) h.s2, RdS.nil _ _ _ _⟩, i1, i2, i0, i0, hm⟩
theorem SmallAt.alloc {w : World} {b m n : Nat} (h : SmallAt w b m n) (o : Obj) : SmallAt (w.alloc o) b m n := by
  have l1 := (Array.getElem?_eq_some_iff.1 h.s1).1
  have l2 := (Array.getElem?_eq_some_iff.1 h.s2).1
  have l3 := (Array.getElem?_eq_some_iff.1 h.s3).1
  exact ⟨(heap_alloc_old _ _ l1).trans h.s1, (heap_alloc_old _ _ l2).trans h.s2, (heap_alloc_old _ _ l3).trans h.s3⟩
theorem SmallAt.setM {w : World} {b m n : Nat} (h : SmallAt w b m n) (k : Nat) : SmallAt (w.setCell ⟨b + 2, 4, none⟩ (.int .u64 (k : Int))) b k n := by
  refine ⟨?_, heap_setCell_same w (b + 2) 4 _ 52 (.int .u64 (k : Int)) h.s2, ?_⟩
  · rw [heap_setCell_other _ _ _ _ (by show b + 1 ≠ b + 2; omega)]; exact h.s1
  · rw [heap_setCell_other _ _ _ _ (by show b + 3 ≠ b + 2; omega)]; exact h.s3
theorem SmallAt.setN {w : World} {b m n : Nat} (h : SmallAt w b m n) (k : Nat) : SmallAt (w.setCell ⟨b + 2, 1, none⟩ (.int .i64 (k : Int))) b m k := by
  refine ⟨?_, heap_setCell_same w (b + 2) 1 _ 52 (.int .i64 (k : Int)) h.s2, ?_⟩
  · rw [heap_setCell_other _ _ _ _ (by show b + 1 ≠ b + 2; omega)]; exact h.s1
  · rw [heap_setCell_other _ _ _ _ (by show b + 3 ≠ b + 2; omega)]; exact h.s3
def Smalle (W : World) (e : Ending) (w' : World) : Prop := e = .returned (.agg #[.slice none 0 0, .slice none 0 0, .slice (some ⟨W.heap.size + 3, 0, none⟩) 1 1]) ∧ SmallAt w' W.heap.size 300 0 ∧ Cha (fun _ => False) W w'
set_option maxRecDepth 100000 in
set_option maxHeartbeats 1000000 in
theorem smalle_any (W : World) : Calls Try.prog 23 #[] W (Smalle W) := by
  go_enter Try.func23, Try.ntmps23
  go_wp2
  refine bodyPost_ret (v := .agg #[.slice none 0 0, .slice none 0 0, .slice (some ⟨W.heap.size + 3, 0, none⟩) 1 1]) (by simp [results, Try.results23, go_sem]) rfl ?_
  obtain ⟨a1, a2, a3⟩ := alloc4 W (.cells #[.slice none 0 0, .slice none 0 0, .slice (some ⟨W.heap.size + 1 + 1 + 1, 0, none⟩) 1 1] 26) (.cells #[.int .i64 0] 64) (.cells #[.int .i64 1, .int .i64 0, .int .i64 0, .int .i64 0, .int .u64 300, .slice none 0 0] 52) (.cells #[.int .i64 0, .slice (some ⟨W.heap.size + 1, 0, none⟩) 1 1, .slice none 0 0, .slice (some ⟨W.heap.size + 1 + 1, 0, none⟩) 1 1] 55)
  exact ⟨rfl, ⟨a1, a2, a3⟩, ((((Cha.refl _ W).alloc _).alloc _).alloc _).alloc _⟩
theorem small_cells {w : World} {v0 v1 : Value} {a2 : Option Addr} {n2 c2 m n : Nat} (h : HasP w (.agg #[v0, v1, .slice a2 n2 c2]) (smallZ m n)) : n2 = 1 ∧ ∃ b o b' o' c' la ln lc, a2 = some ⟨b, o, none⟩ ∧ b < w.heap.size ∧ b' < w.heap.size ∧ w.cell? ⟨b, o + 3, none⟩ = some (.slice (some ⟨b', o', none⟩) 1 c') ∧
    w.cell? ⟨b', o', none⟩ = some (.int .i64 1) ∧ w.cell? ⟨b', o' + 1, none⟩ = some (.int .i64 (n : Int)) ∧ w.cell? ⟨b', o' + 2, none⟩ = some (.int .i64 0) ∧ w.cell? ⟨b', o' + 3, none⟩ = some (.int .i64 0) ∧ w.cell? ⟨b', o' + 4, none⟩ = some (.int .u64 (m : Int)) ∧ w.cell? ⟨b', o' + 5, none⟩ = some (.slice la ln lc) := by
  obtain ⟨u0, u1, u2, e, _, _, h2⟩ := h
  injection e with e
  have e0 : v0 = u0 ∧ v1 = u1 ∧ Value.slice a2 n2 c2 = u2 := by simpa using e
  obtain ⟨rfl, rfl, rfl⟩ := e0
  obtain ⟨b, o, c, e, hb, hbs, hx⟩ := h2.at (i := 0) (x := ⟨0, [0], [], [⟨1, (n : Int), 0, 0, m, []⟩]⟩) rfl
  injection e with e1 e2 e3
  obtain ⟨v3, d3, r3⟩ := hx.c3
  obtain ⟨b', o', c', e', hb', hbs', hy⟩ := r3.at (i := 0) (x := ⟨1, (n : Int), 0, 0, m, []⟩) rfl
  subst e'
  obtain ⟨vl, d5, r5⟩ := hy.c5
  obtain ⟨la, ln, lc, rfl⟩ := rds_shape r5
  exact ⟨e2, b, o, b', o', c', la, ln, lc, e1, hbs, hbs', by simpa using d3, by simpa using hy.c0, by simpa using hy.c1, by simpa using hy.c2, by simpa using hy.c3, by simpa using hy.c4, by simpa using d5⟩
theorem digs_half {n : Nat} (h : 127 < n) : (digs (n / 128)).length + 1 = (digs n).length := by rw [digs_hi (n := n) (by omega)]; rfl
theorem digs_one {n : Nat} (h : ¬ 127 < n) : (digs n).length = 1 := by rw [digs_lo (by omega)]; rfl
set_option maxRecDepth 100000 in
set_option maxHeartbeats 4000000 in
theorem imms_walk {W : World} (m n : Nat) (hm : m < 18446744073709551616) (hn : n ≤ 65535) :
    Calls Try.prog 8 #[.int .u64 (m : Int), .int .u16 (n : Int)] W fun e w' => e = .returned (.bool true) ∧ Cha (fun _ => False) W w' := by
  obtain ⟨T, hT⟩ : ∃ T, T = [0, 0, 1, 0, 1, 0, 0, 1, 1] ++ digs n ++ [0, 0] ++ digs m ++ [0] := ⟨_, rfl⟩
  have HE := enc_small hm hn
  have HD := dec_enc (smallFit hm hn) HE
  rw [← hT] at HE HD
  have HL : Hid (T.length = 12 + (digs n).length + (digs m).length) := Lib.hid (by rw [hT]; simp; omega)
  have CE : Hid (∀ w v, HasP w v (smallZ m n) → Calls Try.prog 15 #[v] w (Enc1 w ⟨T, 0⟩)) := Lib.hid (fun w v h => by have := encode_c h; rw [HE] at this; exact this)
  have CD : Hid (∀ w a k c, HasT w a k c T → Calls Try.prog 19 #[.slice a k c] w (Dec1 w (smallZ m n, ⟨0, 0, 0⟩))) := Lib.hid (fun w a k c h => by have := decode_c h; rw [HD] at this; exact this)
  have CS := Lib.hid (smalle_any W)
  have HR : Hid (∀ w b, SmallAt w b m n → HasP w (.agg #[.slice none 0 0, .slice none 0 0, .slice (some ⟨b + 3, 0, none⟩) 1 1]) (smallZ m n)) := Lib.hid (fun w b h => h.reads hm hn)
  have hcv : IntKind.i64.wrap (n : Int) = (n : Int) := by rw [IntKind.wrap_i64]; omega
  have hcu : IntKind.u64.wrap (n : Int) = (n : Int) := by rw [IntKind.wrap_u64]; omega
  have hdm := digs_len10 hm
  have hdn := digs_len10 (n := n) (by omega)
  have HDM : Hid ((digs m).length ≤ 10 ∧ (digs n).length ≤ 10) := Lib.hid ⟨hdm, hdn⟩
  obtain ⟨k, hk⟩ : ∃ k, k = T.length := ⟨_, rfl⟩
  have HK := Lib.hid hk
  clear hT HE HD hdm hdn hk
  go_enter Try.func8, Try.ntmps8
  go_wp2_with (first
    | (go_at_call 23; ((with_reducible refine (CS.out).mono ?_); rintro e w1 ⟨rfl, k1, k2⟩; have hsz := (Array.getElem?_eq_some_iff.1 k1.s3).1; have hsz2 := (Array.getElem?_eq_some_iff.1 k1.s2).1; have S1 := Lib.hid k1; have C1 := Lib.hid k2; have d3 := cell_of_row w1 (W.heap.size + 3) 3 _ 55 (0, 0) k1.s3; have d4 := cell_of_row w1 (W.heap.size + 2) 4 _ 52 (0, 0) k1.s2; have d1 := cell_of_row w1 (W.heap.size + 2) 1 _ 52 (0, 0) k1.s2; have e4 := frozen_of_row w1 (W.heap.size + 2) 4 _ 52 k1.s2; have e1 := frozen_of_row w1 (W.heap.size + 2) 1 _ 52 k1.s2; clear k1 k2))
    | (go_at_call 15; ((with_reducible refine (CE.out _ _ (HR.out _ _ (((S1.out.setM m).setN n).alloc _))).mono ?_); rintro e w2 ⟨x2, y2, rfl, k1, k2⟩; have C2 : Hid (Cha (fun _ => False) W w2) := Lib.hid (((((C1.out.setCell (p := ⟨W.heap.size + 2, 4, none⟩) (fun h => by have h : W.heap.size + 2 < W.heap.size := h; omega) (.int .u64 (m : Int))).setCell (p := ⟨W.heap.size + 2, 1, none⟩) (fun h => by have h : W.heap.size + 2 < W.heap.size := h; omega) (.int .i64 (n : Int))).alloc _).trans k2)); have T2 := Lib.hid k1; clear k1 k2 d3 d4 d1 e4 e1 hsz hsz2))
    | (go_at_call 19; ((with_reducible refine (CD.out _ _ _ _ T2.out).mono ?_); rintro e w3 ⟨p0, q0, r0, p1, q1, r1, p2, q2, r2, rfl, k1, k2⟩; obtain ⟨rfl, g, o, g', o', c', la, ln, lc, rfl, hg, hg', f3, i0, i1, i2, i3, i4, i5⟩ := small_cells k1; have C3 := Lib.hid (C2.out.trans k2); have K3 := Lib.hid k1; clear k1 k2))
    | (go_at_call 17; ((with_reducible refine (awake_any _).mono ?_); rintro e w5 ⟨rfl, k5⟩; have kk : Cha (fun _ => False) w3 w5 := (((Cha.refl _ w3).alloc (.cells #[.slice p0 q0 r0, .slice p1 q1 r1, .slice (some ⟨g, o, none⟩) 1 r2] 26)).alloc (.cells #[.int .i64 0, .int .i64 0, .int .i64 0] 37)).trans k5; have A := alloc2 w3 (.cells #[.slice p0 q0 r0, .slice p1 q1 r1, .slice (some ⟨g, o, none⟩) 1 r2] 26) (.cells #[.int .i64 0, .int .i64 0, .int .i64 0] 37); have A1 := (k5.old _ (Array.getElem?_eq_some_iff.1 A.1).1 (fun f => f)).trans A.1; have A2 := (k5.old _ (Array.getElem?_eq_some_iff.1 A.2).1 (fun f => f)).trans A.2; have C5 := Lib.hid (C3.out.trans kk); have f3' := cell_cha (B := fun _ => True) kk (fun _ f => f.elim) trivial f3; have f10' := cell_cha (B := fun _ => True) kk (fun _ f => f.elim) trivial i0; have f11' := cell_cha (B := fun _ => True) kk (fun _ f => f.elim) trivial i1; have f12' := cell_cha (B := fun _ => True) kk (fun _ f => f.elim) trivial i2; have f13' := cell_cha (B := fun _ => True) kk (fun _ f => f.elim) trivial i3; have f14' := cell_cha (B := fun _ => True) kk (fun _ f => f.elim) trivial i4; have f15' := cell_cha (B := fun _ => True) kk (fun _ f => f.elim) trivial i5; have x2' := cell_of_row w5 w3.heap.size 2 _ 26 (0, 0) A1; have y0' := cell_of_row w5 (w3.heap.size + 1) 0 _ 37 (0, 0) A2; clear A A1 A2 kk k5 f3 i0 i1 i2 i3 i4 i5 hg hg' C3 K3)))
  clear CE CD CS HR S1 C1 C2 hcv
  go_loop [10, 11] (fun q x => ∃ (t y : Nat), q = .int .i64 (t : Int) ∧ x = .int .u64 (y : Int) ∧ y < 18446744073709551616 ∧ t + (digs y).length = 1 + (digs m).length) (fun _ x => (intOf x).toNat)
  case atStart => exact ⟨1, m, rfl, rfl, hm, rfl⟩
  case round =>
    obtain ⟨t, y, rfl, rfl, hy, hty⟩ := hrel
    have htb : t ≤ 100 := by have := HDM.out; omega
    by_cases hlt : 127 < y
    · have hh := digs_half hlt
      have HH : Hid (t + 1 + (digs (y / 128)).length = 1 + (digs m).length) := Lib.hid (by omega)
      have hlt' : (127 : Int) < (y : Int) := by omega
      clear hh hty
      go_wp2
      go_round
      case rel => exact ⟨t + 1, y / 128, by go_num, by go_num, by omega, HH.out⟩
      case measure => simp [intOf]; omega
    · have hh := digs_one hlt
      have HH : Hid (t = (digs m).length) := Lib.hid (by omega)
      clear hh hty
      go_wp2
      clear hlt hy
      go_loop [10, 12] (fun q x => ∃ (t y : Nat), q = .int .i64 (t : Int) ∧ x = .int .u64 (y : Int) ∧ y < 18446744073709551616 ∧ t + (digs y).length = (digs m).length + (digs n).length) (fun _ x => (intOf x).toNat)
      case atStart => exact ⟨t, n, rfl, rfl, by omega, by rw [HH.out]⟩
      case round =>
        clear HH htb
        obtain ⟨t, y, rfl, rfl, hy, hty⟩ := hrel
        have htb : t ≤ 100 := by have := HDM.out; omega
        by_cases hlt : 127 < y
        · have hh := digs_half hlt
          have HH : Hid (t + 1 + (digs (y / 128)).length = (digs m).length + (digs n).length) := Lib.hid (by omega)
          have hlt' : (127 : Int) < (y : Int) := by omega
          clear hh hty
          go_wp2
          go_round
          case rel => exact ⟨t + 1, y / 128, by go_num, by go_num, by omega, HH.out⟩
          case measure => simp [intOf]; omega
        · have hh := digs_one hlt
          have hb : ((T.length : Int) == 13 + (t : Int)) = true := by
            have := HL.out
            simp
            omega
          clear hh hty hy
          go_wp2
          go_ret
          exact ⟨rfl, C5.out.alloc _⟩
end Go.Proofs.Ytpdjbhnpahkbpaa
