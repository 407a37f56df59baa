/- SpanFixed. -/
import Derived.Test.YtgglcfmnhiakcaaSH
namespace Go.Proofs.Ytgglcfmnhiakcaa
open Go.ChangeShapes Go.WideShapes Go.ChangeAt Go.RowKit
variable {w W W' : World} {bt bm bp bs n : Nat} {L L' : List Spn}

/-- Changes of the map and of the spans alone. -/
def Bs (bp bs : Nat) (W W' : World) : Prop := Cha (fun i => i = bp ∨ i = bs) W W'
theorem os_alloc2 {k tag r : Int} {s : Spn} (c : Alc5 n L k tag s r L') (hk2 : k ≤ 9223372036854775807) (h : Os w W bt bm bp bs n L) : Calls Try.prog 28 #[.pointer (some ⟨bt, 0, none⟩), .int .i64 k, .int .i64 tag] W fun e W' => e = .returned (.tuple #[sv s, .int .i64 r]) ∧ Os w W' bt bm bp bs n L' ∧ Bs bp bs W W' :=
  (alloc5_any c hk2 h.tl).mono fun _ _ ⟨he, hm, hc⟩ => ⟨he, h.turn hm hc, hc⟩
theorem os_free_no2 (x : Int) (e : begP L n x = (noS, false)) (h : Os w W bt bm bp bs n L) : Calls Try.prog 30 #[.pointer (some ⟨bt, 0, none⟩), .int .i64 x] W fun e W' => e = .returned (.int .i64 4) ∧ Os w W' bt bm bp bs n L ∧ Bs bp bs W W' :=
  (free5_no x e h.tl).mono fun _ _ ⟨he, hc⟩ => ⟨he, h.same hc, hc.wide⟩
theorem os_free_ok2 (s : Spn) (hs : s ∈ L) (h : Os w W bt bm bp bs n L) : Calls Try.prog 30 #[.pointer (some ⟨bt, 0, none⟩), .int .i64 (s.b : Int)] W fun e W' => e = .returned (.int .i64 0) ∧ Os w W' bt bm bp bs n (del s.b L) ∧ Bs bp bs W W' :=
  (free5_ok s hs h.tl).mono fun _ _ ⟨he, hm, hc⟩ => ⟨he, h.turn hm hc, hc⟩
theorem boxS_new (W : World) (s : Spn) : BoxS (W.alloc (.cells #[.int .i64 (s.b : Int), .int .i64 (s.k : Int), .int .i64 s.t] 66)) W.heap.size s := heap_alloc_new W _
theorem boxS_lt {g : Nat} {s : Spn} (h : BoxS W g s) : g < W.heap.size := (Array.getElem?_eq_some_iff.1 h).1
theorem boxS_bs {g : Nat} {s : Spn} (h : BoxS W g s) (c : Bs bp bs W W') (h1 : g ≠ bp ∧ g ≠ bs) : BoxS W' g s := (c.old g (boxS_lt h) (by omega)).trans h
theorem boxS_same {g : Nat} {s : Spn} (h : BoxS W g s) (c : Cha (fun _ => False) W W') : BoxS W' g s := (c.old g (boxS_lt h) (fun x => x)).trans h
theorem boxS_cells {g : Nat} {s : Spn} (h : BoxS W g s) : W.cell? ⟨g, 0, none⟩ = some (.int .i64 (s.b : Int)) ∧ W.cell? ⟨g, 1, none⟩ = some (.int .i64 (s.k : Int)) ∧ W.cell? ⟨g, 2, none⟩ = some (.int .i64 s.t) :=
  ⟨cell_of_row W g 0 _ 66 (0, 0) h, cell_of_row W g 1 _ 66 (0, 0) h, cell_of_row W g 2 _ 66 (0, 0) h⟩
theorem os_ne (h : Os w W bt bm bp bs n L) : W.heap.size ≠ bp ∧ W.heap.size ≠ bs := by
  have := h.tl.2.pg.lt; have := h.tl.2.lt; omega
theorem trips_one (W : World) (s : Spn) : Trips (W.alloc (.cells #[.int .i64 (s.b : Int), .int .i64 (s.k : Int), .int .i64 s.t] 66)) (.slice (some ⟨W.heap.size, 0, none⟩) 1 1) [s] := by
  refine ⟨_, _, rfl, fun _ => ⟨W.heap.size, rfl, fun i x hx => ?_⟩⟩
  match i, hx with
  | 0, hx => cases hx; exact boxS_cells (boxS_new W s)
  | i + 1, hx => simp at hx

theorem trips_s2 (W : World) : Trips (W.alloc (.cells #[.int .i64 3, .int .i64 1, .int .i64 9] 66)) (.slice (some ⟨W.heap.size, 0, none⟩) 1 1) [s2] := trips_one W s2
set_option maxRecDepth 100000 in
set_option maxHeartbeats 8000000 in
theorem fixed5_walk (w : World) : Calls Try.prog 9 #[] w fun e w' => e = .returned (.bool true) ∧ Cha (fun _ => False) w w' := by
  have A25 : Hid (Calls Try.prog 25 #[.int .i64 8] w fun e W' => ∃ bt bm bp bs, e = .returned (.tuple #[.pointer (some ⟨bt, 0, none⟩), .int .i64 0]) ∧ Os w W' bt bm bp bs 8 []) := Lib.hid (os_new 8 (Cha.refl _ w) (by omega) (by omega))
  have A28 : Hid (∀ (W : World) (bt bm bp bs : Nat), Os w W bt bm bp bs 8 [] → Calls Try.prog 28 #[.pointer (some ⟨bt, 0, none⟩), .int .i64 3, .int .i64 7] W fun e W' => e = .returned (.tuple #[.agg #[.int .i64 0, .int .i64 3, .int .i64 7], .int .i64 0]) ∧ Os w W' bt bm bp bs 8 [s1] ∧ Bs bp bs W W') := Lib.hid fun W bt bm bp bs h => os_alloc2 c1 (by omega) h
  have B28 : Hid (∀ (W : World) (bt bm bp bs : Nat), Os w W bt bm bp bs 8 [s1] → Calls Try.prog 28 #[.pointer (some ⟨bt, 0, none⟩), .int .i64 1, .int .i64 9] W fun e W' => e = .returned (.tuple #[.agg #[.int .i64 3, .int .i64 1, .int .i64 9], .int .i64 0]) ∧ Os w W' bt bm bp bs 8 [s1, s2] ∧ Bs bp bs W W') := Lib.hid fun W bt bm bp bs h => os_alloc2 c2 (by omega) h
  have C28 : Hid (∀ (W : World) (bt bm bp bs : Nat), Os w W bt bm bp bs 8 [s1, s2] → Calls Try.prog 28 #[.pointer (some ⟨bt, 0, none⟩), .int .i64 5, .int .i64 1] W fun e W' => e = .returned (.tuple #[.agg #[.int .i64 0, .int .i64 0, .int .i64 0], .int .i64 3]) ∧ Os w W' bt bm bp bs 8 [s1, s2] ∧ Bs bp bs W W') := Lib.hid fun W bt bm bp bs h => os_alloc2 c3 (by omega) h
  have A32 : Hid (∀ (W : World) (bt bm bp bs : Nat), Os w W bt bm bp bs 8 [s1, s2] → Calls Try.prog 32 #[.pointer (some ⟨bt, 0, none⟩), .int .i64 4] W fun e W' => e = .returned (.tuple #[.agg #[.int .i64 0, .int .i64 0, .int .i64 0], .bool false]) ∧ Cha (fun _ => False) W W') := Lib.hid fun W bt bm bp bs h => os_find (s := noS) (b := false) 4 (by decide +kernel) h
  have A30 : Hid (∀ (W : World) (bt bm bp bs : Nat), Os w W bt bm bp bs 8 [s1, s2] → Calls Try.prog 30 #[.pointer (some ⟨bt, 0, none⟩), .int .i64 2] W fun e W' => e = .returned (.int .i64 4) ∧ Os w W' bt bm bp bs 8 [s1, s2] ∧ Bs bp bs W W') := Lib.hid fun W bt bm bp bs h => os_free_no2 2 (by decide +kernel) h
  have B30 : Hid (∀ (W : World) (bt bm bp bs : Nat), Os w W bt bm bp bs 8 [s1, s2] → Calls Try.prog 30 #[.pointer (some ⟨bt, 0, none⟩), .int .i64 0] W fun e W' => e = .returned (.int .i64 0) ∧ Os w W' bt bm bp bs 8 [s2] ∧ Bs bp bs W W') := Lib.hid fun W bt bm bp bs h => (os_free_ok2 s1 (by decide) h).mono fun e W' ⟨h1, h2, h3⟩ => ⟨h1, by rw [d1] at h2; exact h2, h3⟩
  have A35 : Hid (∀ (W : World) (bt bm bp bs : Nat), Os w W bt bm bp bs 8 [s2] → Calls Try.prog 35 #[.pointer (some ⟨bt, 0, none⟩), .int .i64 (-1)] W fun e W' => ∃ v, e = .returned (.tuple #[v, .bool true]) ∧ W'.ownsRow W.heap.size 66 3 v [s2].length (scs [s2]) ∧ Cha (fun _ => False) W W') := Lib.hid fun W bt bm bp bs h => all_any W h.tl
  have A27 := Lib.hid awake5_any
  have A36 : Hid (∀ (W : World) (v u : Value), Trips W v [s2] → Trips W u [s2] → Calls Try.prog 36 #[v, u] W fun e w' => e = .returned (.bool true) ∧ Cha (fun _ => False) W w') := Lib.hid fun W v u h1 h2 => same5_any (by decide) h1 h2
  go_enter Try.func9, Try.ntmps9
  go_wp2_with (first
    | (go_at_call 25; ((with_reducible refine (A25.out).mono ?_); rintro e w1 ⟨bt, bm, bp, bs, rfl, h⟩; have H1 := Lib.hid h; clear h))
    | (go_at_call 28; ((with_reducible refine (A28.out _ _ _ _ _ H1.out).mono ?_); rintro e w2 ⟨rfl, h, hc⟩; have H2 := Lib.hid (h.same ((Cha.refl _ _).alloc (.cells #[.int .i64 0, .int .i64 3, .int .i64 7] 66))); have X2 : Hid (BoxS (w2.alloc (.cells #[.int .i64 0, .int .i64 3, .int .i64 7] 66)) w2.heap.size s1) := Lib.hid (boxS_new w2 s1); have N2 := Lib.hid (os_ne h); clear h hc))
    | (go_at_call 28; ((with_reducible refine (B28.out _ _ _ _ _ H2.out).mono ?_); rintro e w3 ⟨rfl, h, hc⟩; have c3 : Cha (fun _ => False) w3 (w3.alloc (.cells #[.int .i64 3, .int .i64 1, .int .i64 9] 66)) := (Cha.refl _ _).alloc _; have H3 := Lib.hid (h.same c3); have X3 := Lib.hid (boxS_same (boxS_bs X2.out hc N2.out) c3); have Y3 : Hid (BoxS (w3.alloc (.cells #[.int .i64 3, .int .i64 1, .int .i64 9] 66)) w3.heap.size s2) := Lib.hid (boxS_new w3 s2); have N3 := Lib.hid (os_ne h); clear h hc c3))
    | (go_at_call 28; ((with_reducible refine (C28.out _ _ _ _ _ H3.out).mono ?_); rintro e w4 ⟨rfl, h, hc⟩; have c3 : Cha (fun _ => False) w4 (w4.alloc (.cells #[.int .i64 0, .int .i64 0, .int .i64 0] 66)) := (Cha.refl _ _).alloc _; have H4 := Lib.hid (h.same c3); have X4 := Lib.hid (boxS_same (boxS_bs X3.out hc N2.out) c3); have Y4 := Lib.hid (boxS_same (boxS_bs Y3.out hc N3.out) c3); clear h hc c3))
    | (go_at_call 32; ((with_reducible refine (A32.out _ _ _ _ _ H4.out).mono ?_); rintro e w5 ⟨rfl, hc⟩; have H5 := Lib.hid (H4.out.same (hc.alloc (.cells #[.int .i64 0, .int .i64 0, .int .i64 0] 66))); have X5 := Lib.hid (boxS_same X4.out hc); have Y5 := Lib.hid (boxS_same Y4.out hc); have l5 := boxS_lt X5.out; have m5 := boxS_lt Y5.out; obtain ⟨x0, x1, x2⟩ := boxS_cells X5.out; obtain ⟨y0, y1, y2⟩ := boxS_cells Y5.out; have z0 : w5.cell? ⟨w2.heap.size, 0, none⟩ = some (.int .i64 0) := x0; have z1 : w5.cell? ⟨w2.heap.size, 1, none⟩ = some (.int .i64 3) := x1; have z2 : w5.cell? ⟨w2.heap.size, 2, none⟩ = some (.int .i64 7) := x2; have u0 : w5.cell? ⟨w3.heap.size, 0, none⟩ = some (.int .i64 3) := y0; have u1 : w5.cell? ⟨w3.heap.size, 1, none⟩ = some (.int .i64 1) := y1; have u2 : w5.cell? ⟨w3.heap.size, 2, none⟩ = some (.int .i64 9) := y2; have Y6 := Lib.hid (boxS_same Y5.out ((Cha.refl (fun _ => False) w5).alloc (.cells #[.int .i64 0, .int .i64 0, .int .i64 0] 66))); clear hc x0 x1 x2 y0 y1 y2))
    | (go_at_call 30; ((with_reducible refine (A30.out _ _ _ _ _ H5.out).mono ?_); rintro e w6 ⟨rfl, h, hc⟩; have H6 := Lib.hid h; have Y7 := Lib.hid (boxS_bs Y6.out hc N3.out); clear h hc))
    | (go_at_call 30; ((with_reducible refine (B30.out _ _ _ _ _ H6.out).mono ?_); rintro e w7 ⟨rfl, h, hc⟩; have H7 := Lib.hid h; have Y8 := Lib.hid (boxS_bs Y7.out hc N3.out); clear h hc))
    | (go_at_call 35; ((with_reducible refine (A35.out _ _ _ _ _ H7.out).mono ?_); rintro e w8 ⟨v, rfl, ho, hc⟩; have H8 := Lib.hid (H7.out.same hc); have Y9 := Lib.hid (boxS_same Y8.out hc); have O8 := Lib.hid ho; clear ho hc))
    | (go_at_call 27; ((with_reducible refine (A27.out _).mono ?_); rintro e w9 ⟨rfl, hc⟩; have H9 := Lib.hid (H8.out.same hc); have Y10 := Lib.hid (boxS_same Y9.out hc); have O9 := Lib.hid (owns_cha O8.out hc (fun _ _ x => x)); obtain ⟨y0, y1, y2⟩ := boxS_cells Y10.out; have v0 : w9.cell? ⟨w3.heap.size, 0, none⟩ = some (.int .i64 3) := y0; have v1 : w9.cell? ⟨w3.heap.size, 1, none⟩ = some (.int .i64 1) := y1; have v2 : w9.cell? ⟨w3.heap.size, 2, none⟩ = some (.int .i64 9) := y2; clear hc y0 y1 y2))
    | (go_at_call 36; ((with_reducible refine (A36.out _ _ _ (trips_cha O9.out ((Cha.refl _ _).alloc _)) (trips_s2 _)).mono ?_); rintro e w10 ⟨rfl, hc⟩; have H10 := Lib.hid (H9.out.same (((Cha.refl _ _).alloc _).trans hc)); clear hc)))
  go_ret
  exact ⟨rfl, H10.out.cha⟩
end Go.Proofs.Ytgglcfmnhiakcaa
