/- The document's pacer: its calls. -/
import Derived.Test.YtlpgfdphoiideaaPH
namespace Go.Proofs.Ytlpgfdphoiideaa
open Go.ChangeShapes Go.WideShapes Go.ChangeAt Go.RowKit
section
variable {w w' : World} {b : Nat} {s : PS}
theorem dnew_any (w : World) (g lim : Int) (hg : -9223372036854775808 ≤ g) (hg2 : g ≤ 9223372036854775807) (hl : isW lim) :
    Calls Try.prog 14 #[.int .i64 g, .int .u64 lim] w fun e w' => e = .returned (.pointer (some ⟨w.heap.size, 0, none⟩)) ∧ DP w' w.heap.size (PS.new g lim) ∧ Cha (fun _ => False) w w' := by
  have h1 : DP (w.alloc (.cells (dcells ⟨min g 1048576, lim, 0, 0, 0, 0, 0, 0⟩) 39)) w.heap.size ⟨min g 1048576, lim, 0, 0, 0, 0, 0, 0⟩ := heap_alloc_new w _
  have RK : Hid (Calls Try.prog 43 #[.pointer (some ⟨w.heap.size, 0, none⟩)] (w.alloc (.cells #[.int .i64 (min g 1048576), .int .u64 lim, .int .u64 0, .int .u64 0, .int .u64 0, .int .u64 0, .int .u64 0, .int .u64 0] 39)) fun e w' => e = .returned (.tuple #[]) ∧ DP w' w.heap.size (PS.new g lim) ∧ Cha (fun _ => False) w w') :=
    Lib.hid ((daim_any h1 ⟨by show _ ≤ min g _; omega, by show min g _ ≤ _; omega, hl, isW_0, isW_0, isW_0, isW_0, isW_0, isW_0⟩).mono (R' := fun e w' => e = .returned (.tuple #[]) ∧ DP w' w.heap.size (PS.new g lim) ∧ Cha (fun _ => False) w w')
      fun e w' ⟨he, hp, hc⟩ => ⟨he, hp, Cha.over ((Cha.refl (fun _ => False) w).alloc _) hc fun i hi => .inr (by omega)⟩)
  clear h1
  by_cases hb : 1048576 < g
  · rw [show min g 1048576 = 1048576 by omega] at RK
    go_enter Try.func14, Try.ntmps14
    go_wp2_with (go_at_call 43; (with_reducible refine (RK.out).mono ?_); rintro e w1 ⟨rfl, hp, hc⟩; have HP := Lib.hid hp; have HC := Lib.hid hc; clear hp hc)
    go_returns
    exact ⟨rfl, HP.out, HC.out⟩
  · rw [show min g 1048576 = g by omega] at RK
    go_enter Try.func14, Try.ntmps14
    go_wp2_with (go_at_call 43; (with_reducible refine (RK.out).mono ?_); rintro e w1 ⟨rfl, hp, hc⟩; have HP := Lib.hid hp; have HC := Lib.hid hc; clear hp hc)
    go_returns
    exact ⟨rfl, HP.out, HC.out⟩
theorem dalloc_any (h : DP w b s) (o : s.Ok) (n : Int) (hn : isW n) :
    Calls Try.prog 17 #[.pointer (some ⟨b, 0, none⟩), .int .u64 n] w fun e w' => e = .returned (.tuple #[]) ∧ DLeaves w w' b (s.alloc n) := by
  have A := Lib.hid (radd_c w s.heap n o.heap hn)
  have F := Lib.hid (dp_set h (i := 2) (x := M.sat (s.heap + n)) (s' := s.alloc n) rfl)
  have c2 := h.cells.2.2.1
  have f2 := h.free 2
  clear h o
  generalize M.sat (s.heap + n) = x at *
  go_enter Try.func17, Try.ntmps17
  go_wp2_with (go_at_call 45; (with_reducible refine (A.out).mono ?_); rintro e w1 ⟨rfl, rfl⟩)
  go_returns
  exact ⟨rfl, F.out⟩
theorem dfree_any (h : DP w b s) (o : s.Ok) (n : Int) (hn : isW n) :
    Calls Try.prog 19 #[.pointer (some ⟨b, 0, none⟩), .int .u64 n] w fun e w' => e = .returned (.tuple #[]) ∧ DLeaves w w' b (s.free n) := by
  have A := Lib.hid (rsub_c w s.heap n o.heap hn)
  have F := Lib.hid (dp_set h (i := 2) (x := M.dif s.heap n) (s' := s.free n) rfl)
  have c2 := h.cells.2.2.1
  have f2 := h.free 2
  clear h o
  generalize M.dif s.heap n = x at *
  go_enter Try.func19, Try.ntmps19
  go_wp2_with (go_at_call 47; (with_reducible refine (A.out).mono ?_); rintro e w1 ⟨rfl, rfl⟩)
  go_returns
  exact ⟨rfl, F.out⟩
theorem ddue_any (h : DP w b s) :
    Calls Try.prog 27 #[.pointer (some ⟨b, 0, none⟩)] w fun e w' => e = .returned (.bool s.due) ∧ Cha (fun _ => False) w w' := by
  obtain ⟨c0, c1, c2, c3, c4, c5, c6, c7⟩ := h.cells
  clear h
  unfold PS.due
  go_enter Try.func27, Try.ntmps27
  go_wp2
  go_quiet (fail)
  go_wp2
  go_returns
  exact ⟨rfl, (Cha.refl _ _).drewN _⟩
theorem dowes_any (h : DP w b s) (o : s.Ok) (n : Int) (hn : isW n) :
    Calls Try.prog 29 #[.pointer (some ⟨b, 0, none⟩), .int .u64 n] w fun e w' => e = .returned (.int .u64 (s.owes n)) ∧ Cha (fun _ => False) w w' := by
  have SC := Lib.hid (rscale_any n s.ratio w hn.1 hn.2 o.ratio.1 o.ratio.2)
  have x0 := isW_sat (x := n * s.ratio / 65536) (Int.ediv_nonneg (Int.mul_nonneg hn.1 o.ratio.1) (by omega))
  have A := Lib.hid fun w => radd_c w (M.sat (n * s.ratio / 65536)) 1 x0 (by unfold isW; omega)
  have c7 := h.cells.2.2.2.2.2.2.2
  clear h o
  show Calls _ _ _ _ fun e w' => e = .returned (.int .u64 (M.sat (M.sat (n * s.ratio / 65536) + 1))) ∧ _
  generalize M.sat (n * s.ratio / 65536) = x at *
  go_enter Try.func29, Try.ntmps29
  go_wp2_with (first
    | (go_at_call 51; (with_reducible refine (SC.out).mono ?_); rintro e w1 ⟨rfl, hg⟩)
    | (go_at_call 45; (with_reducible refine (A.out _).mono ?_); rintro e w1 ⟨rfl, rfl⟩))
  go_returns
  exact ⟨rfl, Cha.of_grown hg⟩
theorem dend_any (h : DP w b s) (o : s.Ok) (live roots : Int) (hl : isW live) (hr : isW roots) :
    Calls Try.prog 23 #[.pointer (some ⟨b, 0, none⟩), .int .u64 live, .int .u64 roots] w fun e w' => e = .returned (.tuple #[]) ∧ DLeaves w w' b (s.fin live roots) := by
  have h0 := dp_set h (i := 3) (x := live) (s' := { s with live := live }) rfl
  have h1 := dp_set h0.1 (i := 4) (x := roots) (s' := { s with live := live, roots := roots }) rfl
  have h2 := dp_set h1.1 (i := 7) (x := 0) (s' := { s with live := live, roots := roots, ratio := 0 }) rfl
  have hc := (h0.2.trans h1.2).trans h2.2
  have RK := Lib.hid ((daim_any h2.1 { o with live := hl, roots := hr, ratio := isW_0 }).mono (R' := fun e w' => e = .returned (.tuple #[]) ∧ DLeaves w w' b (s.fin live roots)) fun e w' ⟨he, hp, hc2⟩ => ⟨he, hp, hc.trans hc2⟩)
  obtain ⟨c0, c1, c2, c3, c4, c5, c6, c7⟩ := h.cells
  have f3 := h.free 3
  have f4 := h.free 4
  have f7 := h.free 7
  clear h h0 h1 h2 hc o
  go_enter Try.func23, Try.ntmps23
  go_wp2_with (go_at_call 43; (with_reducible refine (RK.out).mono ?_); rintro e w1 ⟨rfl, hp⟩; have HP := Lib.hid hp; clear hp)
  go_returns
  exact ⟨rfl, HP.out⟩
theorem rratio_c (w : World) (a c : Int) (ha : isW a) (hb : 1 ≤ c ∧ c ≤ 18446744073709551615) : Calls Try.prog 49 #[.int .u64 a, .int .u64 c] w fun e w' => e = .returned (.int .u64 (M.sat (a * 65536 / c))) ∧ Grown w w' := rratio_any a c w ha.1 ha.2 (by omega) hb.2
set_option maxHeartbeats 4000000 in
theorem dbegin_any (h : DP w b s) (o : s.Ok) :
    Calls Try.prog 21 #[.pointer (some ⟨b, 0, none⟩)] w fun e w' => e = .returned (.tuple #[]) ∧ DLeaves w w' b s.begin := by
  obtain ⟨r1, r2, r3, r4, r5⟩ := ratioG_parts o.heap o.roots o.goal
  have A1 := Lib.hid fun w => radd_c w s.heap s.roots o.heap o.roots
  have A2 := Lib.hid fun w => radd_c w (M.sat (s.heap + s.roots)) 1 r1 (by unfold isW; omega)
  have S1 := Lib.hid fun w => rsub_c w s.goal s.heap o.goal o.heap
  have R1 := Lib.hid fun w => rratio_c w (M.sat (M.sat (s.heap + s.roots) + 1)) (max (M.dif s.goal s.heap) 1) r2 r3
  have A3 := Lib.hid fun w => radd_c w (M.sat (M.sat (M.sat (s.heap + s.roots) + 1) * 65536 / max (M.dif s.goal s.heap) 1)) 1 r4 (by unfold isW; omega)
  have x30 := (isW_dif o.goal o.heap).1
  have hB : s.begin = { s with ratio := max (M.sat (M.sat (M.sat (M.sat (s.heap + s.roots) + 1) * 65536 / max (M.dif s.goal s.heap) 1) + 1)) 65536 } := rfl
  have F : Hid (∀ w' x, Cha (fun _ => False) w w' → DLeaves w (w'.setCell ⟨b, 7, none⟩ (.int .u64 x)) b { s with ratio := x }) :=
    Lib.hid fun w' x c => by have k := dp_set (h.same c) (i := 7) (x := x) (s' := { s with ratio := x }) rfl; exact ⟨k.1, c.wide.trans k.2⟩
  have F2 : Hid (∀ w' x y, Cha (fun _ => False) w w' → DLeaves w ((w'.setCell ⟨b, 7, none⟩ (.int .u64 x)).setCell ⟨b, 7, none⟩ (.int .u64 y)) b { s with ratio := y }) :=
    Lib.hid fun w' x y c => by
      have k := dp_set (h.same c) (i := 7) (x := x) (s' := { s with ratio := x }) rfl
      have k2 := dp_set k.1 (i := 7) (x := y) (s' := { s with ratio := y }) rfl
      exact ⟨k2.1, (c.wide.trans k.2).trans k2.2⟩
  have K : Hid (∀ w', Cha (fun _ => False) w w' → w'.cell? ⟨b, 2, none⟩ = some (.int .u64 s.heap) ∧ w'.cell? ⟨b, 4, none⟩ = some (.int .u64 s.roots) ∧ w'.cell? ⟨b, 7, none⟩ = some (.int .u64 s.ratio) ∧ w'.frozen? ⟨b, 7, none⟩ = false) := Lib.hid fun w' c => ⟨(h.same c).cells.2.2.1, (h.same c).cells.2.2.2.2.1, (h.same c).cells.2.2.2.2.2.2.2, (h.same c).free 7⟩
  obtain ⟨c0, c1, c2, c3, c4, c5, c6, c7⟩ := h.cells
  rw [hB]
  clear h o hB
  generalize M.sat (M.sat (M.sat (M.sat (s.heap + s.roots) + 1) * 65536 / max (M.dif s.goal s.heap) 1) + 1) = x5 at *
  generalize M.sat (M.sat (M.sat (s.heap + s.roots) + 1) * 65536 / max (M.dif s.goal s.heap) 1) = x4 at *
  obtain ⟨x3, hx3⟩ : ∃ x, M.dif s.goal s.heap = x := ⟨_, rfl⟩
  rw [hx3] at S1 R1 x30 r3
  clear hx3
  generalize M.sat (M.sat (s.heap + s.roots) + 1) = x2 at *
  generalize M.sat (s.heap + s.roots) = x1 at *
  have e0 : (if x3 = 0 then 1 else x3) = max x3 1 := by split <;> omega
  generalize s.heap = v2 at *
  generalize s.roots = v4 at *
  generalize s.goal = v5 at *
  have hm : ∃ m, max x3 1 = m ∧ (x3 = 0 → m = 1) ∧ (x3 ≠ 0 → m = x3) := ⟨_, rfl, by omega, by omega⟩
  obtain ⟨m, hm, hm0, hm1⟩ := hm
  rw [hm] at R1 r3
  clear e0 hm
  by_cases hz : x3 = 0
  all_goals
    first
    | have hz1 : (x3 == 0) = true := by (rw [hz]; rfl)
      have hmm := hm0 hz
      subst hmm
    | have hz1 : (x3 == 0) = false := by (simpa using hz)
      have hmm := hm1 hz
      subst hmm
    clear hz hm0 hm1
    go_enter Try.func21, Try.ntmps21
    go_wp2
    go_region_held3 (fun w' => w'.cell? ⟨b, 5, none⟩ = some (.int .u64 v5) ∧ w'.cell? ⟨b, 2, none⟩ = some (.int .u64 v2))
      (first
        | exact ⟨c5, c2⟩
        | go_keep)
      (first | (go_at_call 47; (with_reducible refine (S1.out _).mono ?_); rintro e5 w5 ⟨rfl, rfl⟩))
    all_goals
      go_wp2
      go_region_law (first
        | (go_simp; go_at_call 45; (with_reducible refine (A1.out _).mono ?_); rintro e5 w5 ⟨rfl, rfl⟩)
        | (go_simp; go_at_call 45; (with_reducible refine (A2.out _).mono ?_); rintro e5 w5 ⟨rfl, rfl⟩)
        | (go_simp; go_at_call 45; (with_reducible refine (A3.out _).mono ?_); rintro e5 w5 ⟨rfl, rfl⟩)
        | (go_simp; go_at_call 49; (with_reducible refine (R1.out _).mono ?_); rintro e5 w5 ⟨rfl, hg⟩; have hc := (((Cha.refl (fun _ => False) w).drew).drew).trans (Cha.of_grown hg); obtain ⟨k1, k2, k3, k4⟩ := K.out _ hc))
      all_goals
        by_cases hx : x5 < 65536
        · have hy : Hid (max x5 65536 = 65536) := Lib.hid (by omega)
          go_wp2
          go_returns
          exact ⟨rfl, by rw [hy.out]; exact F2.out _ _ _ hc⟩
        · have hy : Hid (max x5 65536 = x5) := Lib.hid (by omega)
          go_wp2
          go_returns
          exact ⟨rfl, by rw [hy.out]; exact F.out _ _ hc⟩
end
end Go.Proofs.Ytlpgfdphoiideaa
