/- The program's pacer: its calls. -/
import Derived.Test.YtlpgfdphoiideaaPB
namespace Go.Proofs.Ytlpgfdphoiideaa
open Go.ChangeShapes Go.WideShapes Go.ChangeAt Go.RowKit

/-- What a call leaves of a pacer. -/
def Leaves (w w' : World) (b : Nat) (s : PS) : Prop := PP w' b s ∧ Cha (· = b) w w'
theorem new_any (w : World) (g lim : Int) (hg : -9223372036854775808 ≤ g) (hl : isW lim) :
    Calls Try.prog 13 #[.int .i64 g, .int .u64 lim] w fun e w' => e = .returned (.pointer (some ⟨w.heap.size, 0, none⟩)) ∧ PP w' w.heap.size (PS.new g lim) ∧ Cha (fun _ => False) w w' := by
  have h1 : PP (w.alloc (.cells (pcells ⟨min g 1048576, lim, 0, 0, 0, 0, 0, 0⟩) 75)) w.heap.size ⟨min g 1048576, lim, 0, 0, 0, 0, 0, 0⟩ := heap_alloc_new w _
  have RK : Hid (Calls Try.prog 42 #[.pointer (some ⟨w.heap.size, 0, none⟩), .int .u64 0] (w.alloc (.cells #[.int .i64 (min g 1048576), .int .u64 lim, .int .u64 0, .int .u64 0, .int .u64 0, .int .u64 0, .int .u64 0] 75)) fun e w' => e = .returned (.tuple #[]) ∧ PP w' w.heap.size (PS.new g lim) ∧ Cha (fun _ => False) w w') := Lib.hid ((reckon_any h1 ⟨by show _ ≤ min g _; omega, by show min g _ ≤ _; omega, hl, isW_0, isW_0, isW_0, isW_0, isW_0, isW_0⟩ 0 isW_0).mono (R' := fun e w' => e = .returned (.tuple #[]) ∧ PP w' w.heap.size (PS.new g lim) ∧ Cha (fun _ => False) w w')
    fun e w' ⟨he, hp, hc⟩ => ⟨he, hp, Cha.over ((Cha.refl (fun _ => False) w).alloc _) hc fun i hi => .inr (by omega)⟩)
  clear h1
  go_enter Try.func13, Try.ntmps13
  go_wp2_with (go_at_call 42; (with_reducible refine (RK.out).mono ?_); rintro e w1 ⟨rfl, hp, hc⟩; have HP := Lib.hid hp; have HC := Lib.hid hc; clear hp hc)
  go_returns
  exact ⟨rfl, HP.out, HC.out⟩
section
variable {w : World} {b : Nat} {s : PS}
theorem pp_set (h : PP w b s) {i : Nat} {x : Int} {s' : PS} (e : (pcells s).setIfInBounds i (.int .u64 x) = pcells s') : Leaves w (w.setCell ⟨b, i, none⟩ (.int .u64 x)) b s' :=
  ⟨PP.put h e, Cha.setCell (S := (· = b)) (p := ⟨b, i, none⟩) (Cha.refl _ w) (fun _ => rfl) _⟩
theorem alloc_any (h : PP w b s) (o : s.Ok) (n : Int) (hn : isW n) :
    Calls Try.prog 16 #[.pointer (some ⟨b, 0, none⟩), .int .u64 n] w fun e w' => e = .returned (.tuple #[]) ∧ Leaves w w' b (s.alloc n) := by
  have A := Lib.hid (add_c w s.heap n o.heap hn)
  have F := Lib.hid (pp_set h (i := 2) (x := M.sat (s.heap + n)) (s' := s.alloc n) rfl)
  have c2 := h.cells.2.2.1
  have f2 := h.free 2
  clear h o
  generalize M.sat (s.heap + n) = x at *
  go_enter Try.func16, Try.ntmps16
  go_wp2_with (go_at_call 44; (with_reducible refine (A.out).mono ?_); rintro e w1 ⟨rfl, rfl⟩)
  go_returns
  exact ⟨rfl, F.out⟩
theorem free_any (h : PP w b s) (o : s.Ok) (n : Int) (hn : isW n) :
    Calls Try.prog 18 #[.pointer (some ⟨b, 0, none⟩), .int .u64 n] w fun e w' => e = .returned (.tuple #[]) ∧ Leaves w w' b (s.free n) := by
  have A := Lib.hid (sub_c w s.heap n o.heap hn)
  have F := Lib.hid (pp_set h (i := 2) (x := M.dif s.heap n) (s' := s.free n) rfl)
  have c2 := h.cells.2.2.1
  have f2 := h.free 2
  clear h o
  generalize M.dif s.heap n = x at *
  go_enter Try.func18, Try.ntmps18
  go_wp2_with (go_at_call 46; (with_reducible refine (A.out).mono ?_); rintro e w1 ⟨rfl, rfl⟩)
  go_returns
  exact ⟨rfl, F.out⟩
theorem counts_any (h : PP w b s) :
    Calls Try.prog 24 #[.pointer (some ⟨b, 0, none⟩)] w fun e w' => e = .returned (.tuple #[.int .u64 s.heap, .int .u64 s.goal, .int .u64 s.trig, .int .u64 s.ratio]) ∧ Cha (fun _ => False) w w' := by
  obtain ⟨c0, c1, c2, c3, c4, c5, c6⟩ := h.cells
  clear h
  go_enter Try.func24, Try.ntmps24
  go_wp2
  go_quiet (fail)
  go_wp2
  go_returns
  exact ⟨rfl, (Cha.refl _ _).drewN _⟩
theorem limit_any (h : PP w b s) :
    Calls Try.prog 25 #[.pointer (some ⟨b, 0, none⟩)] w fun e w' => e = .returned (.tuple #[.int .u64 s.lim, .int .i64 0]) ∧ Cha (fun _ => False) w w' := by
  obtain ⟨c0, c1, c2, c3, c4, c5, c6⟩ := h.cells
  clear h
  go_enter Try.func25, Try.ntmps25
  go_wp2
  go_returns
  exact ⟨rfl, Cha.refl _ _⟩
theorem due_any (h : PP w b s) :
    Calls Try.prog 26 #[.pointer (some ⟨b, 0, none⟩)] w fun e w' => e = .returned (.bool s.due) ∧ Cha (fun _ => False) w w' := by
  obtain ⟨c0, c1, c2, c3, c4, c5, c6⟩ := h.cells
  clear h
  unfold PS.due
  go_enter Try.func26, Try.ntmps26
  go_wp2
  go_quiet (fail)
  go_wp2
  go_returns
  exact ⟨rfl, (Cha.refl _ _).drewN _⟩
theorem owes_any (h : PP w b s) (o : s.Ok) (n : Int) (hn : isW n) :
    Calls Try.prog 28 #[.pointer (some ⟨b, 0, none⟩), .int .u64 n] w fun e w' => e = .returned (.int .u64 (s.owes n)) ∧ Cha (fun _ => False) w w' := by
  have SC := Lib.hid (scale_any n s.ratio w hn.1 hn.2 o.ratio.1 o.ratio.2)
  have x0 := isW_sat (x := n * s.ratio / 65536) (Int.ediv_nonneg (Int.mul_nonneg hn.1 o.ratio.1) (by omega))
  have A := Lib.hid fun w => add_c w (M.sat (n * s.ratio / 65536)) 1 x0 (by unfold isW; omega)
  have c6 := h.cells.2.2.2.2.2.2
  clear h o
  show Calls _ _ _ _ fun e w' => e = .returned (.int .u64 (M.sat (M.sat (n * s.ratio / 65536) + 1))) ∧ _
  generalize M.sat (n * s.ratio / 65536) = x at *
  go_enter Try.func28, Try.ntmps28
  go_wp2_with (first
    | (go_at_call 50; (with_reducible refine (SC.out).mono ?_); rintro e w1 ⟨rfl, hg⟩)
    | (go_at_call 44; (with_reducible refine (A.out _).mono ?_); rintro e w1 ⟨rfl, rfl⟩))
  go_returns
  exact ⟨rfl, Cha.of_grown hg⟩
theorem end_any (h : PP w b s) (o : s.Ok) (live roots : Int) (hl : isW live) (hr : isW roots) :
    Calls Try.prog 22 #[.pointer (some ⟨b, 0, none⟩), .int .u64 live, .int .u64 roots] w fun e w' => e = .returned (.tuple #[]) ∧ Leaves w w' b (s.fin live roots) := by
  have h1 := pp_set h (i := 3) (x := roots) (s' := { s with roots := roots }) rfl
  have h2 := pp_set h1.1 (i := 6) (x := 0) (s' := { s with roots := roots, ratio := 0 }) rfl
  have hc := h1.2.trans h2.2
  have RK := Lib.hid ((reckon_any h2.1 { o with roots := hr, ratio := isW_0 } live hl).mono (R' := fun e w' => e = .returned (.tuple #[]) ∧ Leaves w w' b (s.fin live roots)) fun e w' ⟨he, hp, hc2⟩ => ⟨he, hp, hc.trans hc2⟩)
  have c3 := h.cells.2.2.2.1
  have c6 := h.cells.2.2.2.2.2.2
  have f3 := h.free 3
  have f6 := h.free 6
  clear h h1 h2 hc o
  go_enter Try.func22, Try.ntmps22
  go_wp2_with (go_at_call 42; (with_reducible refine (RK.out).mono ?_); rintro e w1 ⟨rfl, hp⟩; have HP := Lib.hid hp; clear hp)
  go_returns
  exact ⟨rfl, HP.out⟩
theorem begin_any (h : PP w b s) (o : s.Ok) :
    Calls Try.prog 20 #[.pointer (some ⟨b, 0, none⟩)] w fun e w' => e = .returned (.tuple #[]) ∧ Leaves w w' b s.begin := by
  obtain ⟨r1, r2, r3, r4, r5⟩ := ratioG_parts o.heap o.roots o.goal
  have A1 := Lib.hid fun w => add_c w s.heap s.roots o.heap o.roots
  have A2 := Lib.hid fun w => add_c w (M.sat (s.heap + s.roots)) 1 r1 (by unfold isW; omega)
  have S1 := Lib.hid fun w => sub_c w s.goal s.heap o.goal o.heap
  have R1 := Lib.hid fun w => ratio_any (M.sat (M.sat (s.heap + s.roots) + 1)) (max (M.dif s.goal s.heap) 1) w r2.1 r2.2 (by omega) r3.2
  have A3 := Lib.hid fun w => add_c w (M.sat (M.sat (M.sat (s.heap + s.roots) + 1) * 65536 / max (M.dif s.goal s.heap) 1)) 1 r4 (by unfold isW; omega)
  have F : Hid (∀ w', Cha (fun _ => False) w w' → Leaves w (w'.setCell ⟨b, 6, none⟩ (.int .u64 (max (M.sat (M.sat (M.sat (M.sat (s.heap + s.roots) + 1) * 65536 / max (M.dif s.goal s.heap) 1) + 1)) 65536))) b s.begin) :=
    Lib.hid fun w' c => by have k := pp_set (h.same c) (i := 6) (x := max (M.sat (M.sat (M.sat (M.sat (s.heap + s.roots) + 1) * 65536 / max (M.dif s.goal s.heap) 1) + 1)) 65536) (s' := s.begin) rfl; exact ⟨k.1, c.wide.trans k.2⟩
  have K : Hid (∀ w', Cha (fun _ => False) w w' → w'.cell? ⟨b, 6, none⟩ = some (.int .u64 s.ratio) ∧ w'.frozen? ⟨b, 6, none⟩ = false) := Lib.hid fun w' c => ⟨(h.same c).cells.2.2.2.2.2.2, (h.same c).free 6⟩
  obtain ⟨c0, c1, c2, c3, c4, c5, c6⟩ := h.cells
  clear h o
  generalize M.sat (M.sat (M.sat (M.sat (s.heap + s.roots) + 1) * 65536 / max (M.dif s.goal s.heap) 1) + 1) = x5 at *
  generalize M.sat (M.sat (M.sat (s.heap + s.roots) + 1) * 65536 / max (M.dif s.goal s.heap) 1) = x4 at *
  generalize M.dif s.goal s.heap = x3 at *
  generalize M.sat (M.sat (s.heap + s.roots) + 1) = x2 at *
  generalize M.sat (s.heap + s.roots) = x1 at *
  generalize s.heap = v2 at *
  generalize s.roots = v3 at *
  generalize s.goal = v4 at *
  go_enter Try.func20, Try.ntmps20
  go_wp2
  go_region_held3 (fun w' => w'.cell? ⟨b, 2, none⟩ = some (.int .u64 v2) ∧ w'.cell? ⟨b, 3, none⟩ = some (.int .u64 v3))
    (first
      | exact ⟨c2, c3⟩
      | go_keep)
    (first
      | (go_at_call 44; (with_reducible refine (A1.out _).mono ?_); rintro e5 w5 ⟨rfl, rfl⟩)
      | (go_at_call 44; (with_reducible refine (A2.out _).mono ?_); rintro e5 w5 ⟨rfl, rfl⟩))
  all_goals
    go_wp2
    go_region_held3 (fun w' => w'.cell? ⟨b, 4, none⟩ = some (.int .u64 v4) ∧ w'.cell? ⟨b, 2, none⟩ = some (.int .u64 v2))
      (first
        | exact ⟨c4, c2⟩
        | go_keep)
      (first | (go_at_call 46; (with_reducible refine (S1.out _).mono ?_); rintro e5 w5 ⟨rfl, rfl⟩))
    all_goals
      go_wp2_with (first
        | (go_at_call 48; (with_reducible refine (R1.out _).mono ?_); rintro e w1 ⟨rfl, hg⟩; have hc := (((Cha.refl (fun _ => False) w).drew).drew).trans (Cha.of_grown hg); obtain ⟨k1, k2⟩ := K.out _ hc)
        | (go_at_call 44; (with_reducible refine (A3.out _).mono ?_); rintro e w1 ⟨rfl, rfl⟩))
      go_returns
      exact ⟨rfl, F.out _ hc⟩
end
end Go.Proofs.Ytlpgfdphoiideaa
