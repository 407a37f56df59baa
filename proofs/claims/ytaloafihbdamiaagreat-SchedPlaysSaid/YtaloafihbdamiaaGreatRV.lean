/- One call to both. -/
import Derived.Test.YtaloafihbdamiaaGreatRU
namespace Go.Proofs.YtaloafihbdamiaaGreat
open Go.ChangeShapes Go.WideShapes Go.ChangeAt Go.RowKit
set_option linter.unusedVariables false
section
variable {w0 w W W' : World} {bs bd gb n g2 : Nat} {c2 : Array Value} {N : Int} {X : Sx}
theorem one_0 (h : Du w0 bs bd n g2 c2 N X w) (hN : N < 4611686018427387904) (p m t : Int) : Calls Tryz.prog 7 #[.pointer (some ⟨bs, 0, none⟩), .pointer (some ⟨bd, 0, none⟩), .agg #[.int .i64 0, .int .i64 p, .int .i64 m, .int .u64 t]] w fun e w' => e = .returned (.bool true) ∧ ∃ X', Du w0 bs bd n g2 c2 (N + 1) X' w' := by
  have HB := Lib.hid (h.box #[.int .i64 0, .int .i64 p, .int .i64 m, .int .u64 t])
  have KX : Hid (∀ W N X X', Bm w0 bs bd w.heap.size n g2 #[.int .i64 0, .int .i64 p, .int .i64 m, .int .u64 t] c2 N X X' W → W.cell? ⟨w.heap.size, 1, none⟩ = some (.int .i64 p) ∧ W.cell? ⟨w.heap.size, 2, none⟩ = some (.int .i64 m) ∧ W.cell? ⟨w.heap.size, 3, none⟩ = some (.int .u64 t)) := Lib.hid fun W N X X' h => ⟨h.box 1 rfl, h.box 2 rfl, h.box 3 rfl⟩
  have L : Hid (∀ W, Bm w0 bs bd w.heap.size n g2 #[.int .i64 0, .int .i64 p, .int .i64 m, .int .u64 t] c2 N X X W → Calls Tryz.prog 18 #[.pointer (some ⟨bs, 0, none⟩), .int .i64 p] W fun e w' => e = .returned (.tuple #[.int .i64 (X.begR p).1, .int .i64 (X.begR p).2]) ∧ Bm w0 bs bd w.heap.size n g2 #[.int .i64 0, .int .i64 p, .int .i64 m, .int .u64 t] c2 N X (X.begX p) w') := Lib.hid fun W h => h.left fun bq bt b3 F r ha b => m_begin b r p
  have R : Hid (∀ W, Bm w0 bs bd w.heap.size n g2 #[.int .i64 0, .int .i64 p, .int .i64 m, .int .u64 t] c2 N X (X.begX p) W → Calls Tryz.prog 20 #[.pointer (some ⟨bd, 0, none⟩), .int .i64 p] W fun e w' => e = .returned (.tuple #[.int .i64 (X.begR p).1, .int .i64 (X.begR p).2]) ∧ Bm w0 bs bd w.heap.size n g2 #[.int .i64 0, .int .i64 p, .int .i64 m, .int .u64 t] c2 (N + 1) (X.begX p) (X.begX p) w') := Lib.hid fun W h => h.right fun br bt2 Z sc F r b => p_begin b r p
  have HD : Hid (∀ W X', Bm w0 bs bd w.heap.size n g2 #[.int .i64 0, .int .i64 p, .int .i64 m, .int .u64 t] c2 (N + 1) X' X' W → ∃ X', Du w0 bs bd n g2 c2 (N + 1) X' W) := Lib.hid fun W X' h => ⟨X', h.drop⟩
  clear h hN
  generalize (X.begR p).1 = x1 at *
  generalize (X.begR p).2 = x2 at *
  go_enter Tryz.func7, Tryz.ntmps7
  obtain ⟨k1, k2, k3⟩ := KX.out _ _ _ _ HB.out
  go_wp2_with (first
    | (go_at_call 18; ((with_reducible refine (L.out _ HB.out).mono ?_); rintro e w1 ⟨rfl, hB⟩; obtain ⟨k1, k2, k3⟩ := KX.out _ _ _ _ hB; have H1 := Lib.hid hB; clear hB))
    | (go_at_call 20; ((with_reducible refine (R.out _ H1.out).mono ?_); rintro e w2 ⟨rfl, hB⟩; have H2 := Lib.hid hB; clear hB)))
  go_returns
  exact ⟨rfl, HD.out _ _ H2.out⟩
theorem one_1 (h : Du w0 bs bd n g2 c2 N X w) (hN : N < 4611686018427387904) (p m t : Int) : Calls Tryz.prog 7 #[.pointer (some ⟨bs, 0, none⟩), .pointer (some ⟨bd, 0, none⟩), .agg #[.int .i64 1, .int .i64 p, .int .i64 m, .int .u64 t]] w fun e w' => e = .returned (.bool true) ∧ ∃ X', Du w0 bs bd n g2 c2 (N + 1) X' w' := by
  have HB := Lib.hid (h.box #[.int .i64 1, .int .i64 p, .int .i64 m, .int .u64 t])
  have KX : Hid (∀ W N X X', Bm w0 bs bd w.heap.size n g2 #[.int .i64 1, .int .i64 p, .int .i64 m, .int .u64 t] c2 N X X' W → W.cell? ⟨w.heap.size, 1, none⟩ = some (.int .i64 p) ∧ W.cell? ⟨w.heap.size, 2, none⟩ = some (.int .i64 m) ∧ W.cell? ⟨w.heap.size, 3, none⟩ = some (.int .u64 t)) := Lib.hid fun W N X X' h => ⟨h.box 1 rfl, h.box 2 rfl, h.box 3 rfl⟩
  have L : Hid (∀ W, Bm w0 bs bd w.heap.size n g2 #[.int .i64 1, .int .i64 p, .int .i64 m, .int .u64 t] c2 N X X W → Calls Tryz.prog 19 #[.pointer (some ⟨bs, 0, none⟩), .int .i64 p, .int .i64 m] W fun e w' => e = .returned (.tuple #[.int .i64 (X.actR p m).1, .int .i64 (X.actR p m).2.1, .int .i64 (X.actR p m).2.2]) ∧ Bm w0 bs bd w.heap.size n g2 #[.int .i64 1, .int .i64 p, .int .i64 m, .int .u64 t] c2 N X (X.actX p m) w') := Lib.hid fun W h => h.left fun bq bt b3 F r ha b => m_act b r p m
  have R : Hid (∀ W, Bm w0 bs bd w.heap.size n g2 #[.int .i64 1, .int .i64 p, .int .i64 m, .int .u64 t] c2 N X (X.actX p m) W → Calls Tryz.prog 21 #[.pointer (some ⟨bd, 0, none⟩), .int .i64 p, .int .i64 m] W fun e w' => e = .returned (.tuple #[.int .i64 (X.actR p m).1, .int .i64 (X.actR p m).2.1, .int .i64 (X.actR p m).2.2]) ∧ Bm w0 bs bd w.heap.size n g2 #[.int .i64 1, .int .i64 p, .int .i64 m, .int .u64 t] c2 (N + 1) (X.actX p m) (X.actX p m) w') := Lib.hid fun W h => h.right fun br bt2 Z sc F r b => p_act b r hN p m
  have HD : Hid (∀ W X', Bm w0 bs bd w.heap.size n g2 #[.int .i64 1, .int .i64 p, .int .i64 m, .int .u64 t] c2 (N + 1) X' X' W → ∃ X', Du w0 bs bd n g2 c2 (N + 1) X' W) := Lib.hid fun W X' h => ⟨X', h.drop⟩
  clear h hN
  generalize (X.actR p m).1 = x1 at *
  generalize (X.actR p m).2.1 = x2 at *
  generalize (X.actR p m).2.2 = x3 at *
  go_enter Tryz.func7, Tryz.ntmps7
  obtain ⟨k1, k2, k3⟩ := KX.out _ _ _ _ HB.out
  go_wp2_with (first
    | (go_at_call 19; ((with_reducible refine (L.out _ HB.out).mono ?_); rintro e w1 ⟨rfl, hB⟩; obtain ⟨k1, k2, k3⟩ := KX.out _ _ _ _ hB; have H1 := Lib.hid hB; clear hB))
    | (go_at_call 21; ((with_reducible refine (R.out _ H1.out).mono ?_); rintro e w2 ⟨rfl, hB⟩; have H2 := Lib.hid hB; clear hB)))
  go_returns
  exact ⟨rfl, HD.out _ _ H2.out⟩
theorem one_2 (h : Du w0 bs bd n g2 c2 N X w) (hN : N < 4611686018427387904) (p m t : Int) : Calls Tryz.prog 7 #[.pointer (some ⟨bs, 0, none⟩), .pointer (some ⟨bd, 0, none⟩), .agg #[.int .i64 2, .int .i64 p, .int .i64 m, .int .u64 t]] w fun e w' => e = .returned (.bool true) ∧ ∃ X', Du w0 bs bd n g2 c2 (N + 1) X' w' := by
  have HB := Lib.hid (h.box #[.int .i64 2, .int .i64 p, .int .i64 m, .int .u64 t])
  have KX : Hid (∀ W N X X', Bm w0 bs bd w.heap.size n g2 #[.int .i64 2, .int .i64 p, .int .i64 m, .int .u64 t] c2 N X X' W → W.cell? ⟨w.heap.size, 1, none⟩ = some (.int .i64 p) ∧ W.cell? ⟨w.heap.size, 2, none⟩ = some (.int .i64 m) ∧ W.cell? ⟨w.heap.size, 3, none⟩ = some (.int .u64 t)) := Lib.hid fun W N X X' h => ⟨h.box 1 rfl, h.box 2 rfl, h.box 3 rfl⟩
  have L : Hid (∀ W, Bm w0 bs bd w.heap.size n g2 #[.int .i64 2, .int .i64 p, .int .i64 m, .int .u64 t] c2 N X X W → Calls Tryz.prog 22 #[.pointer (some ⟨bs, 0, none⟩), .int .i64 p] W fun e w' => e = .returned (.int .i64 (X.offR p)) ∧ Bm w0 bs bd w.heap.size n g2 #[.int .i64 2, .int .i64 p, .int .i64 m, .int .u64 t] c2 N X (X.offX p (X.yld p.toNat)) w') := Lib.hid fun W h => h.left fun bq bt b3 F r ha b => m_yield b r p
  have R : Hid (∀ W, Bm w0 bs bd w.heap.size n g2 #[.int .i64 2, .int .i64 p, .int .i64 m, .int .u64 t] c2 N X (X.offX p (X.yld p.toNat)) W → Calls Tryz.prog 23 #[.pointer (some ⟨bd, 0, none⟩), .int .i64 p] W fun e w' => e = .returned (.int .i64 (X.offR p)) ∧ Bm w0 bs bd w.heap.size n g2 #[.int .i64 2, .int .i64 p, .int .i64 m, .int .u64 t] c2 (N + 1) (X.offX p (X.yld p.toNat)) (X.offX p (X.yld p.toNat)) w') := Lib.hid fun W h => h.right fun br bt2 Z sc F r b => p_yield b r p
  have HD : Hid (∀ W X', Bm w0 bs bd w.heap.size n g2 #[.int .i64 2, .int .i64 p, .int .i64 m, .int .u64 t] c2 (N + 1) X' X' W → ∃ X', Du w0 bs bd n g2 c2 (N + 1) X' W) := Lib.hid fun W X' h => ⟨X', h.drop⟩
  clear h hN
  generalize X.offR p = x1 at *
  go_enter Tryz.func7, Tryz.ntmps7
  go_wp2
  generalize hWb : w.alloc (.cells #[.int .i64 2, .int .i64 p, .int .i64 m, .int .u64 t] 33) = Wb at *
  obtain ⟨k1, k2, k3⟩ := KX.out _ _ _ _ HB.out
  generalize w.heap.size = g at *
  go_region_held3 (fun w' => w'.cell? ⟨g, 1, none⟩ = some (.int .i64 p) ∧ w'.cell? ⟨g, 2, none⟩ = some (.int .i64 m) ∧ w'.cell? ⟨g, 3, none⟩ = some (.int .u64 t))
    (first
      | go_keep
      | exact ⟨k1, k2, k3⟩
      | exact KX.out _ _ _ _ (by assumption))
    (first
      | (go_at_call 22; refine (L.out _ (by first | exact HB.out | exact HB.out.same (Cha.refl _ _).drew | exact HB.out.same ((Cha.refl _ _).drewN _))).mono ?_; rintro e1 w1 ⟨rfl, hH⟩)
      | (go_at_call 23; refine (R.out _ hH).mono ?_; rintro e2 w2 ⟨rfl, hM⟩))
  all_goals
    have H2 := Lib.hid hM
    clear hM hH
    go_wp2
    go_returns
    first | exact ⟨rfl, HD.out _ _ H2.out⟩ | exact ⟨by simp, HD.out _ _ H2.out⟩
theorem one_3 (h : Du w0 bs bd n g2 c2 N X w) (hN : N < 4611686018427387904) (p m t : Int) : Calls Tryz.prog 7 #[.pointer (some ⟨bs, 0, none⟩), .pointer (some ⟨bd, 0, none⟩), .agg #[.int .i64 3, .int .i64 p, .int .i64 m, .int .u64 t]] w fun e w' => e = .returned (.bool true) ∧ ∃ X', Du w0 bs bd n g2 c2 (N + 1) X' w' := by
  have HB := Lib.hid (h.box #[.int .i64 3, .int .i64 p, .int .i64 m, .int .u64 t])
  have KX : Hid (∀ W N X X', Bm w0 bs bd w.heap.size n g2 #[.int .i64 3, .int .i64 p, .int .i64 m, .int .u64 t] c2 N X X' W → W.cell? ⟨w.heap.size, 1, none⟩ = some (.int .i64 p) ∧ W.cell? ⟨w.heap.size, 2, none⟩ = some (.int .i64 m) ∧ W.cell? ⟨w.heap.size, 3, none⟩ = some (.int .u64 t)) := Lib.hid fun W N X X' h => ⟨h.box 1 rfl, h.box 2 rfl, h.box 3 rfl⟩
  have L : Hid (∀ W, Bm w0 bs bd w.heap.size n g2 #[.int .i64 3, .int .i64 p, .int .i64 m, .int .u64 t] c2 N X X W → Calls Tryz.prog 24 #[.pointer (some ⟨bs, 0, none⟩), .int .i64 p] W fun e w' => e = .returned (.int .i64 (X.offR p)) ∧ Bm w0 bs bd w.heap.size n g2 #[.int .i64 3, .int .i64 p, .int .i64 m, .int .u64 t] c2 N X (X.offX p (X.stp p.toNat (2, false))) w') := Lib.hid fun W h => h.left fun bq bt b3 F r ha b => m_block b r p
  have R : Hid (∀ W, Bm w0 bs bd w.heap.size n g2 #[.int .i64 3, .int .i64 p, .int .i64 m, .int .u64 t] c2 N X (X.offX p (X.stp p.toNat (2, false))) W → Calls Tryz.prog 25 #[.pointer (some ⟨bd, 0, none⟩), .int .i64 p] W fun e w' => e = .returned (.int .i64 (X.offR p)) ∧ Bm w0 bs bd w.heap.size n g2 #[.int .i64 3, .int .i64 p, .int .i64 m, .int .u64 t] c2 (N + 1) (X.offX p (X.stp p.toNat (2, false))) (X.offX p (X.stp p.toNat (2, false))) w') := Lib.hid fun W h => h.right fun br bt2 Z sc F r b => p_block b r p
  have HD : Hid (∀ W X', Bm w0 bs bd w.heap.size n g2 #[.int .i64 3, .int .i64 p, .int .i64 m, .int .u64 t] c2 (N + 1) X' X' W → ∃ X', Du w0 bs bd n g2 c2 (N + 1) X' W) := Lib.hid fun W X' h => ⟨X', h.drop⟩
  clear h hN
  generalize X.offR p = x1 at *
  go_enter Tryz.func7, Tryz.ntmps7
  go_wp2
  generalize hWb : w.alloc (.cells #[.int .i64 3, .int .i64 p, .int .i64 m, .int .u64 t] 33) = Wb at *
  obtain ⟨k1, k2, k3⟩ := KX.out _ _ _ _ HB.out
  generalize w.heap.size = g at *
  go_region_held3 (fun w' => w'.cell? ⟨g, 1, none⟩ = some (.int .i64 p) ∧ w'.cell? ⟨g, 2, none⟩ = some (.int .i64 m) ∧ w'.cell? ⟨g, 3, none⟩ = some (.int .u64 t))
    (first
      | go_keep
      | exact ⟨k1, k2, k3⟩
      | exact KX.out _ _ _ _ (by assumption))
    (first
      | (go_at_call 24; refine (L.out _ (by first | exact HB.out | exact HB.out.same (Cha.refl _ _).drew | exact HB.out.same ((Cha.refl _ _).drewN _))).mono ?_; rintro e1 w1 ⟨rfl, hH⟩)
      | (go_at_call 25; refine (R.out _ hH).mono ?_; rintro e2 w2 ⟨rfl, hM⟩))
  all_goals
    have H2 := Lib.hid hM
    clear hM hH
    go_wp2
    go_returns
    first | exact ⟨rfl, HD.out _ _ H2.out⟩ | exact ⟨by simp, HD.out _ _ H2.out⟩
theorem one_4 (h : Du w0 bs bd n g2 c2 N X w) (hN : N < 4611686018427387904) (p m t : Int) : Calls Tryz.prog 7 #[.pointer (some ⟨bs, 0, none⟩), .pointer (some ⟨bd, 0, none⟩), .agg #[.int .i64 4, .int .i64 p, .int .i64 m, .int .u64 t]] w fun e w' => e = .returned (.bool true) ∧ ∃ X', Du w0 bs bd n g2 c2 (N + 1) X' w' := by
  have HB := Lib.hid (h.box #[.int .i64 4, .int .i64 p, .int .i64 m, .int .u64 t])
  have KX : Hid (∀ W N X X', Bm w0 bs bd w.heap.size n g2 #[.int .i64 4, .int .i64 p, .int .i64 m, .int .u64 t] c2 N X X' W → W.cell? ⟨w.heap.size, 1, none⟩ = some (.int .i64 p) ∧ W.cell? ⟨w.heap.size, 2, none⟩ = some (.int .i64 m) ∧ W.cell? ⟨w.heap.size, 3, none⟩ = some (.int .u64 t)) := Lib.hid fun W N X X' h => ⟨h.box 1 rfl, h.box 2 rfl, h.box 3 rfl⟩
  have L : Hid (∀ W, Bm w0 bs bd w.heap.size n g2 #[.int .i64 4, .int .i64 p, .int .i64 m, .int .u64 t] c2 N X X W → Calls Tryz.prog 26 #[.pointer (some ⟨bs, 0, none⟩), .int .i64 p, .int .u64 t] W fun e w' => e = .returned (.int .i64 (X.offR p)) ∧ Bm w0 bs bd w.heap.size n g2 #[.int .i64 4, .int .i64 p, .int .i64 m, .int .u64 t] c2 N X (X.offX p (X.slp p.toNat t)) w') := Lib.hid fun W h => h.left fun bq bt b3 F r ha b => m_sleep b r (by omega) p t
  have R : Hid (∀ W, Bm w0 bs bd w.heap.size n g2 #[.int .i64 4, .int .i64 p, .int .i64 m, .int .u64 t] c2 N X (X.offX p (X.slp p.toNat t)) W → Calls Tryz.prog 27 #[.pointer (some ⟨bd, 0, none⟩), .int .i64 p, .int .u64 t] W fun e w' => e = .returned (.int .i64 (X.offR p)) ∧ Bm w0 bs bd w.heap.size n g2 #[.int .i64 4, .int .i64 p, .int .i64 m, .int .u64 t] c2 (N + 1) (X.offX p (X.slp p.toNat t)) (X.offX p (X.slp p.toNat t)) w') := Lib.hid fun W h => h.right fun br bt2 Z sc F r b => p_sleep b r p t
  have HD : Hid (∀ W X', Bm w0 bs bd w.heap.size n g2 #[.int .i64 4, .int .i64 p, .int .i64 m, .int .u64 t] c2 (N + 1) X' X' W → ∃ X', Du w0 bs bd n g2 c2 (N + 1) X' W) := Lib.hid fun W X' h => ⟨X', h.drop⟩
  clear h hN
  generalize X.offR p = x1 at *
  go_enter Tryz.func7, Tryz.ntmps7
  go_wp2
  generalize hWb : w.alloc (.cells #[.int .i64 4, .int .i64 p, .int .i64 m, .int .u64 t] 33) = Wb at *
  obtain ⟨k1, k2, k3⟩ := KX.out _ _ _ _ HB.out
  generalize w.heap.size = g at *
  go_region_held3 (fun w' => w'.cell? ⟨g, 1, none⟩ = some (.int .i64 p) ∧ w'.cell? ⟨g, 2, none⟩ = some (.int .i64 m) ∧ w'.cell? ⟨g, 3, none⟩ = some (.int .u64 t))
    (first
      | go_keep
      | exact ⟨k1, k2, k3⟩
      | exact KX.out _ _ _ _ (by assumption))
    (first
      | (go_at_call 26; refine (L.out _ (by first | exact HB.out | exact HB.out.same (Cha.refl _ _).drew | exact HB.out.same ((Cha.refl _ _).drewN _))).mono ?_; rintro e1 w1 ⟨rfl, hH⟩)
      | (go_at_call 27; refine (R.out _ hH).mono ?_; rintro e2 w2 ⟨rfl, hM⟩))
  all_goals
    have H2 := Lib.hid hM
    clear hM hH
    go_wp2
    go_returns
    first | exact ⟨rfl, HD.out _ _ H2.out⟩ | exact ⟨by simp, HD.out _ _ H2.out⟩
theorem one_5 (h : Du w0 bs bd n g2 c2 N X w) (hN : N < 4611686018427387904) (p m t : Int) : Calls Tryz.prog 7 #[.pointer (some ⟨bs, 0, none⟩), .pointer (some ⟨bd, 0, none⟩), .agg #[.int .i64 5, .int .i64 p, .int .i64 m, .int .u64 t]] w fun e w' => e = .returned (.bool true) ∧ ∃ X', Du w0 bs bd n g2 c2 (N + 1) X' w' := by
  have HB := Lib.hid (h.box #[.int .i64 5, .int .i64 p, .int .i64 m, .int .u64 t])
  have KX : Hid (∀ W N X X', Bm w0 bs bd w.heap.size n g2 #[.int .i64 5, .int .i64 p, .int .i64 m, .int .u64 t] c2 N X X' W → W.cell? ⟨w.heap.size, 1, none⟩ = some (.int .i64 p) ∧ W.cell? ⟨w.heap.size, 2, none⟩ = some (.int .i64 m) ∧ W.cell? ⟨w.heap.size, 3, none⟩ = some (.int .u64 t)) := Lib.hid fun W N X X' h => ⟨h.box 1 rfl, h.box 2 rfl, h.box 3 rfl⟩
  have L : Hid (∀ W, Bm w0 bs bd w.heap.size n g2 #[.int .i64 5, .int .i64 p, .int .i64 m, .int .u64 t] c2 N X X W → Calls Tryz.prog 28 #[.pointer (some ⟨bs, 0, none⟩), .int .i64 p] W fun e w' => e = .returned (.int .i64 (X.offR p)) ∧ Bm w0 bs bd w.heap.size n g2 #[.int .i64 5, .int .i64 p, .int .i64 m, .int .u64 t] c2 N X (X.offX p (X.stp p.toNat (3, false))) w') := Lib.hid fun W h => h.left fun bq bt b3 F r ha b => m_end b r p
  have R : Hid (∀ W, Bm w0 bs bd w.heap.size n g2 #[.int .i64 5, .int .i64 p, .int .i64 m, .int .u64 t] c2 N X (X.offX p (X.stp p.toNat (3, false))) W → Calls Tryz.prog 29 #[.pointer (some ⟨bd, 0, none⟩), .int .i64 p] W fun e w' => e = .returned (.int .i64 (X.offR p)) ∧ Bm w0 bs bd w.heap.size n g2 #[.int .i64 5, .int .i64 p, .int .i64 m, .int .u64 t] c2 (N + 1) (X.offX p (X.stp p.toNat (3, false))) (X.offX p (X.stp p.toNat (3, false))) w') := Lib.hid fun W h => h.right fun br bt2 Z sc F r b => p_end b r p
  have HD : Hid (∀ W X', Bm w0 bs bd w.heap.size n g2 #[.int .i64 5, .int .i64 p, .int .i64 m, .int .u64 t] c2 (N + 1) X' X' W → ∃ X', Du w0 bs bd n g2 c2 (N + 1) X' W) := Lib.hid fun W X' h => ⟨X', h.drop⟩
  clear h hN
  generalize X.offR p = x1 at *
  go_enter Tryz.func7, Tryz.ntmps7
  go_wp2
  generalize hWb : w.alloc (.cells #[.int .i64 5, .int .i64 p, .int .i64 m, .int .u64 t] 33) = Wb at *
  obtain ⟨k1, k2, k3⟩ := KX.out _ _ _ _ HB.out
  generalize w.heap.size = g at *
  go_region_held3 (fun w' => w'.cell? ⟨g, 1, none⟩ = some (.int .i64 p) ∧ w'.cell? ⟨g, 2, none⟩ = some (.int .i64 m) ∧ w'.cell? ⟨g, 3, none⟩ = some (.int .u64 t))
    (first
      | go_keep
      | exact ⟨k1, k2, k3⟩
      | exact KX.out _ _ _ _ (by assumption))
    (first
      | (go_at_call 28; refine (L.out _ (by first | exact HB.out | exact HB.out.same (Cha.refl _ _).drew | exact HB.out.same ((Cha.refl _ _).drewN _))).mono ?_; rintro e1 w1 ⟨rfl, hH⟩)
      | (go_at_call 29; refine (R.out _ hH).mono ?_; rintro e2 w2 ⟨rfl, hM⟩))
  all_goals
    have H2 := Lib.hid hM
    clear hM hH
    go_wp2
    go_returns
    first | exact ⟨rfl, HD.out _ _ H2.out⟩ | exact ⟨by simp, HD.out _ _ H2.out⟩
theorem one_6 (h : Du w0 bs bd n g2 c2 N X w) (hN : N < 4611686018427387904) (p m t : Int) : Calls Tryz.prog 7 #[.pointer (some ⟨bs, 0, none⟩), .pointer (some ⟨bd, 0, none⟩), .agg #[.int .i64 6, .int .i64 p, .int .i64 m, .int .u64 t]] w fun e w' => e = .returned (.bool true) ∧ ∃ X', Du w0 bs bd n g2 c2 (N + 1) X' w' := by
  have HB := Lib.hid (h.box #[.int .i64 6, .int .i64 p, .int .i64 m, .int .u64 t])
  have KX : Hid (∀ W N X X', Bm w0 bs bd w.heap.size n g2 #[.int .i64 6, .int .i64 p, .int .i64 m, .int .u64 t] c2 N X X' W → W.cell? ⟨w.heap.size, 1, none⟩ = some (.int .i64 p) ∧ W.cell? ⟨w.heap.size, 2, none⟩ = some (.int .i64 m) ∧ W.cell? ⟨w.heap.size, 3, none⟩ = some (.int .u64 t)) := Lib.hid fun W N X X' h => ⟨h.box 1 rfl, h.box 2 rfl, h.box 3 rfl⟩
  have L : Hid (∀ W, Bm w0 bs bd w.heap.size n g2 #[.int .i64 6, .int .i64 p, .int .i64 m, .int .u64 t] c2 N X X W → Calls Tryz.prog 30 #[.pointer (some ⟨bs, 0, none⟩), .int .i64 p, .int .i64 m] W fun e w' => e = .returned (.int .i64 (X.rdyR p m)) ∧ Bm w0 bs bd w.heap.size n g2 #[.int .i64 6, .int .i64 p, .int .i64 m, .int .u64 t] c2 N X (X.rdyX p m) w') := Lib.hid fun W h => h.left fun bq bt b3 F r ha b => m_ready b r p m
  have R : Hid (∀ W, Bm w0 bs bd w.heap.size n g2 #[.int .i64 6, .int .i64 p, .int .i64 m, .int .u64 t] c2 N X (X.rdyX p m) W → Calls Tryz.prog 31 #[.pointer (some ⟨bd, 0, none⟩), .int .i64 p, .int .i64 m] W fun e w' => e = .returned (.int .i64 (X.rdyR p m)) ∧ Bm w0 bs bd w.heap.size n g2 #[.int .i64 6, .int .i64 p, .int .i64 m, .int .u64 t] c2 (N + 1) (X.rdyX p m) (X.rdyX p m) w') := Lib.hid fun W h => h.right fun br bt2 Z sc F r b => p_ready b r p m
  have HD : Hid (∀ W X', Bm w0 bs bd w.heap.size n g2 #[.int .i64 6, .int .i64 p, .int .i64 m, .int .u64 t] c2 (N + 1) X' X' W → ∃ X', Du w0 bs bd n g2 c2 (N + 1) X' W) := Lib.hid fun W X' h => ⟨X', h.drop⟩
  clear h hN
  generalize X.rdyR p m = x1 at *
  go_enter Tryz.func7, Tryz.ntmps7
  go_wp2
  generalize hWb : w.alloc (.cells #[.int .i64 6, .int .i64 p, .int .i64 m, .int .u64 t] 33) = Wb at *
  obtain ⟨k1, k2, k3⟩ := KX.out _ _ _ _ HB.out
  generalize w.heap.size = g at *
  go_region_held3 (fun w' => w'.cell? ⟨g, 1, none⟩ = some (.int .i64 p) ∧ w'.cell? ⟨g, 2, none⟩ = some (.int .i64 m) ∧ w'.cell? ⟨g, 3, none⟩ = some (.int .u64 t))
    (first
      | go_keep
      | exact ⟨k1, k2, k3⟩
      | exact KX.out _ _ _ _ (by assumption))
    (first
      | (go_at_call 30; refine (L.out _ (by first | exact HB.out | exact HB.out.same (Cha.refl _ _).drew | exact HB.out.same ((Cha.refl _ _).drewN _))).mono ?_; rintro e1 w1 ⟨rfl, hH⟩)
      | (go_at_call 31; refine (R.out _ hH).mono ?_; rintro e2 w2 ⟨rfl, hM⟩))
  all_goals
    have H2 := Lib.hid hM
    clear hM hH
    go_wp2
    go_returns
    first | exact ⟨rfl, HD.out _ _ H2.out⟩ | exact ⟨by simp, HD.out _ _ H2.out⟩
theorem one_7 (h : Du w0 bs bd n g2 c2 N X w) (hN : N < 4611686018427387904) (p m t : Int) (t0 : 0 ≤ t) (t1 : t ≤ 18446744073709551615) (hc : X.clk ≤ 1099511627776) : Calls Tryz.prog 7 #[.pointer (some ⟨bs, 0, none⟩), .pointer (some ⟨bd, 0, none⟩), .agg #[.int .i64 7, .int .i64 p, .int .i64 m, .int .u64 t]] w fun e w' => e = .returned (.bool true) ∧ ∃ X', Du w0 bs bd n g2 c2 (N + 1) X' w' := by
  have HB := Lib.hid (h.box #[.int .i64 7, .int .i64 p, .int .i64 m, .int .u64 t])
  have KX : Hid (∀ W N X X', Bm w0 bs bd w.heap.size n g2 #[.int .i64 7, .int .i64 p, .int .i64 m, .int .u64 t] c2 N X X' W → W.cell? ⟨w.heap.size, 1, none⟩ = some (.int .i64 p) ∧ W.cell? ⟨w.heap.size, 2, none⟩ = some (.int .i64 m) ∧ W.cell? ⟨w.heap.size, 3, none⟩ = some (.int .u64 t)) := Lib.hid fun W N X X' h => ⟨h.box 1 rfl, h.box 2 rfl, h.box 3 rfl⟩
  have L : Hid (∀ W, Bm w0 bs bd w.heap.size n g2 #[.int .i64 7, .int .i64 p, .int .i64 m, .int .u64 t] c2 N X X W → Calls Tryz.prog 32 #[.pointer (some ⟨bs, 0, none⟩), .int .u64 t] W fun e w' => e = .returned (.tuple #[]) ∧ Bm w0 bs bd w.heap.size n g2 #[.int .i64 7, .int .i64 p, .int .i64 m, .int .u64 t] c2 N X (X.tick t) w') := Lib.hid fun W h => h.left fun bq bt b3 F r ha b => tick_any b t t0 t1
  have R : Hid (∀ W, Bm w0 bs bd w.heap.size n g2 #[.int .i64 7, .int .i64 p, .int .i64 m, .int .u64 t] c2 N X (X.tick t) W → Calls Tryz.prog 33 #[.pointer (some ⟨bd, 0, none⟩), .int .u64 t] W fun e w' => e = .returned (.tuple #[]) ∧ Bm w0 bs bd w.heap.size n g2 #[.int .i64 7, .int .i64 p, .int .i64 m, .int .u64 t] c2 (N + 1) (X.tick t) (X.tick t) w') := Lib.hid fun W h => h.right fun br bt2 Z sc F r b => p_tick b r t t0 t1 hc
  have HD : Hid (∀ W X', Bm w0 bs bd w.heap.size n g2 #[.int .i64 7, .int .i64 p, .int .i64 m, .int .u64 t] c2 (N + 1) X' X' W → ∃ X', Du w0 bs bd n g2 c2 (N + 1) X' W) := Lib.hid fun W X' h => ⟨X', h.drop⟩
  clear h hN
  go_enter Tryz.func7, Tryz.ntmps7
  obtain ⟨k1, k2, k3⟩ := KX.out _ _ _ _ HB.out
  go_wp2_with (first
    | (go_at_call 32; ((with_reducible refine (L.out _ HB.out).mono ?_); rintro e w1 ⟨rfl, hB⟩; obtain ⟨k1, k2, k3⟩ := KX.out _ _ _ _ hB; have H1 := Lib.hid hB; clear hB))
    | (go_at_call 33; ((with_reducible refine (R.out _ H1.out).mono ?_); rintro e w2 ⟨rfl, hB⟩; have H2 := Lib.hid hB; clear hB)))
  go_returns
  exact ⟨rfl, HD.out _ _ H2.out⟩
end
end Go.Proofs.YtaloafihbdamiaaGreat
