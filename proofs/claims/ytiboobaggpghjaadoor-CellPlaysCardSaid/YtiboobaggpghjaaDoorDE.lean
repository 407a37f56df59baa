/- Contracts of layer 7's small functions: place, full, isProc, use; slices.Index. -/
import Derived.Test.YtiboobaggpghjaaDoorDD
import Derived.IntWalk
import Derived.BigQuiet
import Derived.Deep.QuietTactic
namespace Go.Proofs.YtiboobaggpghjaaDoor
open Go.ChangeShapes Go.WideShapes Go.ChangeAt Go.RowKit
variable {W : World} {p q : Nat} {y : Bk}

/-- An integer is answered; the tape alone has moved. -/
def Draws (v : Value) (w : World) (e : Ending) (w' : World) : Prop := e = .returned v ∧ ∃ m, w' = w.drewN m
theorem place_any (h : Bl W p q y) (i : Nat) (hb : y.b ≤ 4096) (hi : i ≤ 64) (hw : y.wd ≤ 262144) : Calls Tryd.prog 44 #[.pointer (some ⟨p, 0, none⟩), .int .i64 (i : Int)] W (Draws (.int .i64 ((y.b * 64 + i * y.wd : Nat) : Int)) W) := by
  obtain ⟨c0, c3, c4, c5, c6⟩ := h.cells
  have hm : i * y.wd ≤ 64 * 262144 := Nat.mul_le_mul hi hw
  have e1 : ((i * y.wd : Nat) : Int) = (i : Int) * (y.wd : Int) := Int.natCast_mul _ _
  have e2 : ((y.b * 64 + i * y.wd : Nat) : Int) = (y.b : Int) * 64 + (i : Int) * (y.wd : Int) := by omega
  rw [e2]
  have k0 : 0 ≤ (i : Int) * (y.wd : Int) := by omega
  have k1 : (i : Int) * (y.wd : Int) ≤ 64 * 262144 := by omega
  clear h hm e1 e2
  have hb0 : 0 ≤ (y.b : Int) := by omega
  have hb1 : (y.b : Int) ≤ 4096 := by omega
  clear hb
  generalize (y.b : Int) = b at *
  obtain ⟨m, hm⟩ : ∃ m, (i : Int) * (y.wd : Int) = m := ⟨_, rfl⟩
  generalize (y.wd : Int) = s at *
  rw [hm] at k0 k1
  have q1 : IntKind.i64.wrap (b * 64) = b * 64 := IntWalk.i64_in _ (by omega)
  have q2 : IntKind.i64.wrap ((i : Int) * s) = m := by rw [hm]; exact IntWalk.i64_in _ (by omega)
  have q3 : IntKind.i64.wrap (b * 64 + m) = b * 64 + m := IntWalk.i64_in _ (by omega)
  rw [hm]
  have HM := Lib.hid hm
  clear hm
  go_enter Tryd.func44, Tryd.ntmps44
  go_wp2
  go_quiet (fail)
  go_wp2
  go_ret
  exact ⟨rfl, _, rfl⟩

theorem full_yes (h : Bl W p q y) (hu : false ∉ y.u) : Calls Tryd.prog 76 #[.pointer (some ⟨p, 0, none⟩)] W (Draws (.bool true) W) := by
  obtain ⟨c0, c3, c4, c5, c6⟩ := h.cells
  rw [cnt_full.2 hu] at c5
  clear h hu
  have e : ((y.u.length : Int) == (y.u.length : Int)) = true := by simp
  go_enter Tryd.func76, Tryd.ntmps76
  go_wp2
  go_quiet (fail)
  go_wp2
  go_ret
  exact ⟨ret_bool (by simp), _, rfl⟩
theorem full_no (h : Bl W p q y) (hu : false ∈ y.u) : Calls Tryd.prog 76 #[.pointer (some ⟨p, 0, none⟩)] W (Draws (.bool false) W) := by
  obtain ⟨c0, c3, c4, c5, c6⟩ := h.cells
  have hn : ((cnt y.u : Int) == (y.u.length : Int)) = false := by
    rw [beq_eq_false_iff_ne]
    intro e
    exact (cnt_full.1 (show cnt y.u = y.u.length by omega)) hu
  clear h hu
  generalize (cnt y.u : Int) = k at *
  go_enter Tryd.func76, Tryd.ntmps76
  go_wp2
  go_quiet (fail)
  go_wp2
  go_ret
  first
    | exact ⟨ret_bool hn, _, rfl⟩
    | exact ⟨rfl, _, rfl⟩
theorem isProc_yes {n pr : Nat} {F : Nat → Prop} {a : Ad} {A : List Bk} (h : Cl n pr F a W A) (p : Nat) (hp : p < pr) : Calls Tryd.prog 50 #[.pointer (some ⟨a.bc, 0, none⟩), .int .i64 (p : Int)] W fun e w' => e = .returned (.bool true) ∧ W = w' := by
  have c2 := h.c2
  have h8 := h.prr
  clear h
  have h0 : decide ((0 : Int) ≤ (p : Int)) = true := by simp
  have h1 : decide (p < pr) = true := by simpa using hp
  go_enter Tryd.func50, Tryd.ntmps50
  go_wp2
  go_ret
  exact ⟨rfl, rfl⟩
theorem isProc_no {n pr : Nat} {F : Nat → Prop} {a : Ad} {A : List Bk} (h : Cl n pr F a W A) (p : Int) (hp : p < 0 ∨ (pr : Int) ≤ p) : Calls Tryd.prog 50 #[.pointer (some ⟨a.bc, 0, none⟩), .int .i64 p] W fun e w' => e = .returned (.bool false) ∧ W = w' := by
  have c2 := h.c2
  have h8 := h.prr
  clear h
  rcases hp with hp | hp
  · have h0 : decide ((0 : Int) ≤ p) = false := by simpa using hp
    go_enter Tryd.func50, Tryd.ntmps50
    go_wp2
    go_ret
    exact ⟨rfl, rfl⟩
  · have h0 : decide ((0 : Int) ≤ p) = true := by simp; omega
    have h1 : decide (p < (pr : Int)) = false := by simpa using hp
    go_enter Tryd.func50, Tryd.ntmps50
    go_wp2
    go_ret
    exact ⟨rfl, rfl⟩
/-- The first free cell. -/
theorem index7 {u : List Bool} (h : FRow 4 W q u.length (uV u)) (hl : u.length ≤ 64) (hu : false ∈ u) : Calls Tryd.prog 68 #[.slice (some ⟨q, 0, none⟩) u.length u.length, .bool false] W fun e w' => e = .returned (.int .i64 (fi u : Int)) ∧ W = w' := by
  have HC : Hid (∀ i v, u[i]? = some v → W.cell? ⟨q, i, none⟩ = some (.bool v)) := Lib.hid fun i v hi => by
    rw [h.cell (lt_of_get hi)]
    unfold uV
    rw [List.getD_eq_getElem?_getD, hi]; rfl
  have HF := Lib.hid (fi_get hu)
  have HM : Hid (∀ j, j < fi u → u[j]? = some true) := Lib.hid fun j hj => fi_min hj
  have hlt := fi_lt hu
  generalize fi u = x at *
  generalize u.length = k at *
  clear h hu
  go_enter Tryd.func68, Tryd.ntmps68
  go_wp2
  go_loop [8] (fun i => ∃ j : Nat, j ≤ x ∧ i = .int .i64 (j : Int)) (fun i => k - (intOf i).toNat)
  case atStart => exact ⟨0, Nat.zero_le _, rfl⟩
  case round =>
    obtain ⟨j, hj, rfl⟩ := hrel
    have hjk : j < k := by omega
    by_cases hx : j < x
    · have hm := HC.out j true (HM.out j hx)
      go_wp2
      go_round
      case rel => exact ⟨j + 1, by omega, by go_num⟩
      case measure => simp [intOf]; omega
    · obtain rfl : j = x := by omega
      have hm := HC.out j false HF.out
      go_wp2
      go_ret
      exact ⟨rfl, rfl⟩
def useB (y : Bk) : Bk := { y with u := y.u.set (fi y.u) true }
/-- A cell of a block is used, or free. -/
theorem Bl.setu {i : Nat} {v : Bool} {r : Int} (h : Bl W p q y) (_ : y.u[i]? = some (!v)) (hr : r = (cnt (y.u.set i v) : Int)) : Bl ((W.setCell ⟨q, i, none⟩ (.bool v)).setCell ⟨p, 5, none⟩ (.int .i64 r)) p q { y with u := y.u.set i v } := by
  have hne : p ≠ q := ty_ne h.hd h.us (by decide)
  have h1 : (W.setCell ⟨q, i, none⟩ (.bool v)).heap[p]? = some (.cells (bkC q y) 81 (0, 0)) := (heap_setCell_other _ _ _ _ hne).trans h.hd
  have h2 := heap_setCell_same _ p 5 _ 81 (.int .i64 r) h1
  have h3 := h.us.set (i := i) (.bool v)
  refine ⟨?_, ?_⟩
  · rw [h2, hr]
    unfold bkC
    simp
  · have h4 : FRow 4 ((W.setCell ⟨q, i, none⟩ (.bool v)).setCell ⟨p, 5, none⟩ (.int .i64 r)) q y.u.length (fun x => if x = i then .bool v else uV y.u x) := (heap_setCell_other _ ⟨p, 5, none⟩ _ _ hne.symm).trans h3
    have h5 := h4.congr (r' := uV (y.u.set i v)) fun x hx => by
      unfold uV
      rw [List.getD_eq_getElem?_getD, List.getD_eq_getElem?_getD, List.getElem?_set]
      by_cases e : i = x
      · subst e
        rw [if_pos rfl, if_pos rfl, if_pos hx]; rfl
      · rw [if_neg (fun c => e c.symm), if_neg e]
    show FRow 4 _ q (y.u.set i v).length _
    rw [List.length_set]
    exact h5
theorem cha2 (W : World) (p q i j : Nat) (x z : Value) : Cha (fun b => b = p ∨ b = q) W ((W.setCell ⟨q, i, none⟩ x).setCell ⟨p, j, none⟩ z) :=
  ((Cha.refl (fun b => b = p ∨ b = q) W).setCell (p := ⟨q, i, none⟩) (fun _ => .inr rfl) _).setCell (p := ⟨p, j, none⟩) (fun _ => .inl rfl) _
/-- A block is turned to y'. -/
def Turns (v : Value) (p q : Nat) (y' : Bk) (w : World) (e : Ending) (w' : World) : Prop := e = .returned v ∧ Bl w' p q y' ∧ Cha (fun b => b = p ∨ b = q) w w'
set_option maxHeartbeats 1000000 in
theorem use_any (h : Bl W p q y) (hu : false ∈ y.u) (hl : y.u.length ≤ 64) (hb : y.b ≤ 4096) (hw : y.wd ≤ 262144) : Calls Tryd.prog 52 #[.pointer (some ⟨p, 0, none⟩)] W (Turns (.int .i64 ((y.b * 64 + fi y.u * y.wd : Nat) : Int)) p q (useB y) W) := by
  obtain ⟨c0, c3, c4, c5, c6⟩ := h.cells
  have f5 := h.free 5
  have hfl := fi_lt hu
  have hm := h.mark (fi_get hu)
  have fq := h.us.free (fi y.u)
  have I := Lib.hid (index7 h.us hl hu)
  have hcn := cnt_le y.u
  have hcs : ((cnt y.u : Int) + 1) = (cnt (y.u.set (fi y.u) true) : Int) := by
    have := cnt_set (u := y.u) (i := fi y.u) (v := true) (fi_get hu)
    simp at this; omega
  have B := h.setu (i := fi y.u) (v := true) (r := (cnt y.u : Int) + 1) (fi_get hu) hcs
  have hne : p ≠ q := ty_ne h.hd h.us (by decide)
  have P := Lib.hid (place_any B (fi y.u) hb (by omega) hw)
  have B := Lib.hid B
  have C := Lib.hid (cha2 W p q (fi y.u) 5 (.bool true) (.int .i64 ((cnt y.u : Int) + 1)))
  have hlt := h.lt
  clear h hu hcs
  unfold useB
  generalize fi y.u = x at *
  generalize cnt y.u = k at *
  go_enter Tryd.func52, Tryd.ntmps52
  go_wp2_with (first
    | (go_at_call 68; ((with_reducible refine (I.out).mono ?_); rintro e w1 ⟨rfl, rfl⟩))
    | (go_at_call 44; ((with_reducible refine (P.out).mono ?_); rintro e w1 ⟨rfl, m, rfl⟩)))
  go_ret
  exact ⟨rfl, B.out.cha (S := fun _ => False) ((Cha.refl _ _).drewN m) (fun x => x) (fun x => x), C.out.drewN m⟩
end Go.Proofs.YtiboobaggpghjaaDoor
