/- Layer 7's examples. -/
import Derived.Test.YtiboobaggpghjaaDoorDS
namespace Go.Proofs.YtiboobaggpghjaaDoor
open Go.ChangeShapes Go.WideShapes Go.ChangeAt Go.RowKit
variable {A : List Bk}

theorem noOpn_of {k : Nat} (h : ∀ y ∈ A, ¬ (y.c = (k : Int) ∧ ¬ 0 ≤ y.h ∧ false ∈ y.u)) : NoOpn A k := fun y hy => h y hy.1 hy.2
/-- Cells of three words. -/
def t3 (b : Nat) (u : List Bool) (h : Int) : Bk := ⟨b, 1, 2, 3, u ++ List.replicate (21 - u.length) false, h⟩
def E1 : List Bk := [t3 0 [true] 0]
def E2 : List Bk := [t3 0 [true, true] 0]
def E3 : List Bk := [t3 0 [true, true] 0, t3 1 [true] 1]
def E4 : List Bk := [t3 0 [true, true] 0, t3 1 [true] 1, grtB 2 2]
def E5 : List Bk := [t3 0 [false, true] 0, t3 1 [true] 1, grtB 2 2]
def E7 : List Bk := [t3 0 [true, true] 0, t3 1 [false] 1, grtB 2 2]
def E8 : List Bk := [t3 0 [true, true] 0, grtB 2 2]
theorem al1 : Alo 8 2 [] 0 3 E1 0 0 := by
  have e : unh [] 0 2 ++ [takeB 0 (newB 2 0)] = E1 := by decide +kernel
  have h := Alo.new (n := 8) (pr := 2) (A := []) (p := 0) (m := 3) 0 2 0 rfl (by omega) (by omega) (by omega) (by decide +kernel) (fun z hz => by cases hz) (fun z hz => by cases hz.1) ⟨_, .ok (0, 8) (by decide +kernel) (by decide +kernel)⟩
  rw [e] at h
  exact h
theorem al2 : Alo 8 2 E1 0 3 E2 3 0 := by
  have e : upd E1 (t3 0 [true] 0).b useB = E2 := by decide +kernel
  have h := Alo.held (n := 8) (pr := 2) (A := E1) (p := 0) (m := 3) 0 2 (t3 0 [true] 0) rfl (by omega) (by omega) (by omega) (by decide +kernel) (by decide +kernel) rfl rfl (by decide +kernel)
  rw [e] at h
  exact h
theorem al3 : Alo 8 2 E2 1 3 E3 64 0 := by
  have e : unh E2 1 2 ++ [takeB 1 (newB 2 1)] = E3 := by decide +kernel
  have h := Alo.new (n := 8) (pr := 2) (A := E2) (p := 1) (m := 3) 1 2 1 rfl (by omega) (by omega) (by omega) (by decide +kernel) (by unfold NoHeld; decide +kernel) (noOpn_of (by decide +kernel)) ⟨_, .ok (1, 7) (by decide +kernel) (by decide +kernel)⟩
  rw [e] at h
  exact h
theorem al4 : Alo 8 2 E3 0 100 E4 128 0 :=
  Alo.great (n := 8) (pr := 2) (A := E3) (p := 0) (m := 100) 2 2 (by omega) (by omega) (by omega) (by omega) (by decide +kernel) ⟨_, .ok (2, 6) (by decide +kernel) (by decide +kernel)⟩
theorem hi129 : Hit E4 129 (grtB 2 2) 0 := ⟨by decide +kernel, rfl, by decide +kernel, by decide +kernel⟩
theorem fr5 : Fre7 E4 0 E5 0 := by
  have e : (upd E4 (t3 0 [true, true] 0).b (freeB 0)).filter keep = E5 := by decide +kernel
  have h := Fre7.yes (A := E4) (x := 0) (t3 0 [true, true] 0) 0 ⟨by decide +kernel, rfl, by decide +kernel, by decide +kernel⟩ (by decide +kernel)
  rw [e] at h
  exact h
theorem al6 : Alo 8 2 E5 0 3 E4 0 0 := by
  have e : upd E5 (t3 0 [false, true] 0).b useB = E4 := by decide +kernel
  have h := Alo.held (n := 8) (pr := 2) (A := E5) (p := 0) (m := 3) 0 2 (t3 0 [false, true] 0) rfl (by omega) (by omega) (by omega) (by decide +kernel) (by decide +kernel) rfl rfl (by decide +kernel)
  rw [e] at h
  exact h
theorem fr7 : Fre7 E4 64 E7 0 := by
  have e : (upd E4 (t3 1 [true] 1).b (freeB 0)).filter keep = E7 := by decide +kernel
  have h := Fre7.yes (A := E4) (x := 64) (t3 1 [true] 1) 0 ⟨by decide +kernel, rfl, by decide +kernel, by decide +kernel⟩ (by decide +kernel)
  rw [e] at h
  exact h
theorem fl8 : flushed E7 1 = E8 := by decide +kernel
theorem al9 : Alo 8 2 E8 0 1025 E8 0 2 := .long (by omega) (by omega) (by omega)
theorem al10 : Alo 8 2 E8 2 1 E8 0 1 := .arg (.inr (.inl (by omega)))
theorem fr9 : Fre7 E8 1 E8 4 := .mid (t3 0 [true, true] 0) 0 ⟨by decide +kernel, rfl, by decide +kernel, by decide +kernel⟩ (by decide +kernel)
theorem gi9 : Giv7 E8 0 E8 4 := .no (by decide +kernel)
theorem hi5 : Hit E3 5 (t3 0 [true, true] 0) 1 := ⟨by decide +kernel, rfl, by decide +kernel, by decide +kernel⟩
theorem cov_a : covI E3 1 = true ∧ covI E3 2 = false ∧ covI E7 1 = true ∧ covI E8 1 = false := by decide +kernel
theorem cn8 : sumA fC E8 = 3 ∧ sumA fW E8 = 134 ∧ cntF (isU (covA E8) 8) 8 = 5 := by decide +kernel
end Go.Proofs.YtiboobaggpghjaaDoor
