/- VerifyFixed: the programs of its loop. (Written by tools/mkXF.py.) -/
import Derived.Test.YtpdjbhnpahkbpaaXC
namespace Go.Proofs.Ytpdjbhnpahkbpaa
set_option linter.unusedVariables false
open Go.ChangeShapes Go.WideShapes Go.ChangeAt Go.RowKit
def fxP (co : List IZ) : PZ := ⟨[], [], [⟨0, [0], [], co⟩]⟩
theorem fx_0 : chkZ (fxP [⟨36, 0, 0, 0, 0, []⟩]) = ⟨0, 0, 0⟩ := ft_eq (by decide +kernel)
theorem fx_1 : chkZ (fxP [⟨1, 1, 0, 0, 0, []⟩, ⟨36, 0, 0, 0, 0, []⟩]) = ⟨11, 0, 0⟩ := ft_eq (by decide +kernel)
theorem fx_2 : chkZ (fxP [⟨2, 0, 0, 1, 0, []⟩, ⟨36, 0, 0, 0, 0, []⟩]) = ⟨8, 0, 0⟩ := ft_eq (by decide +kernel)
theorem fx_3 : chkZ (fxP [⟨24, 5, 0, 0, 0, []⟩]) = ⟨12, 0, 0⟩ := ft_eq (by decide +kernel)
theorem fx_4 : chkZ (fxP [⟨0, 0, 0, 0, 0, []⟩, ⟨36, 0, 0, 0, 0, []⟩]) = ⟨9, 0, 0⟩ := ft_eq (by decide +kernel)
theorem fx_5 : chkZ (fxP [⟨53, 0, 0, 0, 0, []⟩, ⟨36, 0, 0, 0, 0, []⟩]) = ⟨9, 0, 0⟩ := ft_eq (by decide +kernel)
theorem fx_6 : chkZ (fxP [⟨35, 1, 0, 0, 0, []⟩, ⟨36, 0, 0, 0, 0, []⟩]) = ⟨13, 0, 0⟩ := ft_eq (by decide +kernel)
theorem fx_7 : chkZ (fxP [⟨26, 0, 0, 0, 0, []⟩, ⟨36, 0, 0, 0, 0, []⟩]) = ⟨14, 0, 0⟩ := ft_eq (by decide +kernel)
theorem fx_8 : chkZ (fxP [⟨42, 0, 0, 0, 0, []⟩, ⟨36, 0, 0, 0, 0, []⟩]) = ⟨10, 0, 0⟩ := ft_eq (by decide +kernel)
theorem fx_9 : chkZ (fxP [⟨45, 0, 0, 0, 0, [0]⟩, ⟨36, 0, 0, 0, 0, []⟩]) = ⟨16, 0, 0⟩ := ft_eq (by decide +kernel)
theorem fx_10 : chkZ (fxP [⟨33, 0, 0, 0, 0, []⟩, ⟨36, 0, 0, 0, 0, []⟩]) = ⟨15, 0, 0⟩ := ft_eq (by decide +kernel)
theorem fx_11 : chkZ (fxP [⟨36, 0, 0, 0, 0, [0]⟩]) = ⟨16, 0, 0⟩ := ft_eq (by decide +kernel)
theorem fx_12 : chkZ (fxP [⟨15, 0, 0, 0, 0, []⟩, ⟨36, 0, 0, 0, 0, []⟩]) = ⟨10, 0, 0⟩ := ft_eq (by decide +kernel)
theorem fx_13 : chkZ (fxP [⟨49, 0, 0, 0, 0, []⟩, ⟨36, 0, 0, 0, 0, []⟩]) = ⟨10, 0, 0⟩ := ft_eq (by decide +kernel)
theorem fx_14 : chkZ (fxP [⟨47, 0, 0, 0, 1, []⟩, ⟨36, 0, 0, 0, 0, []⟩]) = ⟨8, 0, 0⟩ := ft_eq (by decide +kernel)
theorem fx_15 : chkZ (fxP [⟨1, 0, 0, 0, 0, []⟩]) = ⟨7, 0, 0⟩ := ft_eq (by decide +kernel)
/-- What lies at a place k of both lists: a code, and what is to be answered of it. -/
def FxAt (w : World) (b c k : Nat) : Prop := ∃ (g n : Nat) (co : List IZ) (e f x : Int), w.cell? ⟨b, k, none⟩ = some (.slice (some ⟨g, 0, none⟩) n n) ∧ RdS 6 RdIns (· < w.heap.size) w (.slice (some ⟨g, 0, none⟩) n n) co ∧ CapC w (some ⟨g, 0, none⟩) n ∧ w.cell? ⟨c, k * 3, none⟩ = some (.int .i64 e) ∧ w.cell? ⟨c, k * 3 + 1, none⟩ = some (.int .i64 f) ∧ w.cell? ⟨c, k * 3 + 2, none⟩ = some (.int .i64 x) ∧ chkZ (fxP co) = ⟨e, f, x⟩
theorem FxAt.cha {w w' : World} {b c k : Nat} (h : FxAt w b c k) (hc : Cha (fun _ => False) w w') : FxAt w' b c k := by
  obtain ⟨g, n, co, e, f, x, h1, h2, h3, h4, h5, h6, h7⟩ := h
  exact ⟨g, n, co, e, f, x, cell_cha (B := fun _ => True) hc (fun _ f => f.elim) trivial h1, h2.inss hc (fun _ f => f.elim) (fun _ hi => Nat.lt_of_lt_of_le hi hc.size), h3.cha hc, cell_cha (B := fun _ => True) hc (fun _ f => f.elim) trivial h4, cell_cha (B := fun _ => True) hc (fun _ f => f.elim) trivial h5, cell_cha (B := fun _ => True) hc (fun _ f => f.elim) trivial h6, h7⟩
theorem fit_nil {w : World} {op a b c : Int} {m : Nat} (k0 : I64 op) (k1 : I64 a) (k2 : I64 b) (k3 : I64 c) (k4 : m < 18446744073709551616) : IFitV w (⟨op, a, b, c, m, []⟩, .slice none 0 0) := .nil k0 k1 k2 k3 k4
theorem fit_one {w : World} {op a b c : Int} {m g : Nat} (h : w.heap[g]? = some (.cells #[.int .i64 0] 3 (0, 0))) (k0 : I64 op) (k1 : I64 a) (k2 : I64 b) (k3 : I64 c) (k4 : m < 18446744073709551616) : IFitV w (⟨op, a, b, c, m, [0]⟩, .slice (some ⟨g, 0, none⟩) 1 1) :=
  ⟨k0, k1, k2, k3, k4, ints_block (xs := [0]) h rfl (fun x hx => by
    have e0 : x = 0 := by simpa using hx
    subst e0
    exact ⟨by omega, by omega⟩) (by decide), fun a n c e => by injection e; omega⟩
theorem i64_of (z : Int) (h : decide (-9223372036854775808 ≤ z ∧ z ≤ 9223372036854775807) = true) : I64 z := show -9223372036854775808 ≤ z ∧ z ≤ 9223372036854775807 from of_decide_eq_true h
def fxL (W : World) : List Obj := [(.cells #[.int .i64 36, .int .i64 0, .int .i64 0, .int .i64 0, .int .u64 0, .slice none 0 0] 52), (.cells #[.int .i64 36, .int .i64 0, .int .i64 0, .int .i64 0, .int .u64 0, .slice none 0 0] 52), (.cells #[.int .i64 1, .int .i64 1, .int .i64 0, .int .i64 0, .int .u64 0, .slice none 0 0, .int .i64 36, .int .i64 0, .int .i64 0, .int .i64 0, .int .u64 0, .slice none 0 0] 52), (.cells #[.int .i64 2, .int .i64 0, .int .i64 0, .int .i64 1, .int .u64 0, .slice none 0 0, .int .i64 36, .int .i64 0, .int .i64 0, .int .i64 0, .int .u64 0, .slice none 0 0] 52), (.cells #[.int .i64 24, .int .i64 5, .int .i64 0, .int .i64 0, .int .u64 0, .slice none 0 0] 52), (.cells #[.int .i64 0, .int .i64 0, .int .i64 0, .int .i64 0, .int .u64 0, .slice none 0 0, .int .i64 36, .int .i64 0, .int .i64 0, .int .i64 0, .int .u64 0, .slice none 0 0] 52), (.cells #[.int .i64 53, .int .i64 0, .int .i64 0, .int .i64 0, .int .u64 0, .slice none 0 0, .int .i64 36, .int .i64 0, .int .i64 0, .int .i64 0, .int .u64 0, .slice none 0 0] 52), (.cells #[.int .i64 35, .int .i64 1, .int .i64 0, .int .i64 0, .int .u64 0, .slice none 0 0, .int .i64 36, .int .i64 0, .int .i64 0, .int .i64 0, .int .u64 0, .slice none 0 0] 52), (.cells #[.int .i64 26, .int .i64 0, .int .i64 0, .int .i64 0, .int .u64 0, .slice none 0 0, .int .i64 36, .int .i64 0, .int .i64 0, .int .i64 0, .int .u64 0, .slice none 0 0] 52), (.cells #[.int .i64 42, .int .i64 0, .int .i64 0, .int .i64 0, .int .u64 0, .slice none 0 0, .int .i64 36, .int .i64 0, .int .i64 0, .int .i64 0, .int .u64 0, .slice none 0 0] 52), (.cells #[.int .i64 0] 3), (.cells #[.int .i64 45, .int .i64 0, .int .i64 0, .int .i64 0, .int .u64 0, .slice (some ⟨W.heap.size + 1 + 1 + 1 + 1 + 1 + 1 + 1 + 1 + 1 + 1, 0, none⟩) 1 1, .int .i64 36, .int .i64 0, .int .i64 0, .int .i64 0, .int .u64 0, .slice none 0 0] 52), (.cells #[.int .i64 33, .int .i64 0, .int .i64 0, .int .i64 0, .int .u64 0, .slice none 0 0, .int .i64 36, .int .i64 0, .int .i64 0, .int .i64 0, .int .u64 0, .slice none 0 0] 52), (.cells #[.int .i64 0] 3), (.cells #[.int .i64 36, .int .i64 0, .int .i64 0, .int .i64 0, .int .u64 0, .slice (some ⟨W.heap.size + 1 + 1 + 1 + 1 + 1 + 1 + 1 + 1 + 1 + 1 + 1 + 1 + 1, 0, none⟩) 1 1] 52), (.cells #[.int .i64 15, .int .i64 0, .int .i64 0, .int .i64 0, .int .u64 0, .slice none 0 0, .int .i64 36, .int .i64 0, .int .i64 0, .int .i64 0, .int .u64 0, .slice none 0 0] 52), (.cells #[.int .i64 49, .int .i64 0, .int .i64 0, .int .i64 0, .int .u64 0, .slice none 0 0, .int .i64 36, .int .i64 0, .int .i64 0, .int .i64 0, .int .u64 0, .slice none 0 0] 52), (.cells #[.int .i64 47, .int .i64 0, .int .i64 0, .int .i64 0, .int .u64 1, .slice none 0 0, .int .i64 36, .int .i64 0, .int .i64 0, .int .i64 0, .int .u64 0, .slice none 0 0] 52), (.cells #[.int .i64 1, .int .i64 0, .int .i64 0, .int .i64 0, .int .u64 0, .slice none 0 0] 52), (.cells #[.slice (some ⟨W.heap.size + 1, 0, none⟩) 1 1, .slice (some ⟨W.heap.size + 1 + 1, 0, none⟩) 2 2, .slice (some ⟨W.heap.size + 1 + 1 + 1, 0, none⟩) 2 2, .slice (some ⟨W.heap.size + 1 + 1 + 1 + 1, 0, none⟩) 1 1, .slice (some ⟨W.heap.size + 1 + 1 + 1 + 1 + 1, 0, none⟩) 2 2, .slice (some ⟨W.heap.size + 1 + 1 + 1 + 1 + 1 + 1, 0, none⟩) 2 2, .slice (some ⟨W.heap.size + 1 + 1 + 1 + 1 + 1 + 1 + 1, 0, none⟩) 2 2, .slice (some ⟨W.heap.size + 1 + 1 + 1 + 1 + 1 + 1 + 1 + 1, 0, none⟩) 2 2, .slice (some ⟨W.heap.size + 1 + 1 + 1 + 1 + 1 + 1 + 1 + 1 + 1, 0, none⟩) 2 2, .slice (some ⟨W.heap.size + 1 + 1 + 1 + 1 + 1 + 1 + 1 + 1 + 1 + 1 + 1, 0, none⟩) 2 2, .slice (some ⟨W.heap.size + 1 + 1 + 1 + 1 + 1 + 1 + 1 + 1 + 1 + 1 + 1 + 1, 0, none⟩) 2 2, .slice (some ⟨W.heap.size + 1 + 1 + 1 + 1 + 1 + 1 + 1 + 1 + 1 + 1 + 1 + 1 + 1 + 1, 0, none⟩) 1 1, .slice (some ⟨W.heap.size + 1 + 1 + 1 + 1 + 1 + 1 + 1 + 1 + 1 + 1 + 1 + 1 + 1 + 1 + 1, 0, none⟩) 2 2, .slice (some ⟨W.heap.size + 1 + 1 + 1 + 1 + 1 + 1 + 1 + 1 + 1 + 1 + 1 + 1 + 1 + 1 + 1 + 1, 0, none⟩) 2 2, .slice (some ⟨W.heap.size + 1 + 1 + 1 + 1 + 1 + 1 + 1 + 1 + 1 + 1 + 1 + 1 + 1 + 1 + 1 + 1 + 1, 0, none⟩) 2 2, .slice (some ⟨W.heap.size + 1 + 1 + 1 + 1 + 1 + 1 + 1 + 1 + 1 + 1 + 1 + 1 + 1 + 1 + 1 + 1 + 1 + 1, 0, none⟩) 1 1] 53), (.cells #[.int .i64 0, .int .i64 0, .int .i64 0, .int .i64 11, .int .i64 0, .int .i64 0, .int .i64 8, .int .i64 0, .int .i64 0, .int .i64 12, .int .i64 0, .int .i64 0, .int .i64 9, .int .i64 0, .int .i64 0, .int .i64 9, .int .i64 0, .int .i64 0, .int .i64 13, .int .i64 0, .int .i64 0, .int .i64 14, .int .i64 0, .int .i64 0, .int .i64 10, .int .i64 0, .int .i64 0, .int .i64 16, .int .i64 0, .int .i64 0, .int .i64 15, .int .i64 0, .int .i64 0, .int .i64 16, .int .i64 0, .int .i64 0, .int .i64 10, .int .i64 0, .int .i64 0, .int .i64 10, .int .i64 0, .int .i64 0, .int .i64 8, .int .i64 0, .int .i64 0, .int .i64 7, .int .i64 0, .int .i64 0] 37)]
theorem fx_blocks (W : World) : Cha (fun _ => False) W (allocs W (fxL W)) ∧ ∀ (i : Nat) (o : Obj), (fxL W)[i]? = some o → (allocs W (fxL W)).heap[W.heap.size + i]? = some o := allocs_at _ _
set_option maxRecDepth 100000 in
theorem fx_at_0 (W : World) : FxAt (allocs W (fxL W)) (W.heap.size + 19) (W.heap.size + 20) 0 := by
  obtain ⟨_, A⟩ := fx_blocks W
  have hb := A 19 _ rfl
  have hw := A 20 _ rfl
  have hc := A 1 _ rfl
  obtain ⟨k1, k2⟩ := inss_block (xs := [(⟨36, 0, 0, 0, 0, []⟩, .slice none 0 0)]) hc rfl (fun x hx => by
    obtain rfl : x = (⟨36, 0, 0, 0, 0, []⟩, .slice none 0 0) := by simpa using hx
    exact fit_nil (i64_of _ rfl) (i64_of _ rfl) (i64_of _ rfl) (i64_of _ rfl) (by decide)) (by simp)
  exact ⟨_, _, _, _, _, _, cell_of_row _ _ 0 _ 53 (0, 0) hb, k1, k2, cell_of_row _ _ 0 _ 37 (0, 0) hw, cell_of_row _ _ 1 _ 37 (0, 0) hw, cell_of_row _ _ 2 _ 37 (0, 0) hw, fx_0⟩
set_option maxRecDepth 100000 in
theorem fx_at_1 (W : World) : FxAt (allocs W (fxL W)) (W.heap.size + 19) (W.heap.size + 20) 1 := by
  obtain ⟨_, A⟩ := fx_blocks W
  have hb := A 19 _ rfl
  have hw := A 20 _ rfl
  have hc := A 2 _ rfl
  obtain ⟨k1, k2⟩ := inss_block (xs := [(⟨1, 1, 0, 0, 0, []⟩, .slice none 0 0), (⟨36, 0, 0, 0, 0, []⟩, .slice none 0 0)]) hc rfl (fun x hx => by
    have hx : x = (⟨1, 1, 0, 0, 0, []⟩, .slice none 0 0) ∨ x = (⟨36, 0, 0, 0, 0, []⟩, .slice none 0 0) := by simpa using hx
    rcases hx with rfl | rfl
    · exact fit_nil (i64_of _ rfl) (i64_of _ rfl) (i64_of _ rfl) (i64_of _ rfl) (by decide)
    · exact fit_nil (i64_of _ rfl) (i64_of _ rfl) (i64_of _ rfl) (i64_of _ rfl) (by decide)) (by simp)
  exact ⟨_, _, _, _, _, _, cell_of_row _ _ 1 _ 53 (0, 0) hb, k1, k2, cell_of_row _ _ 3 _ 37 (0, 0) hw, cell_of_row _ _ 4 _ 37 (0, 0) hw, cell_of_row _ _ 5 _ 37 (0, 0) hw, fx_1⟩
set_option maxRecDepth 100000 in
theorem fx_at_2 (W : World) : FxAt (allocs W (fxL W)) (W.heap.size + 19) (W.heap.size + 20) 2 := by
  obtain ⟨_, A⟩ := fx_blocks W
  have hb := A 19 _ rfl
  have hw := A 20 _ rfl
  have hc := A 3 _ rfl
  obtain ⟨k1, k2⟩ := inss_block (xs := [(⟨2, 0, 0, 1, 0, []⟩, .slice none 0 0), (⟨36, 0, 0, 0, 0, []⟩, .slice none 0 0)]) hc rfl (fun x hx => by
    have hx : x = (⟨2, 0, 0, 1, 0, []⟩, .slice none 0 0) ∨ x = (⟨36, 0, 0, 0, 0, []⟩, .slice none 0 0) := by simpa using hx
    rcases hx with rfl | rfl
    · exact fit_nil (i64_of _ rfl) (i64_of _ rfl) (i64_of _ rfl) (i64_of _ rfl) (by decide)
    · exact fit_nil (i64_of _ rfl) (i64_of _ rfl) (i64_of _ rfl) (i64_of _ rfl) (by decide)) (by simp)
  exact ⟨_, _, _, _, _, _, cell_of_row _ _ 2 _ 53 (0, 0) hb, k1, k2, cell_of_row _ _ 6 _ 37 (0, 0) hw, cell_of_row _ _ 7 _ 37 (0, 0) hw, cell_of_row _ _ 8 _ 37 (0, 0) hw, fx_2⟩
set_option maxRecDepth 100000 in
theorem fx_at_3 (W : World) : FxAt (allocs W (fxL W)) (W.heap.size + 19) (W.heap.size + 20) 3 := by
  obtain ⟨_, A⟩ := fx_blocks W
  have hb := A 19 _ rfl
  have hw := A 20 _ rfl
  have hc := A 4 _ rfl
  obtain ⟨k1, k2⟩ := inss_block (xs := [(⟨24, 5, 0, 0, 0, []⟩, .slice none 0 0)]) hc rfl (fun x hx => by
    obtain rfl : x = (⟨24, 5, 0, 0, 0, []⟩, .slice none 0 0) := by simpa using hx
    exact fit_nil (i64_of _ rfl) (i64_of _ rfl) (i64_of _ rfl) (i64_of _ rfl) (by decide)) (by simp)
  exact ⟨_, _, _, _, _, _, cell_of_row _ _ 3 _ 53 (0, 0) hb, k1, k2, cell_of_row _ _ 9 _ 37 (0, 0) hw, cell_of_row _ _ 10 _ 37 (0, 0) hw, cell_of_row _ _ 11 _ 37 (0, 0) hw, fx_3⟩
set_option maxRecDepth 100000 in
theorem fx_at_4 (W : World) : FxAt (allocs W (fxL W)) (W.heap.size + 19) (W.heap.size + 20) 4 := by
  obtain ⟨_, A⟩ := fx_blocks W
  have hb := A 19 _ rfl
  have hw := A 20 _ rfl
  have hc := A 5 _ rfl
  obtain ⟨k1, k2⟩ := inss_block (xs := [(⟨0, 0, 0, 0, 0, []⟩, .slice none 0 0), (⟨36, 0, 0, 0, 0, []⟩, .slice none 0 0)]) hc rfl (fun x hx => by
    have hx : x = (⟨0, 0, 0, 0, 0, []⟩, .slice none 0 0) ∨ x = (⟨36, 0, 0, 0, 0, []⟩, .slice none 0 0) := by simpa using hx
    rcases hx with rfl | rfl
    · exact fit_nil (i64_of _ rfl) (i64_of _ rfl) (i64_of _ rfl) (i64_of _ rfl) (by decide)
    · exact fit_nil (i64_of _ rfl) (i64_of _ rfl) (i64_of _ rfl) (i64_of _ rfl) (by decide)) (by simp)
  exact ⟨_, _, _, _, _, _, cell_of_row _ _ 4 _ 53 (0, 0) hb, k1, k2, cell_of_row _ _ 12 _ 37 (0, 0) hw, cell_of_row _ _ 13 _ 37 (0, 0) hw, cell_of_row _ _ 14 _ 37 (0, 0) hw, fx_4⟩
set_option maxRecDepth 100000 in
theorem fx_at_5 (W : World) : FxAt (allocs W (fxL W)) (W.heap.size + 19) (W.heap.size + 20) 5 := by
  obtain ⟨_, A⟩ := fx_blocks W
  have hb := A 19 _ rfl
  have hw := A 20 _ rfl
  have hc := A 6 _ rfl
  obtain ⟨k1, k2⟩ := inss_block (xs := [(⟨53, 0, 0, 0, 0, []⟩, .slice none 0 0), (⟨36, 0, 0, 0, 0, []⟩, .slice none 0 0)]) hc rfl (fun x hx => by
    have hx : x = (⟨53, 0, 0, 0, 0, []⟩, .slice none 0 0) ∨ x = (⟨36, 0, 0, 0, 0, []⟩, .slice none 0 0) := by simpa using hx
    rcases hx with rfl | rfl
    · exact fit_nil (i64_of _ rfl) (i64_of _ rfl) (i64_of _ rfl) (i64_of _ rfl) (by decide)
    · exact fit_nil (i64_of _ rfl) (i64_of _ rfl) (i64_of _ rfl) (i64_of _ rfl) (by decide)) (by simp)
  exact ⟨_, _, _, _, _, _, cell_of_row _ _ 5 _ 53 (0, 0) hb, k1, k2, cell_of_row _ _ 15 _ 37 (0, 0) hw, cell_of_row _ _ 16 _ 37 (0, 0) hw, cell_of_row _ _ 17 _ 37 (0, 0) hw, fx_5⟩
set_option maxRecDepth 100000 in
theorem fx_at_6 (W : World) : FxAt (allocs W (fxL W)) (W.heap.size + 19) (W.heap.size + 20) 6 := by
  obtain ⟨_, A⟩ := fx_blocks W
  have hb := A 19 _ rfl
  have hw := A 20 _ rfl
  have hc := A 7 _ rfl
  obtain ⟨k1, k2⟩ := inss_block (xs := [(⟨35, 1, 0, 0, 0, []⟩, .slice none 0 0), (⟨36, 0, 0, 0, 0, []⟩, .slice none 0 0)]) hc rfl (fun x hx => by
    have hx : x = (⟨35, 1, 0, 0, 0, []⟩, .slice none 0 0) ∨ x = (⟨36, 0, 0, 0, 0, []⟩, .slice none 0 0) := by simpa using hx
    rcases hx with rfl | rfl
    · exact fit_nil (i64_of _ rfl) (i64_of _ rfl) (i64_of _ rfl) (i64_of _ rfl) (by decide)
    · exact fit_nil (i64_of _ rfl) (i64_of _ rfl) (i64_of _ rfl) (i64_of _ rfl) (by decide)) (by simp)
  exact ⟨_, _, _, _, _, _, cell_of_row _ _ 6 _ 53 (0, 0) hb, k1, k2, cell_of_row _ _ 18 _ 37 (0, 0) hw, cell_of_row _ _ 19 _ 37 (0, 0) hw, cell_of_row _ _ 20 _ 37 (0, 0) hw, fx_6⟩
set_option maxRecDepth 100000 in
theorem fx_at_7 (W : World) : FxAt (allocs W (fxL W)) (W.heap.size + 19) (W.heap.size + 20) 7 := by
  obtain ⟨_, A⟩ := fx_blocks W
  have hb := A 19 _ rfl
  have hw := A 20 _ rfl
  have hc := A 8 _ rfl
  obtain ⟨k1, k2⟩ := inss_block (xs := [(⟨26, 0, 0, 0, 0, []⟩, .slice none 0 0), (⟨36, 0, 0, 0, 0, []⟩, .slice none 0 0)]) hc rfl (fun x hx => by
    have hx : x = (⟨26, 0, 0, 0, 0, []⟩, .slice none 0 0) ∨ x = (⟨36, 0, 0, 0, 0, []⟩, .slice none 0 0) := by simpa using hx
    rcases hx with rfl | rfl
    · exact fit_nil (i64_of _ rfl) (i64_of _ rfl) (i64_of _ rfl) (i64_of _ rfl) (by decide)
    · exact fit_nil (i64_of _ rfl) (i64_of _ rfl) (i64_of _ rfl) (i64_of _ rfl) (by decide)) (by simp)
  exact ⟨_, _, _, _, _, _, cell_of_row _ _ 7 _ 53 (0, 0) hb, k1, k2, cell_of_row _ _ 21 _ 37 (0, 0) hw, cell_of_row _ _ 22 _ 37 (0, 0) hw, cell_of_row _ _ 23 _ 37 (0, 0) hw, fx_7⟩
set_option maxRecDepth 100000 in
theorem fx_at_8 (W : World) : FxAt (allocs W (fxL W)) (W.heap.size + 19) (W.heap.size + 20) 8 := by
  obtain ⟨_, A⟩ := fx_blocks W
  have hb := A 19 _ rfl
  have hw := A 20 _ rfl
  have hc := A 9 _ rfl
  obtain ⟨k1, k2⟩ := inss_block (xs := [(⟨42, 0, 0, 0, 0, []⟩, .slice none 0 0), (⟨36, 0, 0, 0, 0, []⟩, .slice none 0 0)]) hc rfl (fun x hx => by
    have hx : x = (⟨42, 0, 0, 0, 0, []⟩, .slice none 0 0) ∨ x = (⟨36, 0, 0, 0, 0, []⟩, .slice none 0 0) := by simpa using hx
    rcases hx with rfl | rfl
    · exact fit_nil (i64_of _ rfl) (i64_of _ rfl) (i64_of _ rfl) (i64_of _ rfl) (by decide)
    · exact fit_nil (i64_of _ rfl) (i64_of _ rfl) (i64_of _ rfl) (i64_of _ rfl) (by decide)) (by simp)
  exact ⟨_, _, _, _, _, _, cell_of_row _ _ 8 _ 53 (0, 0) hb, k1, k2, cell_of_row _ _ 24 _ 37 (0, 0) hw, cell_of_row _ _ 25 _ 37 (0, 0) hw, cell_of_row _ _ 26 _ 37 (0, 0) hw, fx_8⟩
set_option maxRecDepth 100000 in
theorem fx_at_9 (W : World) : FxAt (allocs W (fxL W)) (W.heap.size + 19) (W.heap.size + 20) 9 := by
  obtain ⟨_, A⟩ := fx_blocks W
  have hb := A 19 _ rfl
  have hw := A 20 _ rfl
  have hc := A 11 _ rfl
  have hl := A 10 _ rfl
  obtain ⟨k1, k2⟩ := inss_block (xs := [(⟨45, 0, 0, 0, 0, [0]⟩, .slice (some ⟨W.heap.size + 10, 0, none⟩) 1 1), (⟨36, 0, 0, 0, 0, []⟩, .slice none 0 0)]) hc rfl (fun x hx => by
    have hx : x = (⟨45, 0, 0, 0, 0, [0]⟩, .slice (some ⟨W.heap.size + 10, 0, none⟩) 1 1) ∨ x = (⟨36, 0, 0, 0, 0, []⟩, .slice none 0 0) := by simpa using hx
    rcases hx with rfl | rfl
    · exact fit_one hl (i64_of _ rfl) (i64_of _ rfl) (i64_of _ rfl) (i64_of _ rfl) (by decide)
    · exact fit_nil (i64_of _ rfl) (i64_of _ rfl) (i64_of _ rfl) (i64_of _ rfl) (by decide)) (by simp)
  exact ⟨_, _, _, _, _, _, cell_of_row _ _ 9 _ 53 (0, 0) hb, k1, k2, cell_of_row _ _ 27 _ 37 (0, 0) hw, cell_of_row _ _ 28 _ 37 (0, 0) hw, cell_of_row _ _ 29 _ 37 (0, 0) hw, fx_9⟩
set_option maxRecDepth 100000 in
theorem fx_at_10 (W : World) : FxAt (allocs W (fxL W)) (W.heap.size + 19) (W.heap.size + 20) 10 := by
  obtain ⟨_, A⟩ := fx_blocks W
  have hb := A 19 _ rfl
  have hw := A 20 _ rfl
  have hc := A 12 _ rfl
  obtain ⟨k1, k2⟩ := inss_block (xs := [(⟨33, 0, 0, 0, 0, []⟩, .slice none 0 0), (⟨36, 0, 0, 0, 0, []⟩, .slice none 0 0)]) hc rfl (fun x hx => by
    have hx : x = (⟨33, 0, 0, 0, 0, []⟩, .slice none 0 0) ∨ x = (⟨36, 0, 0, 0, 0, []⟩, .slice none 0 0) := by simpa using hx
    rcases hx with rfl | rfl
    · exact fit_nil (i64_of _ rfl) (i64_of _ rfl) (i64_of _ rfl) (i64_of _ rfl) (by decide)
    · exact fit_nil (i64_of _ rfl) (i64_of _ rfl) (i64_of _ rfl) (i64_of _ rfl) (by decide)) (by simp)
  exact ⟨_, _, _, _, _, _, cell_of_row _ _ 10 _ 53 (0, 0) hb, k1, k2, cell_of_row _ _ 30 _ 37 (0, 0) hw, cell_of_row _ _ 31 _ 37 (0, 0) hw, cell_of_row _ _ 32 _ 37 (0, 0) hw, fx_10⟩
set_option maxRecDepth 100000 in
theorem fx_at_11 (W : World) : FxAt (allocs W (fxL W)) (W.heap.size + 19) (W.heap.size + 20) 11 := by
  obtain ⟨_, A⟩ := fx_blocks W
  have hb := A 19 _ rfl
  have hw := A 20 _ rfl
  have hc := A 14 _ rfl
  have hl := A 13 _ rfl
  obtain ⟨k1, k2⟩ := inss_block (xs := [(⟨36, 0, 0, 0, 0, [0]⟩, .slice (some ⟨W.heap.size + 13, 0, none⟩) 1 1)]) hc rfl (fun x hx => by
    obtain rfl : x = (⟨36, 0, 0, 0, 0, [0]⟩, .slice (some ⟨W.heap.size + 13, 0, none⟩) 1 1) := by simpa using hx
    exact fit_one hl (i64_of _ rfl) (i64_of _ rfl) (i64_of _ rfl) (i64_of _ rfl) (by decide)) (by simp)
  exact ⟨_, _, _, _, _, _, cell_of_row _ _ 11 _ 53 (0, 0) hb, k1, k2, cell_of_row _ _ 33 _ 37 (0, 0) hw, cell_of_row _ _ 34 _ 37 (0, 0) hw, cell_of_row _ _ 35 _ 37 (0, 0) hw, fx_11⟩
set_option maxRecDepth 100000 in
theorem fx_at_12 (W : World) : FxAt (allocs W (fxL W)) (W.heap.size + 19) (W.heap.size + 20) 12 := by
  obtain ⟨_, A⟩ := fx_blocks W
  have hb := A 19 _ rfl
  have hw := A 20 _ rfl
  have hc := A 15 _ rfl
  obtain ⟨k1, k2⟩ := inss_block (xs := [(⟨15, 0, 0, 0, 0, []⟩, .slice none 0 0), (⟨36, 0, 0, 0, 0, []⟩, .slice none 0 0)]) hc rfl (fun x hx => by
    have hx : x = (⟨15, 0, 0, 0, 0, []⟩, .slice none 0 0) ∨ x = (⟨36, 0, 0, 0, 0, []⟩, .slice none 0 0) := by simpa using hx
    rcases hx with rfl | rfl
    · exact fit_nil (i64_of _ rfl) (i64_of _ rfl) (i64_of _ rfl) (i64_of _ rfl) (by decide)
    · exact fit_nil (i64_of _ rfl) (i64_of _ rfl) (i64_of _ rfl) (i64_of _ rfl) (by decide)) (by simp)
  exact ⟨_, _, _, _, _, _, cell_of_row _ _ 12 _ 53 (0, 0) hb, k1, k2, cell_of_row _ _ 36 _ 37 (0, 0) hw, cell_of_row _ _ 37 _ 37 (0, 0) hw, cell_of_row _ _ 38 _ 37 (0, 0) hw, fx_12⟩
set_option maxRecDepth 100000 in
theorem fx_at_13 (W : World) : FxAt (allocs W (fxL W)) (W.heap.size + 19) (W.heap.size + 20) 13 := by
  obtain ⟨_, A⟩ := fx_blocks W
  have hb := A 19 _ rfl
  have hw := A 20 _ rfl
  have hc := A 16 _ rfl
  obtain ⟨k1, k2⟩ := inss_block (xs := [(⟨49, 0, 0, 0, 0, []⟩, .slice none 0 0), (⟨36, 0, 0, 0, 0, []⟩, .slice none 0 0)]) hc rfl (fun x hx => by
    have hx : x = (⟨49, 0, 0, 0, 0, []⟩, .slice none 0 0) ∨ x = (⟨36, 0, 0, 0, 0, []⟩, .slice none 0 0) := by simpa using hx
    rcases hx with rfl | rfl
    · exact fit_nil (i64_of _ rfl) (i64_of _ rfl) (i64_of _ rfl) (i64_of _ rfl) (by decide)
    · exact fit_nil (i64_of _ rfl) (i64_of _ rfl) (i64_of _ rfl) (i64_of _ rfl) (by decide)) (by simp)
  exact ⟨_, _, _, _, _, _, cell_of_row _ _ 13 _ 53 (0, 0) hb, k1, k2, cell_of_row _ _ 39 _ 37 (0, 0) hw, cell_of_row _ _ 40 _ 37 (0, 0) hw, cell_of_row _ _ 41 _ 37 (0, 0) hw, fx_13⟩
set_option maxRecDepth 100000 in
theorem fx_at_14 (W : World) : FxAt (allocs W (fxL W)) (W.heap.size + 19) (W.heap.size + 20) 14 := by
  obtain ⟨_, A⟩ := fx_blocks W
  have hb := A 19 _ rfl
  have hw := A 20 _ rfl
  have hc := A 17 _ rfl
  obtain ⟨k1, k2⟩ := inss_block (xs := [(⟨47, 0, 0, 0, 1, []⟩, .slice none 0 0), (⟨36, 0, 0, 0, 0, []⟩, .slice none 0 0)]) hc rfl (fun x hx => by
    have hx : x = (⟨47, 0, 0, 0, 1, []⟩, .slice none 0 0) ∨ x = (⟨36, 0, 0, 0, 0, []⟩, .slice none 0 0) := by simpa using hx
    rcases hx with rfl | rfl
    · exact fit_nil (i64_of _ rfl) (i64_of _ rfl) (i64_of _ rfl) (i64_of _ rfl) (by decide)
    · exact fit_nil (i64_of _ rfl) (i64_of _ rfl) (i64_of _ rfl) (i64_of _ rfl) (by decide)) (by simp)
  exact ⟨_, _, _, _, _, _, cell_of_row _ _ 14 _ 53 (0, 0) hb, k1, k2, cell_of_row _ _ 42 _ 37 (0, 0) hw, cell_of_row _ _ 43 _ 37 (0, 0) hw, cell_of_row _ _ 44 _ 37 (0, 0) hw, fx_14⟩
set_option maxRecDepth 100000 in
theorem fx_at_15 (W : World) : FxAt (allocs W (fxL W)) (W.heap.size + 19) (W.heap.size + 20) 15 := by
  obtain ⟨_, A⟩ := fx_blocks W
  have hb := A 19 _ rfl
  have hw := A 20 _ rfl
  have hc := A 18 _ rfl
  obtain ⟨k1, k2⟩ := inss_block (xs := [(⟨1, 0, 0, 0, 0, []⟩, .slice none 0 0)]) hc rfl (fun x hx => by
    obtain rfl : x = (⟨1, 0, 0, 0, 0, []⟩, .slice none 0 0) := by simpa using hx
    exact fit_nil (i64_of _ rfl) (i64_of _ rfl) (i64_of _ rfl) (i64_of _ rfl) (by decide)) (by simp)
  exact ⟨_, _, _, _, _, _, cell_of_row _ _ 15 _ 53 (0, 0) hb, k1, k2, cell_of_row _ _ 45 _ 37 (0, 0) hw, cell_of_row _ _ 46 _ 37 (0, 0) hw, cell_of_row _ _ 47 _ 37 (0, 0) hw, fx_15⟩
theorem fx_all (W : World) : ∀ k, k < 16 → FxAt (allocs W (fxL W)) (W.heap.size + 19) (W.heap.size + 20) k := by
  intro k hk
  have hk : k = 0 ∨ k = 1 ∨ k = 2 ∨ k = 3 ∨ k = 4 ∨ k = 5 ∨ k = 6 ∨ k = 7 ∨ k = 8 ∨ k = 9 ∨ k = 10 ∨ k = 11 ∨ k = 12 ∨ k = 13 ∨ k = 14 ∨ k = 15 := by omega
  rcases hk with rfl | rfl | rfl | rfl | rfl | rfl | rfl | rfl | rfl | rfl | rfl | rfl | rfl | rfl | rfl | rfl
  · exact fx_at_0 W
  · exact fx_at_1 W
  · exact fx_at_2 W
  · exact fx_at_3 W
  · exact fx_at_4 W
  · exact fx_at_5 W
  · exact fx_at_6 W
  · exact fx_at_7 W
  · exact fx_at_8 W
  · exact fx_at_9 W
  · exact fx_at_10 W
  · exact fx_at_11 W
  · exact fx_at_12 W
  · exact fx_at_13 W
  · exact fx_at_14 W
  · exact fx_at_15 W
end Go.Proofs.Ytpdjbhnpahkbpaa
