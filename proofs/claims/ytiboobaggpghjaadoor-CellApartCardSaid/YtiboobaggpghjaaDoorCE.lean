/- The program's table of sizes, where the row's condition holds. -/
import Derived.Test.YtiboobaggpghjaaDoorCA
import Derived.ProofKit
import Derived.LaidMore
import Derived.OpenShut
import Derived.Stop.Joined
import Derived.MakeChecks
namespace Go.Proofs.YtiboobaggpghjaaDoor
open Go.ChangeShapes Go.WideShapes Go.ChangeAt Go.RowKit

theorem own7 : ownKnob Tryd.prog.godebug = none := by kernel_rfl
theorem gSizes : Tryd.prog.globalNamed "treadle/class.sizes" = some 0 := by kernel_rfl
theorem tSizes : (Tryd.prog.globals[0]?).map (·.type) = some 58 := by kernel_rfl
theorem cells3' : Tryd.prog.cellsOf 3 = 1 := by kernel_rfl
theorem cells58 : Tryd.prog.cellsOf 58 = 16 := by kernel_rfl
abbrev laid7 : List (String × DataW Unit) := [("treadle/class.sizes", Rows.laid_treadle_class_sizes)]
theorem door_met7 (os : Go.Os) (args : Array Value) : laidMetH Tryd.prog laid7 ((World.doorLaid Tryd.prog 400 os).forCall (fun _ _ => 0) ⟨#[], args, []⟩).memory :=
  laidMetH_of_parts3 (fuel := 8) (laidMet_of_run' 8 (by kernel_rfl) (by kernel_rfl)) (by kernel_rfl) (by kernel_rfl)

theorem int_of_trod7 {H : Type} {enc : TypeId × Value → H} {w : World} {base : Nat} {sp : Nat → Bool} {held : Bool} {fuel : Nat} {c : Value} {y : DataW H × List MemPlace}
    (h : DataW.trod enc Tryd.prog w base sp held fuel 3 [c] = some y) : ∃ n, c = .int .i64 n ∧ y = (.lit (.int .i64 n), []) := by
  cases fuel with
  | zero => simp [DataW.trod] at h
  | succ fuel =>
    cases c <;> simp [DataW.trod, Tryd.underlying3] at h
    rename_i k' n
    obtain ⟨⟨rfl, _⟩, rfl⟩ := h
    exact ⟨n, rfl, rfl⟩
set_option maxRecDepth 100000 in
theorem siz_of_laid {W : World} (h : laidMetH Tryd.prog laid7 W) : Siz W := by
  rw [MakeChecks.laidMetH_plain _ _ _ (by kernel_rfl)] at h
  obtain ⟨ps, ⟨g0, t0, cs0, f0, p0, q0, hg0, ht0, hv0, hd0, _, _⟩, _, _⟩ := h
  obtain rfl := Option.some.inj (gSizes.symm.trans hg0)
  obtain rfl := Option.some.inj (tSizes.symm.trans ht0)
  obtain ⟨xs, m, rfl, hx, hlen, hn, hel⟩ := DataW.trod_array Tryd.underlying58 hd0
  rw [cells58] at hlen
  have hb : ∃ t fr, W.heap[0]? = some (.cells cs0 t fr) := by
    have hv := hv0
    unfold World.var? at hv
    rw [gSizes] at hv
    simp only [Option.bind_some] at hv
    split at hv
    · rename_i cs t fr he
      cases hv
      exact ⟨t, fr, he⟩
    · cases hv
  obtain ⟨t, fr, hb⟩ := hb
  have hc : cs0 = sizC := by
    have hx1 := (Prod.mk.inj hx).1
    unfold Rows.laid_treadle_class_sizes at hx1
    have hx2 := DataW.agg.inj hx1
    have key : ∀ i, i < 16 → cs0[i]? = some (.int .i64 (cw i : Int)) := fun i hi => by
      have h1 := hel i hi
      rw [cells3', Nat.mul_one] at h1
      have hl : i < cs0.toList.length := by omega
      have e : (cs0.toList.drop i).take 1 = [cs0.toList[i]] := by
        rw [List.drop_eq_getElem_cons hl]; rfl
      rw [e] at h1
      have hxi : i < xs.length := by omega
      rw [List.getElem?_eq_getElem hxi] at h1
      obtain ⟨n, h2, h3⟩ := int_of_trod7 h1
      have h4 : (xs.map (·.1))[i]? = some (.lit (.int .i64 n)) := by
        rw [List.getElem?_map, List.getElem?_eq_getElem hxi, h3]; rfl
      rw [← hx2] at h4
      have h5 : n = (cw i : Int) := by
        have : i = 0 ∨ i = 1 ∨ i = 2 ∨ i = 3 ∨ i = 4 ∨ i = 5 ∨ i = 6 ∨ i = 7 ∨ i = 8 ∨ i = 9 ∨ i = 10 ∨ i = 11 ∨ i = 12 ∨ i = 13 ∨ i = 14 ∨ i = 15 := by omega
        rcases this with rfl | rfl | rfl | rfl | rfl | rfl | rfl | rfl | rfl | rfl | rfl | rfl | rfl | rfl | rfl | rfl <;> (simp at h4; exact h4.symm)
      rw [← Array.getElem?_toList, List.getElem?_eq_getElem hl, h2, h5]
    apply Array.ext_getElem?
    intro i
    by_cases hi : i < 16
    · rw [key i hi, sizC_get i hi]
    · have h1 : cs0.size = 16 := by simpa using hlen
      rw [Array.getElem?_eq_none (by omega), Array.getElem?_eq_none (show sizC.size ≤ i by show 16 ≤ i; omega)]
  rw [hc] at hb
  exact ⟨t, fr, hb⟩
end Go.Proofs.YtiboobaggpghjaaDoor
