/- The tied card 'Rows.CellPlaysCardSaid': for every input, the Go function treadle/treadlelaw07.CellPlays returns true, and its arguments read as before. Condition, tied to the program's text by the card: the package-level variable treadle/class.sizes starts as its own initialiser lays it. -/
import Derived.Test.YtiboobaggpghjaaDoorRows
import Derived.Test.YtiboobaggpghjaaDoorCards
import Derived.Test.YtiboobaggpghjaaDoorTie
import Derived.SevenTiedAt
import Derived.WalkKit
import Derived.ProofKit
import Derived.OpenShut
import Derived.SizedLaws
import Derived.Test.YtiboobaggpghjaaDoorDV
import Derived.Test.YtiboobaggpghjaaDoorGE
import Derived.Test.YtiboobaggpghjaaDoorCA
import Derived.LaidMore
import Derived.Stop.Joined
import Derived.MakeChecks
namespace Go.Proofs.YtiboobaggpghjaaDoor
open Go.ChangeShapes Go.WideShapes Go.ChangeAt Go.RowKit

theorem own7 : ownKnob Tryd.prog.godebug = none := by kernel_rfl
theorem gSizes : Tryd.prog.globalNamed "treadle/class.sizes" = some 0 := by kernel_rfl
theorem tSizes : (Tryd.prog.globals[0]?).map (·.type) = some 58 := by kernel_rfl
theorem cells3' : Tryd.prog.cellsOf 3 = 1 := by kernel_rfl
theorem cells58 : Tryd.prog.cellsOf 58 = 16 := by kernel_rfl
abbrev laid7 : List (String × DataW Unit) := [("treadle/class.sizes", Rows.laid_treadle_class_sizes)]
theorem door_met7 (os : Go.Os) (args : Array Value) : laidMetH Tryd.prog laid7 ((World.doorLaid Tryd.prog 400 os).forCall (fun _ _ => 0) ⟨#[], args, []⟩).memory :=
  laidMetH_of_parts3 (fuel := 8) (laidMet_of_run' 8 (by kernel_rfl) (by kernel_rfl)) (by kernel_rfl) (by kernel_rfl)

theorem int_of_trod7 {H : Type} {enc : TypeId × Value → H} {w : World} {base : Nat} {sp : Nat → Bool} {held : Bool} {fuel : Nat} {c : Value} {y : DataW H × List MemPlace}
    (h : DataW.trod enc Tryd.prog w base sp held fuel 3 [c] = some y) : ∃ n, c = .int .i64 n ∧ y = (.lit (.int .i64 n), []) := by
  cases fuel with
  | zero => simp [DataW.trod] at h
  | succ fuel =>
    cases c <;> simp [DataW.trod, Tryd.underlying3] at h
    rename_i k' n
    obtain ⟨⟨rfl, _⟩, rfl⟩ := h
    exact ⟨n, rfl, rfl⟩
set_option maxRecDepth 100000 in
theorem siz_of_laid {W : World} (h : laidMetH Tryd.prog laid7 W) : Siz W := by
  rw [MakeChecks.laidMetH_plain _ _ _ (by kernel_rfl)] at h
  obtain ⟨ps, ⟨g0, t0, cs0, f0, p0, q0, hg0, ht0, hv0, hd0, _, _⟩, _, _⟩ := h
  obtain rfl := Option.some.inj (gSizes.symm.trans hg0)
  obtain rfl := Option.some.inj (tSizes.symm.trans ht0)
  obtain ⟨xs, m, rfl, hx, hlen, hn, hel⟩ := DataW.trod_array Tryd.underlying58 hd0
  rw [cells58] at hlen
  have hb : ∃ t fr, W.heap[0]? = some (.cells cs0 t fr) := by
    have hv := hv0
    unfold World.var? at hv
    rw [gSizes] at hv
    simp only [Option.bind_some] at hv
    split at hv
    · rename_i cs t fr he
      cases hv
      exact ⟨t, fr, he⟩
    · cases hv
  obtain ⟨t, fr, hb⟩ := hb
  have hc : cs0 = sizC := by
    have hx1 := (Prod.mk.inj hx).1
    unfold Rows.laid_treadle_class_sizes at hx1
    have hx2 := DataW.agg.inj hx1
    have key : ∀ i, i < 16 → cs0[i]? = some (.int .i64 (cw i : Int)) := fun i hi => by
      have h1 := hel i hi
      rw [cells3', Nat.mul_one] at h1
      have hl : i < cs0.toList.length := by omega
      have e : (cs0.toList.drop i).take 1 = [cs0.toList[i]] := by
        rw [List.drop_eq_getElem_cons hl]; rfl
      rw [e] at h1
      have hxi : i < xs.length := by omega
      rw [List.getElem?_eq_getElem hxi] at h1
      obtain ⟨n, h2, h3⟩ := int_of_trod7 h1
      have h4 : (xs.map (·.1))[i]? = some (.lit (.int .i64 n)) := by
        rw [List.getElem?_map, List.getElem?_eq_getElem hxi, h3]; rfl
      rw [← hx2] at h4
      have h5 : n = (cw i : Int) := by
        have : i = 0 ∨ i = 1 ∨ i = 2 ∨ i = 3 ∨ i = 4 ∨ i = 5 ∨ i = 6 ∨ i = 7 ∨ i = 8 ∨ i = 9 ∨ i = 10 ∨ i = 11 ∨ i = 12 ∨ i = 13 ∨ i = 14 ∨ i = 15 := by omega
        rcases this with rfl | rfl | rfl | rfl | rfl | rfl | rfl | rfl | rfl | rfl | rfl | rfl | rfl | rfl | rfl | rfl <;> (simp at h4; exact h4.symm)
      rw [← Array.getElem?_toList, List.getElem?_eq_getElem hl, h2, h5]
    apply Array.ext_getElem?
    intro i
    by_cases hi : i < 16
    · rw [key i hi, sizC_get i hi]
    · have h1 : cs0.size = 16 := by simpa using hlen
      rw [Array.getElem?_eq_none (by omega), Array.getElem?_eq_none (show sizC.size ≤ i by show 16 ≤ i; omega)]
  rw [hc] at hb
  exact ⟨t, fr, hb⟩
end Go.Proofs.YtiboobaggpghjaaDoor

namespace Go.Proofs.YtiboobaggpghjaaDoor.cellPlays
open Go.ChangeShapes Go.WideShapes Go.ChangeAt Go.RowKit
set_option linter.unusedVariables false

theorem plays7_walk (p0 p1 : Int) (w : World) (hs : Siz w) (s : Option Addr) (len c : Nat) (k : Script w s len) (hz : len * 32 ≤ 140737488351232) :
    Calls Tryd.prog 6 #[.int .i64 p0, .int .i64 p1, .slice s len c] w fun e w' => e = .returned (.bool true) ∧ Cha (fun _ => False) w w' := by
  by_cases h : 1 ≤ p1 ∧ p1 ≤ 8 ∧ 1 ≤ p0 ∧ p0 ≤ 4096
  · obtain ⟨n, rfl⟩ : ∃ n : Nat, p0 = (n : Int) := ⟨p0.toNat, by omega⟩
    obtain ⟨pr, rfl⟩ : ∃ pr : Nat, p1 = (pr : Int) := ⟨p1.toNat, by omega⟩
    exact plays7_ok n pr w hs s len c k hz (by omega) (by omega) (by omega) (by omega)
  · exact plays7_bad p0 p1 w hs s len c (by omega)
theorem walk (a0 : Int) (w0 : (Lit.int .i64 a0).wf = true) (a1 : Int) (w1 : (Lit.int .i64 a1).wf = true) (a2 : Option Addr) (n2 c2 : Nat) (W : World) (hs : Siz W) (k2 : Script W a2 n2) (z2 : n2 * 32 ≤ 140737488351232) :
    Calls Tryd.prog 6 #[.int .i64 a0, .int .i64 a1, .slice a2 n2 c2] W fun e w' => e = .returned (.bool true) ∧ Cha (fun _ => False) W w' := by
  exact plays7_walk a0 a1 W hs a2 n2 c2 k2 z2

set_option maxRecDepth 100000 in
theorem lifted (os : Go.Os) (started : os.Started) (H : Type) (enc : TypeId × Value → H) :
    ReturnsInHanded {} Tryd.checked os 6 .any (fun w args => (Rows.cellPlaysSpec.pre enc Tryd.prog Tryd.f6 [] false w args ∧ laidMetH Tryd.prog laid7 w) ∧ sizedMet enc Tryd.prog Tryd.f6 (OpenSpec.ofChange Rows.cellPlaysSpec) false w args)
      (Rows.cellPlaysSpec.post enc Tryd.prog Tryd.f6 false true false false) := by
  refine returnsInHanded_of_change_and (C := Tryd.checked) (X := fun w _ => laidMetH Tryd.prog laid7 w) (fun _ _ _ hh h => h.of_heap hh) own7 started (by kernel_rfl) Tryd.func6
    (ChangeSpec.witness_shaped (enc := enc) (C := Tryd.checked) (os := os) (X := fun w _ => laidMetH Tryd.prog laid7 w) false (World.doorLaid Tryd.prog 400 os) #[.int .i64 0, .int .i64 0, .slice none 0 0] 8 rfl (World.shaped_of_RefB (by kernel_rfl) (by kernel_rfl)) (by kernel_rfl) (by kernel_rfl) (by kernel_rfl) (door_met7 os _)) ?_
  intro W base args ds gs before hval0 hW _ hsz0 hL _
  have hs := siz_of_laid hL
  have hval : ∀ (j : Nat) t v, Tryd.f6.params[j]? = some t → args[j]? = some v → Value.okWide Tryd.prog W .any base t v := hval0
  have hW' := hW
  obtain ⟨p, q, hA0, hV, rfl, hfz, hnd⟩ := hW
  have hA : DataW.TrodAll enc Tryd.prog W 0 (fun _ => true) true Tryd.f6.params.toList args.toList ds p := hA0
  have hsz : (DataW.weightsEach Tryd.prog (Tryd.f6.params.toList ++ Rows.cellPlaysSpec.plain.varTypes Tryd.prog) (ds ++ gs)).all (· ≤ reachBytes) = true := hsz0
  rw [Tryd.params6] at hA hval hsz
  obtain ⟨v0, vs0, d0, ds0, p0, q0, hargs, rfl, rfl, h0, r0⟩ := trodAll_cons hA
  obtain ⟨v1, vs1, d1, ds1, p1, q1, rfl, rfl, rfl, h1, r1⟩ := trodAll_cons r0
  obtain ⟨v2, vs2, d2, ds2, p2, q2, rfl, rfl, rfl, h2, r2⟩ := trodAll_cons r1
  obtain ⟨rfl, rfl, rfl⟩ := trodAll_nil r2
  obtain rfl : args = #[v0, v1, v2] := by cases args; simp_all
  obtain ⟨rfl, rfl⟩ := trodVars_none hV
  obtain ⟨a0, rfl, rfl, rfl, w0⟩ := open_int Tryd.underlying3 (hval 0 3 v0 rfl rfl) h0
  obtain ⟨a1, rfl, rfl, rfl, w1⟩ := open_int Tryd.underlying3 (hval 1 3 v1 rfl rfl) h1
  obtain ⟨a2, n2, c2, rfl⟩ := okWide_slice Tryd.underlying32 (hval 2 32 v2 rfl rfl)
  have h2k := h2
  obtain ⟨fuel2, t2⟩ := h2
  have k2 := script_of Tryd.underlying32 cell41 (fun _ _ _ h => four Tryd.underlying41 ⟨rfl, rfl⟩ ⟨rfl, rfl⟩ ⟨rfl, rfl⟩ ⟨rfl, rfl⟩ cell41 h) t2
  have z2 : n2 * 32 ≤ 140737488351232 := by
    rcases script_size Tryd.underlying32 t2 with h | ⟨el, sp, rfl, hel⟩
    · omega
    · have := sized_slice hsz (j := 2) (t := 32) (e := 41) rfl rfl Tryd.underlying32
      rw [bytes41] at this
      unfold reachBytes at this
      have := Nat.mul_le_mul_right 32 (Nat.le_add_right el.length sp.length)
      omega
  clear hA0 hval0
  simp only [List.append_nil] at hW'
  have hlt2 : ∀ x ∈ p2, x.block < W.heap.size := fun x hx => hW'.lt x (by simp [hx])
  refine (walk a0 w0 a1 w1 a2 n2 c2 W hs k2 z2).mono fun e W' ⟨he, hg⟩ => ?_
  subst he
  refine ⟨_, rfl, _, _, _, [], [] ++ ([] ++ (p2 ++ [])), [], hW', ?_, ?_, rfl, hg.keptBut _, fun h => by cases h⟩
  · exact trodAll_cons_mk (shut_bool Tryd.underlying4 _) trodAll_mk0
  · exact trodAll_cons_mk (shut_int Tryd.underlying3 w0) (trodAll_cons_mk (shut_int Tryd.underlying3 w1) (trodAll_cons_mk (stays_cha (by kernel_rfl) (of_decide_eq_true (by kernel_rfl)) h2k hg hlt2 (fun x hx => by simpa using hlt2 x hx)) (trodAll_mk0)))

theorem over : Rows.CellPlaysSaid :=
  OpenClaim.holds_of_wide 6 Tryd.f6 rfl rfl rfl rfl rfl rfl rfl ⟨rfl, rfl, rfl, rfl, rfl⟩ rfl rfl rfl rfl rfl (by kernel_rfl) Tryd.func6 (by kernel_rfl)
    (of_decide_eq_true (by kernel_rfl)) (by unfold Func.isWrapper; first | (rw [if_pos (by decide +kernel)]; kernel_rfl) | (rw [if_neg (by decide +kernel)]; exact ⟨rfl, rfl⟩))
    (fun os started H enc _ => lifted os started H enc)

/-- ████ THE STATEMENT ████ -/
theorem proved : Rows.CellPlaysCardSaid :=
  Claim7.holds_tied_plain_at .later [] [.data] true (true, "3ba3a1b8f9fb928e299fad0d31f91a13a4f30e2b1d6d3b9ada7513b0b641fe93") false
    over (fun _ h => by cases h) (by kernel_rfl) (fun _ h => by cases h) cellPlays_row_tie rfl ⟨rfl, rfl⟩ (by kernel_rfl) rfl
    (fun f fn hf hfn => by
      obtain rfl : f = 6 := Option.some.inj ((show Tryd.prog.funcNamed "treadle/treadlelaw07.CellPlays" = some 6 by kernel_rfl).symm.trans hf) |>.symm
      obtain rfl : fn = Tryd.f6 := (Option.some.inj (Tryd.func6.symm.trans hfn)).symm
      exact ⟨by kernel_rfl, fun j t ht => by
        rw [Tryd.params6] at ht
        have hm : t ∈ [3, 3, 32] := by simpa using Array.mem_of_getElem? ht
        have hall : ([3, 3, 32].all fun u => !Tryd.prog.wantsStandIn u) = true := by kernel_rfl
        exact (show Tryd.prog.wantsStandIn t = false by simpa using List.all_eq_true.1 hall t hm)⟩)
    (by kernel_rfl)
#print axioms proved
end Go.Proofs.YtiboobaggpghjaaDoor.cellPlays
