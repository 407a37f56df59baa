/- slices.SortFunc at timers: how the library's contract lies at this program (by the kit's own tool), and what it says of a list. -/
import Derived.Shelf.SlSortCmp.WholeK
import Derived.Shelf.SlSortCmp.NoneTotal
import Derived.Test.YtaloafihbdamiaaTS
namespace Go.Proofs.Ytaloafihbdamiaa
open Go.Shelf
def entRen : Go.Shelf.Ren := ⟨fun | 6 => 56 | 15 => 67 | 14 => 66 | 28 => 78 | 29 => 79 | 20 => 70 | 21 => 71 | 22 => 72 | 23 => 73 | 24 => 74 | 25 => 75 | 26 => 76 | 27 => 77 | 46 => 81 | 47 => 82 | 48 => 83 | 49 => 84 | 50 => 85 | 57 => 86 | n => n, fun | 22 => 95 | 24 => 93 | 25 => 96 | 3 => 3 | 39 => 104 | 0 => 0 | 53 => 126 | 55 => 28 | 4 => 4 | 46 => 120 | 45 => 119 | 50 => 70 | 5 => 5 | 9 => 9 | 66 => 129 | 70 => 133 | 76 => 135 | 77 => 89 | n => n, fun | n => n⟩
theorem entLay : Go.Proofs.SlLaysF0.n6 Try.prog entRen := {
  mixed := by kernel_rfl
  f6 := ⟨Try.f56.name, by decide, Try.func56.trans (congrArg some (by kernel_rfl))⟩
  f14 := ⟨Try.f66.name, by decide, Try.func66.trans (congrArg some (by kernel_rfl))⟩
  f15 := Try.func67.trans (congrArg some (by kernel_rfl))
  f20 := ⟨Try.f70.name, by decide, Try.func70.trans (congrArg some (by kernel_rfl))⟩
  f21 := ⟨Try.f71.name, by decide, Try.func71.trans (congrArg some (by kernel_rfl))⟩
  f22 := ⟨Try.f72.name, by decide, Try.func72.trans (congrArg some (by kernel_rfl))⟩
  f23 := ⟨Try.f73.name, by decide, Try.func73.trans (congrArg some (by kernel_rfl))⟩
  f24 := ⟨Try.f74.name, by decide, Try.func74.trans (congrArg some (by kernel_rfl))⟩
  f25 := ⟨Try.f75.name, by decide, Try.func75.trans (congrArg some (by kernel_rfl))⟩
  f26 := ⟨Try.f76.name, by decide, Try.func76.trans (congrArg some (by kernel_rfl))⟩
  f27 := ⟨Try.f77.name, by decide, Try.func77.trans (congrArg some (by kernel_rfl))⟩
  f28 := Try.func78.trans (congrArg some (by kernel_rfl))
  f29 := Try.func79.trans (congrArg some (by kernel_rfl))
  f46 := ⟨Try.f81.name, by decide, Try.func81.trans (congrArg some (by kernel_rfl))⟩
  f47 := Try.func82.trans (congrArg some (by kernel_rfl))
  f48 := Try.func83.trans (congrArg some (by kernel_rfl))
  f49 := ⟨Try.f84.name, by decide, Try.func84.trans (congrArg some (by kernel_rfl))⟩
  f50 := ⟨Try.f85.name, by decide, Try.func85.trans (congrArg some (by kernel_rfl))⟩
  f57 := ⟨Try.f86.name, by decide, Try.func86.trans (congrArg some (by kernel_rfl))⟩
  t0 := Try.underlying0
  a0 := Try.isAgg0
  z0 := Try.sizeOf0
  v0 := Try.zeroValue0
  t3 := Try.underlying3
  a3 := Try.isAgg3
  z3 := Try.sizeOf3
  v3 := Try.zeroValue3
  t4 := Try.underlying4
  a4 := Try.isAgg4
  z4 := Try.sizeOf4
  v4 := Try.zeroValue4
  t5 := Try.underlying5
  a5 := Try.isAgg5
  z5 := Try.sizeOf5
  v5 := Try.zeroValue5
  t9 := Try.underlying9
  a9 := Try.isAgg9
  z9 := Try.sizeOf9
  v9 := Try.zeroValue9
  t22 := Try.underlying95
  a22 := Try.isAgg95
  z22 := Try.sizeOf95
  v22 := Try.zeroValue95
  t25 := Try.underlying96
  a25 := Try.isAgg96
  z25 := Try.sizeOf96
  v25 := Try.zeroValue96
  t39 := Try.underlying104
  a39 := Try.isAgg104
  z39 := Try.sizeOf104
  v39 := Try.zeroValue104
  t45 := Try.underlying119
  a45 := Try.isAgg119
  z45 := Try.sizeOf119
  v45 := Try.zeroValue119
  t46 := Try.underlying120
  a46 := Try.isAgg120
  z46 := Try.sizeOf120
  v46 := Try.zeroValue120
  t50 := Try.underlying70
  a50 := Try.isAgg70
  z50 := Try.sizeOf70
  v50 := Try.zeroValue70
  t53 := Try.underlying126
  a53 := Try.isAgg126
  z53 := Try.sizeOf126
  v53 := Try.zeroValue126
  t55 := Try.underlying28
  a55 := Try.isAgg28
  z55 := Try.sizeOf28
  v55 := Try.zeroValue28
  t66 := Try.underlying129
  a66 := Try.isAgg129
  z66 := Try.sizeOf129
  v66 := Try.zeroValue129
  t70 := Try.underlying133
  a70 := Try.isAgg133
  z70 := Try.sizeOf133
  v70 := Try.zeroValue133
  t76 := Try.underlying135
  a76 := Try.isAgg135
  z76 := Try.sizeOf135
  v76 := Try.zeroValue135
  t77 := Try.underlying89
  a77 := Try.isAgg89
  z77 := Try.sizeOf89
  v77 := Try.zeroValue89 }
instance : Inhabited Ent := ⟨⟨0, 0, 0⟩⟩
open Go.ChangeShapes Go.WideShapes Go.ChangeAt Go.RowKit
theorem compare_exact (a1 a2 a3 b1 b2 b3 : Int) (w : World) :
    Calls Try.prog 45 #[.agg #[.int .u64 a1, .int .u64 a2, .int .i64 a3], .agg #[.int .u64 b1, .int .u64 b2, .int .i64 b3]] w fun e w' => e = .returned (.int .i64 (Ent.cmp ⟨a1, a2, a3⟩ ⟨b1, b2, b3⟩)) ∧ ∃ q os', w' = Sort.grow (w.drewN q) os' := by
  have C := Lib.hid compare_u64
  go_enter Try.func45, Try.ntmps45
  go_wp2
  generalize hW1 : w.alloc (.cells #[.int .u64 a1, .int .u64 a2, .int .i64 a3] 93) = W1 at *
  generalize hW2 : W1.alloc (.cells #[.int .u64 b1, .int .u64 b2, .int .i64 b3] 93) = W2 at *
  have hs : W1.heap.size = w.heap.size + 1 := by rw [← hW1]; exact World.size_alloc _ _
  have r1 : W2.heap[w.heap.size]? = some (.cells #[.int .u64 a1, .int .u64 a2, .int .i64 a3] 93 (0, 0)) := by
    rw [← hW2, heap_alloc_old W1 _ (by omega), ← hW1]; exact heap_alloc_new w _
  have r2 : W2.heap[w.heap.size + 1]? = some (.cells #[.int .u64 b1, .int .u64 b2, .int .i64 b3] 93 (0, 0)) := by
    rw [← hW2, ← hs]; exact heap_alloc_new W1 _
  have c0 : Hid (Cha (fun _ => False) w W2) := Lib.hid (by rw [← hW2, ← hW1]; exact ((Cha.refl _ w).alloc _).alloc _)
  have cx : Hid (∀ o, W2.drew.alloc o = Sort.grow (w.drewN 1) #[.cells #[.int .u64 a1, .int .u64 a2, .int .i64 a3] 93, .cells #[.int .u64 b1, .int .u64 b2, .int .i64 b3] 93, o]) := Lib.hid fun o => by
    rw [← hW2, ← hW1, Sort.alloc_eq_grow, Sort.alloc_eq_grow, Sort.alloc_eq_grow, Sort.drew_grow, Sort.drew_grow, Sort.grow_grow, Sort.grow_grow]; rfl
  have z2 : W2.heap.size = w.heap.size + 2 := by rw [← hW2, World.size_alloc]; omega
  have k1 := cell_of_row W2.drew _ 0 _ 93 (0, 0) r1
  have k2 := cell_of_row W2.drew _ 1 _ 93 (0, 0) r1
  have k3 := cell_of_row W2.drew _ 0 _ 93 (0, 0) r2
  have k4 := cell_of_row W2.drew _ 1 _ 93 (0, 0) r2
  have k1 : W2.drew.cell? ⟨w.heap.size, 0, none⟩ = some (.int .u64 a1) := k1
  have k2 : W2.drew.cell? ⟨w.heap.size, 1, none⟩ = some (.int .u64 a2) := k2
  have k3 : W2.drew.cell? ⟨w.heap.size + 1, 0, none⟩ = some (.int .u64 b1) := k3
  have k4 : W2.drew.cell? ⟨w.heap.size + 1, 1, none⟩ = some (.int .u64 b2) := k4
  have OR : Hid (∀ x y, Calls Try.prog 57 #[.slice (some ⟨W2.heap.size, 0, none⟩) 2 2] (W2.drew.alloc (.cells #[.int .i64 x, .int .i64 y] 3)) fun e w' => e = .returned (.int .i64 (orI x y)) ∧ W2.drew.alloc (.cells #[.int .i64 x, .int .i64 y] 3) = w') := Lib.hid fun x y => by
    have hr := heap_alloc_new W2.drew (.cells #[.int .i64 x, .int .i64 y] 3)
    exact or_two x y W2.heap.size _ (cell_of_row _ _ 0 _ 3 (0, 0) hr) (cell_of_row _ _ 1 _ 3 (0, 0) hr)
  have KX : Hid (∀ W', Cha (fun _ => False) W2 W' → W'.cell? ⟨w.heap.size, 0, none⟩ = some (.int .u64 a1) ∧ W'.cell? ⟨w.heap.size, 1, none⟩ = some (.int .u64 a2) ∧ W'.cell? ⟨w.heap.size + 1, 0, none⟩ = some (.int .u64 b1) ∧ W'.cell? ⟨w.heap.size + 1, 1, none⟩ = some (.int .u64 b2)) := Lib.hid fun W' c => by
    have e1 := (c.old _ (by omega) (fun f => f)).trans r1
    have e2 := (c.old _ (by omega) (fun f => f)).trans r2
    exact ⟨cell_of_row W' _ 0 _ 93 (0, 0) e1, cell_of_row W' _ 1 _ 93 (0, 0) e1, cell_of_row W' _ 0 _ 93 (0, 0) e2, cell_of_row W' _ 1 _ 93 (0, 0) e2⟩
  clear hW1 hW2 r1 r2 hs
  have HZ := Lib.hid z2
  clear z2
  generalize w.heap.size = g at *
  go_region_held3 (fun w' => w'.cell? ⟨g, 0, none⟩ = some (.int .u64 a1) ∧ w'.cell? ⟨g, 1, none⟩ = some (.int .u64 a2) ∧ w'.cell? ⟨g + 1, 0, none⟩ = some (.int .u64 b1) ∧ w'.cell? ⟨g + 1, 1, none⟩ = some (.int .u64 b2))
    (first
      | exact ⟨k1, k2, k3, k4⟩
      | exact KX.out _ (((Cha.refl _ W2).alloc _).drew)
      | go_keep)
    (first
      | (go_at_call 58; refine (C.out _ _ _).mono ?_; rintro e5 w5 ⟨rfl, rfl⟩)
      | (go_at_call 57; refine (OR.out _ _).mono ?_; rintro e6 w6 ⟨rfl, rfl⟩))
  all_goals
    go_wp2
    go_ret
    exact ⟨rfl, 1, _, cx.out _⟩
variable {w w' : World} {v : Value} {E M : List Ent}
theorem ltOf_ent (x y : Ent) : ltOf Ent.cmp x y = true ↔ x.lt y := by
  unfold ltOf
  rw [decide_eq_true_iff]
  exact cmp_lt x y
theorem ltOf_ent' (x y : Ent) : ltOf Ent.cmp x y = false ↔ ¬ x.lt y := by
  rw [← ltOf_ent]; simp
theorem swo_ent : Sort.SWO (ltOf Ent.cmp) where
  irrefl x := (ltOf_ent' x x).2 (Ent.lt_irrefl x)
  trans x y z h1 h2 := (ltOf_ent x z).2 (Ent.lt_trans ((ltOf_ent x y).1 h1) ((ltOf_ent y z).1 h2))
  ntrans x y z h1 h2 := by
    rw [ltOf_ent'] at *
    unfold Ent.lt at *
    omega
theorem cmp_lays (blk off size : Nat) (w : World) : CmpLays Try.prog 45 #[] ec 3 Ent.cmp blk off size w :=
  fun _ _ _ _ x y => compare_exact x.when x.order x.id y.when y.order y.id _
theorem ec_get (x : Ent) (j : Nat) (hj : j < 3) : (ec x)[j]? = some (ec x)[j]! := by
  rcases (by omega : j = 0 ∨ j = 1 ∨ j = 2) with rfl | rfl | rfl <;> rfl
theorem flat_ecs (d : Array Ent) (t : Nat) (h : t < d.size * 3) : (ecs d.toList)[t]? = some (Sort.flatK ec 3 d)[t]! := by
  rw [Sort.get_flatK _ _ _ _ h]
  have h1 : t / 3 < d.size := by omega
  have h2 : t % 3 < 3 := Nat.mod_lt _ (by decide)
  have e := ecs_get d.toList (t / 3) (t % 3) (by simpa using h1) h2
  rw [show t / 3 * 3 + t % 3 = t by omega] at e
  rw [e, ec_get _ _ h2]
  have e2 : d.toList.getD (t / 3) ⟨0, 0, 0⟩ = d[t / 3]! := by
    simp [List.getD, h1]
  rw [e2]
theorem sort_is : SortC := fun w v E h hl => by
  rcases h.2 with ⟨rfl, h0⟩ | ⟨g, cap, cur, rfl, _, hg, h1, h2, h3, h4⟩
  · have hE : E = [] := List.eq_nil_of_length_eq_zero h0
    subst hE
    have C : Calls Try.prog 56 _ _ _ := AnyF.slices_SortFunc_none entLay none 0 (.func (.func 45) #[] #[]) w
    exact C.mono fun e w' ⟨a, b⟩ => ⟨a, [], List.Perm.refl _, List.Pairwise.nil, b ▸ h, b ▸ Cha.refl _ _⟩
  · have hE := ecs_len E
    have hsz : E.toArray.size = E.length := List.size_toArray
    have hblk : g < w.heap.size := (Array.getElem?_eq_some_iff.1 hg).1
    have hH : Sort.HoldsK ec 3 w g 0 E.toArray := fun j hj => by
      rw [Sort.size_flatK, hsz] at hj
      refine ⟨?_, frozen_of_row w g _ cur 93 hg⟩
      have e := flat_ecs E.toArray j (by rw [hsz]; exact hj)
      rw [cell_of_row w g _ cur 93 (0, 0) hg, Nat.zero_add]
      have e2 : cur[j]? = (ecs E)[j]? := by rw [← h4, List.getElem?_take, if_pos hj, Array.getElem?_toList]
      rw [e2]
      exact e
    have eg : ∀ args w, (callFunc 45 args).run Try.prog w = .ok (.enter 45 args) w := enters_of Try.func45 (by kernel_rfl) rfl
    have C := AnyQ.slices_SortFunc entLay 3 Try.isAgg93 Try.sizeOf93 ec (fun _ => rfl) (fun x u hu => one_ec [x] u (by simpa [ecs] using hu)) Ent.cmp swo_ent 45 #[] g 0 cap E.toArray w eg (cmp_lays g 0 _ w) hH hblk (by rw [hsz]; omega)
    rw [hsz] at C
    change Calls Try.prog 56 _ _ _ at C
    refine C.mono fun e w' ⟨q1, d, n, os, hp, hs, hw⟩ => ?_
    have hds : d.size = E.length := by have := hp.1; rw [hsz] at this; exact this
    have hperm : d.toList.Perm E := by
      have := hp.2.2
      rw [← hsz, Array.extract_size] at this
      rw [show (d.extract 0 E.toArray.size) = d by rw [hsz, ← hds, Array.extract_size]] at this
      exact this
    have hlen : d.toList.length = E.length := by rw [Array.length_toList]; exact hds
    have hb1 : (Sort.putRowK ec 3 (Sort.ahead w n) g 0 d).heap[g]? = some (.cells (Sort.putCells id 0 (Sort.flatK ec 3 d) cur) 93 (0, 0)) := by
      show (w.heap.modify g _)[g]? = _
      rw [Array.getElem?_modify, if_pos rfl, hg]
      rfl
    have hb2 : ∀ k, k ≠ g → (Sort.putRowK ec 3 (Sort.ahead w n) g 0 d).heap[k]? = w.heap[k]? := fun k hk => by
      show (w.heap.modify g _)[k]? = _
      rw [Array.getElem?_modify, if_neg (Ne.symm hk)]
    have hs2 : (Sort.putRowK ec 3 (Sort.ahead w n) g 0 d).heap.size = w.heap.size := by
      show (w.heap.modify g _).size = _
      rw [Array.size_modify]
    have hw2 : w' = Sort.grow (Sort.putRowK ec 3 (Sort.ahead w n) g 0 d) os := hw
    have hold : ∀ k, k < w.heap.size → w'.heap[k]? = (Sort.putRowK ec 3 (Sort.ahead w n) g 0 d).heap[k]? := fun k hk => by rw [hw2]; exact Sort.heap_grow_old _ os (by rw [hs2]; exact hk)
    refine ⟨q1, d.toList, hperm, ?_, ⟨?_, .inr ⟨g, cap, _, by rw [hlen], Nat.zero_le _, (hold g hblk).trans hb1, by rw [hlen]; exact h1, h2, ?_, ?_⟩⟩, ?_⟩
    · rw [List.pairwise_iff_getElem]
      intro i j hi hj hij
      have := hs i j (Nat.zero_le _) hij (by rw [← hlen]; exact hj)
      rw [ltOf_ent'] at this
      rw [Array.length_toList] at hi hj
      simpa [hi, hj] using this
    · exact ecs_len _
    · unfold Sort.putCells; rw [Array.size_mapIdx]; exact h3
    · apply List.ext_getElem?
      intro t
      rw [List.getElem?_take, hlen]
      by_cases ht : t < E.length * 3
      · rw [if_pos ht, Array.getElem?_toList, flat_ecs d t (by rw [hds]; exact ht)]
        unfold Sort.putCells
        rw [Array.getElem?_mapIdx, Array.getElem?_eq_getElem (show t < cur.size by rw [h3]; omega), Option.map_some, if_pos ⟨Nat.zero_le _, by rw [Sort.size_flatK, hds]; omega⟩]
        rfl
      · rw [if_neg ht, List.getElem?_eq_none (by rw [ecs_len, hlen]; omega)]
    · refine ⟨by rw [hw2]; rfl, by rw [hw2]; rfl, by rw [hw2]; show _ ≤ (_ ++ os).size; rw [Array.size_append, hs2]; omega, fun i hi hn => ?_⟩
      rw [hold i hi]
      exact hb2 i (fun e => hn (by rw [e]; rfl))
end Go.Proofs.Ytaloafihbdamiaa
