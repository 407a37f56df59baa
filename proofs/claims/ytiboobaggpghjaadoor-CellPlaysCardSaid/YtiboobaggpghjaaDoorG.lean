/- Layer 4's Counts. -/
import Derived.Test.YtiboobaggpghjaaDoorF
namespace Go.Proofs.YtiboobaggpghjaaDoor
open Go.RowKit Go.Shelf
attribute [local go_sem] Oper.semAt_some

theorem runs_box (bm : Nat) (w : World) : Calls Tryd.prog 75 #[.pointer (some ⟨bm, 0, none⟩)] w fun e w' =>
    e = .returned (.func (.func 82) #[] #[.pointer (some ⟨w.heap.size, 0, none⟩)]) ∧ w' = w.alloc (.cells #[.pointer (some ⟨bm, 0, none⟩)] 97) := by
  go_enter Tryd.func75, Tryd.ntmps75
  go_wp2
  go_ret
  exact ⟨rfl, rfl⟩
theorem rows_stops (m B bm bp n : Nat) (us : Nat → Bool) (hm : 1 ≤ m) (w : World) (hB : FRow 97 w B 1 (fun _ => .pointer (some ⟨bm, 0, none⟩))) (hP : Pg 113 w bm bp n us) :
    SeqStopsK Fence.wide m Tryd.prog 82 #[.pointer (some ⟨B, 0, none⟩)] (encRw (n := n)) (Kp3 B bm bp) (fun ys => ys.map (·.1) = rows us n) (fun pre => pre.map (·.1) <+: rows us n) (n + 1) w :=
  fun l J Jx W hW _ _ hY h0 => iter_in m l B bm bp n us hm J Jx hY W ((hW.block B hB.lt).trans hB) (hP.of (hW.block bm hP.lt.1) (hW.block bp hP.lt.2)) h0
theorem ownFrom_cha {β : Type} {S : Nat → Prop} {B : Nat} {w : World} (hB : w.heap.size ≤ B) : OwnFrom B (fun (_ : β) W => Cha S w W) :=
  fun _ _ _ _ hs hg hr => hs.over (Cha.of_grownBy (S := fun i => B ≤ i) hg fun k e => (hr k e).1) fun i hi => .inr (by omega)
theorem ownFrom_pg {β : Type} {t : TypeId} {B bm bp n : Nat} (f : β → Nat → Bool) : OwnFrom B (fun (s : β) W => Pg t W bm bp n (f s)) := by
  intro s X Y row hs hg hr
  have ne : ∀ (b : Nat) (c : Array Value) (t : TypeId) (z : Nat × Nat), X.heap[b]? = some (Obj.cells c t z) → some b ≠ row := fun b c t z h e => by
    obtain ⟨o', h', hc⟩ := (hr b e.symm).2
    rw [h] at h'; cases h'; cases hc
  exact hs.of (hg.block bm hs.lt.1 (ne bm _ _ _ hs.head)) (hg.block bp hs.lt.2 (ne bp _ _ _ hs.body))
theorem FRow.one {t : TypeId} {W : World} {g : Nat} {v : Value} (h : W.heap[g]? = some (.cells #[v] t (0, 0))) : FRow t W g 1 (fun _ => v) := by
  have e : fcells 1 (fun _ => v) = #[v] := by
    apply Array.ext_getElem?
    intro i
    rw [get_fcells]
    cases i <;> simp
  unfold FRow
  rw [e]; exact h
theorem mixed : Tryd.prog.follows .mixedOrders = true := by kernel_rfl
theorem sumL_le {n : Nat} (l : List (Rw n)) : sumL (l.map (·.1)) ≤ l.length * n := by
  suffices h : ∀ (l : List (Rw n)) (s : Nat), (l.map (·.1)).foldl (fun s x => s + x.2) s ≤ s + l.length * n by
    have := h l 0; unfold sumL; omega
  intro l
  induction l with
  | nil => exact fun s => by simp
  | cons x l ih =>
    intro s
    have hx := x.2
    have := ih (s + x.1.2)
    simp only [List.map_cons, List.foldl_cons, List.length_cons, Nat.succ_mul] at this ⊢
    omega
theorem mxL_le {n : Nat} (l : List (Rw n)) : mxL (l.map (·.1)) ≤ n := by
  rcases (mxL_is (l.map (·.1))).2 with h | ⟨x, hx, h⟩
  · omega
  · obtain ⟨y, _, rfl⟩ := List.mem_map.1 hx
    have := y.2
    omega

set_option maxRecDepth 100000 in
set_option maxHeartbeats 2000000 in
theorem counts_in (m bm bp n : Nat) (us : Nat → Bool) (hm : 3 ≤ m) (w : World) (hP : Pg 113 w bm bp n us) :
    CallsIn Fence.wide m Tryd.prog 64 #[.pointer (some ⟨bm, 0, none⟩)] w fun e W' => e = .returned (.tuple #[.int .i64 (sumL (rows us n) : Nat), .int .i64 (mxL (rows us n) : Nat)]) ∧ Cha (fun _ => False) w W' := by
  have h1 : 1 ≤ m := by omega
  have C := Lib.hid fun W => runs_box bm W
  have HP := Lib.hid hP
  clear hP
  refine callsIn_of_wp_marks Tryd.func64 rfl trivial ?_ rfl
  simp only [Tryd.ntmps64, List.size_toArray, List.length_cons, List.length_nil, Nat.reduceAdd, Nat.reduceSub, Array.replicate_succ, Array.replicate_zero, List.push_toArray, List.append_toArray, List.nil_append, List.cons_append]
  gi_wp2_with (refine ⟨trivial, ?_⟩; gi_at_call 75; refine (callsIn_wide.2 (C.out _)).mono ?_; rintro e w1 ⟨rfl, rfl⟩)
  have hlt := HP.out.lt
  have hle := HP.out.le
  have b0 := Boxed.new w 3 (.int .i64 0)
  have b1 := Boxed.new (w.alloc (.cells #[.int .i64 0] 3)) 3 (.int .i64 0)
  rw [World.size_alloc] at b1
  have b2 := heap_alloc_new ((w.alloc (.cells #[.int .i64 0] 3)).alloc (.cells #[.int .i64 0] 3)) (.cells #[.pointer (some ⟨bm, 0, none⟩)] 97)
  rw [World.size_alloc, World.size_alloc] at b2
  have hC0 : Cha (fun _ => False) w (((w.alloc (.cells #[.int .i64 0] 3)).alloc (.cells #[.int .i64 0] 3)).alloc (.cells #[.pointer (some ⟨bm, 0, none⟩)] 97)) := (((Cha.refl _ w).alloc _).alloc _).alloc _
  refine wpIn_rangeFunc_ownG rfl h1 (gf := 82) (lb := #[.pointer (some ⟨w.heap.size + 1 + 1, 0, none⟩)]) rfl trivial (enters_of Tryd.func82 (by kernel_rfl) rfl)
    (rows_stops (m - 1) (w.heap.size + 1 + 1) bm bp n us (by omega) _ (FRow.one b2) (HP.out.same hC0)) Kp3.trans (Kp3.put (by simp) (by simp; omega) (by simp; omega)) (Below.refl _ _) (fun _ => rfl)
    (fun pre W => (Boxed W w.heap.size 3 (.int .i64 (sumL (pre.map (·.1)) : Nat)) ∧ Boxed W (w.heap.size + 1) 3 (.int .i64 (mxL (pre.map (·.1)) : Nat))) ∧ Cha (fun _ => False) w W)
    (fun _ _ _ => False)
    (OwnFrom.and (OwnFrom.and (Own.from (boxed_own _ _ _) _) (Own.from (boxed_own _ _ _) _)) (ownFrom_cha (by simp; omega)))
    (fun _ _ _ _ _ hs _ _ => hs)
    ⟨⟨(b0.alloc _).alloc _, b1.alloc _⟩, hC0⟩
    (fun x => { tmps := #[.pointer (some ⟨bm, 0, none⟩), undef, .int .i64 0, .int .i64 0, .pointer (some ⟨w.heap.size, 0, none⟩), .pointer (some ⟨w.heap.size + 1, 0, none⟩), undef, .int .i64 (x.1.2 : Int), .pointer (some ⟨bm, 0, none⟩),
      .func (.func 82) #[] #[.pointer (some ⟨w.heap.size + 1 + 1, 0, none⟩)], .int .i64 (x.1.1 : Int), .int .i64 (x.1.2 : Int), undef, undef, undef, undef, undef, undef, undef, undef], defers := [] }) ?assign ?body ?done ?stop
  case assign =>
    intro l x W K hK
    unfold encRw
    gi_wp2
    exact hK
  case body =>
    rintro l pre x W ⟨⟨h0, h1⟩, hC⟩ hlen
    have c0 := h0.cell
    have f0 := h0.frozen
    have c1 := h1.cell
    have f1 := h1.frozen
    have hx := x.2
    have hs := sumL_le pre
    have hs2 : pre.length * n ≤ 4097 * 4096 := Nat.mul_le_mul (by omega) hle
    have hm2 := mxL_le pre
    have HB := Lib.hid (show ∀ a b : Int, KeepsFrom (w.heap.size + 1 + 1 + 1) W ((W.setCell ⟨w.heap.size, 0, none⟩ (.int .i64 a)).setCell ⟨w.heap.size + 1, 0, none⟩ (.int .i64 b)) ∧
        Kp3 (w.heap.size + 1 + 1) bm bp W ((W.setCell ⟨w.heap.size, 0, none⟩ (.int .i64 a)).setCell ⟨w.heap.size + 1, 0, none⟩ (.int .i64 b)) ∧
        (Boxed ((W.setCell ⟨w.heap.size, 0, none⟩ (.int .i64 a)).setCell ⟨w.heap.size + 1, 0, none⟩ (.int .i64 b)) w.heap.size 3 (.int .i64 a) ∧ Boxed ((W.setCell ⟨w.heap.size, 0, none⟩ (.int .i64 a)).setCell ⟨w.heap.size + 1, 0, none⟩ (.int .i64 b)) (w.heap.size + 1) 3 (.int .i64 b)) ∧
        Cha (fun _ => False) w ((W.setCell ⟨w.heap.size, 0, none⟩ (.int .i64 a)).setCell ⟨w.heap.size + 1, 0, none⟩ (.int .i64 b)) from fun a b =>
      ⟨((KeepsOthers.setCell _ _ _).trans (KeepsOthers.setCell _ _ _)).from _,
       ⟨by rw [heap_setCell_other _ _ _ _ (by simp), heap_setCell_other _ _ _ _ (by simp; omega)],
        by rw [heap_setCell_other _ _ _ _ (by simp; omega), heap_setCell_other _ _ _ _ (by simp; omega)],
        by rw [heap_setCell_other _ _ _ _ (by simp; omega), heap_setCell_other _ _ _ _ (by simp; omega)]⟩,
       ⟨(h0.set _).other (by omega) _, (h1.other (by omega) _).set _⟩,
       (hC.setCell (p := ⟨w.heap.size, 0, none⟩) (fun h => absurd h (by simp)) _).setCell (p := ⟨w.heap.size + 1, 0, none⟩) (fun h => absurd h (by simp)) _⟩)
    gi_wp2
    all_goals
      have e1 : ((sumL ((pre ++ [x]).map (·.1)) : Nat) : Int) = (sumL (pre.map (·.1)) : Nat) + (x.1.2 : Int) := by
        rw [List.map_append, List.map_cons, List.map_nil, sumL_snoc]; omega
      have e2 : mxL ((pre ++ [x]).map (·.1)) = max (mxL (pre.map (·.1))) x.1.2 := by
        rw [List.map_append, List.map_cons, List.map_nil, mxL_snoc]
      first
        | (have e3 : mxL ((pre ++ [x]).map (·.1)) = x.1.2 := by omega
           obtain ⟨k1, k2, k3, k4⟩ := HB.out ((sumL (pre.map (·.1)) : Nat) + (x.1.2 : Int)) (x.1.2 : Nat)
           refine ⟨k1, k2, ?_, k4⟩
           rw [← e1] at k3 ⊢
           rw [e3]
           exact k3)
        | (have e3 : mxL ((pre ++ [x]).map (·.1)) = mxL (pre.map (·.1)) := by omega
           obtain ⟨k1, k2, k3, k4⟩ := HB.out ((sumL (pre.map (·.1)) : Nat) + (x.1.2 : Int)) (mxL (pre.map (·.1)) : Nat)
           refine ⟨k1, k2, ?_, k4⟩
           rw [← e1] at k3 ⊢
           rw [e3]
           exact k3)
  case done =>
    rintro D ys W hD hys ⟨⟨h0, h1⟩, hC⟩ hK
    have c0 := h0.cell
    have c1 := h1.cell
    gi_wp2
    gi_region
    gi_wp2
    have hK' : W.drew.heap[D]? = some (.deferred (some [])) := hK
    refine ⟨by simp, .inl ⟨_, _, rfl, run_takeDeferred hK', ?_⟩⟩
    refine ⟨.tuple #[.int .i64 (sumL (rows us n) : Nat), .int .i64 (mxL (rows us n) : Nat)], ?_, rfl, (hC.drew).putObj (by simp at hD; omega) _⟩
    simp [results, Tryd.f64, go_sem]
  case stop =>
    rintro D c pre W _ _ h _
    exact h.elim
theorem counts_any (bm bp n : Nat) (us : Nat → Bool) (w : World) (hP : Pg 113 w bm bp n us) :
    Calls Tryd.prog 64 #[.pointer (some ⟨bm, 0, none⟩)] w fun e W' => e = .returned (.tuple #[.int .i64 (cntF (isU us n) n : Nat), .int .i64 (mxL (rows us n) : Nat)]) ∧ Cha (fun _ => False) w W' := by
  have h := callsIn_wide.1 (counts_in 3 bm bp n us (by omega) w hP)
  unfold rows at h ⊢
  rwa [sum_all (isU_end us n)] at h
end Go.Proofs.YtiboobaggpghjaaDoor
