/- The statements' runs. -/
import Derived.Test.YtgglcfmnhiakcaaK
import Derived.Maps.AppendAt
namespace Go.Proofs.Ytgglcfmnhiakcaa
open Go.RowKit Go.Shelf
attribute [local go_sem] Oper.semAt_some

structure Coll (w W : World) (bm n : Nat) (pre : List (Rw n)) (v : Value) : Prop where
  ptr : Boxed W (w.heap.size + 1 + 1) 23 (.pointer (some ⟨bm, 0, none⟩))
  box : Boxed W (w.heap.size + 1) 41 v
  most : Boxed W w.heap.size 3 (.int .i64 (-1))
  own : W.ownsRow w.heap.size 55 2 v pre.length (rcs (pre.map (·.1)))
  cha : Cha (fun _ => False) w W
theorem own_keep {W W' : World} {B k size : Nat} {t : TypeId} {v : Value} {xs : List Value} (h : W.ownsRow B t size v k xs) (hk : ∀ (b : Nat) (c : Array Value) (t : TypeId) (z : Nat × Nat), W.heap[b]? = some (.cells c t z) → W'.heap[b]? = W.heap[b]?) : W'.ownsRow B t size v k xs := by
  obtain ⟨h0, h | ⟨g, cap, cur, h1, hg, h2, h3⟩⟩ := h
  · exact ⟨h0, .inl h⟩
  · exact ⟨h0, .inr ⟨g, cap, cur, h1, hg, (hk _ _ _ _ h2).trans h2, h3⟩⟩
theorem coll_own {w : World} {bm n B : Nat} (hB : w.heap.size ≤ B) : OwnFrom B (fun (pre : List (Rw n)) W => ∃ v, Coll w W bm n pre v) :=
  ownFrom_of fun _ _ _ ⟨v, h⟩ hk hc => ⟨v, (hk _ _ _ _ h.ptr).trans h.ptr, (hk _ _ _ _ h.box).trans h.box, (hk _ _ _ _ h.most).trans h.most, own_keep h.own hk, h.cha.over hc fun i hi => .inr (by omega)⟩

theorem func_nil (W : World) (f : Nat) (c : Array Value) : (binOp .eql 87 (.func (.func f) #[] c) .nilFunc).run Try.prog W = .ok (.bool false) W := by
  have h : ∀ d, (Op.equalIn (d + 1) 87 (.func (.func f) #[] c) .nilFunc).run Try.prog W = .ok false W := fun d => by
    simp [Op.equalIn, run_underlying Try.underlying87]
  show (Sem.run _ (Op.equalIn (9999 + 1) 87 _ _ >>= _) _) = _
  rw [Sem.run_bind, h]
  rfl
set_option maxRecDepth 100000 in
set_option maxHeartbeats 2000000 in
theorem runs_in (m bm bp n : Nat) (us : Nat → Bool) (hm : 3 ≤ m) (w : World) (hP : Pg 83 w bm bp n us) :
    CallsIn Fence.wide m Try.prog 22 #[.pointer (some ⟨bm, 0, none⟩), .int .i64 (-1)] w fun e W' => ∃ v, e = .returned (.tuple #[v, .bool true]) ∧ W'.ownsRow w.heap.size 55 2 v (rows us n).length (rcs (rows us n)) ∧ Cha (fun _ => False) w W' := by
  have h1 : 1 ≤ m := by omega
  have C := Lib.hid fun W => runs_box bm W
  have hlt := hP.lt
  have hle := hP.le
  have HP := Lib.hid hP
  clear hP
  obtain ⟨i0, hi, hz0, hz1, hz2⟩ := info_parts info55
  refine callsIn_of_wp_marks Try.func22 rfl trivial ?_ rfl
  simp only [Try.ntmps22, List.size_toArray, List.length_cons, List.length_nil, Nat.reduceAdd, Nat.reduceSub, Array.replicate_succ, Array.replicate_zero, List.push_toArray, List.append_toArray, List.nil_append, List.cons_append]
  have E87 := fun W c => func_nil W 45 c
  gi_wp2_with (refine ⟨trivial, ?_⟩; gi_at_call 37; refine (callsIn_wide.2 (C.out _)).mono ?_; rintro e w1 ⟨rfl, rfl⟩)
  have b0 := Boxed.new w 3 (.int .i64 (-1))
  have b1 := Boxed.new (w.alloc (.cells #[.int .i64 (-1)] 3)) 41 (.slice none 0 0)
  have b2 := heap_alloc_new ((w.alloc (.cells #[.int .i64 (-1)] 3)).alloc (.cells #[.slice none 0 0] 41)) (.cells #[.pointer (some ⟨bm, 0, none⟩)] 23)
  simp only [World.size_alloc] at b1 b2
  have hC0 : Cha (fun _ => False) w (((w.alloc (.cells #[.int .i64 (-1)] 3)).alloc (.cells #[.slice none 0 0] 41)).alloc (.cells #[.pointer (some ⟨bm, 0, none⟩)] 23)) := (((Cha.refl _ w).alloc _).alloc _).alloc _
  clear E87
  refine wpIn_rangeFunc_ownG rfl h1 (gf := 45) (lb := #[.pointer (some ⟨w.heap.size + 1 + 1, 0, none⟩)]) rfl trivial (enters_of Try.func45 (by kernel_rfl) rfl)
    (rows_stops (m - 1) (w.heap.size + 1 + 1) bm bp n us (by omega) _ (FRow.one b2) (HP.out.same hC0)) Kp3.trans (Kp3.put (by simp) (by simp; omega) (by simp; omega)) (Below.refl _ _) (fun _ => rfl)
    (fun pre W => ∃ v, Coll w W bm n pre v)
    (fun _ _ _ => False)
    (coll_own (by simp; omega))
    (fun _ _ _ _ _ hs _ _ => hs)
    ⟨_, b2, b1.alloc _, (b0.alloc _).alloc _, World.ownsRow_nil _ _ _ _, hC0⟩
    (fun x => { tmps := #[.pointer (some ⟨bm, 0, none⟩), .int .i64 (-1), undef, .pointer (some ⟨w.heap.size, 0, none⟩), .slice none 0 0, .bool false, .pointer (some ⟨w.heap.size + 1, 0, none⟩), .func (.func 45) #[] #[.pointer (some ⟨w.heap.size + 1 + 1, 0, none⟩)], .int .i64 (x.1.1 : Int), .int .i64 (x.1.2 : Int), .pointer (some ⟨bm, 0, none⟩), .func (.func 45) #[] #[.pointer (some ⟨w.heap.size + 1 + 1, 0, none⟩)], .func (.func 45) #[] #[.pointer (some ⟨w.heap.size + 1 + 1, 0, none⟩)], .bool false, .bool false, .int .i64 (-1), .bool false, .bool false, undef, undef, .func (.func 45) #[] #[.pointer (some ⟨w.heap.size + 1 + 1, 0, none⟩)], .int .i64 (x.1.1 : Int), .int .i64 (x.1.2 : Int), undef, undef, undef, undef, undef, undef, undef, undef, undef, undef, undef, undef, undef, undef, undef, undef], defers := [] }) ?assign ?body ?done ?stop
  case assign =>
    intro l x W K hK
    unfold encRw
    gi_wp2
    exact hK
  case body =>
    rintro l pre x W ⟨v, hS⟩ hlen
    have c0 := hS.box.cell
    have f0 := hS.box.frozen
    have c1 := hS.most.cell
    have hsz := hS.cha.size
    have HS := Lib.hid hS
    have hx := x.2
    have hq1 : (((pre.length : Nat) : Int) + 1 == -1) = false := by
      rw [beq_eq_false_iff_ne]; omega
    have hq2 : ((pre.length : Nat) : Int) + 1 ≤ 5000 := by omega
    clear hS b0 b1 b2 hC0
    gi_wp2_with (gi_at_builtin; refine wpListIn_append_own _ rfl _ _ 41 rfl w.heap.size 55 i0 (.agg #[.int .i64 0, .int .i64 0]) 2 16 Try.underlying41 hi hz0 hz1 hz2 rfl (by decide) _ _ _ rfl (HS.out.own.alloc _) ⟨W.heap.size, 0, none⟩ 1 1 [.int .i64 (x.1.1 : Int), .int .i64 (x.1.2 : Int)] rfl rfl (two_new _ _ _ _) (two_cell _ _) (by unfold maxLen; omega) (by omega) (by rw [World.size_alloc]; omega) ?_; intro v' w1 hown' hgrow hnil; clear hnil; have hgrow : (W.alloc (.cells #[.int .i64 (x.1.1 : Int), .int .i64 (x.1.2 : Int)] 55)).grownBy w1 v.ownBlock := hgrow; obtain ⟨g', cap', rfl⟩ := ownsRow_succ hown'; obtain ⟨hv1, hv2, hr2, hk2, hb2⟩ := HS.out.box.appended (by decide) HS.out.own hsz (by omega) hown' hgrow; have hm1 := (HS.out.most.alloc (.cells #[.int .i64 (x.1.1 : Int), .int .i64 (x.1.2 : Int)] 55)).kept hgrow (HS.out.most.not_row (by decide) HS.out.own); have hp1 := (HS.out.ptr.alloc (.cells #[.int .i64 (x.1.1 : Int), .int .i64 (x.1.2 : Int)] 55)).kept hgrow (HS.out.ptr.not_row (by decide) HS.out.own); have hc1 := hv1.cell; have hf1 := hv1.frozen; have hd1 := hm1.cell; have HC1 := Lib.hid ((HS.out.cha.alloc (.cells #[.int .i64 (x.1.1 : Int), .int .i64 (x.1.2 : Int)] 55)).over (Cha.of_grownBy (S := fun i => w.heap.size ≤ i) hgrow (own_base HS.out.own)) fun i hi => .inr hi); have HG := Lib.hid hgrow; have HV2 := Lib.hid hv2; have HR2 := Lib.hid hr2; have HK2 := Lib.hid hk2; have HM1 := Lib.hid hm1; have HP1 := Lib.hid hp1; clear hgrow hv1 hv2 hr2 hk2 hb2 hm1 hp1 hown')
    have hb := HG.out
    refine ⟨HK2.out.from _, ⟨?_, ?_, ?_⟩, _, ?_, HV2.out, HM1.out.other (by omega) _, ?_, HC1.out.setCell (p := ⟨w.heap.size + 1, 0, none⟩) (fun h => absurd h (by simp)) _⟩
    · rw [heap_setCell_other _ _ _ _ (by simp)]
      exact HP1.out.trans HS.out.ptr.symm
    · rw [heap_setCell_other _ _ _ _ (by simp; omega)]
      exact (hb.block bm (by simp; omega) fun e => by have := own_base HS.out.own bm e.symm; omega).trans (heap_alloc_old _ _ (by omega))
    · rw [heap_setCell_other _ _ _ _ (by simp; omega)]
      exact (hb.block bp (by simp; omega) fun e => by have := own_base HS.out.own bp e.symm; omega).trans (heap_alloc_old _ _ (by omega))
    · exact HP1.out.other (by omega) _
    · rw [List.map_append, List.map_cons, List.map_nil, rcs_snoc, List.length_append]
      exact HR2.out
  case done =>
    rintro D ys W hD hys ⟨v, hS⟩ hK
    have c0 := hS.box.cell
    have HS := Lib.hid hS
    clear hS
    gi_wp2
    simp at hD
    refine ⟨by simp, .inl ⟨_, _, rfl, run_takeDeferred hK, ?_⟩⟩
    refine ⟨.tuple #[v, .bool true], ?_, v, rfl, ?_, HS.out.cha.putObj (by omega) _⟩
    · simp [results, Try.f22, go_sem]
    · have h := ownsRow_putObj HS.out.own (.deferred none) hK rfl
      rwa [hys, show ys.length = (rows us n).length by rw [← hys, List.length_map]] at h
  case stop =>
    rintro D c pre W _ _ h _
    exact h.elim
theorem runs_any {bm bp n : Nat} {us : Nat → Bool} (w : World) (hP : Pg 83 w bm bp n us) :
    Calls Try.prog 22 #[.pointer (some ⟨bm, 0, none⟩), .int .i64 (-1)] w fun e W' => ∃ v, e = .returned (.tuple #[v, .bool true]) ∧ W'.ownsRow w.heap.size 55 2 v (rows us n).length (rcs (rows us n)) ∧ Cha (fun _ => False) w W' :=
  callsIn_wide.1 (runs_in 3 bm bp n us (by omega) w hP)
end Go.Proofs.Ytgglcfmnhiakcaa
