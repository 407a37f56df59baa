/- The statements' all. -/
import Derived.Test.YtgglcfmnhiakcaaSF
import Derived.Maps.AppendAt
namespace Go.Proofs.Ytgglcfmnhiakcaa
open Go.RowKit Go.Shelf
attribute [local go_sem] Oper.semAt_some

/-- A list of spans as cells. -/
def scs (l : List Spn) : List Value := l.flatMap fun s => [.int .i64 (s.b : Int), .int .i64 (s.k : Int), .int .i64 s.t]
theorem scs_snoc (l : List Spn) (s : Spn) : scs (l ++ [s]) = scs l ++ [.int .i64 (s.b : Int), .int .i64 (s.k : Int), .int .i64 s.t] := by simp [scs]
theorem three_new (w : World) (x y z : Value) (t : TypeId) : ∀ j u, ([x, y, z] : List Value)[j]? = some u → (w.alloc (.cells #[x, y, z] t)).cell? ((⟨w.heap.size, 0, none⟩ : Addr).add j) = some u := by
  intro j u h
  have e : ∀ j, (⟨w.heap.size, 0, none⟩ : Addr).add j = ⟨w.heap.size, j, none⟩ := fun j => by unfold Addr.add; split <;> simp_all
  rw [e, World.cell?_alloc_new]
  match j, h with
  | 0, h => simpa using h
  | 1, h => simpa using h
  | 2, h => simpa using h
  | j + 3, h => simp at h
theorem three_cell (x y z : Int) : ∀ u ∈ ([.int .i64 x, .int .i64 y, .int .i64 z] : List Value), u.oneCell' = true := fun u h => by
  simp at h; rcases h with rfl | rfl | rfl <;> rfl
theorem func_nil5 (W : World) (f : Nat) (c : Array Value) : (binOp .eql 95 (.func (.func f) #[] c) .nilFunc).run Try.prog W = .ok (.bool false) W := by
  have h : ∀ d, (Op.equalIn (d + 1) 95 (.func (.func f) #[] c) .nilFunc).run Try.prog W = .ok false W := fun d => by
    simp [Op.equalIn, run_underlying Try.underlying95]
  show (Sem.run _ (Op.equalIn (9999 + 1) 95 _ _ >>= _) _) = _
  rw [Sem.run_bind, h]
  rfl

structure Coll5 (w W : World) (bt : Nat) (pre : List Spn) (v : Value) : Prop where
  ptr : Boxed W (w.heap.size + 1 + 1) 57 (.pointer (some ⟨bt, 0, none⟩))
  box : Boxed W (w.heap.size + 1) 75 v
  most : Boxed W w.heap.size 3 (.int .i64 (-1))
  own : W.ownsRow w.heap.size 66 3 v pre.length (scs pre)
  cha : Cha (fun _ => False) w W
theorem coll5_own {w : World} {bt B : Nat} (hB : w.heap.size ≤ B) : OwnFrom B (fun (pre : List Spn) W => ∃ v, Coll5 w W bt pre v) :=
  ownFrom_of fun _ _ _ ⟨v, h⟩ hk hc => ⟨v, (hk _ _ _ _ h.ptr).trans h.ptr, (hk _ _ _ _ h.box).trans h.box, (hk _ _ _ _ h.most).trans h.most, own_keep h.own hk, h.cha.over hc fun i hi => .inr (by omega)⟩
def BoxS (W : World) (Bx : Nat) (x : Spn) : Prop := W.heap[Bx]? = some (.cells #[.int .i64 (x.b : Int), .int .i64 (x.k : Int), .int .i64 x.t] 66 (0, 0))

set_option maxRecDepth 100000 in
set_option maxHeartbeats 4000000 in
theorem all_in (m bt bm bp bs n : Nat) (L : List Spn) (hm : 3 ≤ m) (w : World) (hT : Tl w bt bm bp bs n L) :
    CallsIn Fence.wide m Try.prog 35 #[.pointer (some ⟨bt, 0, none⟩), .int .i64 (-1)] w fun e W' => ∃ v, e = .returned (.tuple #[v, .bool true]) ∧ W'.ownsRow w.heap.size 66 3 v L.length (scs L) ∧ Cha (fun _ => False) w W' := by
  have h1 : 1 ≤ m := by omega
  have C := Lib.hid fun W => all_box bt W
  have hlt := hT.2.lt
  have hplt := hT.2.pg.lt
  have hle := hT.2.pg.le
  have HT := Lib.hid hT
  clear hT
  obtain ⟨i0, hi, hz0, hz1, hz2⟩ := info_parts info66
  refine callsIn_of_wp_marks Try.func35 rfl trivial ?_ rfl
  simp only [Try.ntmps35, List.size_toArray, List.length_cons, List.length_nil, Nat.reduceAdd, Nat.reduceSub, Array.replicate_succ, Array.replicate_zero, List.push_toArray, List.append_toArray, List.nil_append, List.cons_append]
  have E95 := fun W c => func_nil5 W 47 c
  gi_wp2_with (refine ⟨trivial, ?_⟩; gi_at_call 44; refine (callsIn_wide.2 (C.out _)).mono ?_; rintro e w1 ⟨rfl, rfl⟩)
  have b0 := Boxed.new w 3 (.int .i64 (-1))
  have b1 := Boxed.new (w.alloc (.cells #[.int .i64 (-1)] 3)) 75 (.slice none 0 0)
  have b2 := heap_alloc_new ((w.alloc (.cells #[.int .i64 (-1)] 3)).alloc (.cells #[.slice none 0 0] 75)) (.cells #[.pointer (some ⟨bt, 0, none⟩)] 57)
  simp only [World.size_alloc] at b1 b2
  have hC0 : Cha (fun _ => False) w (((w.alloc (.cells #[.int .i64 (-1)] 3)).alloc (.cells #[.slice none 0 0] 75)).alloc (.cells #[.pointer (some ⟨bt, 0, none⟩)] 57)) := (((Cha.refl _ w).alloc _).alloc _).alloc _
  clear E95
  refine wpIn_rangeFunc_ownH rfl h1 (gf := 47) (lb := #[.pointer (some ⟨w.heap.size + 1 + 1, 0, none⟩)]) rfl trivial (enters_of Try.func47 (by kernel_rfl) rfl)
    (spans_stops (m - 1) (w.heap.size + 1 + 1) bt bm bp bs n L (by omega) _ (FRow.one b2) ⟨HT.out.1, HT.out.2.same hC0⟩) Kp5.trans (Kp5.put (by simp) (by simp; omega) (by simp; omega) (by simp; omega) (by simp; omega)) (Below.refl _ _) (fun _ => rfl)
    (fun pre W => ∃ v, Coll5 w W bt pre v)
    (fun _ _ _ => False)
    (coll5_own (by simp; omega))
    (fun _ _ _ _ _ hs _ _ => hs)
    ⟨_, b2, b1.alloc _, (b0.alloc _).alloc _, World.ownsRow_nil _ _ _ _, hC0⟩
    (fun x a' W => ∃ Bx, w.heap.size + 1 + 1 < Bx ∧ BoxS W Bx x ∧ a' = { tmps := #[.pointer (some ⟨bt, 0, none⟩), .int .i64 (-1), undef, .pointer (some ⟨w.heap.size, 0, none⟩), .slice none 0 0, .bool false, .pointer (some ⟨w.heap.size + 1, 0, none⟩), .func (.func 47) #[] #[.pointer (some ⟨w.heap.size + 1 + 1, 0, none⟩)], .pointer (some ⟨Bx, 0, none⟩), .pointer (some ⟨bt, 0, none⟩), .func (.func 47) #[] #[.pointer (some ⟨w.heap.size + 1 + 1, 0, none⟩)], .func (.func 47) #[] #[.pointer (some ⟨w.heap.size + 1 + 1, 0, none⟩)], .bool false, .bool false, .int .i64 (-1), .bool false, .bool false, undef, undef, .func (.func 47) #[] #[.pointer (some ⟨w.heap.size + 1 + 1, 0, none⟩)], .agg #[.int .i64 (x.b : Int), .int .i64 (x.k : Int), .int .i64 x.t], undef, undef, undef, undef, undef, undef, undef, undef, undef, undef, undef, undef, undef, undef], defers := [] })
    (fun x a' => ownFrom_of fun _ _ _ ⟨Bx, h1, h2, h3⟩ hk _ => ⟨Bx, h1, (hk _ _ _ _ h2).trans h2, h3⟩) ?assign ?body ?done ?stop
  case assign =>
    rintro l pre x W K ⟨v, hS⟩ hK
    have hsz := hS.ptr.lt
    have hsz2 := hS.cha.size
    unfold sv
    gi_wp2
    refine hK _ _ ((KeepsOthers.alloc _ _).from _) ?_ ⟨v, hS.ptr.alloc _, hS.box.alloc _, hS.most.alloc _, hS.own.alloc _, hS.cha.alloc _⟩ ⟨W.heap.size, hsz, heap_alloc_new W _, rfl⟩
    exact ⟨heap_alloc_old _ _ hsz, heap_alloc_old _ _ (by omega), heap_alloc_old _ _ (by omega), heap_alloc_old _ _ (by omega), heap_alloc_old _ _ (by omega)⟩
  case body =>
    rintro l pre x a' W _ _ ⟨v, hS⟩ ⟨Bx, hBx, hX, rfl⟩ hlen
    have c0 := hS.box.cell
    have f0 := hS.box.frozen
    have c1 := hS.most.cell
    have hsz := hS.cha.size
    have y0 := cell_of_row W Bx 0 _ 66 (0, 0) hX
    have y1 := cell_of_row W Bx 1 _ 66 (0, 0) hX
    have y2 := cell_of_row W Bx 2 _ 66 (0, 0) hX
    simp only [List.getElem?_toArray, List.getElem?_cons_zero, List.getElem?_cons_succ] at y0 y1 y2
    have HS := Lib.hid hS
    have hq1 : (((pre.length : Nat) : Int) + 1 == -1) = false := by
      rw [beq_eq_false_iff_ne]; omega
    have hq2 : ((pre.length : Nat) : Int) + 1 ≤ 5000 := by omega
    clear hS hX b0 b1 b2 hC0
    gi_wp2_with (gi_at_builtin; refine wpListIn_append_own _ rfl _ _ 75 rfl w.heap.size 66 i0 (.agg #[.int .i64 0, .int .i64 0, .int .i64 0]) 3 24 Try.underlying75 hi hz0 hz1 hz2 rfl (by decide) _ _ _ rfl (HS.out.own.alloc _) ⟨W.heap.size, 0, none⟩ 1 1 [.int .i64 (x.b : Int), .int .i64 (x.k : Int), .int .i64 x.t] rfl rfl (three_new _ _ _ _ _) (three_cell _ _ _) (by unfold maxLen; omega) (by omega) (by rw [World.size_alloc]; omega) ?_; intro v' w1 hown' hgrow hnil; clear hnil; have hgrow : (W.alloc (.cells #[.int .i64 (x.b : Int), .int .i64 (x.k : Int), .int .i64 x.t] 66)).grownBy w1 v.ownBlock := hgrow; obtain ⟨g', cap', rfl⟩ := ownsRow_succ hown'; obtain ⟨hv1, hv2, hr2, hk2, hb2⟩ := HS.out.box.appended (by decide) HS.out.own hsz (by omega) hown' hgrow; have hm1 := (HS.out.most.alloc (.cells #[.int .i64 (x.b : Int), .int .i64 (x.k : Int), .int .i64 x.t] 66)).kept hgrow (HS.out.most.not_row (by decide) HS.out.own); have hp1 := (HS.out.ptr.alloc (.cells #[.int .i64 (x.b : Int), .int .i64 (x.k : Int), .int .i64 x.t] 66)).kept hgrow (HS.out.ptr.not_row (by decide) HS.out.own); have hc1 := hv1.cell; have hf1 := hv1.frozen; have hd1 := hm1.cell; have HC1 := Lib.hid ((HS.out.cha.alloc (.cells #[.int .i64 (x.b : Int), .int .i64 (x.k : Int), .int .i64 x.t] 66)).over (Cha.of_grownBy (S := fun i => w.heap.size ≤ i) hgrow (own_base HS.out.own)) fun i hi => .inr hi); have HG := Lib.hid hgrow; have HV2 := Lib.hid hv2; have HR2 := Lib.hid hr2; have HK2 := Lib.hid hk2; have HM1 := Lib.hid hm1; have HP1 := Lib.hid hp1; clear hgrow hv1 hv2 hr2 hk2 hb2 hm1 hp1 hown')
    have hb := HG.out
    have keep : ∀ b, b < w.heap.size → w1.heap[b]? = W.heap[b]? := fun b hlb => (hb.block b (by simp; omega) fun e => by have := own_base HS.out.own b e.symm; omega).trans (heap_alloc_old _ _ (by omega))
    refine ⟨HK2.out.from _, ⟨?_, ?_, ?_, ?_, ?_⟩, _, HP1.out.other (by omega) _, HV2.out, HM1.out.other (by omega) _, ?_, HC1.out.setCell (p := ⟨w.heap.size + 1, 0, none⟩) (fun h => absurd h (by simp)) _⟩
    · rw [heap_setCell_other _ _ _ _ (by simp)]
      exact HP1.out.trans HS.out.ptr.symm
    · rw [heap_setCell_other _ _ _ _ (by simp; omega)]
      exact keep bt hlt.1
    · rw [heap_setCell_other _ _ _ _ (by simp; omega)]
      exact keep bm hplt.1
    · rw [heap_setCell_other _ _ _ _ (by simp; omega)]
      exact keep bp hplt.2
    · rw [heap_setCell_other _ _ _ _ (by simp; omega)]
      exact keep bs hlt.2
    · rw [scs_snoc, List.length_append]
      exact HR2.out
  case done =>
    rintro D ys W hD rfl ⟨v, hS⟩ hK
    have c0 := hS.box.cell
    have HS := Lib.hid hS
    clear hS
    gi_wp2
    simp at hD
    refine ⟨by simp, .inl ⟨_, _, rfl, run_takeDeferred hK, ?_⟩⟩
    refine ⟨.tuple #[v, .bool true], ?_, v, rfl, ?_, HS.out.cha.putObj (by omega) _⟩
    · simp [results, Try.f35, go_sem]
    · exact ownsRow_putObj HS.out.own (.deferred none) hK rfl
  case stop =>
    rintro D c pre W _ _ h _
    exact h.elim
theorem all_any {bt bm bp bs n : Nat} {L : List Spn} (w : World) (hT : Tl w bt bm bp bs n L) :
    Calls Try.prog 35 #[.pointer (some ⟨bt, 0, none⟩), .int .i64 (-1)] w fun e W' => ∃ v, e = .returned (.tuple #[v, .bool true]) ∧ W'.ownsRow w.heap.size 66 3 v L.length (scs L) ∧ Cha (fun _ => False) w W' :=
  callsIn_wide.1 (all_in 3 bt bm bp bs n L (by omega) w hT)
end Go.Proofs.Ytgglcfmnhiakcaa
