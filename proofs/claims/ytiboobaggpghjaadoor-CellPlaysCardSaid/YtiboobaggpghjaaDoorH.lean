/- Layer 4's Alloc. -/
import Derived.Test.YtiboobaggpghjaaDoorG
namespace Go.Proofs.YtiboobaggpghjaaDoor
open Go.RowKit Go.Shelf
attribute [local go_sem] Oper.semAt_some

/-- What speaks of blocks of cells alone abides. -/
theorem ownFrom_of {β : Type} {B : Nat} {f : β → World → Prop} (h : ∀ s W W', f s W → (∀ (b : Nat) (c : Array Value) (t : TypeId) (z : Nat × Nat), W.heap[b]? = some (.cells c t z) → W'.heap[b]? = W.heap[b]?) → Cha (fun i => B ≤ i) W W' → f s W') : OwnFrom B f := by
  intro s X Y row hs hg hr
  refine h s X Y hs (fun b c t z hb => hg.block b (Array.getElem?_eq_some_iff.1 hb).1 fun e => ?_) (Cha.of_grownBy hg fun k e => (hr k e).1)
  obtain ⟨o', h', hc⟩ := (hr b e.symm).2
  rw [hb] at h'; cases h'; cases hc
theorem box_of {W W' : World} {B : Nat} {t : TypeId} {v : Value} (h : Boxed W B t v) (k : W'.heap[B]? = W.heap[B]?) : Boxed W' B t v := k.trans h
theorem box_cha {W W' : World} {B : Nat} {t : TypeId} {v : Value} {S : Nat → Prop} (h : Boxed W B t v) (c : Cha S W W') (hs : ¬ S B) : Boxed W' B t v := (c.old B h.lt hs).trans h

theorem alloc_bad (k : Int) (bm : Nat) (w : World) (hk : k < 1) : Calls Tryd.prog 69 #[.pointer (some ⟨bm, 0, none⟩), .int .i64 k] w fun e w' => e = .returned (.tuple #[.int .i64 0, .int .i64 1]) ∧ Cha (fun _ => False) w w' := by
  have HC : Hid (Cha (fun _ => False) w ((((w.alloc (.cells #[.pointer (some ⟨bm, 0, none⟩)] 97)).alloc (.cells #[.int .i64 k] 3)).alloc (.cells #[.int .i64 0] 3)).alloc (.cells #[.int .i64 1] 22))) :=
    Lib.hid ((((Cha.refl _ w).alloc _).alloc _).alloc _ |>.alloc _)
  go_enter Tryd.func69, Tryd.ntmps69
  go_wp2
  exact bodyPost_ret (v := .tuple #[.int .i64 0, .int .i64 1]) (by simp [results, Tryd.f69, go_sem]) rfl ⟨rfl, HC.out⟩
theorem keepsFrom_cha {B : Nat} {W W' : World} {S : Nat → Prop} (c : Cha S W W') (hs : ∀ i, S i → i < B) : KeepsFrom B W W' :=
  ⟨c.size, fun k o hB hk _ => (c.old k (Array.getElem?_eq_some_iff.1 hk).1 fun h => by have := hs k h; omega).trans hk⟩
/-- What the search has found among the rows ahead. -/
structure Seek (w W : World) (bm bp n k : Nat) (us : Nat → Bool) (pre : List (Rw n)) : Prop where
  pg : Pg 113 W bm bp n us
  b0 : Boxed W w.heap.size 97 (.pointer (some ⟨bm, 0, none⟩))
  b1 : Boxed W (w.heap.size + 1) 3 (.int .i64 (k : Int))
  b2 : Boxed W (w.heap.size + 1 + 1) 3 (.int .i64 0)
  b3 : Boxed W (w.heap.size + 1 + 1 + 1) 22 (.int .i64 0)
  less : ∀ x ∈ pre, x.1.2 < k
  cha : Cha (fun _ => False) w W
structure Found (w W : World) (bm bp n k : Nat) (us : Nat → Bool) (c : Code) (pre : List (Rw n)) (ini : List (Rw n)) (x : Rw n) : Prop where
  ret : c = .ret
  eq : pre = ini ++ [x]
  less : ∀ x ∈ ini, x.1.2 < k
  hit : k ≤ x.1.2
  pg : Pg 113 W bm bp n (fil us x.1.1 k true)
  b2 : Boxed W (w.heap.size + 1 + 1) 3 (.int .i64 (x.1.1 : Int))
  b3 : Boxed W (w.heap.size + 1 + 1 + 1) 22 (.int .i64 0)
  cha : Cha (· = bp) w W
theorem Pg.keep {t : TypeId} {W W' : World} {bm bp n : Nat} {us : Nat → Bool} (h : Pg t W bm bp n us) (k : ∀ (b : Nat) (c : Array Value) (t : TypeId) (z : Nat × Nat), W.heap[b]? = some (.cells c t z) → W'.heap[b]? = W.heap[b]?) : Pg t W' bm bp n us :=
  h.of (k _ _ _ _ h.head) (k _ _ _ _ h.body)
theorem seek_own {w : World} {bm bp n k B : Nat} {us : Nat → Bool} (hB : w.heap.size ≤ B) : OwnFrom B (fun (pre : List (Rw n)) W => Seek w W bm bp n k us pre) :=
  ownFrom_of fun _ _ _ h hk hc => ⟨h.pg.keep hk, (hk _ _ _ _ h.b0).trans h.b0, (hk _ _ _ _ h.b1).trans h.b1, (hk _ _ _ _ h.b2).trans h.b2, (hk _ _ _ _ h.b3).trans h.b3, h.less, h.cha.over hc fun i hi => .inr (by omega)⟩
theorem found_own {w : World} {bm bp n k B : Nat} {us : Nat → Bool} (c : Code) (hB : w.heap.size ≤ B) : OwnFrom B (fun (pre : List (Rw n)) W => ∃ ini x, Found w W bm bp n k us c pre ini x) :=
  ownFrom_of fun _ _ _ ⟨ini, x, h⟩ hk hc => ⟨ini, x, h.ret, h.eq, h.less, h.hit, h.pg.keep hk, (hk _ _ _ _ h.b2).trans h.b2, (hk _ _ _ _ h.b3).trans h.b3, h.cha.over hc fun i hi => .inr (by omega)⟩

set_option maxRecDepth 100000 in
set_option maxHeartbeats 2000000 in
theorem alloc_in (m bm bp n k : Nat) (us : Nat → Bool) (hm : 3 ≤ m) (w : World) (hP : Pg 113 w bm bp n us) (hk : 1 ≤ k) (hk2 : (k : Int) ≤ 9223372036854775807) :
    CallsIn Fence.wide m Tryd.prog 69 #[.pointer (some ⟨bm, 0, none⟩), .int .i64 (k : Int)] w fun e W' =>
      ((rows us n).find? (fun x => decide (k ≤ x.2)) = none ∧ e = .returned (.tuple #[.int .i64 0, .int .i64 3]) ∧ Cha (fun _ => False) w W') ∨
      ∃ x : Rw n, (rows us n).find? (fun x => decide (k ≤ x.2)) = some x.1 ∧ e = .returned (.tuple #[.int .i64 (x.1.1 : Int), .int .i64 0]) ∧ Pg 113 W' bm bp n (fil us x.1.1 k true) ∧ Cha (· = bp) w W' := by
  have h1 : 1 ≤ m := by omega
  have C := Lib.hid fun W => runs_box bm W
  have hlt := hP.lt
  have HP := Lib.hid hP
  clear hP
  refine callsIn_of_wp_marks Tryd.func69 rfl trivial ?_ rfl
  simp only [Tryd.ntmps69, List.size_toArray, List.length_cons, List.length_nil, Nat.reduceAdd, Nat.reduceSub, Array.replicate_succ, Array.replicate_zero, List.push_toArray, List.append_toArray, List.nil_append, List.cons_append]
  have hk3 : decide ((k : Int) < 1) = false := decide_eq_false (by omega)
  gi_wp2_with (refine ⟨trivial, ?_⟩; gi_at_call 75; refine (callsIn_wide.2 (C.out _)).mono ?_; rintro e w1 ⟨rfl, rfl⟩)
  have b0 := Boxed.new w 97 (.pointer (some ⟨bm, 0, none⟩))
  have b1 := Boxed.new (w.alloc (.cells #[.pointer (some ⟨bm, 0, none⟩)] 97)) 3 (.int .i64 (k : Int))
  have b2 := Boxed.new ((w.alloc (.cells #[.pointer (some ⟨bm, 0, none⟩)] 97)).alloc (.cells #[.int .i64 (k : Int)] 3)) 3 (.int .i64 0)
  have b3 := Boxed.new (((w.alloc (.cells #[.pointer (some ⟨bm, 0, none⟩)] 97)).alloc (.cells #[.int .i64 (k : Int)] 3)).alloc (.cells #[.int .i64 0] 3)) 22 (.int .i64 0)
  have b4 := heap_alloc_new ((((w.alloc (.cells #[.pointer (some ⟨bm, 0, none⟩)] 97)).alloc (.cells #[.int .i64 (k : Int)] 3)).alloc (.cells #[.int .i64 0] 3)).alloc (.cells #[.int .i64 0] 22)) (.cells #[.pointer (some ⟨bm, 0, none⟩)] 97)
  simp only [World.size_alloc] at b1 b2 b3 b4
  have hC0 : Cha (fun _ => False) w (((((w.alloc (.cells #[.pointer (some ⟨bm, 0, none⟩)] 97)).alloc (.cells #[.int .i64 (k : Int)] 3)).alloc (.cells #[.int .i64 0] 3)).alloc (.cells #[.int .i64 0] 22)).alloc (.cells #[.pointer (some ⟨bm, 0, none⟩)] 97)) :=
    ((((Cha.refl _ w).alloc _).alloc _).alloc _ |>.alloc _).alloc _
  refine wpIn_rangeFunc_ownG rfl h1 (gf := 82) (lb := #[.pointer (some ⟨w.heap.size + 1 + 1 + 1 + 1, 0, none⟩)]) rfl trivial (enters_of Tryd.func82 (by kernel_rfl) rfl)
    (rows_stops (m - 1) (w.heap.size + 1 + 1 + 1 + 1) bm bp n us (by omega) _ (FRow.one b4) (HP.out.same hC0)) Kp3.trans (Kp3.put (by simp) (by simp; omega) (by simp; omega)) (Below.refl _ _) (fun _ => rfl)
    (fun pre W => Seek w W bm bp n k us pre)
    (fun c pre W => ∃ ini x, Found w W bm bp n k us c pre ini x)
    (seek_own (by simp; omega))
    (fun c => found_own c (by simp; omega))
    ⟨HP.out.same hC0, (((b0.alloc _).alloc _).alloc _).alloc _, ((b1.alloc _).alloc _).alloc _, (b2.alloc _).alloc _, b3.alloc _, fun _ h => (by cases h), hC0⟩
    (fun x => { tmps := #[.pointer (some ⟨bm, 0, none⟩), .int .i64 (k : Int), .pointer (some ⟨w.heap.size, 0, none⟩), .pointer (some ⟨w.heap.size + 1, 0, none⟩), .pointer (some ⟨w.heap.size + 1 + 1, 0, none⟩), .pointer (some ⟨w.heap.size + 1 + 1 + 1, 0, none⟩),
      .int .i64 (x.1.1 : Int), .int .i64 (x.1.2 : Int), .pointer (some ⟨bm, 0, none⟩), .bool false, .int .i64 (k : Int), .bool false, .pointer (some ⟨bm, 0, none⟩),
      .func (.func 82) #[] #[.pointer (some ⟨w.heap.size + 1 + 1 + 1 + 1, 0, none⟩)], .int .i64 (x.1.1 : Int), .int .i64 (x.1.2 : Int), undef, undef, undef, undef, undef, undef, undef, undef], defers := [] }) ?assign ?body ?done ?stop
  case assign =>
    intro l x W K hK
    unfold encRw
    gi_wp2
    exact hK
  case body =>
    rintro l pre x W hS hlen
    have c0 := hS.b0.cell
    have c1 := hS.b1.cell
    have c2 := hS.b2.cell
    have c3 := hS.b3.cell
    have f2 := hS.b2.frozen
    have f3 := hS.b3.frozen
    have hx := x.2
    have HS := Lib.hid hS
    clear b0 b1 b2 b3 b4 hC0
    by_cases hkx : k ≤ x.1.2
    · have F := Lib.hid (fill_any x.1.1 k true hS.pg (by omega))
      clear hS
      have hne2 : ¬ w.heap.size + 1 + 1 = bp := by omega
      have hne3 : ¬ w.heap.size + 1 + 1 + 1 = bp := by omega
      gi_wp2_with (refine ⟨trivial, fun _ => by omega, ?_⟩; gi_at_call 78; refine (CallsIn.inRound l (callsIn_wide.2 F.out)).mono ?_; rintro e w1 ⟨rfl, hp, hc⟩; have B2 := box_cha HS.out.b2 hc hne2; have B3 := box_cha HS.out.b3 hc hne3; have d2 := B2.cell; have d3 := B3.cell; have e2 := B2.frozen; have e3 := B3.frozen; have HB2 := Lib.hid B2; have HB3 := Lib.hid B3; have HP1 := Lib.hid hp; have HC1 := Lib.hid hc; clear hp hc B2 B3)
      refine ⟨(keepsFrom_cha HC1.out fun i hi => by simp; omega).trans (((KeepsOthers.setCell _ _ _).trans (KeepsOthers.setCell _ _ _)).from _), pre, x, rfl, rfl, HS.out.less, hkx, ?_, ?_, ?_, ?_⟩
      · have hl := HP1.out.lt
        refine HP1.out.of ?_ ?_
        · rw [heap_setCell_other _ _ _ _ (by simp; omega), heap_setCell_other _ _ _ _ (by simp; omega)]
        · rw [heap_setCell_other _ _ _ _ (by simp; omega), heap_setCell_other _ _ _ _ (by simp; omega)]
      · exact (HB2.out.set _).other (by omega) _
      · exact (HB3.out.other (by omega) _).set _
      · exact ((((HS.out.cha.wide : Cha (· = bp) w W)).trans HC1.out).setCell (p := ⟨w.heap.size + 1 + 1, 0, none⟩) (fun h => absurd h (by simp; omega)) _).setCell (p := ⟨w.heap.size + 1 + 1 + 1, 0, none⟩) (fun h => absurd h (by simp; omega)) _
    · have hkx2 : (x.1.2 : Int) < k := by omega
      clear hS
      gi_wp2
      refine ⟨KeepsFrom.refl _ _, ⟨rfl, rfl, rfl⟩, HS.out.pg, HS.out.b0, HS.out.b1, HS.out.b2, HS.out.b3, fun y hy => ?_, HS.out.cha⟩
      rcases List.mem_append.1 hy with hy | hy
      · exact HS.out.less y hy
      · obtain rfl : y = x := by simpa using hy
        omega
  case done =>
    rintro D ys W hD hys hS hK
    have c2 := hS.b2.cell
    have c3 := hS.b3.cell
    have f2 := hS.b2.frozen
    have f3 := hS.b3.frozen
    have HS := Lib.hid hS
    clear hS
    gi_wp2
    have hK' := ((KeepsOthers.setCell W ⟨w.heap.size + 1 + 1, 0, none⟩ (.int .i64 0)).trans (KeepsOthers.setCell _ ⟨w.heap.size + 1 + 1 + 1, 0, none⟩ (.int .i64 3))).same D _ hK rfl
    refine ⟨by simp, .inl ⟨_, _, rfl, run_takeDeferred hK', ?_⟩⟩
    have B2 := (HS.out.b2.set (.int .i64 0)).other (B' := w.heap.size + 1 + 1 + 1) (by omega) (.int .i64 3)
    have B3 := (HS.out.b3.other (B' := w.heap.size + 1 + 1) (by omega) (.int .i64 0)).set (.int .i64 3)
    simp at hD
    have g2 := (box_of B2 (World.putObj_heap_other (o := .deferred none) (show w.heap.size + 1 + 1 ≠ D by omega))).cell
    have g3 := (box_of B3 (World.putObj_heap_other (o := .deferred none) (show w.heap.size + 1 + 1 + 1 ≠ D by omega))).cell
    refine ⟨.tuple #[.int .i64 0, .int .i64 3], ?_, .inl ⟨?_, rfl, ?_⟩⟩
    · simp [results, Tryd.f69, go_sem, g2, g3]
    · rw [← hys, List.find?_eq_none]
      intro y hy
      obtain ⟨z, hz, rfl⟩ := List.mem_map.1 hy
      have := HS.out.less z hz
      simp; omega
    · exact ((HS.out.cha.setCell (p := ⟨w.heap.size + 1 + 1, 0, none⟩) (fun h => absurd h (by simp; omega)) _).setCell (p := ⟨w.heap.size + 1 + 1 + 1, 0, none⟩) (fun h => absurd h (by simp; omega)) _).putObj (by omega) _
  case stop =>
    rintro D c pre W hD hpre ⟨ini, x, hF⟩ hK
    obtain rfl := hF.ret
    have HF := Lib.hid hF
    clear hF
    gi_wp2
    refine ⟨by simp, .inl ⟨_, _, rfl, run_takeDeferred hK, ?_⟩⟩
    simp at hD
    have hl := HF.out.pg.lt
    have hp0 : bp < D := by omega
    have g2 := (box_of HF.out.b2 (World.putObj_heap_other (o := .deferred none) (show w.heap.size + 1 + 1 ≠ D by omega))).cell
    have g3 := (box_of HF.out.b3 (World.putObj_heap_other (o := .deferred none) (show w.heap.size + 1 + 1 + 1 ≠ D by omega))).cell
    refine ⟨.tuple #[.int .i64 (x.1.1 : Int), .int .i64 0], ?_, .inr ⟨x, ?_, rfl, ?_, ?_⟩⟩
    · simp [results, Tryd.f69, go_sem, g2, g3]
    · rw [HF.out.eq] at hpre
      obtain ⟨rest, hr⟩ := hpre
      rw [← hr, List.map_append, List.find?_append, List.find?_append]
      have hn : (ini.map (·.1)).find? (fun x => decide (k ≤ x.2)) = none := by
        rw [List.find?_eq_none]
        intro y hy
        obtain ⟨z, hz, rfl⟩ := List.mem_map.1 hy
        have := HF.out.less z hz
        simp; omega
      rw [hn]
      simp [HF.out.hit]
    · exact HF.out.pg.of (World.putObj_heap_other (by omega)) (World.putObj_heap_other (by omega))
    · exact HF.out.cha.putObj (by omega) _
theorem alloc_any {bm bp n : Nat} {us : Nat → Bool} (k : Int) (w : World) (hP : Pg 113 w bm bp n us) (hk2 : k ≤ 9223372036854775807) : Calls Tryd.prog 69 #[.pointer (some ⟨bm, 0, none⟩), .int .i64 k] w fun e W' =>
    (k < 1 ∧ e = .returned (.tuple #[.int .i64 0, .int .i64 1]) ∧ Cha (fun _ => False) w W') ∨
    (1 ≤ k ∧ (rows us n).find? (fun x => decide (k.toNat ≤ x.2)) = none ∧ e = .returned (.tuple #[.int .i64 0, .int .i64 3]) ∧ Cha (fun _ => False) w W') ∨
    (1 ≤ k ∧ ∃ x : Nat × Nat, (rows us n).find? (fun x => decide (k.toNat ≤ x.2)) = some x ∧ e = .returned (.tuple #[.int .i64 (x.1 : Int), .int .i64 0]) ∧ Pg 113 W' bm bp n (fil us x.1 k.toNat true) ∧ Cha (· = bp) w W') := by
  by_cases h : k < 1
  · exact (alloc_bad k bm w h).mono fun e w' ⟨h1, h2⟩ => .inl ⟨h, h1, h2⟩
  · obtain ⟨k, rfl⟩ : ∃ k' : Nat, k = (k' : Int) := ⟨k.toNat, by omega⟩
    rw [Int.toNat_natCast]
    refine (callsIn_wide.1 (alloc_in 3 bm bp n k us (by omega) w hP (by omega) hk2)).mono ?_
    rintro e w' (⟨h1, h2, h3⟩ | ⟨x, h1, h2, h3, h4⟩)
    · exact .inr (.inl ⟨by omega, h1, h2, h3⟩)
    · exact .inr (.inr ⟨by omega, x.1, h1, h2, h3, h4⟩)
end Go.Proofs.YtiboobaggpghjaaDoor
