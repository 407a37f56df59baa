/- Layer 5's New, Alloc, Free. -/
import Derived.Test.YtiboobaggpghjaaDoorSC
import Derived.Deep.RegionHeld3
namespace Go.Proofs.YtiboobaggpghjaaDoor
open Go.ChangeShapes Go.WideShapes Go.ChangeAt Go.RowKit
variable {w : World} {bt bm bp bs n : Nat} {us us2 : Nat → Bool} {f : Nat → Spn} {L : List Spn}

theorem info66 : (Tryd.prog.info? 78).map (fun i => (i.zero, i.size, i.bytes)) = some (some (.agg #[.int .i64 0, .int .i64 0, .int .i64 0]), 3, 24) := by kernel_rfl
theorem made_spans (m : Nat) : madeCells (Value.agg #[.int .i64 0, .int .i64 0, .int .i64 0]).cells (m * 3) = fcells (m * 3) (scell fun _ => noS) := by
  unfold madeCells fcells
  congr 1
  funext x
  show (#[Value.int .i64 0, .int .i64 0, .int .i64 0])[x % 3]! = _
  unfold scell noS
  have h : x % 3 = 0 ∨ x % 3 = 1 ∨ x % 3 = 2 := by omega
  rcases h with h | h | h
  · rw [h]; rfl
  · rw [h]; rfl
  · rw [h]; rfl
theorem mk_spans (m : Nat) (hm : m ≤ 1000000) (W : World) : (Instr.makeSlice 88 (.int .i64 (m : Int)) (.int .i64 (m : Int))).run Tryd.prog W = .ok (.slice (some ⟨W.heap.size, 0, none⟩) m m) (W.alloc (.cells (fcells (m * 3) (scell fun _ => noS)) 78)) := by
  obtain ⟨i, hi, hz, hs, hb⟩ := info_parts info66
  have h := run_make (P := Tryd.prog) W 88 78 i _ Tryd.underlying88 hi hz .i64 .i64 (m : Int) (m : Int) (by omega) (by omega) (by rw [hb]; omega) (by omega)
  rw [hs, Int.toNat_natCast, made_spans] at h
  exact h

structure Made5 (w w' : World) (n : Nat) : Prop where
  tl : Tl w' (w.heap.size + 3) (w.heap.size + 1) w.heap.size (w.heap.size + 2) n []
  cha : Cha (fun _ => False) w w'
theorem made5 (w w1 : World) (n : Nat) (h : Made 113 w w1 n) : Made5 w ((w1.alloc (.cells (fcells (n * 3) (scell fun _ => noS)) 78)).alloc (.cells #[.pointer (some ⟨w.heap.size + 1, 0, none⟩), .slice (some ⟨w1.heap.size, 0, none⟩) n n] 101)) n := by
  have hs := h.size
  refine ⟨⟨Good.nil n, ?_⟩, (h.cha.alloc _).alloc _⟩
  have hc : Cha (fun _ => False) w1 ((w1.alloc (.cells (fcells (n * 3) (scell fun _ => noS)) 78)).alloc (.cells #[.pointer (some ⟨w.heap.size + 1, 0, none⟩), .slice (some ⟨w1.heap.size, 0, none⟩) n n] 101)) := ((Cha.refl _ w1).alloc _).alloc _
  have h1 := heap_alloc2_new w1 (.cells (fcells (n * 3) (scell fun _ => noS)) 78) (.cells #[.pointer (some ⟨w.heap.size + 1, 0, none⟩), .slice (some ⟨w1.heap.size, 0, none⟩) n n] 101)
  have h2 := heap_alloc2_old w1 (.cells (fcells (n * 3) (scell fun _ => noS)) 78) (.cells #[.pointer (some ⟨w.heap.size + 1, 0, none⟩), .slice (some ⟨w1.heap.size, 0, none⟩) n n] 101)
  rw [hs] at h1 h2 ⊢
  refine ⟨h1, (h.pg.same (by rw [hs] at hc; exact hc)), h2, by omega⟩
set_option maxHeartbeats 1000000 in
theorem new5_ok (n : Nat) (w : World) (h1 : 1 ≤ n) (h2 : n ≤ 4096) : Calls Tryd.prog 36 #[.int .i64 (n : Int)] w fun e w' => e = .returned (.tuple #[.pointer (some ⟨w.heap.size + 3, 0, none⟩), .int .i64 0]) ∧ Made5 w w' n := by
  have A10 := Lib.hid (new_ok n w h1 h2)
  have hmk := mk_spans n (by omega)
  have HM := Lib.hid (made5 w · n)
  obtain ⟨c, hc⟩ : ∃ c, c = fcells (n * 3) (scell fun _ => noS) := ⟨_, rfl⟩
  rw [← hc] at hmk
  have HC := Lib.hid hc
  clear hc
  go_enter Tryd.func36, Tryd.ntmps36
  go_wp2_with (go_at_call 57; ((with_reducible refine (A10.out).mono ?_); rintro e w1 ⟨rfl, h⟩; have H10 := Lib.hid h; clear h))
  go_ret2
  have hs := H10.out.size
  refine ⟨by simp [hs], ?_⟩
  have := HM.out w1 H10.out
  rw [← HC.out] at this
  exact this
theorem new5_bad (n : Int) (w : World) (h : n < 1 ∨ 4096 < n) : Calls Tryd.prog 36 #[.int .i64 n] w fun e w' => e = .returned (.tuple #[.pointer none, .int .i64 1]) ∧ w = w' := by
  have A10 := Lib.hid (new_bad n w h)
  clear h
  go_enter Tryd.func36, Tryd.ntmps36
  go_wp2_with (go_at_call 57; ((with_reducible refine (A10.out).mono ?_); rintro e w1 ⟨rfl, rfl⟩))
  go_ret2
  exact ⟨rfl, rfl⟩

set_option maxRecDepth 100000 in
set_option maxHeartbeats 2000000 in
theorem alloc5_no {k r : Int} (tag : Int) (hk2 : k ≤ 9223372036854775807) (hr : r = 1 ∨ r = 3) (c : Alc n us k 0 r us) (h : Tb w bt bm bp bs n us f) :
    Calls Tryd.prog 55 #[.pointer (some ⟨bt, 0, none⟩), .int .i64 k, .int .i64 tag] w fun e w' => e = .returned (.tuple #[sv noS, .int .i64 r]) ∧ Tb w' bt bm bp bs n us f ∧ Cha (· = bp) w w' := by
  have hc0 : Cha (fun _ => False) w (w.alloc (.cells #[.int .i64 0, .int .i64 0, .int .i64 0] 78)) := (Cha.refl _ w).alloc _
  have hp := h.ptr0
  have hlt := h.lt
  have hplt := h.pg.lt
  have C := Lib.hid (alloc_says c hk2 (h.pg.same hc0))
  have H := Lib.hid h
  have HC := Lib.hid hc0
  have HA : Hid ((w.alloc (.cells #[.int .i64 0, .int .i64 0, .int .i64 0] 78)).heap[w.heap.size]? = some (.cells #[.int .i64 0, .int .i64 0, .int .i64 0] 78)) := Lib.hid (heap_alloc_new w _)
  have hne := h.ne
  clear h hc0 c
  rcases hr with rfl | rfl
  all_goals
    go_enter Tryd.func55, Tryd.ntmps55
    go_wp2_with (go_at_call 69; ((with_reducible refine (C.out).mono ?_); rintro e w1 ⟨rfl, hm, hc⟩; have HD := Lib.hid ((HC.out.wide (S := (· = bp))).trans hc); have HB := Lib.hid ((hc.old _ (by rw [World.size_alloc]; omega) (by omega)).trans HA.out); have HM := Lib.hid hm; have hsz := hc.size; have z0 := cell_of_row w1 w.heap.size 0 _ 78 (0, 0) HB.out; have z1 := cell_of_row w1 w.heap.size 1 _ 78 (0, 0) HB.out; have z2 := cell_of_row w1 w.heap.size 2 _ 78 (0, 0) HB.out; have f0 := frozen_of_row w1 w.heap.size 0 _ 78 HB.out; have f1 := frozen_of_row w1 w.heap.size 1 _ 78 HB.out; have f2 := frozen_of_row w1 w.heap.size 2 _ 78 HB.out; rw [World.size_alloc] at hsz; have hlt1 : w.heap.size < w1.heap.size := (by omega); simp only [List.getElem?_toArray, List.getElem?_cons_zero, List.getElem?_cons_succ] at z0 z1 z2; clear hc hm))
    have hcc : Cha (fun i => i = w.heap.size) w1 (((w1.setCell ⟨w.heap.size, 0, none⟩ (.int .i64 0)).setCell ⟨w.heap.size, 1, none⟩ (.int .i64 0)).setCell ⟨w.heap.size, 2, none⟩ (.int .i64 0)) :=
      (((Cha.refl (fun i => i = w.heap.size) w1).setCell (p := ⟨w.heap.size, 0, none⟩) (fun _ => rfl) _).setCell (p := ⟨w.heap.size, 1, none⟩) (fun _ => rfl) _).setCell (p := ⟨w.heap.size, 2, none⟩) (fun _ => rfl) _
    refine bodyPost_ret (v := .tuple #[.agg #[.int .i64 0, .int .i64 0, .int .i64 0], .int .i64 _]) (by simp [results, Tryd.f55, go_sem, z0, z1, z2]) rfl ⟨rfl, ?_, ?_⟩
    · have hT : Tb w1 bt bm bp bs n us f := ⟨(HD.out.old _ hlt.1 (by omega)).trans H.out.head, HM.out, HD.out.row H.out.sp (by omega), hne⟩
      exact hT.cha hcc (by omega) (by omega) (by omega) (by omega)
    · exact HD.out.over hcc fun i hi => .inr (by omega)
set_option maxRecDepth 100000 in
set_option maxHeartbeats 4000000 in
theorem alloc5_ok {b k : Nat} (tag : Int) (hk2 : (k : Int) ≤ 9223372036854775807) (hbn : b + k ≤ n) (c : Alc n us (k : Int) (b : Int) 0 us2) (h : Tb w bt bm bp bs n us f) :
    Calls Tryd.prog 55 #[.pointer (some ⟨bt, 0, none⟩), .int .i64 (k : Int), .int .i64 tag] w fun e w' => e = .returned (.tuple #[sv ⟨b, k, tag⟩, .int .i64 0]) ∧ Tb w' bt bm bp bs n us2 (layF f b k ⟨b, k, tag⟩) ∧ Cha (fun i => i = bp ∨ i = bs) w w' := by
  have hc0 : Cha (fun _ => False) w (w.alloc (.cells #[.int .i64 0, .int .i64 0, .int .i64 0] 78)) := (Cha.refl _ w).alloc _
  have hp := h.ptr0
  have hlt := h.lt
  have hplt := h.pg.lt
  have C := Lib.hid (alloc_says c hk2 (h.pg.same hc0))
  have H := Lib.hid h
  have HC := Lib.hid hc0
  have HA : Hid ((w.alloc (.cells #[.int .i64 0, .int .i64 0, .int .i64 0] 78)).heap[w.heap.size]? = some (.cells #[.int .i64 0, .int .i64 0, .int .i64 0] 78)) := Lib.hid (heap_alloc_new w _)
  have hne := h.ne
  have LY : Hid (∀ W, Tb W bt bm bp bs n us2 f → Calls Tryd.prog 70 #[.pointer (some ⟨bt, 0, none⟩), .int .i64 (b : Int), .int .i64 (k : Int), .agg #[.int .i64 (b : Int), .int .i64 (k : Int), .int .i64 tag]] W fun e w' => e = .returned (.tuple #[]) ∧ Tb w' bt bm bp bs n us2 (layF f b k ⟨b, k, tag⟩) ∧ Cha (· = bs) W w') :=
    Lib.hid fun W h => lay_any b k ⟨b, k, tag⟩ h hbn
  clear h hc0 c
  go_enter Tryd.func55, Tryd.ntmps55
  go_wp2_with (first
    | (go_at_call 69; ((with_reducible refine (C.out).mono ?_); rintro e w1 ⟨rfl, hm, hc⟩; have HD := Lib.hid ((HC.out.wide (S := (· = bp))).trans hc); have HB := Lib.hid ((hc.old _ (by rw [World.size_alloc]; omega) (by omega)).trans HA.out); have hsz := hc.size; rw [World.size_alloc] at hsz; have hlt1 : w.heap.size < w1.heap.size := (by omega); have HT : Hid (Tb w1 bt bm bp bs n us2 f) := Lib.hid ⟨(HD.out.old _ hlt.1 (by omega)).trans H.out.head, hm, HD.out.row H.out.sp (by omega), hne⟩; clear hc hm))
    | (go_at_call 70; ((with_reducible refine (LY.out _ (HT.out.same ((Cha.refl _ _).alloc _))).mono ?_); rintro e w2 ⟨rfl, hm, hc⟩; have HE := Lib.hid ((((Cha.refl (· = bs) w1).alloc (.cells #[.int .i64 (b : Int), .int .i64 (k : Int), .int .i64 tag] 78))).trans hc); have HM := Lib.hid hm; have HB2 := Lib.hid ((hc.old _ (by rw [World.size_alloc]; omega) (by omega)).trans ((heap_alloc_old w1 _ hlt1).trans HB.out)); have HS2 := Lib.hid ((hc.old w1.heap.size (by rw [World.size_alloc]; omega) (by have := HT.out.lt; omega)).trans (heap_alloc_new w1 _)); have hsz2 := hc.size; rw [World.size_alloc] at hsz2; have z0 := cell_of_row w2 w.heap.size 0 _ 78 (0, 0) HB2.out; have z1 := cell_of_row w2 w.heap.size 1 _ 78 (0, 0) HB2.out; have z2 := cell_of_row w2 w.heap.size 2 _ 78 (0, 0) HB2.out; have f0 := frozen_of_row w2 w.heap.size 0 _ 78 HB2.out; have f1 := frozen_of_row w2 w.heap.size 1 _ 78 HB2.out; have f2 := frozen_of_row w2 w.heap.size 2 _ 78 HB2.out; have y0 := cell_of_row w2 w1.heap.size 0 _ 78 (0, 0) HS2.out; have y1 := cell_of_row w2 w1.heap.size 1 _ 78 (0, 0) HS2.out; have y2 := cell_of_row w2 w1.heap.size 2 _ 78 (0, 0) HS2.out; simp only [List.getElem?_toArray, List.getElem?_cons_zero, List.getElem?_cons_succ] at z0 z1 z2 y0 y1 y2; clear hc hm)))
  have hcc : Cha (fun i => i = w.heap.size) w2 (((w2.setCell ⟨w.heap.size, 0, none⟩ (.int .i64 (b : Int))).setCell ⟨w.heap.size, 1, none⟩ (.int .i64 (k : Int))).setCell ⟨w.heap.size, 2, none⟩ (.int .i64 tag)) :=
    (((Cha.refl (fun i => i = w.heap.size) w2).setCell (p := ⟨w.heap.size, 0, none⟩) (fun _ => rfl) _).setCell (p := ⟨w.heap.size, 1, none⟩) (fun _ => rfl) _).setCell (p := ⟨w.heap.size, 2, none⟩) (fun _ => rfl) _
  refine bodyPost_ret (v := .tuple #[.agg #[.int .i64 (b : Int), .int .i64 (k : Int), .int .i64 tag], .int .i64 0]) (by simp [results, Tryd.f55, go_sem, z0, z1, z2]) rfl ⟨rfl, ?_, ?_⟩
  · exact HM.out.cha hcc (by omega) (by omega) (by omega) (by omega)
  · have h1 : Cha (fun i => i = bp ∨ i = bs) w w2 := (HD.out.mono fun _ _ e => .inl e).trans (HE.out.mono fun _ _ e => .inr e)
    exact h1.over hcc fun i hi => .inr (by omega)

/-- What Alloc answers, and the spans behind it. -/
inductive Alc5 (n : Nat) (L : List Spn) (k tag : Int) : Spn → Int → List Spn → Prop where
  | no (r : Int) : r = 1 ∨ r = 3 → Alc n (uOf L) k 0 r (uOf L) → Alc5 n L k tag noS r L
  | ok (b k' : Nat) : k = (k' : Int) → b + k' ≤ n → Alc n (uOf L) k (b : Int) 0 (fil (uOf L) b k' true) → Good n (ins ⟨b, k', tag⟩ L) → Alc5 n L k tag ⟨b, k', tag⟩ 0 (ins ⟨b, k', tag⟩ L)
theorem Alc5.ex (h : Good n L) (k tag : Int) : ∃ s r L', Alc5 n L k tag s r L' := by
  obtain ⟨b, r, us', c⟩ := Alc.ex n (uOf L) k
  cases c with
  | arg h1 => exact ⟨_, _, _, .no 1 (.inl rfl) (.arg h1)⟩
  | full h1 h2 => exact ⟨_, _, _, .no 3 (.inr rfl) (.full h1 h2)⟩
  | ok x h1 h2 =>
    obtain ⟨k', rfl⟩ : ∃ k' : Nat, k = (k' : Int) := ⟨k.toNat, by omega⟩
    have h2' := h2
    rw [Int.toNat_natCast] at h2'
    obtain ⟨g1, g2, g3, _⟩ := find_some (by omega) (n + 1) x h2'
    refine ⟨_, _, _, .ok x.1 k' rfl (by omega) (by have := Alc.ok x h1 h2; rwa [Int.toNat_natCast] at this) (h.ins (by show 1 ≤ k'; omega) (by show x.1 + k' ≤ n; omega) fun i hi => ?_)⟩
    have hi := has_iff.1 hi
    have h3 : x.1 ≤ i ∧ i < x.1 + k' := hi
    have := g1.fr.1 (i - x.1) (by omega)
    rw [show x.1 + (i - x.1) = i by omega] at this
    exact (isU_false.1 this).2
theorem alloc5_any {k tag r : Int} {s : Spn} {L' : List Spn} (c : Alc5 n L k tag s r L') (hk2 : k ≤ 9223372036854775807) (h : Tl w bt bm bp bs n L) :
    Calls Tryd.prog 55 #[.pointer (some ⟨bt, 0, none⟩), .int .i64 k, .int .i64 tag] w fun e w' => e = .returned (.tuple #[sv s, .int .i64 r]) ∧ Tl w' bt bm bp bs n L' ∧ Cha (fun i => i = bp ∨ i = bs) w w' := by
  cases c with
  | no _ hr c => exact (alloc5_no tag hk2 hr c h.2).mono fun _ _ ⟨he, hm, hc⟩ => ⟨he, ⟨h.1, hm⟩, hc.mono fun _ _ e => .inl e⟩
  | ok b k' hk hbn c hg =>
    subst hk
    exact (alloc5_ok tag hk2 hbn c h.2).mono fun _ _ ⟨he, hm, hc⟩ => ⟨he, ⟨hg, hm.congr (fun i _ => by rw [uOf_ins]; rfl) (fun i _ => (fOf_ins hg i).symm)⟩, hc⟩
end Go.Proofs.YtiboobaggpghjaaDoor
