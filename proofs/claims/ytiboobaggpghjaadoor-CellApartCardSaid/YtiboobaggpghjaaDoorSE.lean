/- Layer 5's Free. -/
import Derived.Test.YtiboobaggpghjaaDoorSD
namespace Go.Proofs.YtiboobaggpghjaaDoor
open Go.ChangeShapes Go.WideShapes Go.ChangeAt Go.RowKit
variable {w : World} {bt bm bp bs n : Nat} {us us2 : Nat → Bool} {f : Nat → Spn} {L : List Spn}

set_option maxRecDepth 100000 in
set_option maxHeartbeats 2000000 in
theorem free5_no (x : Int) (hb : begP L n x = (noS, false)) (h : Tl w bt bm bp bs n L) : Calls Tryd.prog 56 #[.pointer (some ⟨bt, 0, none⟩), .int .i64 x] w fun e w' => e = .returned (.int .i64 4) ∧ Cha (fun _ => False) w w' := by
  have C := beg_any x h
  rw [hb] at C
  have C := Lib.hid C
  clear h hb
  go_enter Tryd.func56, Tryd.ntmps56
  go_wp2_with (go_at_call 71; ((with_reducible refine (C.out).mono ?_); rintro e w1 ⟨rfl, hc, _⟩; have HC := Lib.hid (hc.alloc (.cells #[.int .i64 0, .int .i64 0, .int .i64 0] 78)); unfold sv noS; clear hc))
  go_ret
  exact ⟨rfl, HC.out⟩
set_option maxRecDepth 100000 in
set_option maxHeartbeats 4000000 in
theorem free5_ok (s : Spn) (hs : s ∈ L) (h : Tl w bt bm bp bs n L) : Calls Tryd.prog 56 #[.pointer (some ⟨bt, 0, none⟩), .int .i64 (s.b : Int)] w fun e w' => e = .returned (.int .i64 0) ∧ Tl w' bt bm bp bs n (del s.b L) ∧ Cha (fun i => i = bp ∨ i = bs) w w' := by
  have hr := h.1.rng s hs
  have hhas : s.has s.b = true := has_iff.2 (by omega)
  have hu := uOf_iff.2 ⟨s, hs, hhas⟩
  have hf := h.1.fOf_yes hs hhas
  have hl := h.2.pg.le
  have hlt := h.2.lt
  have hplt := h.2.pg.lt
  have hne := h.2.ne
  have C := beg_any (s.b : Int) h
  have hb : begP L n (s.b : Int) = (s, true) := by
    unfold begP
    rw [Int.toNat_natCast, hf, if_pos ⟨by omega, by omega, hu, rfl⟩]
  rw [hb] at C
  have C := Lib.hid C
  have LY : Hid (∀ W, Tb W bt bm bp bs n (uOf L) (fOf L) → Calls Tryd.prog 70 #[.pointer (some ⟨bt, 0, none⟩), .int .i64 (s.b : Int), .int .i64 (s.k : Int), .agg #[.int .i64 0, .int .i64 0, .int .i64 0]] W fun e w' => e = .returned (.tuple #[]) ∧ Tb w' bt bm bp bs n (uOf L) (layF (fOf L) s.b s.k noS) ∧ Cha (· = bs) W w') :=
    Lib.hid fun W h => lay_any s.b s.k noS h hr.2
  have ch : Chn n (uOf L) (s.b : Int) (s.k : Int) false 0 (fil (uOf L) s.b s.k false) := .ok _ _ rfl rfl hr.1 hr.2 fun i hi => uOf_iff.2 ⟨s, hs, has_iff.2 (by omega)⟩
  have FR : Hid (∀ W, Tb W bt bm bp bs n (uOf L) (layF (fOf L) s.b s.k noS) → Calls Tryd.prog 72 #[.pointer (some ⟨bm, 0, none⟩), .int .i64 (s.b : Int), .int .i64 (s.k : Int)] W fun e w' => e = .returned (.int .i64 0) ∧ Tb w' bt bm bp bs n (fil (uOf L) s.b s.k false) (layF (fOf L) s.b s.k noS) ∧ Cha (· = bp) W w') :=
    Lib.hid fun W h => (free_any ch (by omega) h.pg).mono fun e w' ⟨he, hm, hc⟩ => ⟨he, ⟨(hc.old _ h.lt.1 h.ne.2.1).trans h.head, hm, hc.row h.sp h.ne.2.2.2.2, h.ne⟩, hc⟩
  have HEnd : Hid (∀ W, Tb W bt bm bp bs n (fil (uOf L) s.b s.k false) (layF (fOf L) s.b s.k noS) → Tl W bt bm bp bs n (del s.b L)) := Lib.hid fun W hT => ⟨h.1.del s.b, hT.congr (fun i _ => by rw [uOf_del h.1 hs]; rfl) (fun i _ => (fOf_del h.1 hs i).symm)⟩
  have H := Lib.hid h
  clear h hb hu hf hhas ch hs
  go_enter Tryd.func56, Tryd.ntmps56
  go_wp2_with (first
    | (go_at_call 71; ((with_reducible refine (C.out).mono ?_); rintro e w1 ⟨rfl, hc, _⟩; have HC := Lib.hid hc; have H1 := Lib.hid (H.out.2.same (hc.alloc (.cells #[.int .i64 (s.b : Int), .int .i64 (s.k : Int), .int .i64 s.t] 78))); have hsz := hc.size; unfold sv; clear hc))
    | (go_at_call 70; ((with_reducible refine (LY.out _ H1.out).mono ?_); rintro e w2 ⟨rfl, hm, hc⟩; have H2 := Lib.hid hm; have HD := Lib.hid hc; have HX := Lib.hid ((hc.old w1.heap.size (by rw [World.size_alloc]; omega) (by omega)).trans (heap_alloc_new w1 _)); clear hm hc)))
  have KY : Hid (∀ W', Cha (· = bp) w2.drew W' → W'.cell? ⟨bt, 0, none⟩ = some (.pointer (some ⟨bm, 0, none⟩)) ∧ W'.cell? ⟨w1.heap.size, 1, none⟩ = some (.int .i64 (s.k : Int))) := Lib.hid fun W' hc' =>
    have hc : Cha (· = bp) w2 W' := ((Cha.refl _ w2).drew).trans hc'
    ⟨cell_of_row W' bt 0 _ 101 (0, 0) ((hc.old _ H2.out.lt.1 hne.2.1).trans H2.out.head), cell_of_row W' _ 1 _ 78 (0, 0) ((hc.old _ (Array.getElem?_eq_some_iff.1 HX.out).1 (by omega)).trans HX.out)⟩
  obtain ⟨k1, k2⟩ := KY.out w2.drew (Cha.refl _ _)
  have H3 := Lib.hid (H2.out.same ((Cha.refl _ w2).drew))
  go_region_held3 (fun w' => w'.cell? ⟨bt, 0, none⟩ = some (.pointer (some ⟨bm, 0, none⟩)) ∧ w'.cell? ⟨w1.heap.size, 1, none⟩ = some (.int .i64 (s.k : Int)))
    (first
      | go_keep
      | exact ⟨k1, k2⟩
      | exact KY.out _ (by assumption))
    ((go_at_call 72; refine (FR.out w2.drew H3.out).mono ?_; rintro e5 w5 ⟨rfl, hH, hD⟩))
  all_goals
    have HH := Lib.hid hH
    have hDD : Cha (· = bp) w2 w5 := ((Cha.refl _ w2).drew).trans hD
    have HDD := Lib.hid hDD
    clear hH hD hDD
    go_wp2
    go_ret
    refine ⟨rfl, HEnd.out _ HH.out, ?_⟩
    exact ((HC.out.wide.alloc _).trans (HD.out.mono fun _ _ e => .inr e)).trans (HDD.out.mono fun _ _ e => .inl e)
end Go.Proofs.YtiboobaggpghjaaDoor
