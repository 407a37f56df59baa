/- The document's Same of layer 5; a table that a law itself has made; awake; SpanFixed. -/
import Derived.Test.YtgglcfmnhiakcaaSG
import Derived.Deep.QuietTactic
namespace Go.Proofs.Ytgglcfmnhiakcaa
open Go.ChangeShapes Go.WideShapes Go.ChangeAt Go.RowKit

theorem scs_get {s : Spn} : ∀ {l : List Spn} {i : Nat}, l[i]? = some s → (scs l)[i * 3]? = some (.int .i64 (s.b : Int)) ∧ (scs l)[i * 3 + 1]? = some (.int .i64 (s.k : Int)) ∧ (scs l)[i * 3 + 2]? = some (.int .i64 s.t)
  | [], i, h => by simp at h
  | y :: l, 0, h => by
    obtain rfl : y = s := by simpa using h
    exact ⟨rfl, rfl, rfl⟩
  | y :: l, i + 1, h => by
    obtain ⟨h1, h2, h3⟩ := scs_get (l := l) (i := i) (by simpa using h)
    have e : scs (y :: l) = .int .i64 (y.b : Int) :: .int .i64 (y.k : Int) :: .int .i64 y.t :: scs l := rfl
    rw [e, show (i + 1) * 3 = i * 3 + 1 + 1 + 1 by omega]
    simp only [List.getElem?_cons_succ]
    exact ⟨h1, h2, h3⟩
/-- A list of spans that can be read. -/
def Trips (W : World) (v : Value) (l : List Spn) : Prop :=
  ∃ a cap, v = .slice a l.length cap ∧ (0 < l.length → ∃ g, a = some ⟨g, 0, none⟩ ∧ ∀ i s, l[i]? = some s → W.cell? ⟨g, i * 3, none⟩ = some (.int .i64 (s.b : Int)) ∧ W.cell? ⟨g, i * 3 + 1, none⟩ = some (.int .i64 (s.k : Int)) ∧ W.cell? ⟨g, i * 3 + 2, none⟩ = some (.int .i64 s.t))
theorem trips_of_own {W : World} {B : Nat} {v : Value} {l : List Spn} (h : W.ownsRow B 66 3 v l.length (scs l)) : Trips W v l := by
  rcases h.2 with ⟨rfl, h0⟩ | ⟨g, cap, cur, rfl, hb, hg, _, _, _, ht⟩
  · exact ⟨none, 0, by rw [h0], fun h => by omega⟩
  · refine ⟨_, cap, rfl, fun _ => ⟨g, rfl, fun i s hs => ?_⟩⟩
    have hi : i < l.length := by
      by_cases c : i < l.length
      · exact c
      · rw [List.getElem?_eq_none (by omega)] at hs; cases hs
    have key : ∀ j, j < l.length * 3 → W.cell? ⟨g, j, none⟩ = (scs l)[j]? := fun j hj => by
      rw [cell_of_row W g j _ 66 (0, 0) hg, ← Array.getElem?_toList, ← ht, List.getElem?_take, if_pos hj]
    obtain ⟨h1, h2, h3⟩ := scs_get hs
    exact ⟨(key _ (by omega)).trans h1, (key _ (by omega)).trans h2, (key _ (by omega)).trans h3⟩
theorem trips_cha {W W' : World} {B : Nat} {v : Value} {l : List Spn} (h : W.ownsRow B 66 3 v l.length (scs l)) (c : Cha (fun _ => False) W W') : Trips W' v l := trips_of_own (owns_cha h c (fun _ _ x => x))

set_option maxHeartbeats 2000000 in
theorem same5_any {w : World} {v u : Value} {l : List Spn} (hlen : l.length ≤ 5000) (h1 : Trips w v l) (h2 : Trips w u l) : Calls Try.prog 36 #[v, u] w fun e w' => e = .returned (.bool true) ∧ Cha (fun _ => False) w w' := by
  obtain ⟨a, c, rfl, hz⟩ := h1
  obtain ⟨b, d, rfl, hy⟩ := h2
  have HZ := Lib.hid hz
  have HY := Lib.hid hy
  clear hz hy
  have HL : Hid (∀ i, i < l.length → ∃ s : Spn, l[i]? = some s) := Lib.hid fun i hi => ⟨l[i], List.getElem?_eq_getElem hi⟩
  generalize hn : l.length = n at *
  have HN := Lib.hid hn
  clear hn
  go_enter Try.func36, Try.ntmps36
  go_wp2
  go_loopw [5] (fun i wr => ∃ j k : Nat, j ≤ n ∧ i = .int .i64 (j : Int) ∧ wr = w.drewN k) (fun i _ => n - (intOf i).toNat)
  case atStart => exact ⟨0, 0, Nat.zero_le _, rfl, rfl⟩
  case round =>
    obtain ⟨j, k, hj, rfl, rfl⟩ := hrel
    by_cases hlt : j < n
    · obtain ⟨g, rfl, hg⟩ := HZ.out (by omega)
      obtain ⟨g', rfl, hg'⟩ := HY.out (by omega)
      obtain ⟨s, hs⟩ := HL.out j hlt
      obtain ⟨p1, p2, p3⟩ := hg j s hs
      obtain ⟨q1, q2, q3⟩ := hg' j s hs
      clear hg hg' hs
      go_wp2
      go_quiet (fail)
      go_wp2
      go_roundw
      case rel => exact ⟨j + 1, _, by omega, by go_num, rfl⟩
      case measure => simp [intOf]; omega
    · obtain rfl : j = n := by omega
      go_wp2
      go_ret
      exact ⟨rfl, (Cha.refl _ w).drewN k⟩

/-- A table that lies in blocks that were made since w. -/
structure Os (w W : World) (bt bm bp bs n : Nat) (L : List Spn) : Prop where
  tl : Tl W bt bm bp bs n L
  cha : Cha (fun _ => False) w W
  new : w.heap.size ≤ bp ∧ w.heap.size ≤ bs
variable {w W : World} {bt bm bp bs n : Nat} {L L' : List Spn}
theorem Os.same {W' : World} (h : Os w W bt bm bp bs n L) (c : Cha (fun _ => False) W W') : Os w W' bt bm bp bs n L := ⟨⟨h.tl.1, h.tl.2.same c⟩, h.cha.trans c, h.new⟩
theorem Os.turn {W' : World} (h : Os w W bt bm bp bs n L) (m : Tl W' bt bm bp bs n L') (c : Cha (fun i => i = bp ∨ i = bs) W W') : Os w W' bt bm bp bs n L' := ⟨m, h.cha.over c fun i hi => .inr (by have := h.new; omega), h.new⟩
theorem os_new (n : Nat) (h0 : Cha (fun _ => False) w W) (h1 : 1 ≤ n) (h2 : n ≤ 4096) : Calls Try.prog 25 #[.int .i64 (n : Int)] W fun e W' => ∃ bt bm bp bs, e = .returned (.tuple #[.pointer (some ⟨bt, 0, none⟩), .int .i64 0]) ∧ Os w W' bt bm bp bs n [] :=
  (new5_ok n W h1 h2).mono fun e W' ⟨he, hm⟩ => ⟨_, _, _, _, he, hm.tl, h0.trans hm.cha, by have := h0.size; omega, by have := h0.size; omega⟩
theorem os_alloc {k tag r : Int} {s : Spn} (c : Alc5 n L k tag s r L') (hk2 : k ≤ 9223372036854775807) (h : Os w W bt bm bp bs n L) : Calls Try.prog 28 #[.pointer (some ⟨bt, 0, none⟩), .int .i64 k, .int .i64 tag] W fun e W' => e = .returned (.tuple #[sv s, .int .i64 r]) ∧ Os w W' bt bm bp bs n L' :=
  (alloc5_any c hk2 h.tl).mono fun _ _ ⟨he, hm, hc⟩ => ⟨he, h.turn hm hc⟩
theorem os_find {s : Spn} {b : Bool} (x : Int) (e : atP L n x = (s, b)) (h : Os w W bt bm bp bs n L) : Calls Try.prog 32 #[.pointer (some ⟨bt, 0, none⟩), .int .i64 x] W fun e W' => e = .returned (.tuple #[sv s, .bool b]) ∧ Cha (fun _ => False) W W' :=
  (find_any x h.tl).mono fun _ _ ⟨he, hc, _⟩ => ⟨by rw [he, e], hc⟩
theorem os_free_no (x : Int) (e : begP L n x = (noS, false)) (h : Os w W bt bm bp bs n L) : Calls Try.prog 30 #[.pointer (some ⟨bt, 0, none⟩), .int .i64 x] W fun e W' => e = .returned (.int .i64 4) ∧ Os w W' bt bm bp bs n L :=
  (free5_no x e h.tl).mono fun _ _ ⟨he, hc⟩ => ⟨he, h.same hc⟩
theorem os_free_ok (s : Spn) (hs : s ∈ L) (h : Os w W bt bm bp bs n L) : Calls Try.prog 30 #[.pointer (some ⟨bt, 0, none⟩), .int .i64 (s.b : Int)] W fun e W' => e = .returned (.int .i64 0) ∧ Os w W' bt bm bp bs n (del s.b L) :=
  (free5_ok s hs h.tl).mono fun _ _ ⟨he, hm, hc⟩ => ⟨he, h.turn hm hc⟩

def s1 : Spn := ⟨0, 3, 7⟩
def s2 : Spn := ⟨3, 1, 9⟩
theorem g1 : Good 8 [s1] := ⟨by decide, by decide⟩
theorem g2 : Good 8 [s1, s2] := ⟨by decide, by decide⟩
theorem c1 : Alc5 8 [] 3 7 s1 0 [s1] := .ok 0 3 rfl (by omega) (.ok (0, 8) (by omega) (by decide +kernel)) g1
theorem c2 : Alc5 8 [s1] 1 9 s2 0 [s1, s2] := .ok 3 1 rfl (by omega) (.ok (3, 5) (by omega) (by decide +kernel)) g2
theorem c3 : Alc5 8 [s1, s2] 5 1 noS 3 [s1, s2] := .no 3 (.inr rfl) (.full (by omega) (by decide +kernel))
theorem d1 : del s1.b [s1, s2] = [s2] := by decide

set_option maxRecDepth 100000 in
set_option maxHeartbeats 4000000 in
theorem awake5_any (w : World) : Calls Try.prog 27 #[] w fun e w' => e = .returned (.bool true) ∧ Cha (fun _ => False) w w' := by
  have A25 : Hid (Calls Try.prog 25 #[.int .i64 8] w fun e W' => ∃ bt bm bp bs, e = .returned (.tuple #[.pointer (some ⟨bt, 0, none⟩), .int .i64 0]) ∧ Os w W' bt bm bp bs 8 []) := Lib.hid (os_new 8 (Cha.refl _ w) (by omega) (by omega))
  have A28 : Hid (∀ (W : World) (bt bm bp bs : Nat), Os w W bt bm bp bs 8 [] → Calls Try.prog 28 #[.pointer (some ⟨bt, 0, none⟩), .int .i64 3, .int .i64 7] W fun e W' => e = .returned (.tuple #[.agg #[.int .i64 0, .int .i64 3, .int .i64 7], .int .i64 0]) ∧ Os w W' bt bm bp bs 8 [s1]) := Lib.hid fun W bt bm bp bs h => os_alloc c1 (by omega) h
  have A32 : Hid (∀ (W : World) (bt bm bp bs : Nat), Os w W bt bm bp bs 8 [s1] → Calls Try.prog 32 #[.pointer (some ⟨bt, 0, none⟩), .int .i64 2] W fun e W' => e = .returned (.tuple #[.agg #[.int .i64 0, .int .i64 3, .int .i64 7], .bool true]) ∧ Cha (fun _ => False) W W') := Lib.hid fun W bt bm bp bs h => os_find (s := s1) (b := true) 2 (by decide +kernel) h
  have A30 : Hid (∀ (W : World) (bt bm bp bs : Nat), Os w W bt bm bp bs 8 [s1] → Calls Try.prog 30 #[.pointer (some ⟨bt, 0, none⟩), .int .i64 1] W fun e W' => e = .returned (.int .i64 4) ∧ Os w W' bt bm bp bs 8 [s1]) := Lib.hid fun W bt bm bp bs h => os_free_no 1 (by decide +kernel) h
  have B30 : Hid (∀ (W : World) (bt bm bp bs : Nat), Os w W bt bm bp bs 8 [s1] → Calls Try.prog 30 #[.pointer (some ⟨bt, 0, none⟩), .int .i64 0] W fun e W' => e = .returned (.int .i64 0) ∧ Os w W' bt bm bp bs 8 (del 0 [s1])) := Lib.hid fun W bt bm bp bs h => os_free_ok s1 (by decide) h
  go_enter Try.func27, Try.ntmps27
  go_wp2_with (first
    | (go_at_call 25; ((with_reducible refine (A25.out).mono ?_); rintro e w1 ⟨bt, bm, bp, bs, rfl, h⟩; have H1 := Lib.hid h; clear h))
    | (go_at_call 28; ((with_reducible refine (A28.out _ _ _ _ _ H1.out).mono ?_); rintro e w2 ⟨rfl, h⟩; have H2 := Lib.hid (h.same ((Cha.refl _ _).alloc (.cells #[.int .i64 0, .int .i64 3, .int .i64 7] 66))); have HX := Lib.hid (heap_alloc_new w2 (.cells #[.int .i64 0, .int .i64 3, .int .i64 7] 66)); clear h))
    | (go_at_call 32; ((with_reducible refine (A32.out _ _ _ _ _ H2.out).mono ?_); rintro e w3 ⟨rfl, hc⟩; have H3 := Lib.hid (H2.out.same (hc.alloc (.cells #[.int .i64 0, .int .i64 3, .int .i64 7] 66))); have HX3 := Lib.hid ((hc.old _ (by rw [World.size_alloc]; omega) (fun x => x)).trans HX.out); have hs3 := hc.size; rw [World.size_alloc] at hs3; have hlt3 : w2.heap.size < w3.heap.size := (by omega); have y0 := cell_of_row w3 w2.heap.size 0 _ 66 (0, 0) HX3.out; have y1 := cell_of_row w3 w2.heap.size 1 _ 66 (0, 0) HX3.out; have y2 := cell_of_row w3 w2.heap.size 2 _ 66 (0, 0) HX3.out; simp only [List.getElem?_toArray, List.getElem?_cons_zero, List.getElem?_cons_succ] at y0 y1 y2; clear hc))
    | (go_at_call 30; ((with_reducible refine (A30.out _ _ _ _ _ H3.out).mono ?_); rintro e w4 ⟨rfl, h⟩; have H4 := Lib.hid h; clear h))
    | (go_at_call 30; ((with_reducible refine (B30.out _ _ _ _ _ H4.out).mono ?_); rintro e w5 ⟨rfl, h⟩; have H5 := Lib.hid h; clear h)))
  go_ret
  exact ⟨rfl, H5.out.cha⟩
end Go.Proofs.Ytgglcfmnhiakcaa
