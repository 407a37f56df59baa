/- Layer 5's Find, beginning, Counts, New. -/
import Derived.Test.YtiboobaggpghjaaDoorSB
namespace Go.Proofs.YtiboobaggpghjaaDoor
open Go.ChangeShapes Go.WideShapes Go.ChangeAt Go.RowKit
variable {w : World} {bt bm bp bs n : Nat} {us : Nat → Bool} {f : Nat → Spn}

theorem sv_no : sv noS = .agg #[.int .i64 0, .int .i64 0, .int .i64 0] := rfl
/-- A struct and a bool are handed back, and blocks are made. -/
def Gives (w : World) (s : Spn) (b : Bool) (e : Ending) (w' : World) : Prop := e = .returned (.tuple #[sv s, .bool b]) ∧ Cha (fun _ => False) w w' ∧ w'.tape = w.tape
set_option maxRecDepth 100000 in
set_option maxHeartbeats 2000000 in
theorem find_out (x : Int) (h : Tb w bt bm bp bs n us f) (hx : x < 0 ∨ (n : Int) ≤ x) : Calls Tryd.prog 46 #[.pointer (some ⟨bt, 0, none⟩), .int .i64 x] w (Gives w noS false) := by
  have hp := h.ptr1
  have hl := h.pg.le
  have hlt := h.lt
  have HC := Lib.hid (((Cha.refl (fun _ => False) w).alloc (.cells #[.int .i64 0, .int .i64 0, .int .i64 0] 78)))
  clear h
  rcases hx with hx | hx
  · go_enter Tryd.func46, Tryd.ntmps46
    go_wp2
    exact bodyPost_ret (v := .tuple #[.agg #[.int .i64 0, .int .i64 0, .int .i64 0], .bool false]) (by simp [results, Tryd.f46, go_sem]) rfl ⟨rfl, HC.out, rfl⟩
  · have h0 : 0 ≤ x := by omega
    go_enter Tryd.func46, Tryd.ntmps46
    go_wp2
    exact bodyPost_ret (v := .tuple #[.agg #[.int .i64 0, .int .i64 0, .int .i64 0], .bool false]) (by simp [results, Tryd.f46, go_sem]) rfl ⟨rfl, HC.out, rfl⟩
set_option maxRecDepth 100000 in
set_option maxHeartbeats 2000000 in
theorem find_no (x : Nat) (h : Tb w bt bm bp bs n us f) (hx : x < n) (hf : f x = noS) : Calls Tryd.prog 46 #[.pointer (some ⟨bt, 0, none⟩), .int .i64 (x : Int)] w (Gives w noS false) := by
  have hp := h.ptr1
  have hl := h.pg.le
  have hlt := h.lt
  have p0 := h.s0 hx
  have p1 := h.s1 hx
  have p2 := h.s2 hx
  rw [hf] at p0 p1 p2
  have q0 : w.cell? ⟨bs, x * 3, none⟩ = some (.int .i64 0) := p0
  have q1 : w.cell? ⟨bs, x * 3 + 1, none⟩ = some (.int .i64 0) := p1
  have q2 : w.cell? ⟨bs, x * 3 + 2, none⟩ = some (.int .i64 0) := p2
  clear p0 p1 p2
  have HC := Lib.hid ((((Cha.refl (fun _ => False) w).alloc (.cells #[.int .i64 0, .int .i64 0, .int .i64 0] 78)).alloc (.cells #[.int .i64 0, .int .i64 0, .int .i64 0] 78)).drew)
  clear h hf
  go_enter Tryd.func46, Tryd.ntmps46
  go_wp2
  go_region
  go_wp2
  exact bodyPost_ret (v := .tuple #[.agg #[.int .i64 0, .int .i64 0, .int .i64 0], .bool false]) (by simp [results, Tryd.f46, go_sem]) rfl ⟨rfl, HC.out, rfl⟩
set_option maxRecDepth 100000 in
set_option maxHeartbeats 2000000 in
theorem find_yes (x : Nat) (s : Spn) (h : Tb w bt bm bp bs n us f) (hx : x < n) (hf : f x = s) (hk : 1 ≤ s.k) : Calls Tryd.prog 46 #[.pointer (some ⟨bt, 0, none⟩), .int .i64 (x : Int)] w (Gives w s true) := by
  have hp := h.ptr1
  have hl := h.pg.le
  have hlt := h.lt
  have q0 := h.s0 hx
  have q1 := h.s1 hx
  have q2 := h.s2 hx
  rw [hf] at q0 q1 q2
  have hk0 : ((s.k : Int) == 0) = false := by rw [beq_eq_false_iff_ne]; omega
  have HC := Lib.hid ((((Cha.refl (fun _ => False) w).alloc (.cells #[.int .i64 (s.b : Int), .int .i64 (s.k : Int), .int .i64 s.t] 78)).alloc (.cells #[.int .i64 (s.b : Int), .int .i64 (s.k : Int), .int .i64 s.t] 78)).drew)
  clear h hf
  go_enter Tryd.func46, Tryd.ntmps46
  go_wp2
  go_region
  go_wp2
  exact bodyPost_ret (v := .tuple #[sv s, .bool true]) (by simp [results, Tryd.f46, go_sem, sv]) rfl ⟨rfl, HC.out, rfl⟩
theorem counts5 (h : Tb w bt bm bp bs n us f) : Calls Tryd.prog 48 #[.pointer (some ⟨bt, 0, none⟩)] w fun e W' => e = .returned (.tuple #[.int .i64 (cntF (isU us n) n : Nat), .int .i64 (mxL (rows us n) : Nat)]) ∧ Cha (fun _ => False) w W' := by
  have C := Lib.hid (counts_any bm bp n us w h.pg)
  have hp := h.ptr0
  clear h
  go_enter Tryd.func48, Tryd.ntmps48
  go_wp2_with (go_at_call 64; ((with_reducible refine (C.out).mono ?_); rintro e w1 ⟨rfl, hc⟩; have HC := Lib.hid hc; clear hc))
  go_ret2
  exact ⟨rfl, HC.out⟩
set_option maxRecDepth 100000 in
set_option maxHeartbeats 2000000 in
theorem beg_yes (x : Nat) (s : Spn) (h : Tb w bt bm bp bs n us f) (hx : x < n) (hf : f x = s) (hk : 1 ≤ s.k) (hb : s.b = x) : Calls Tryd.prog 71 #[.pointer (some ⟨bt, 0, none⟩), .int .i64 (x : Int)] w (Gives w s true) := by
  have hc0 : Cha (fun _ => False) w (w.alloc (.cells #[.int .i64 0, .int .i64 0, .int .i64 0] 78)) := (Cha.refl _ w).alloc _
  have C := Lib.hid (find_yes x s (h.same hc0) hx hf hk)
  have HC := Lib.hid hc0
  have HA : Hid ((w.alloc (.cells #[.int .i64 0, .int .i64 0, .int .i64 0] 78)).heap[w.heap.size]? = some (.cells #[.int .i64 0, .int .i64 0, .int .i64 0] 78)) := Lib.hid (heap_alloc_new w _)
  clear h hf hc0
  subst hb
  go_enter Tryd.func71, Tryd.ntmps71
  go_wp2_with (go_at_call 46; ((with_reducible refine (C.out).mono ?_); rintro e w1 ⟨rfl, hc, htp⟩; have HTP := Lib.hid htp; clear htp; have HD := Lib.hid (HC.out.trans hc); have HB := Lib.hid ((hc.old _ (by rw [World.size_alloc]; omega) (fun x => x)).trans HA.out); have hsz := hc.size; have z0 := cell_of_row w1 w.heap.size 0 _ 78 (0, 0) HB.out; have z1 := cell_of_row w1 w.heap.size 1 _ 78 (0, 0) HB.out; have z2 := cell_of_row w1 w.heap.size 2 _ 78 (0, 0) HB.out; have f0 := frozen_of_row w1 w.heap.size 0 _ 78 HB.out; have f1 := frozen_of_row w1 w.heap.size 1 _ 78 HB.out; have f2 := frozen_of_row w1 w.heap.size 2 _ 78 HB.out; rw [World.size_alloc] at hsz; have hlt1 : w.heap.size < w1.heap.size := (by omega); have hne : ¬ w1.heap.size = w.heap.size := (by omega); simp only [List.getElem?_toArray, List.getElem?_cons_zero, List.getElem?_cons_succ] at z0 z1 z2; unfold sv; clear hc))
  refine bodyPost_ret (v := .tuple #[sv s, .bool true]) (by simp [results, Tryd.f71, go_sem, hlt1, z0, z1, z2, sv]) rfl ⟨rfl, ?_, HTP.out⟩
  exact (((HD.out.setCell (p := ⟨w.heap.size, 0, none⟩) (fun h => absurd h (Nat.lt_irrefl _)) _).setCell (p := ⟨w.heap.size, 1, none⟩) (fun h => absurd h (Nat.lt_irrefl _)) _).setCell (p := ⟨w.heap.size, 2, none⟩) (fun h => absurd h (Nat.lt_irrefl _)) _).alloc _
set_option maxRecDepth 100000 in
set_option maxHeartbeats 2000000 in
/-- beginning, where Find's answer is known. -/
theorem beg_no (x : Int) (s : Spn) (b : Bool) (C : ∀ w, Tb w bt bm bp bs n us f → Calls Tryd.prog 46 #[.pointer (some ⟨bt, 0, none⟩), .int .i64 x] w (Gives w s b)) (hb : b = false ∨ (s.b : Int) ≠ x) (h : Tb w bt bm bp bs n us f) : Calls Tryd.prog 71 #[.pointer (some ⟨bt, 0, none⟩), .int .i64 x] w (Gives w noS false) := by
  have hc0 : Cha (fun _ => False) w (w.alloc (.cells #[.int .i64 0, .int .i64 0, .int .i64 0] 78)) := (Cha.refl _ w).alloc _
  have C := Lib.hid (C _ (h.same hc0))
  have HC := Lib.hid hc0
  have HA : Hid ((w.alloc (.cells #[.int .i64 0, .int .i64 0, .int .i64 0] 78)).heap[w.heap.size]? = some (.cells #[.int .i64 0, .int .i64 0, .int .i64 0] 78)) := Lib.hid (heap_alloc_new w _)
  have hd : b = false ∨ b = true ∧ ((s.b : Int) != x) = true := by
    cases hbb : b
    · exact .inl rfl
    · rcases hb with hb | hb
      · rw [hb] at hbb; cases hbb
      · exact .inr ⟨rfl, by simpa using hb⟩
  clear h hc0 hb
  rcases hd with rfl | ⟨rfl, hd⟩
  all_goals
    go_enter Tryd.func71, Tryd.ntmps71
    go_wp2_with (go_at_call 46; ((with_reducible refine (C.out).mono ?_); rintro e w1 ⟨rfl, hc, htp⟩; have HTP := Lib.hid htp; clear htp; have HD := Lib.hid (HC.out.trans hc); have HB := Lib.hid ((hc.old _ (by rw [World.size_alloc]; omega) (fun x => x)).trans HA.out); have hsz := hc.size; have z0 := cell_of_row w1 w.heap.size 0 _ 78 (0, 0) HB.out; have z1 := cell_of_row w1 w.heap.size 1 _ 78 (0, 0) HB.out; have z2 := cell_of_row w1 w.heap.size 2 _ 78 (0, 0) HB.out; have f0 := frozen_of_row w1 w.heap.size 0 _ 78 HB.out; have f1 := frozen_of_row w1 w.heap.size 1 _ 78 HB.out; have f2 := frozen_of_row w1 w.heap.size 2 _ 78 HB.out; rw [World.size_alloc] at hsz; have hlt1 : w.heap.size < w1.heap.size := (by omega); have hne : ¬ w1.heap.size = w.heap.size := (by omega); simp only [List.getElem?_toArray, List.getElem?_cons_zero, List.getElem?_cons_succ] at z0 z1 z2; unfold sv; clear hc))
    refine bodyPost_ret (v := .tuple #[.agg #[.int .i64 0, .int .i64 0, .int .i64 0], .bool false]) (by simp [results, Tryd.f71, go_sem, hlt1, z0, z1, z2]) rfl ⟨rfl, ?_, HTP.out⟩
    exact (((HD.out.setCell (p := ⟨w.heap.size, 0, none⟩) (fun h => absurd h (Nat.lt_irrefl _)) _).setCell (p := ⟨w.heap.size, 1, none⟩) (fun h => absurd h (Nat.lt_irrefl _)) _).setCell (p := ⟨w.heap.size, 2, none⟩) (fun h => absurd h (Nat.lt_irrefl _)) _).alloc _

/-! ### By the list of spans -/
/-- A table with these spans. -/
def Tl (W : World) (bt bm bp bs n : Nat) (L : List Spn) : Prop := Good n L ∧ Tb W bt bm bp bs n (uOf L) (fOf L)
variable {L : List Spn}
/-- What Find answers. -/
def atP (L : List Spn) (n : Nat) (x : Int) : Spn × Bool := if 0 ≤ x ∧ x < n ∧ uOf L x.toNat = true then (fOf L x.toNat, true) else (noS, false)
theorem find_any (x : Int) (h : Tl w bt bm bp bs n L) : Calls Tryd.prog 46 #[.pointer (some ⟨bt, 0, none⟩), .int .i64 x] w (Gives w (atP L n x).1 (atP L n x).2) := by
  unfold atP
  by_cases c : x < 0 ∨ (n : Int) ≤ x
  · rw [if_neg (by omega)]; exact find_out x h.2 c
  · obtain ⟨x, rfl⟩ : ∃ x' : Nat, x = (x' : Int) := ⟨x.toNat, by omega⟩
    rw [Int.toNat_natCast]
    cases hu : uOf L x
    · rw [if_neg (fun c => by cases c.2.2)]; exact find_no x h.2 (by omega) (fOf_no hu)
    · rw [if_pos ⟨by omega, by omega, rfl⟩]; exact find_yes x _ h.2 (by omega) rfl (h.1.rng _ (fOf_mem hu).1).1
/-- What beginning answers. -/
def begP (L : List Spn) (n : Nat) (x : Int) : Spn × Bool := if 0 ≤ x ∧ x < n ∧ uOf L x.toNat = true ∧ (fOf L x.toNat).b = x.toNat then (fOf L x.toNat, true) else (noS, false)
theorem beg_any (x : Int) (h : Tl w bt bm bp bs n L) : Calls Tryd.prog 71 #[.pointer (some ⟨bt, 0, none⟩), .int .i64 x] w (Gives w (begP L n x).1 (begP L n x).2) := by
  unfold begP
  split
  · rename_i c
    obtain ⟨x, rfl⟩ : ∃ x' : Nat, x = (x' : Int) := ⟨x.toNat, by omega⟩
    rw [Int.toNat_natCast] at c ⊢
    exact beg_yes x _ h.2 (by omega) rfl (h.1.rng _ (fOf_mem c.2.2.1).1).1 c.2.2.2
  · rename_i c
    refine beg_no x _ _ (fun w' h' => find_any x (show Tl w' bt bm bp bs n L from ⟨h.1, h'⟩)) ?_ h.2
    unfold atP
    split
    · rename_i d
      right
      intro e
      have e : ((fOf L x.toNat).b : Int) = x := e
      exact c ⟨d.1, d.2.1, d.2.2, by omega⟩
    · exact .inl rfl
end Go.Proofs.YtiboobaggpghjaaDoor
