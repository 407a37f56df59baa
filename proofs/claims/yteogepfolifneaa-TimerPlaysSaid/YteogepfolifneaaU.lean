/- The document's queues: New, Put. -/
import Derived.Test.YteogepfolifneaaT
namespace Go.Proofs.Yteogepfolifneaa
open Go.ChangeShapes Go.WideShapes Go.ChangeAt Go.RowKit
variable {w w' W : World} {U U' T : Nat → Prop} {br bl bn on cn : Nat} {lv : Nat → Value} {va v : Value} {S : List Prc} {A N L : List Int} {x y : Int}

set_option maxRecDepth 100000 in
theorem slice_from (g o n cap k : Nat) (h1 : k ≤ n) (w : World) : (Instr.slice 43 (.slice (some ⟨g, o, none⟩) n cap) (some (.int .i64 (k : Int))) none none).run Try.prog w = .ok (.slice (some ⟨g, if cap = k then o else o + k, none⟩) (n - k) (cap - k)) w := by
  have := run_slice_l (P := Try.prog) w 43 (some ⟨g, o, none⟩) n cap Try.underlying43 .i64 (k : Int) (by omega) (by omega)
  rw [this]
  have e : (Option.map (fun x => x.add (Int.toNat (k : Int) * 1)) (some (⟨g, o, none⟩ : Addr))) = some ⟨g, o + k, none⟩ := by
    rw [Int.toNat_natCast, Nat.mul_one]
    show some ((⟨g, o, none⟩ : Addr).add k) = _
    unfold Addr.add
    split <;> simp_all
  have e2 : sliced (some ⟨g, o, none⟩) (Int.toNat (k : Int)) n cap 1 = .slice (some ⟨g, if cap = k then o else o + k, none⟩) (n - k) (cap - k) := by
    unfold sliced
    rw [e, Int.toNat_natCast]
    show Value.slice (if cap = k then _ else _) (n - k) (cap - k) = _
    split <;> rfl
  rw [← e2]
  rfl
theorem Lies.drop {g o n cap k : Nat} (h : Lies w (.slice (some ⟨g, o, none⟩) n cap) A) (hk : k ≤ A.length) : Lies w (.slice (some ⟨g, if cap = k then o else o + k, none⟩) (n - k) (cap - k)) (A.drop k) := by
  rcases h with ⟨_, h⟩ | ⟨g', o', cap', cur, e, h1, h2, h3, h4, h5⟩
  · cases h
  · cases e
    refine .inr ⟨g, _, cap - k, cur, by rw [List.length_drop], by rw [List.length_drop]; omega, by omega, h3, by split <;> omega, fun i hi => ?_⟩
    rw [List.length_drop] at hi
    have := h5 (k + i) (by omega)
    rw [if_neg (by omega), show o + k + i = o + (k + i) by omega, this]
    simp [List.getD]

theorem info43 : (Try.prog.info? 43).map (fun i => (i.zero, i.size, i.bytes)) = some (some (.slice none 0 0), 1, 24) := by kernel_rfl
theorem made_lists (m : Nat) : madeCells (Value.slice none 0 0).cells (m * 1) = fcells m (fun _ => .slice none 0 0) := by
  rw [Nat.mul_one]
  unfold madeCells fcells
  congr 1
  funext x
  show (#[Value.slice none 0 0])[x % 1]! = _
  rw [Nat.mod_one]
  rfl
theorem mk_lists (m : Nat) (hm : m ≤ 1000000) (W : World) : (Instr.makeSlice 79 (.int .i64 (m : Int)) (.int .i64 (m : Int))).run Try.prog W = .ok (.slice (some ⟨W.heap.size, 0, none⟩) m m) (W.alloc (.cells (fcells m (fun _ => .slice none 0 0)) 43)) := by
  obtain ⟨i, hi, hz, hs, hb⟩ := info_parts info43
  have h := run_make (P := Try.prog) W 79 43 i _ Try.underlying79 hi hz .i64 .i64 (m : Int) (m : Int) (by omega) (by omega) (by rw [hb]; omega) (by omega)
  rw [hs, Int.toNat_natCast, made_lists] at h
  exact h
theorem rnew_bad (n : Int) (w : World) (h : n < 1 ∨ 8 < n) : Calls Try.prog 13 #[.int .i64 n] w fun e w' => e = .returned (.tuple #[.pointer none, .int .i64 1]) ∧ w = w' := by
  by_cases h1 : n < 1
  · go_enter Try.func13, Try.ntmps13
    go_wp2
    go_ret2
    exact ⟨rfl, rfl⟩
  · have h2 : 8 < n := by omega
    clear h
    go_enter Try.func13, Try.ntmps13
    go_wp2
    go_ret2
    exact ⟨rfl, rfl⟩
/-- The document's queues that are just being made. -/
structure Half (n j : Nat) (w w' : World) (vn : Value) : Prop where
  head : w'.heap[w.heap.size + 1]? = some (.cells #[vn, .slice (some ⟨w.heap.size, 0, none⟩) n n, .slice none 0 0] 81 (0, 0))
  loc : FRow 43 w' w.heap.size n (fun _ => .slice none 0 0)
  next : Lies w' vn (List.replicate j (-1))
  own : ∀ g, vn.ownBlock = some g → w.heap.size + 2 ≤ g
  cha : Cha (fun _ => False) w w'
/-- The document's queues, just made. -/
def RFresh (n : Nat) (w w' : World) : Prop := ∃ bn on cn lv, Rq w' (fun _ => False) (w.heap.size + 1) w.heap.size bn on cn lv (.slice none 0 0) (List.replicate n (-1, [])) [] ∧ Cha (fun _ => False) w w' ∧ w.heap.size ≤ bn
set_option maxRecDepth 100000 in
theorem rnew_ok (n : Nat) (w : World) (h1 : 1 ≤ n) (h2 : n ≤ 8) : Calls Try.prog 13 #[.int .i64 (n : Int)] w fun e w' => e = .returned (.tuple #[.pointer (some ⟨w.heap.size + 1, 0, none⟩), .int .i64 0]) ∧ RFresh n w w' := by
  have hmk := mk_lists n (by omega)
  have I0 : Hid (Half n 0 w ((w.alloc (.cells (fcells n (fun _ => .slice none 0 0)) 43)).alloc (.cells #[.slice none 0 0, .slice (some ⟨w.heap.size, 0, none⟩) n n, .slice none 0 0] 81)) (.slice none 0 0)) := Lib.hid ⟨heap_alloc2_new w _ _, heap_alloc2_old w _ _, Lies.nil _, (fun g hg => by cases hg), ((Cha.refl _ w).alloc _).alloc _⟩
  obtain ⟨c, hc⟩ : ∃ c, c = fcells n (fun _ => .slice none 0 0) := ⟨_, rfl⟩
  rw [← hc] at I0 hmk
  clear hc
  go_enter Try.func13, Try.ntmps13
  go_wp2
  go_loopw [5] (fun i wr => ∃ (j : Nat) (vn : Value), j ≤ n ∧ i = .int .i64 (j : Int) ∧ Half n j w wr vn) (fun i _ => n - (intOf i).toNat)
  case atStart => exact ⟨0, _, Nat.zero_le _, rfl, I0.out⟩
  case round =>
    clear I0
    obtain ⟨j, vn, hj, rfl, hH⟩ := hrel
    obtain ⟨a1, cap1, rfl, _⟩ := hH.next.form
    simp only [List.length_replicate] at hH
    have c0 := cell_of_row wr _ 0 _ 81 (0, 0) hH.head
    have z0 := frozen_of_row wr (w.heap.size + 1) 0 _ 81 hH.head
    have H := Lib.hid hH
    have hsz : w.heap.size + 1 < wr.heap.size := (Array.getElem?_eq_some_iff.1 hH.head).1
    by_cases hlt : j < n
    · have KX : Hid (∀ W', Cha (fun i => w.heap.size + 2 ≤ i) wr W' → W'.heap[w.heap.size + 1]? = wr.heap[w.heap.size + 1]?) := Lib.hid fun W' hc => hc.old _ hsz (by omega)
      clear hH
      go_wp2_with (refine wpList_app rfl (.tmp 25) (.tmp 26) rfl (v := .slice a1 j cap1) (A := List.replicate j (-1)) rfl (H.out.next.cha ((Cha.refl (fun _ => False) wr).alloc _) (fun _ _ f => f)) ⟨wr.heap.size, 0, none⟩ 1 1 [-1] rfl rfl (one_new _ _ _) Nat.zero_lt_one (by simp only [List.length_singleton, List.length_replicate]; omega) ?_; intro g3 o3 cap3 w3 hA3; simp only [List.length_replicate] at hA3 ⊢; have e3 := (KX.out w3 (((Cha.refl _ wr).alloc _).trans (hA3.cha.mono fun i _ e => H.out.own i e))).trans H.out.head; have c3 := cell_of_row w3 _ 0 _ 81 (0, 0) e3; have z3 := frozen_of_row w3 (w.heap.size + 1) 0 _ 81 e3; have E3 := Lib.hid e3; have A3 := Lib.hid hA3; clear hA3 e3)
      have ch : Cha (fun i => w.heap.size + 2 ≤ i) wr w3 := ((Cha.refl _ wr).alloc _).trans (A3.out.cha.mono fun i _ e => H.out.own i e)
      have HN : Hid (Half n (j + 1) w (w3.setCell ⟨w.heap.size + 1, 0, none⟩ (.slice (some ⟨g3, o3, none⟩) (j + 1) cap3)) (.slice (some ⟨g3, o3, none⟩) (j + 1) cap3)) := Lib.hid (by
        have hg : w.heap.size + 2 ≤ g3 := by
          rcases A3.out.at' with e | e
          · exact H.out.own _ e
          · rw [World.size_alloc] at e; omega
        have cs : Cha (fun i => i = w.heap.size + 1) w3 (w3.setCell ⟨w.heap.size + 1, 0, none⟩ (.slice (some ⟨g3, o3, none⟩) (j + 1) cap3)) := (Cha.refl (fun i => i = w.heap.size + 1) w3).setCell (p := ⟨w.heap.size + 1, 0, none⟩) (fun _ => rfl) _
        have hl := A3.out.lies
        rw [List.length_replicate, ← List.replicate_succ'] at hl
        exact ⟨heap_setCell_same w3 _ 0 _ 81 _ E3.out, cs.row (ch.row H.out.loc (by omega)) (by omega), hl.cha cs (fun g hg2 e => by cases hg2; have e : g3 = w.heap.size + 1 := e; omega), fun g hg2 => by cases hg2; exact hg, (H.out.cha.over ch (fun i e => .inr (by omega))).over cs (fun i e => .inr (by have e : i = w.heap.size + 1 := e; omega))⟩)
      clear ch
      go_wp2
      go_roundw
      case rel => exact ⟨j + 1, _, by omega, by go_num, HN.out⟩
      case measure => simp [intOf]; omega
    · obtain rfl : j = n := by omega
      clear hH
      go_wp2
      go_ret2
      obtain ⟨bn, on, cap, e, _⟩ := H.out.next.at (i := 0) (by rw [List.length_replicate]; omega)
      rw [List.length_replicate] at e
      cases e
      have ho := H.out.own bn rfl
      refine ⟨rfl, bn, on, cap1, fun _ => .slice none 0 0, ⟨by rw [List.length_replicate]; exact H.out.head, by simpa using h1, by simpa using h2, ?_, by rw [List.length_replicate]; exact H.out.loc, fun p x hx => ?_, Lies.nil _, (fun g hg => by cases hg), by omega, by omega, by omega, (fun f => f), (fun f => f), (fun f => f), (fun i f => f.elim)⟩, H.out.cha, by omega⟩
      · rw [List.length_replicate, List.map_replicate]; exact H.out.next
      · rw [List.getElem?_replicate] at hx
        split at hx
        · obtain rfl := Option.some.inj hx
          exact ⟨Lies.nil _, fun g hg => by cases hg⟩
        · cases hx

theorem rput_bad (p g : Int) (h : Rq w U br bl bn on cn lv va S A) (hp : p < 0 ∨ (S.length : Int) ≤ p ∨ g < 0) :
    Calls Try.prog 16 #[.pointer (some ⟨br, 0, none⟩), .int .i64 p, .int .i64 g] w fun e w' => e = .returned (.int .i64 1) ∧ w = w' := by
  have C := Lib.hid (bad_yes p g h hp)
  clear h hp
  go_enter Try.func16, Try.ntmps16
  go_wp2_with (go_at_call 40; ((with_reducible refine (C.out).mono ?_); rintro e w1 ⟨rfl, rfl⟩))
  go_ret
  exact ⟨rfl, rfl⟩
/-- Cells that stay wherever only new memory is made. -/
theorem Rq.stay (h : Rq w U br bl bn on cn lv va S A) (c : Cha (fun _ => False) w w') (p : Nat) (x : Prc) (hp : S[p]? = some x) :
    w'.cell? ⟨br, 0, none⟩ = some (.slice (some ⟨bn, on, none⟩) S.length cn) ∧ w'.cell? ⟨br, 1, none⟩ = some (.slice (some ⟨bl, 0, none⟩) S.length S.length) ∧ w'.cell? ⟨br, 2, none⟩ = some va ∧ w'.frozen? ⟨br, 2, none⟩ = false ∧
      w'.cell? ⟨bn, on + p, none⟩ = some (.int .i64 x.1) ∧ w'.cell? ⟨bl, p, none⟩ = some (lv p) ∧ w'.frozen? ⟨bl, p, none⟩ = false := by
  have q := h.same c
  exact ⟨q.c0, q.c1, q.c2, q.free 2, (q.cnx hp).1, (q.clx hp).1, (q.clx hp).2⟩
/-- One more behind a processor's list. -/
theorem Rq.lay {w1 : World} {p g3 o3 cap3 : Nat} (h : Rq w U br bl bn on cn lv va S A) (hp : S[p]? = some (y, L)) (k1 : Lies w1 (.slice (some ⟨g3, o3, none⟩) (L.length + 1) cap3) (L ++ [x])) (k2 : Cha (fun _ => False) w w1) (k3 : w.heap.size ≤ g3) (k4 : g3 < w1.heap.size) :
    RLeft w (w1.setCell ⟨bl, p, none⟩ (.slice (some ⟨g3, o3, none⟩) (L.length + 1) cap3)) U br bl bn on cn (S.set p (y, L ++ [x])) A :=
  ⟨_, _, _, (h.newl k2 k3 k4).put p hp k1 (fun g hg => .inr (by cases hg; rfl)), (k2.wide).setCell (p := ⟨bl, p, none⟩) (fun _ => .inr (.inl rfl)) _, fun _ h => .inl h, fun i hi => by
    rcases hi with e | e
    · exact .inl e
    · rw [e]; exact .inr k3⟩
/-- One more behind the list for all. -/
theorem Rq.layAll {w1 : World} {g3 o3 cap3 : Nat} (h : Rq w U br bl bn on cn lv va S A) (k1 : Lies w1 (.slice (some ⟨g3, o3, none⟩) (A.length + 1) cap3) (A ++ [x])) (k2 : Cha (fun _ => False) w w1) (k3 : w.heap.size ≤ g3) (k4 : g3 < w1.heap.size) :
    RLeft w (w1.setCell ⟨br, 2, none⟩ (.slice (some ⟨g3, o3, none⟩) (A.length + 1) cap3)) U br bl bn on cn S (A ++ [x]) :=
  ⟨_, _, _, (h.newl k2 k3 k4).store k1 (fun g hg => .inr (by cases hg; rfl)), (k2.wide).setCell (p := ⟨br, 2, none⟩) (fun _ => .inl rfl) _, fun _ h => .inl h, fun i hi => by
    rcases hi with e | e
    · exact .inl e
    · rw [e]; exact .inr k3⟩
theorem RLeft.of_drew (h : RLeft w.drew w' U br bl bn on cn S A) : RLeft w w' U br bl bn on cn S A := by
  obtain ⟨F1, z, v, q, c, s, n⟩ := h
  exact ⟨F1, z, v, q, ⟨c.os, c.out, c.size, c.old⟩, s, n⟩
end Go.Proofs.Yteogepfolifneaa
