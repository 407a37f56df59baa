/- The document's timers: Next, Move. -/
import Derived.Test.YteogepfolifneaaUD
namespace Go.Proofs.Yteogepfolifneaa
open Go.ChangeShapes Go.WideShapes Go.ChangeAt Go.RowKit
variable {w w' w1 w2 W : World} {F F' S : Nat → Prop} {bd n m cap : Nat} {v v' u : Value} {D N : List Tm} {p q t id : Int} {a : Option Addr}

theorem dnext_none (p : Int) (h : Dt w F bd n v D) (hl : D.length ≤ 1024) (hb : bst D p D.length = -1) : Calls Try.prog 34 #[.pointer (some ⟨bd, 0, none⟩), .int .i64 p] w fun e w' => e = .returned (.tuple #[.int .u64 0, .bool false]) ∧ Cha (fun _ => False) w w' := by
  have C := Lib.hid (dfirst_any p h hl)
  rw [hb] at C
  clear h hb
  go_enter Try.func34, Try.ntmps34
  go_wp2_with (go_at_call 51; ((with_reducible refine (C.out).mono ?_); rintro e w1 ⟨rfl, k, rfl⟩))
  go_returns
  exact ⟨rfl, (Cha.refl _ w).drewN k⟩
theorem dnext_some (p : Int) (h : Dt w F bd n v D) (hl : D.length ≤ 1024) (b : Nat) (hb : bst D p D.length = (b : Int)) (hbl : b < D.length) : Calls Try.prog 34 #[.pointer (some ⟨bd, 0, none⟩), .int .i64 p] w fun e w' => e = .returned (.tuple #[.int .u64 (D.getD b d0).when, .bool true]) ∧ Cha (fun _ => False) w w' := by
  have C := Lib.hid (dfirst_any p h hl)
  rw [hb] at C
  obtain ⟨s, cap, rfl, _, hm⟩ := h.l.form
  have c1 := h.list
  obtain ⟨g, o, rfl, hz⟩ := tm_at h.l (by omega)
  obtain ⟨_, z1, _⟩ := hz w (Cha.refl _ w) b hbl
  have y1 : (b : Int) < (D.length : Int) := by omega
  have y2 : (0 : Int) ≤ (b : Int) := by omega
  have y3 : ¬ ((b : Int) < 0) := by omega
  generalize (D.getD b d0).when = t at *
  generalize D.length = m at *
  clear h hb hz hm
  go_enter Try.func34, Try.ntmps34
  go_wp2_with (go_at_call 51; ((with_reducible refine (C.out).mono ?_); rintro e w1 ⟨rfl, k, rfl⟩))
  go_returns
  exact ⟨rfl, (Cha.refl _ w).drewN k⟩
theorem dmove_bad1 (p q : Int) (h : Dt w F bd n v D) (hp : p < 0 ∨ (n : Int) ≤ p) : Calls Try.prog 32 #[.pointer (some ⟨bd, 0, none⟩), .int .i64 p, .int .i64 q] w fun e w' => e = .returned (.int .i64 1) ∧ w = w' := by
  have C := Lib.hid (dbad_yes p h hp)
  clear h hp
  go_enter Try.func32, Try.ntmps32
  go_wp2_with (go_at_call 49; ((with_reducible refine (C.out).mono ?_); rintro e w1 ⟨rfl, rfl⟩))
  go_ret
  exact ⟨rfl, rfl⟩
theorem dmove_bad2 (p q : Int) (h : Dt w F bd n v D) (h0 : 0 ≤ p) (hp : p < (n : Int)) (hq : q < 0 ∨ (n : Int) ≤ q) : Calls Try.prog 32 #[.pointer (some ⟨bd, 0, none⟩), .int .i64 p, .int .i64 q] w fun e w' => e = .returned (.int .i64 1) ∧ w = w' := by
  have C := Lib.hid (dbad_no p h h0 hp)
  have D := Lib.hid (dbad_yes q h hq)
  clear h hp hq
  go_enter Try.func32, Try.ntmps32
  go_wp2_with (first
    | (go_at_call 49; ((with_reducible refine (C.out).mono ?_); rintro e w1 ⟨rfl, rfl⟩))
    | (go_at_call 49; ((with_reducible refine (D.out).mono ?_); rintro e w1 ⟨rfl, rfl⟩)))
  go_ret
  exact ⟨rfl, rfl⟩
/-- A timer goes from p to q. -/
def mvT (p q : Int) (x : Tm) : Tm := if x.p = p then ⟨q, x.when, x.id⟩ else x
theorem tm_set {g o cap : Nat} (h : En.Lies tmE w (.slice (some ⟨g, o, none⟩) m cap) D) {i : Nat} (hi : i < D.length) (q : Int) :
    En.Lies tmE (w.setCell ⟨g, o + i * 3, none⟩ (.int .i64 q)) (.slice (some ⟨g, o, none⟩) m cap) (D.set i ⟨q, (D.getD i d0).when, (D.getD i d0).id⟩) ∧ w.frozen? ⟨g, o + i * 3, none⟩ = false := by
  rcases h with ⟨_, e⟩ | ⟨g', o', cap', cur, e, h1, h2, h3, h4, h5⟩
  · cases e
  · cases e
    have hk : tmE.k = 3 := rfl
    rw [hk] at h4 h5
    refine ⟨.inr ⟨g, o, cap, _, by rw [List.length_set], by rw [List.length_set]; exact h1, h2, heap_setCell_same w g (o + i * 3) _ _ _ h3, by rw [Array.size_setIfInBounds]; exact h4, fun j hj => ?_⟩, frozen_of_row w g _ cur _ h3⟩
    rw [List.length_set, hk] at hj
    have hs : (D.set i ⟨q, (D.getD i d0).when, (D.getD i d0).id⟩).length = D.length := List.length_set ..
    have hq1 : j / 3 < D.length := by omega
    have hq2 : j % 3 < 3 := Nat.mod_lt _ (by decide)
    have e1 := tmE_ok.cs_get (D.set i ⟨q, (D.getD i d0).when, (D.getD i d0).id⟩) (i := j / 3) (j := j % 3) (by rw [hs]; exact hq1) hq2
    have e2 := tmE_ok.cs_get D (i := j / 3) (j := j % 3) hq1 hq2
    rw [hk, show j / 3 * 3 + j % 3 = j by omega] at e1 e2
    rw [Array.getElem?_setIfInBounds, e1]
    have hd : D.getD i d0 = D[i] := by simp [List.getD, List.getElem?_eq_getElem hi]
    by_cases e : i = j / 3
    · subst e
      rw [List.getElem_set_self]
      by_cases e3 : j % 3 = 0
      · rw [if_pos (by omega), if_pos (by omega), e3]; rfl
      · rw [if_neg (by omega), h5 j hj, e2, hd]
        rcases (by omega : j % 3 = 1 ∨ j % 3 = 2) with e4 | e4 <;> rw [e4] <;> rfl
    · rw [if_neg (by omega), h5 j hj, e2, List.getElem_set_ne e]
set_option maxRecDepth 100000 in
set_option maxHeartbeats 4000000 in
theorem dmove_ok (p q : Int) (h : Dt w F bd n v D) (hp0 : 0 ≤ p) (hp : p < (n : Int)) (hq0 : 0 ≤ q) (hq : q < (n : Int)) (hl : D.length ≤ 1024) :
    Calls Try.prog 32 #[.pointer (some ⟨bd, 0, none⟩), .int .i64 p, .int .i64 q] w fun e w' => e = .returned (.int .i64 0) ∧ Dt w' F bd n v (D.map (mvT p q)) ∧ Cha F w w' := by
  have C := Lib.hid (dbad_no p h hp0 hp)
  have C2 := Lib.hid (dbad_no q h hq0 hq)
  have H := Lib.hid h
  obtain ⟨s, cap, rfl, hc, _⟩ := h.l.form
  obtain ⟨m, hm⟩ : ∃ m, m = D.length := ⟨_, rfl⟩
  rw [← hm] at H hl ⊢
  have HM := Lib.hid hm
  clear h hm
  go_enter Try.func32, Try.ntmps32
  go_wp2_with (first
    | (go_at_call 49; ((with_reducible refine (C.out).mono ?_); rintro e w1 ⟨rfl, rfl⟩))
    | (go_at_call 49; ((with_reducible refine (C2.out).mono ?_); rintro e w1 ⟨rfl, rfl⟩)))
  go_loopw [7] (fun i wr => ∃ (j : Nat) (D' : List Tm), j ≤ m ∧ i = .int .i64 (j : Int) ∧ D'.length = m ∧ (∀ i, i < m → D'.getD i d0 = if i < j then mvT p q (D.getD i d0) else D.getD i d0) ∧ Dt wr F bd n (.slice s m cap) D' ∧ Cha F w wr) (fun i _ => m - (intOf i).toNat)
  case atStart => exact ⟨0, D, Nat.zero_le _, rfl, HM.out.symm, fun i _ => by rw [if_neg (Nat.not_lt_zero _)], H.out, Cha.refl _ _⟩
  case round =>
    obtain ⟨j, D', hj, rfl, hD, hA, hT, hC⟩ := hrel
    have HT := Lib.hid hT
    have HA := Lib.hid hA
    have HD := Lib.hid hD
    have HC := Lib.hid hC
    have c1 := hT.list
    clear hA hT hC hD
    by_cases hlt : j < m
    · obtain ⟨g, o, rfl, hz⟩ := tm_at HT.out.l (by rw [HD.out]; omega)
      obtain ⟨z0, _, _⟩ := hz wr (Cha.refl _ _) j (by rw [HD.out]; exact hlt)
      have hs := tm_set HT.out.l (i := j) (by rw [HD.out]; exact hlt) q
      have z3 := hs.2
      have HS := Lib.hid hs.1
      have hj0 := HA.out j hlt
      rw [if_neg (Nat.lt_irrefl _)] at hj0
      have HJ := Lib.hid hj0
      have y1 : (j : Int) < (m : Int) := by omega
      have y2 : (0 : Int) ≤ (j : Int) := by omega
      have y3 := HC.out.size
      by_cases hpp : (D'.getD j d0).p = p
      · have y7 : ((D'.getD j d0).p == p) = true := by simpa using hpp
        have NX : Hid (Dt (wr.setCell ⟨g, o + j * 3, none⟩ (.int .i64 q)) F bd n (.slice (some ⟨g, o, none⟩) m cap) (D'.set j ⟨q, (D'.getD j d0).when, (D'.getD j d0).id⟩) ∧ Cha F w (wr.setCell ⟨g, o + j * 3, none⟩ (.int .i64 q))) := Lib.hid (by
          have hg := HT.out.f1 g rfl
          have k : Cha (fun i => i = g) wr (wr.setCell ⟨g, o + j * 3, none⟩ (.int .i64 q)) := (Cha.refl (· = g) wr).setCell (p := ⟨g, o + j * 3, none⟩) (fun _ => rfl) _
          exact ⟨⟨(k.old bd (HT.out.old _ HT.out.fc) (fun e => hg.2 e.symm)).trans HT.out.head, HS.out, HT.out.fc, HT.out.f1, fun i hi => Nat.lt_of_lt_of_le (HT.out.old i hi) k.size⟩, HC.out.trans (k.mono fun i _ e => e ▸ hg.1)⟩)
        have NA : Hid (∀ i, i < m → (D'.set j ⟨q, (D'.getD j d0).when, (D'.getD j d0).id⟩).getD i d0 = if i < j + 1 then mvT p q (D.getD i d0) else D.getD i d0) := Lib.hid fun i hi => by
          have hset : (D'.set j ⟨q, (D'.getD j d0).when, (D'.getD j d0).id⟩).getD i d0 = if i = j then ⟨q, (D'.getD j d0).when, (D'.getD j d0).id⟩ else D'.getD i d0 := by
            unfold List.getD
            rw [List.getElem?_set]
            by_cases e : j = i
            · subst e; rw [if_pos rfl, if_pos (by rw [HD.out]; exact hi), if_pos rfl]; rfl
            · rw [if_neg e, if_neg (Ne.symm e)]
          rw [hset]
          by_cases e : i = j
          · subst e
            rw [if_pos rfl, if_pos (Nat.lt_succ_self _), ← HJ.out]
            unfold mvT
            rw [if_pos hpp]
          · rw [if_neg e, HA.out i hi]
            by_cases e2 : i < j
            · rw [if_pos e2, if_pos (by omega)]
            · rw [if_neg e2, if_neg (by omega)]
        clear hz hs hj0 hpp
        generalize (D'.getD j d0).p = pj at *
        go_wp2
        go_roundw
        case rel => exact ⟨j + 1, _, by omega, by go_num, by rw [List.length_set]; exact HD.out, NA.out, NX.out.1, NX.out.2⟩
        case measure => simp [intOf]; omega
      · have y7 : ((D'.getD j d0).p == p) = false := by simpa using hpp
        have NA : Hid (∀ i, i < m → D'.getD i d0 = if i < j + 1 then mvT p q (D.getD i d0) else D.getD i d0) := Lib.hid fun i hi => by
          by_cases e : i = j
          · subst e
            rw [if_pos (Nat.lt_succ_self _), ← HJ.out]
            unfold mvT
            rw [if_neg hpp]
          · rw [HA.out i hi]
            by_cases e2 : i < j
            · rw [if_pos e2, if_pos (by omega)]
            · rw [if_neg e2, if_neg (by omega)]
        clear hz hs hj0 hpp
        generalize (D'.getD j d0).p = pj at *
        go_wp2
        go_roundw
        case rel => exact ⟨j + 1, D', by omega, by go_num, HD.out, NA.out, HT.out, HC.out⟩
        case measure => simp [intOf]; omega
    · obtain rfl : j = m := by omega
      have y1 : ¬ ((j : Int) < (j : Int)) := by omega
      have e : D' = D.map (mvT p q) := by
        apply List.ext_getElem
        · rw [List.length_map, HD.out, HM.out]
        · intro i h1 h2
          have := HA.out i (by rw [← HD.out]; exact h1)
          rw [if_pos (by rw [← HD.out]; exact h1)] at this
          rw [List.length_map] at h2
          simpa [List.getD, h1, h2] using this
      have FN : Hid (Dt wr F bd n (.slice s j cap) (D.map (mvT p q)) ∧ Cha F w wr) := Lib.hid ⟨e ▸ HT.out, HC.out⟩
      clear e
      go_wp2
      go_ret
      exact ⟨rfl, FN.out⟩
end Go.Proofs.Yteogepfolifneaa
