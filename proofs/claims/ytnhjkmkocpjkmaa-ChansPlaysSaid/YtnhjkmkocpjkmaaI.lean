/- Contracts of chans: who is found (slices.IndexFunc). -/
import Derived.Test.YtnhjkmkocpjkmaaH
namespace Go.Proofs.Ytnhjkmkocpjkmaa
open Go.ChangeShapes Go.WideShapes Go.ChangeAt Go.RowKit
variable {w w' W : World} {ib : Nat} {id : Int}

/-- Where the one lies who leaves. -/
def IdAt (W : World) (ib : Nat) (id : Int) : Prop := W.heap[ib]? = some (.cells #[.int .i64 id] 3 (0, 0))
theorem IdAt.cha {S : Nat → Prop} (h : IdAt W ib id) (c : Cha S W w') (hs : ¬ S ib) : IdAt w' ib id := (c.old _ (Array.getElem?_eq_some_iff.1 h).1 hs).trans h
theorem is35 (h : IdAt W ib id) (x y : Int) : Calls Try.prog 35 #[.agg #[.int .i64 x, .int .u64 y], .pointer (some ⟨ib, 0, none⟩)] W fun e w' => e = .returned (.bool (decide (x = id))) ∧ Cha (fun _ => False) W w' := by
  have k0 : W.cell? ⟨ib, 0, none⟩ = some (.int .i64 id) := cell_of_row W ib 0 _ 3 (0, 0) h
  have hb := (Array.getElem?_eq_some_iff.1 h).1
  have h0 := Lib.hid (Cha.refl (fun _ => False) W)
  clear h
  go_enter Try.func35, Try.ntmps35
  go_wp2
  go_returns
  exact ⟨rfl, h0.out.alloc _⟩
theorem is37 (h : IdAt W ib id) (x : Int) : Calls Try.prog 37 #[.int .i64 x, .pointer (some ⟨ib, 0, none⟩)] W fun e w' => e = .returned (.bool (decide (x = id))) ∧ Cha (fun _ => False) W w' := by
  have k0 : W.cell? ⟨ib, 0, none⟩ = some (.int .i64 id) := cell_of_row W ib 0 _ 3 (0, 0) h
  clear h
  go_enter Try.func37, Try.ntmps37
  go_wp2
  go_returns
  exact ⟨rfl, Cha.refl _ _⟩
/-- The first one that is it. -/
structure First {α : Type} (q : α → Bool) (L : List α) (d : α) (i : Nat) : Prop where
  le : i ≤ L.length
  lo : ∀ j, j < i → q (L.getD j d) = false
  hi : i < L.length → q (L.getD i d) = true
def fstV (i n : Nat) : Value := .int .i64 (if i < n then (i : Int) else -1)
set_option maxHeartbeats 1000000 in
theorem index_snd {a : Option Addr} {n cap : Nat} {L : List Snd} (h : Lies sndE w (.slice a n cap) L) (hI : IdAt w ib id) :
    Calls Try.prog 40 #[.slice a n cap, .func (.func 35) #[] #[.pointer (some ⟨ib, 0, none⟩)]] w fun e w' => ∃ i, First (fun x => decide (x.id = id)) L ⟨0, 0⟩ i ∧ e = .returned (fstV i n) ∧ Cha (fun _ => False) w w' := by
  have hn : n = L.length := by obtain ⟨a', cap', e, _⟩ := h.form; cases e; rfl
  have hm : n ≤ cap ∧ cap ≤ maxLen := by obtain ⟨a', cap', e, h1, h2⟩ := h.form; cases e; exact ⟨h1, h2⟩
  obtain ⟨hm1, hm2⟩ := hm
  unfold maxLen at hm2
  have HZ := Lib.hid (snd_at h)
  have HN := Lib.hid hn
  have HI := Lib.hid hI
  have H0 := Lib.hid (Cha.refl (fun _ => False) w)
  clear h hI hn
  go_enter Try.func40, Try.ntmps40
  go_wp2
  go_loopw [5, 8] (fun _ i wr => ∃ j : Nat, j ≤ n ∧ i = .int .i64 (j : Int) ∧ (∀ k, k < j → decide ((L.getD k ⟨0, 0⟩).id = id) = false) ∧ Cha (fun _ => False) w wr) (fun _ i _ => n - (intOf i).toNat)
  case atStart => exact ⟨0, Nat.zero_le _, rfl, fun k hk => absurd hk (Nat.not_lt_zero _), H0.out⟩
  case round =>
    obtain ⟨j, hj, rfl, hlo, hC⟩ := hrel
    have HLO := Lib.hid hlo
    have HC := Lib.hid hC
    clear hlo hC
    by_cases hlt : j < n
    · obtain ⟨g, o, rfl, hz⟩ := HZ.out (by rw [← HN.out]; omega)
      obtain ⟨z0, z1⟩ := hz wr HC.out j (by rw [← HN.out]; exact hlt)
      obtain ⟨x, hx⟩ : ∃ x, x = L.getD j ⟨0, 0⟩ := ⟨_, rfl⟩
      have HX := Lib.hid hx
      rw [← hx] at z0 z1
      have C := Lib.hid (is35 (HI.out.cha HC.out (fun f => f)) x.id x.val)
      have hcap : (n : Int) ≤ 9223372036854775807 := by omega
      clear hz hx
      by_cases hq : x.id = id
      · rw [decide_eq_true hq] at C
        have HQ := Lib.hid hq
        clear hq
        go_wp2_with (go_at_call 35; (with_reducible refine (C.out).mono ?_); rintro e w1 ⟨rfl, h⟩; have HK := Lib.hid h; clear h)
        go_ret
        exact ⟨j, ⟨by rw [← HN.out]; exact hj, HLO.out, fun _ => by rw [← HX.out]; exact decide_eq_true HQ.out⟩, by rw [fstV, if_pos hlt]; rfl, HC.out.trans HK.out⟩
      · rw [decide_eq_false hq] at C
        have HQ := Lib.hid hq
        clear hq
        go_wp2_with (go_at_call 35; (with_reducible refine (C.out).mono ?_); rintro e w1 ⟨rfl, h⟩; have HK := Lib.hid h; clear h)
        go_roundw
        case rel => exact ⟨j + 1, by omega, by go_num, fun k hk => by
          by_cases e : k = j
          · rw [e, ← HX.out]; exact decide_eq_false HQ.out
          · exact HLO.out k (by omega), HC.out.trans HK.out⟩
        case measure => simp [intOf]; omega
    · obtain rfl : j = n := by omega
      go_wp2
      go_ret
      exact ⟨j, ⟨by rw [← HN.out]; exact Nat.le_refl _, HLO.out, fun h => absurd h (by rw [← HN.out]; omega)⟩, by rw [fstV, if_neg hlt]; rfl, HC.out⟩
/-- Those who wait to receive, one by one. -/
def IntAt (w : World) (a : Option Addr) (L : List Int) : Prop := 0 < L.length → ∃ g o, a = some ⟨g, o, none⟩ ∧ ∀ W, Cha (fun _ => False) w W → ∀ j, j < L.length → W.cell? ⟨g, o + j, none⟩ = some (.int .i64 (L.getD j 0))
theorem int_at {a : Option Addr} {L : List Int} {n cap : Nat} (h : Lies intE w (.slice a n cap) L) : IntAt w a L := fun hp => by
  obtain ⟨g, o, cap', e, _, _, hc⟩ := h.cells intE_ok hp
  cases e
  refine ⟨g, o, rfl, fun W c j hj => ?_⟩
  have x := (hc W c.wide).1 j 0 hj (by decide)
  have e : L.getD j 0 = L[j] := by simp [List.getD, List.getElem?_eq_getElem hj]
  rw [e]
  have e1 : o + j * intE.k + 0 = o + j := by show o + j * 1 + 0 = _; omega
  rw [e1] at x
  simpa [intE] using x
set_option maxHeartbeats 1000000 in
theorem index_int {a : Option Addr} {n cap : Nat} {L : List Int} (h : Lies intE w (.slice a n cap) L) (hI : IdAt w ib id) :
    Calls Try.prog 41 #[.slice a n cap, .func (.func 37) #[] #[.pointer (some ⟨ib, 0, none⟩)]] w fun e w' => ∃ i, First (fun x => decide (x = id)) L 0 i ∧ e = .returned (fstV i n) ∧ Cha (fun _ => False) w w' := by
  have hn : n = L.length := by obtain ⟨a', cap', e, _⟩ := h.form; cases e; rfl
  have hm : n ≤ cap ∧ cap ≤ maxLen := by obtain ⟨a', cap', e, h1, h2⟩ := h.form; cases e; exact ⟨h1, h2⟩
  obtain ⟨hm1, hm2⟩ := hm
  unfold maxLen at hm2
  have HZ := Lib.hid (int_at h)
  have HN := Lib.hid hn
  have HI := Lib.hid hI
  have H0 := Lib.hid (Cha.refl (fun _ => False) w)
  clear h hI hn
  go_enter Try.func41, Try.ntmps41
  go_wp2
  go_loopw [5, 8] (fun _ i wr => ∃ j : Nat, j ≤ n ∧ i = .int .i64 (j : Int) ∧ (∀ k, k < j → decide (L.getD k 0 = id) = false) ∧ Cha (fun _ => False) w wr) (fun _ i _ => n - (intOf i).toNat)
  case atStart => exact ⟨0, Nat.zero_le _, rfl, fun k hk => absurd hk (Nat.not_lt_zero _), H0.out⟩
  case round =>
    obtain ⟨j, hj, rfl, hlo, hC⟩ := hrel
    have HLO := Lib.hid hlo
    have HC := Lib.hid hC
    clear hlo hC
    by_cases hlt : j < n
    · obtain ⟨g, o, rfl, hz⟩ := HZ.out (by rw [← HN.out]; omega)
      have z0 := hz wr HC.out j (by rw [← HN.out]; exact hlt)
      obtain ⟨x, hx⟩ : ∃ x, x = L.getD j 0 := ⟨_, rfl⟩
      have HX := Lib.hid hx
      rw [← hx] at z0
      have C := Lib.hid (is37 (HI.out.cha HC.out (fun f => f)) x)
      have hcap : (n : Int) ≤ 9223372036854775807 := by omega
      clear hz hx
      by_cases hq : x = id
      · rw [decide_eq_true hq] at C
        have HQ := Lib.hid hq
        clear hq
        go_wp2_with (go_at_call 37; (with_reducible refine (C.out).mono ?_); rintro e w1 ⟨rfl, h⟩; have HK := Lib.hid h; clear h)
        go_ret
        exact ⟨j, ⟨by rw [← HN.out]; exact hj, HLO.out, fun _ => by rw [← HX.out]; exact decide_eq_true HQ.out⟩, by rw [fstV, if_pos hlt]; rfl, HC.out.trans HK.out⟩
      · rw [decide_eq_false hq] at C
        have HQ := Lib.hid hq
        clear hq
        go_wp2_with (go_at_call 37; (with_reducible refine (C.out).mono ?_); rintro e w1 ⟨rfl, h⟩; have HK := Lib.hid h; clear h)
        go_roundw
        case rel => exact ⟨j + 1, by omega, by go_num, fun k hk => by
          by_cases e : k = j
          · rw [e, ← HX.out]; exact decide_eq_false HQ.out
          · exact HLO.out k (by omega), HC.out.trans HK.out⟩
        case measure => simp [intOf]; omega
    · obtain rfl : j = n := by omega
      go_wp2
      go_ret
      exact ⟨j, ⟨by rw [← HN.out]; exact Nat.le_refl _, HLO.out, fun h => absurd h (by rw [← HN.out]; omega)⟩, by rw [fstV, if_neg hlt]; rfl, HC.out⟩
end Go.Proofs.Ytnhjkmkocpjkmaa
