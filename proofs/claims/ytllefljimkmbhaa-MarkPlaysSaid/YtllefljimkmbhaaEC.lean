/- The document's Get, Live. -/
import Derived.Test.YtllefljimkmbhaaEB
import Derived.Test.YtllefljimkmbhaaXJ
namespace Go.Proofs.Ytllefljimkmbhaa
open Go.ChangeShapes Go.WideShapes Go.ChangeAt Go.RowKit
variable {w w' w1 W W' : World} {F S : Nat → Prop} {bd : Nat} {vo vr vq : Value} {f T : Nat → Nat} {g : Gr} {sw : Int} {K : Nat → Prop}

theorem isRoot_mem {id : Int} (h : g.isRoot id = true) : 0 ≤ id ∧ id.toNat ∈ g.roots := by unfold Gr.isRoot at h; simpa using h
theorem Inv.rootHas (hi : Inv g K) {id : Int} (h : g.isRoot id = true) : g.has id = true := by
  obtain ⟨a, b⟩ := isRoot_mem h
  obtain ⟨c, d, e⟩ := hi.kroot _ b
  unfold Gr.has
  rw [decide_eq_true_iff]
  exact ⟨by omega, hi.kin _ c d e⟩
set_option maxHeartbeats 4000000 in
theorem dget_any (h : Dm W F bd vo vr vq f T g sw) (hi : Inv g K) (id i : Int) : Calls Try.prog 25 #[.pointer (some ⟨bd, 0, none⟩), .int .i64 id, .int .i64 i] W fun e W' => e = .returned (pairV (g.get id i)) ∧ W' = W := by
  have C29 := Lib.hid (dis_any h hi.n4 hi.out id)
  have C41 := Lib.hid (droot_any h (by have := hi.r8; have := hi.n4; omega) id)
  unfold Gr.get
  by_cases hr : g.isRoot id = true
  · obtain ⟨a, b⟩ := isRoot_mem hr
    obtain ⟨c, d, e⟩ := hi.kroot _ b
    have hcol := hi.kin _ c d e
    have h16 := hi.f16 id.toNat
    obtain ⟨x, rfl⟩ : ∃ x : Nat, id = x := ⟨id.toNat, by omega⟩
    rw [Int.toNat_natCast] at b c d e hcol h16
    rw [if_pos hr, Int.toNat_natCast]
    rw [hi.rootHas hr] at C29
    rw [hr] at C41
    obtain ⟨x0, _⟩ := h.facts
    obtain ⟨bo, o, cap, ev, h1, h2, hc⟩ := h.objs
    obtain ⟨y0, _⟩ := hc x d e
    have eo : ob g f x = (some (f x), (g.fs x).length, g.col x) := by unfold ob; rw [if_neg hcol]
    rw [eo] at y0
    have y : W.cell? ⟨bo, o + x * 2, none⟩ = some (.slice (some ⟨f x, 0, none⟩) (g.fs x).length (g.fs x).length) := y0
    have hf : ∀ j, j < (g.fs x).length → W.cell? ⟨f x, j, none⟩ = some (.int .i64 (((g.fs x).getD j 0 : Nat) : Int)) := fun j hj => (h.fld x d e hcol).cell hj
    have n4 := hi.n4
    unfold maxLen at h2
    subst ev
    have k1 : (x : Int) < (g.n : Int) + 1 := by omega
    have k2 : x < g.n + 1 := by omega
    have HF := Lib.hid hf
    clear h hi hr hc y0 eo hcol b c hf
    generalize f x = fx at *
    generalize g.fs x = L at *
    by_cases hn : i < 0
    · rw [if_pos (.inl hn)]
      clear HF
      go_enter Try.func25, Try.ntmps25
      go_wp2_with (first
        | (go_at_call 29; ((with_reducible refine (C29.out).mono ?_); rintro e w2 ⟨rfl, rfl⟩))
        | (go_at_call 41; ((with_reducible refine (C41.out).mono ?_); rintro e w3 ⟨rfl, rfl⟩)))
      go_returns
      exact ⟨rfl, rfl⟩
    · obtain ⟨j, rfl⟩ : ∃ j : Nat, i = j := ⟨i.toNat, by omega⟩
      by_cases hl : j < L.length
      · rw [if_neg (by omega), Int.toNat_natCast]
        have yy := HF.out j hl
        have hl2 : ¬ (L.length : Int) ≤ (j : Int) := by omega
        clear HF hn
        generalize L.getD j 0 = t at *
        go_enter Try.func25, Try.ntmps25
        go_wp2_with (first
          | (go_at_call 29; ((with_reducible refine (C29.out).mono ?_); rintro e w2 ⟨rfl, rfl⟩))
          | (go_at_call 41; ((with_reducible refine (C41.out).mono ?_); rintro e w3 ⟨rfl, rfl⟩)))
        go_returns
        exact ⟨rfl, rfl⟩
      · rw [if_pos (.inr (by omega))]
        have hl2 : (L.length : Int) ≤ (j : Int) := by omega
        clear HF hn
        go_enter Try.func25, Try.ntmps25
        go_wp2_with (first
          | (go_at_call 29; ((with_reducible refine (C29.out).mono ?_); rintro e w2 ⟨rfl, rfl⟩))
          | (go_at_call 41; ((with_reducible refine (C41.out).mono ?_); rintro e w3 ⟨rfl, rfl⟩)))
        go_returns
        exact ⟨rfl, rfl⟩
  · have hr2 : g.isRoot id = false := by simpa using hr
    rw [if_neg hr]
    rw [hr2] at C41
    clear h hi hr hr2
    generalize g.has id = hb at *
    cases hb
    · go_enter Try.func25, Try.ntmps25
      go_wp2_with (first
        | (go_at_call 29; ((with_reducible refine (C29.out).mono ?_); rintro e w2 ⟨rfl, rfl⟩))
        | (go_at_call 41; ((with_reducible refine (C41.out).mono ?_); rintro e w3 ⟨rfl, rfl⟩)))
      go_returns
      exact ⟨rfl, rfl⟩
    · go_enter Try.func25, Try.ntmps25
      go_wp2_with (first
        | (go_at_call 29; ((with_reducible refine (C29.out).mono ?_); rintro e w2 ⟨rfl, rfl⟩))
        | (go_at_call 41; ((with_reducible refine (C41.out).mono ?_); rintro e w3 ⟨rfl, rfl⟩)))
      go_returns
      exact ⟨rfl, rfl⟩
set_option maxHeartbeats 4000000 in
theorem dlive_any (h : Dm W F bd vo vr vq f T g sw) (n4 : g.n ≤ 4096) : Calls Try.prog 27 #[.pointer (some ⟨bd, 0, none⟩)] W fun e W' => e = .returned (.int .i64 g.live) ∧ W' = W := by
  obtain ⟨x0, _⟩ := h.facts
  obtain ⟨b, o, cap, ev, h1, h2, hc⟩ := h.objs
  obtain ⟨b2, o2, cap2, ev2, _, _, hc0, _⟩ := h.lo.elem obE_ok (i := 0) (by rw [obs_len]; omega)
  rw [ev] at ev2
  injection ev2 with f1 f2 f3
  injection f1 with f1
  injection f1 with f1 f1' _
  subst f1 f1'
  have y0 : W.cell? ⟨b, o + 0 * 2 + 1, none⟩ = some (.int .i64 0) := hc0 1 (by decide)
  have hal : ∀ k, k ≤ g.n → ∃ z : Nat, W.cell? ⟨b, o + k * 2 + 1, none⟩ = some (.int .i64 (z : Int)) ∧ (k ≠ 0 → z = g.col k) ∧ (k = 0 → z = 0) := fun k hk => by
    by_cases c : k = 0
    · subst c; exact ⟨0, y0, fun c => absurd rfl c, fun _ => rfl⟩
    · exact ⟨g.col k, (hc k (by omega) hk).2, fun _ => rfl, fun e => absurd e c⟩
  unfold maxLen at h2
  subst ev
  have HA := Lib.hid hal
  have hlv : ∀ k, k ≤ g.n → cnt (fun i => g.col i != 0) k ≤ k := fun k _ => cnt_le _ _
  unfold Gr.live
  clear h hc hc0 y0 hal f2 f3
  go_enter Try.func27, Try.ntmps27
  go_wp2
  go_loopw [3, 4] (fun n i wr => ∃ k : Nat, k ≤ g.n + 1 ∧ i = .int .i64 (k : Int) ∧ n = .int .i64 (cnt (fun i => g.col i != 0) (k - 1) : Int) ∧ wr = W) (fun _ i _ => g.n + 1 - (intOf i).toNat)
  case atStart => exact ⟨0, Nat.zero_le _, rfl, rfl, rfl⟩
  case round =>
    rename World => wv
    obtain ⟨k, hk, rfl, rfl, hwv⟩ := hrel
    subst hwv
    have hck := cnt_le (fun i => g.col i != 0) (k - 1)
    by_cases hl : k < g.n + 1
    · obtain ⟨z, y, z1, z2⟩ := HA.out k (by omega)
      have hl2 : (k : Int) < (g.n : Int) + 1 := by omega
      have HS : Hid (cnt (fun i => g.col i != 0) (k + 1 - 1) = cnt (fun i => g.col i != 0) (k - 1) + (if 0 < z then 1 else 0)) := Lib.hid (by
        by_cases c : k = 0
        · subst c; rw [if_neg (by rw [z2 rfl]; decide)]; rfl
        · obtain ⟨q, rfl⟩ : ∃ q, k = q + 1 := ⟨k - 1, by omega⟩
          show cnt _ (q + 1) = cnt _ q + _
          rw [cnt, z1 c]
          congr 1
          by_cases e : g.col (q + 1) = 0
          · rw [e]; rfl
          · rw [if_pos (by simpa using e), if_pos (by omega)])
      clear z1 z2 HA hlv
      generalize cnt (fun i => g.col i != 0) (k - 1) = C at *
      by_cases hz : 0 < z
      · have HS2 := Lib.hid HS.out
        rw [if_pos hz] at HS2
        have hz2 : (0 : Int) < (z : Int) := by omega
        clear HS
        go_wp2
        go_roundw
        case rel => exact ⟨k + 1, hl, by go_num, by rw [HS2.out]; go_num, by first | rfl | trivial⟩
        case measure => simp [intOf]; omega
      · have HS2 := Lib.hid HS.out
        rw [if_neg hz] at HS2
        have hz2 : ¬ (0 : Int) < (z : Int) := by omega
        clear HS
        go_wp2
        go_roundw
        case rel => exact ⟨k + 1, hl, by go_num, by rw [HS2.out]; go_num, by first | rfl | trivial⟩
        case measure => simp [intOf]; omega
    · obtain rfl : k = g.n + 1 := by omega
      have hl2 : ¬ (g.n : Int) + 1 < (g.n : Int) + 1 := by omega
      clear HA hlv
      go_wp2
      go_returns
      exact ⟨rfl, rfl⟩
end Go.Proofs.Ytllefljimkmbhaa
