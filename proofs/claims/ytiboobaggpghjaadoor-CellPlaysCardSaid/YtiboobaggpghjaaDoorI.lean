/- The document's Alloc and Counts of layer 4. -/
import Derived.Test.YtiboobaggpghjaaDoorE
import Derived.Test.YtiboobaggpghjaaDoorF
namespace Go.Proofs.YtiboobaggpghjaaDoor
open Go.ChangeShapes Go.WideShapes Go.ChangeAt Go.RowKit

variable {w : World} {bm bp n : Nat} {us : Nat → Bool}

/-- What Alloc answers. -/
inductive Alc (n : Nat) (us : Nat → Bool) (k : Int) : Int → Int → (Nat → Bool) → Prop where
  | arg : k < 1 → Alc n us k 0 1 us
  | full : 1 ≤ k → (rows us n).find? (fun x => decide (k.toNat ≤ x.2)) = none → Alc n us k 0 3 us
  | ok (x : Nat × Nat) : 1 ≤ k → (rows us n).find? (fun x => decide (k.toNat ≤ x.2)) = some x → Alc n us k (x.1 : Int) 0 (fil us x.1 k.toNat true)
theorem Alc.ex (n : Nat) (us : Nat → Bool) (k : Int) : ∃ b r us', Alc n us k b r us' := by
  by_cases h : k < 1
  · exact ⟨_, _, _, .arg h⟩
  · cases hf : (rows us n).find? (fun x => decide (k.toNat ≤ x.2)) with
    | none => exact ⟨_, _, _, .full (by omega) hf⟩
    | some x => exact ⟨_, _, _, .ok x (by omega) hf⟩

def Says (t : TypeId) (bm bp n : Nat) (us' : Nat → Bool) (w : World) (v : Value) (e : Ending) (w' : World) : Prop := e = .returned v ∧ Pg t w' bm bp n us' ∧ Cha (· = bp) w w'

theorem find_head {g : Nat → Bool} {a K m : Nat} (n : Nat) (h : FR g a K) (ha : tl g a = 0) (hle : a + K ≤ n) (hm : 1 ≤ m) (hno : (rws g a).find? (fun x => decide (m ≤ x.2)) = none) :
    (m ≤ K → (rws g (n + 1)).find? (fun x => decide (m ≤ x.2)) = some (a, K)) ∧ (K < m → (rws g (a + K + 1)).find? (fun x => decide (m ≤ x.2)) = none) := by
  obtain ⟨h1, _⟩ := h.step ha
  refine ⟨fun hk => ?_, fun hk => ?_⟩
  · rw [if_pos (by omega)] at h1
    obtain ⟨rest, hr⟩ := rws_prefix (g := g) (show a + K + 1 ≤ n + 1 by omega)
    rw [← hr, h1, List.find?_append, List.find?_append, hno]
    simp [hk]
  · rw [h1]
    split
    · rw [List.find?_append, hno]
      simp; omega
    · exact hno

set_option maxHeartbeats 2000000 in
theorem ralloc_run (k : Nat) (h : Pg 107 w bm bp n us) (hk : 1 ≤ k) (hk2 : (k : Int) ≤ 9223372036854775807) {b r : Int} {us' : Nat → Bool} (c : Alc n us k b r us') :
    Calls Tryd.prog 80 #[.pointer (some ⟨bm, 0, none⟩), .int .i64 (k : Int)] w (Says 107 bm bp n us' w (.tuple #[.int .i64 b, .int .i64 r])) := by
  have hp := h.ptr
  have hl := h.le
  have H := Lib.hid h
  have HE : Hid (∀ i, n ≤ i → isU us n i = true) := Lib.hid fun i hi => isU_ge hi
  have HA := Lib.hid c
  clear h c
  go_enter Tryd.func80, Tryd.ntmps80
  go_wp2
  go_loop [6] (fun i => ∃ a : Nat, a ≤ n + 1 ∧ i = .int .i64 (a : Int) ∧ tl (isU us n) a = 0 ∧ (rws (isU us n) a).find? (fun x => decide (k ≤ x.2)) = none) (fun i => n + 1 - (intOf i).toNat)
  case atStart => exact ⟨0, Nat.zero_le _, rfl, rfl, rfl⟩
  case round =>
    obtain ⟨a, ha, rfl, ht, hf⟩ := hrel
    by_cases hlt : a < n
    · obtain ⟨K, hK, hKn⟩ := FR.ex (isU_end us n) _ a rfl (by omega)
      have C := Lib.hid (run_any a K H.out hK hKn)
      have hh := find_head n hK ht hKn hk hf
      have hst := (hK.step ht).2
      have hK4 : (K : Int) ≤ 4096 := by omega
      by_cases hkk : k ≤ K
      · have S := Lib.hid (set_any a k true H.out (by omega))
        have HF := Lib.hid (hh.1 hkk)
        clear hh hf ht hK hst
        go_wp2_with (first
          | (go_at_call 65; ((with_reducible refine (C.out).mono ?_); rintro e w1 ⟨rfl, rfl⟩))
          | (go_at_call 81; ((with_reducible refine (S.out).mono ?_); rintro e w1 ⟨rfl, hm, hc⟩; have HM := Lib.hid hm; have HC := Lib.hid hc; clear hm hc)))
        go_ret2
        cases HA.out with
        | arg h => omega
        | full _ h => unfold rows at h; rw [Int.toNat_natCast, HF.out] at h; cases h
        | ok x _ h =>
          unfold rows at h
          rw [Int.toNat_natCast, HF.out] at h
          cases h
          exact ⟨rfl, HM.out, HC.out⟩
      · have HF := Lib.hid (hh.2 (by omega))
        have HT := Lib.hid hst
        have hkk2 : (K : Int) < k := by omega
        clear hh hf ht hK hst
        go_wp2_with (go_at_call 65; ((with_reducible refine (C.out).mono ?_); rintro e w1 ⟨rfl, rfl⟩))
        go_round
        case rel => exact ⟨a + K + 1, by omega, by go_num, HT.out, HF.out⟩
        case measure => simp [intOf]; omega
    · have hf2 : (rws (isU us n) (n + 1)).find? (fun x => decide (k ≤ x.2)) = none := by
        by_cases e : a = n + 1
        · rw [← e]; exact hf
        · obtain rfl : a = n := by omega
          rw [rws_none ht]; exact hf
      have HF := Lib.hid hf2
      clear hf hf2 ht
      go_wp2
      go_ret2
      cases HA.out with
      | arg h => omega
      | full _ h => exact ⟨rfl, H.out, Cha.refl _ _⟩
      | ok x _ h => unfold rows at h; rw [Int.toNat_natCast, HF.out] at h; cases h
theorem ralloc_any (k : Int) (h : Pg 107 w bm bp n us) (hk2 : k ≤ 9223372036854775807) {b r : Int} {us' : Nat → Bool} (c : Alc n us k b r us') :
    Calls Tryd.prog 80 #[.pointer (some ⟨bm, 0, none⟩), .int .i64 k] w (Says 107 bm bp n us' w (.tuple #[.int .i64 b, .int .i64 r])) := by
  by_cases hk : k < 1
  · have H := Lib.hid h
    have HA := Lib.hid c
    clear h c
    go_enter Tryd.func80, Tryd.ntmps80
    go_wp2
    go_ret2
    cases HA.out with
    | arg h => exact ⟨rfl, H.out, Cha.refl _ _⟩
    | full h _ => omega
    | ok x h _ => omega
  · obtain ⟨k, rfl⟩ : ∃ k' : Nat, k = (k' : Int) := ⟨k.toNat, by omega⟩
    exact ralloc_run k h (by omega) hk2 c

/-- The longest row among those that begin ahead of a. -/
def Most (g : Nat → Bool) (a M : Nat) : Prop := (∀ j, j < a → g j = false → ∀ K, FR g j K → K ≤ M) ∧ (M = 0 ∨ ∃ j, j < a ∧ FR g j M)
theorem Most.used {g : Nat → Bool} {a M : Nat} (h : Most g a M) (hg : g a = true) : Most g (a + 1) M := by
  refine ⟨fun j hj hf K hK => ?_, h.2.imp id fun ⟨j, hj, hf⟩ => ⟨j, by omega, hf⟩⟩
  by_cases e : j = a
  · subst e; rw [hg] at hf; cases hf
  · exact h.1 j (by omega) hf K hK
theorem Most.more {g : Nat → Bool} {a M K : Nat} (h : Most g a M) (hK : FR g a K) (hlt : M < K) : Most g (a + 1) K := by
  refine ⟨fun j hj hf L hL => ?_, .inr ⟨a, by omega, hK⟩⟩
  by_cases e : j = a
  · subst e; rw [hL.one hK]; exact Nat.le_refl _
  · have := h.1 j (by omega) hf L hL; omega
theorem Most.less {g : Nat → Bool} {a M K : Nat} (h : Most g a M) (hK : FR g a K) (hle : K ≤ M) : Most g (a + 1) M := by
  refine ⟨fun j hj hf L hL => ?_, h.2.imp id fun ⟨j, hj, hf⟩ => ⟨j, by omega, hf⟩⟩
  by_cases e : j = a
  · subst e; rw [hL.one hK]; exact hle
  · exact h.1 j (by omega) hf L hL

set_option maxHeartbeats 2000000 in
theorem rcounts_any (h : Pg 107 w bm bp n us) : Calls Tryd.prog 49 #[.pointer (some ⟨bm, 0, none⟩)] w fun e w' => e = .returned (.tuple #[.int .i64 (cntF (isU us n) n : Nat), .int .i64 (mxL (rows us n) : Nat)]) ∧ w = w' := by
  have hp := h.ptr
  have hl := h.le
  have H := Lib.hid h
  have HE : Hid (∀ i, n ≤ i → isU us n i = true) := Lib.hid fun i hi => isU_ge hi
  clear h
  go_enter Tryd.func49, Tryd.ntmps49
  go_wp2
  go_loop [4, 5, 6] (fun f m i => ∃ a M : Nat, a ≤ n ∧ M ≤ n ∧ i = .int .i64 (a : Int) ∧ f = .int .i64 (cntF (isU us n) a : Nat) ∧ m = .int .i64 (M : Int) ∧ Most (isU us n) a M) (fun _ _ i => n - (intOf i).toNat)
  case atStart => exact ⟨0, 0, Nat.zero_le _, Nat.zero_le _, rfl, rfl, rfl, fun j hj => absurd hj (by omega), .inl rfl⟩
  case round =>
    obtain ⟨a, M, ha, hM, rfl, rfl, rfl, hm⟩ := hrel
    have hcf := cntF_le (g := isU us n) a
    by_cases hlt : a < n
    · have hc := H.out.mark hlt
      cases hu : us a
      · have hg : isU us n a = false := by rw [isU_lt hlt]; exact hu
        rw [hu] at hc
        obtain ⟨K, hK, hKn⟩ := FR.ex (isU_end us n) _ a rfl (by omega)
        have C := Lib.hid (run_any a K H.out hK hKn)
        have HF := Lib.hid (cntF_free hg)
        by_cases hkm : M < K
        · have HM := Lib.hid (hm.more hK hkm)
          clear hm hu hg hK
          go_wp2_with (go_at_call 65; ((with_reducible refine (C.out).mono ?_); rintro e w1 ⟨rfl, rfl⟩))
          go_round
          case rel => exact ⟨a + 1, K, by omega, by omega, by go_num, by rw [HF.out]; go_num, rfl, HM.out⟩
          case measure => simp [intOf]; omega
        · have HM := Lib.hid (hm.less hK (by omega))
          clear hm hu hg hK
          go_wp2_with (go_at_call 65; ((with_reducible refine (C.out).mono ?_); rintro e w1 ⟨rfl, rfl⟩))
          go_round
          case rel => exact ⟨a + 1, M, by omega, by omega, by go_num, by rw [HF.out]; go_num, rfl, HM.out⟩
          case measure => simp [intOf]; omega
      · have hg : isU us n a = true := by rw [isU_lt hlt]; exact hu
        rw [hu] at hc
        have HF := Lib.hid (cntF_used hg)
        have HM := Lib.hid (hm.used hg)
        clear hm hu hg
        go_wp2
        go_round
        case rel => exact ⟨a + 1, M, by omega, by omega, by go_num, by rw [HF.out], rfl, HM.out⟩
        case measure => simp [intOf]; omega
    · obtain rfl : a = n := by omega
      have HM := Lib.hid (show M = mxL (rows us a) from most_is HE.out hm.1 hm.2)
      clear hm
      go_wp2
      go_ret2
      exact ⟨ret_ints rfl (by rw [HM.out]), rfl⟩
end Go.Proofs.YtiboobaggpghjaaDoor
