/- Contracts of layer 10: steal. -/
import Derived.Test.YtaloafihbdamiaaI
namespace Go.Proofs.Ytaloafihbdamiaa
open Go.ChangeShapes Go.WideShapes Go.ChangeAt Go.RowKit
variable {w w' W : World} {F F' T : Nat → Prop} {bq bp o cap p v f i : Nat} {z : Nat → Int} {S : List Prc} {va : Value} {A N L L0 X : List Int} {x y g : Int}

theorem steal_none (h : ∀ m, m < S.length → vic S p ((f + m) % S.length) = false) : stealS S p f = ((0, false), S) := by
  unfold stealS
  have e : (List.range S.length).find? (fun i => vic S p ((f + i) % S.length)) = none := by
    rw [List.find?_eq_none]
    intro m hm
    rw [List.mem_range] at hm
    simp [h m hm]
  rw [e]
theorem steal_some (hi : i < S.length) (h : ∀ m, m < i → vic S p ((f + m) % S.length) = false) (hv : vic S p ((f + i) % S.length) = true) : stealS S p f = takeFrom S p ((f + i) % S.length) := by
  unfold stealS
  have e : (List.range S.length).find? (fun i => vic S p ((f + i) % S.length)) = some i := by
    rw [List.find?_range_eq_some]
    exact ⟨hv, List.mem_range.2 hi, fun j hj => by rw [h j hj]; rfl⟩
  rw [e]
theorem take_one (h : S[v]? = some (y, [])) : takeFrom S p v = ((y, true), S.set v (-1, [])) := by
  unfold takeFrom; rw [get_D h]
theorem take_half (h : S[v]? = some (y, g :: X)) (hp : S[p]? = some (-1, [])) : takeFrom S p v = ((g, true), (S.set v (y, X.drop (X.length / 2))).set p (-1, X.take (X.length / 2))) := by
  unfold takeFrom; rw [get_D h, get_D hp]; rfl
theorem Qs.halve (h : Qs w F bq bp z S va A) (hv : S[v]? = some (y, L0)) (hp : S[p]? = some (x, L)) (hne : v ≠ p) {B C : List Int} (t : Halved 85 bp (S.length * 11) (p * 11) (v * 11 + 1) z B C w w') :
    ∃ z', Qs w' F bq bp z' ((S.set v (y, C)).set p (x, B)) va A ∧ Cha F w w' := by
  obtain ⟨z', f1, f2, h1, h2, h3, h4, h5⟩ := t
  have hlp := get_lt hp
  have hlv := get_lt hv
  have cc : Cha F w w' := h5.mono fun i _ e => by have e : i = bp := e; rw [e]; exact h.fp
  refine ⟨z', ⟨by rw [set_len, set_len]; exact (h5.old bq (h.old _ h.fq) h.ne).trans h.head, by rw [set_len, set_len]; exact h.k1, by rw [set_len, set_len]; exact h.k8, by rw [set_len, set_len]; exact h1, fun q u hu => ?_, h.all.cha h5 (fun g hg e => (h.fv g hg).2.2 e), h.ne, h.fq, h.fp, h.fv, fun i hi => Nat.lt_of_lt_of_le (h.old i hi) h5.size⟩, cc⟩
  by_cases e : q = p
  · subst e
    rw [List.getElem?_set_self (by rw [set_len]; exact hlp)] at hu
    obtain rfl := Option.some.inj hu
    exact ⟨(h4 _ (by omega) (by omega)).trans (h.prc q _ hp).1, f1, h2⟩
  · rw [List.getElem?_set_ne (Ne.symm e)] at hu
    by_cases e2 : q = v
    · subst e2
      rw [List.getElem?_set_self hlv] at hu
      obtain rfl := Option.some.inj hu
      exact ⟨(h4 _ (by omega) (by omega)).trans (h.prc q _ hv).1, f2, h3⟩
    · rw [List.getElem?_set_ne (Ne.symm e2)] at hu
      obtain ⟨a, f', b⟩ := h.prc q u hu
      exact ⟨(h4 _ (by omega) (by omega)).trans a, f', b.congr fun i _ _ => h4 i (by omega) (by omega)⟩

theorem rest_of (s : Int) (k : Nat) (h1 : 1 ≤ k) (h8 : k ≤ 8) : -(k : Int) < s.tmod k ∧ s.tmod k < k ∧ (s.tmod k + k) % k = ((s % k).toNat : Int) := by
  have hk : k = 1 ∨ k = 2 ∨ k = 3 ∨ k = 4 ∨ k = 5 ∨ k = 6 ∨ k = 7 ∨ k = 8 := by omega
  by_cases hs : 0 ≤ s
  · rw [Int.tmod_eq_emod_of_nonneg hs]
    rcases hk with rfl | rfl | rfl | rfl | rfl | rfl | rfl | rfl <;> omega
  · have e : s.tmod (k : Int) = -((-s) % (k : Int)) := by rw [← Int.tmod_eq_emod_of_nonneg (a := -s) (by omega), Int.neg_tmod, Int.neg_neg]
    rw [e]
    clear e
    rcases hk with rfl | rfl | rfl | rfl | rfl | rfl | rfl | rfl <;> omega
/-- What stealing leaves. -/
def Stolen (w : World) (F : Nat → Prop) (bq bp : Nat) (S : List Prc) (A : List Int) (p f : Nat) (e : Ending) (w' : World) : Prop :=
  e = .returned (.tuple #[.int .i64 (stealS S p f).1.1, .bool (stealS S p f).1.2]) ∧ Left w w' F bq bp (stealS S p f).2 A
set_option maxRecDepth 100000 in
set_option maxHeartbeats 1000000 in
theorem steal_any (s : Int) (h : Qs w F bq bp z S va A) (hp : S[p]? = some (-1, [])) :
    Calls Try.prog 53 #[.pointer (some ⟨bq, 0, none⟩), .int .i64 (p : Int), .int .i64 s] w (Stolen w F bq bp S A p (s % (S.length : Int)).toNat) := by
  obtain ⟨k, hk⟩ : ∃ k, k = S.length := ⟨_, rfl⟩
  have h1 := h.k1
  have h8 := h.k8
  have hpl := get_lt hp
  have kp := h.ptr
  rw [← hk] at kp h1 h8 hpl ⊢
  obtain ⟨r, hr⟩ : ∃ r, s.tmod (k : Int) = r := ⟨_, rfl⟩
  obtain ⟨hr1, hr2, e3⟩ := rest_of s k h1 h8
  rw [hr] at hr1 hr2 e3
  obtain ⟨f, hf⟩ : ∃ f, f = (s % (k : Int)).toNat := ⟨_, rfl⟩
  rw [← hf] at e3
  have hfk : f < k := by
    have := Int.emod_lt_of_pos s (show (0 : Int) < k by omega)
    have := Int.emod_nonneg s (show (k : Int) ≠ 0 by omega)
    omega
  have e4 : (r + (k : Int)).tmod (k : Int) = (f : Int) := by rw [Int.tmod_eq_emod_of_nonneg (by omega)]; exact e3
  rw [← hf]
  have HP := Lib.hid hp
  have HK := Lib.hid hk
  have Q := Lib.hid h
  have E0 := Lib.hid hr
  have k3 : (p : Int) < k := by omega
  have k4 : (0 : Int) ≤ (p : Int) := by omega
  have k5 : (0 : Int) < (k : Int) := by omega
  clear hp hk h hf
  go_enter Try.func53, Try.ntmps53
  go_wp2
  go_step3
  go_wp2
  go_region
  go_wp2
  go_step3
  go_wp2
  clear e3 e4 hr1 hr2
  go_loop [33] (fun ix => ∃ i : Nat, i ≤ k ∧ ix = .int .i64 (i : Int) ∧ ∀ m, m < i → vic S p ((f + m) % k) = false) (fun ix => k - (intOf ix).toNat)
  case atStart => exact ⟨0, Nat.zero_le _, rfl, fun m hm => absurd hm (by omega)⟩
  case round =>
    obtain ⟨i, hi, rfl, hno⟩ := hrel
    have HNO := Lib.hid hno
    clear hno
    by_cases hlt : i < k
    · obtain ⟨v, hv⟩ : ∃ v, v = (f + i) % k := ⟨_, rfl⟩
      have hvk : v < k := by rw [hv]; exact Nat.mod_lt _ (by omega)
      have ev : ((f : Int) + (i : Int)) % (k : Int) = (v : Int) := by rw [hv]; simp
      have HV := Lib.hid hv
      clear hv
      have k6 : (v : Int) < k := by omega
      have k7 : (0 : Int) ≤ (v : Int) := by omega
      by_cases hvp : v = p
      · have HN : Hid (∀ m, m < i + 1 → vic S p ((f + m) % k) = false) := Lib.hid fun m hm => by
          by_cases e : m = i
          · rw [e, ← HV.out, hvp]; unfold vic; simp
          · exact HNO.out m (by omega)
        subst hvp
        go_wp2
        go_round
        case rel => exact ⟨i + 1, by omega, by go_num, HN.out⟩
        case measure => simp [intOf]; omega
      · have hvp1 : (v == p) = false := by simpa using hvp
        have hvx := D_get (S := S) (p := v) (by rw [← HK.out]; exact hvk)
        generalize S.getD v (-1, []) = u at *
        obtain ⟨y, L⟩ := u
        obtain ⟨hz, f1, hR⟩ := Q.out.prc v _ hvx
        have hz : z (v * 11) = y := hz
        have C := count_any (P := v * 11) (Q.out.drew.ints) (by rw [← HK.out]; omega) hR
        rw [hz] at C
        have c9 := Q.out.ints.cell (i := v * 11 + 1 + 9) (by rw [← HK.out]; omega)
        rw [hR.len] at c9
        have HC : Hid (vic S p v = (cnt (y, L) != 0)) := Lib.hid (by unfold vic; rw [get_D hvx]; simp [hvp])
        by_cases hc : cnt (y, L) = 0
        · have HN : Hid (∀ m, m < i + 1 → vic S p ((f + m) % k) = false) := Lib.hid fun m hm => by
            by_cases e : m = i
            · rw [e, ← HV.out, HC.out, hc]; rfl
            · exact HNO.out m (by omega)
          rw [hc] at C
          have C : Calls Try.prog 50 #[.pointer (some ⟨bp, v * 11, none⟩)] w.drew fun e w' => e = .returned (.int .i64 0) ∧ w.drew = w' := C
          have C := Lib.hid C
          clear hc hR hz hvx c9
          go_wp2_with (go_at_call 50; ((with_reducible refine (C.out).mono ?_); rintro e w1 ⟨rfl, rfl⟩))
          go_round
          case rel => exact ⟨i + 1, by omega, by go_num, HN.out⟩
          case measure => simp [intOf]; omega
        · have HR := Lib.hid (steal_some (S := S) (p := p) (f := f) (by rw [← HK.out]; exact hlt) (by rw [← HK.out]; exact HNO.out) (by rw [← HK.out, ← HV.out, HC.out]; simpa using hc))
          rw [← HK.out, ← HV.out] at HR
          generalize hcn : cnt (y, L) = n at *
          have hc1 : ((n : Int) == 0) = false := by simp; omega
          have C := Lib.hid C
          cases L with
          | nil =>
            have c9 : w.cell? ⟨bp, v * 11 + 1 + 9, none⟩ = some (.int .i64 0) := c9
            have C2 := Lib.hid (next_any (P := v * 11) (Q.out.drew.ints) (by rw [← HK.out]; omega))
            rw [hz] at C2
            have q1 := Lib.hid (Q.out.drew.next hvx (-1))
            have HT := Lib.hid (take_one (p := p) hvx)
            clear hc hR hz hvx hcn
            go_wp2_with (first
              | (go_at_call 50; ((with_reducible refine (C.out).mono ?_); rintro e w1 ⟨rfl, rfl⟩))
              | (go_at_call 48; ((with_reducible refine (C2.out).mono ?_); rintro e w1 ⟨rfl, rfl⟩)))
            rw [Exit.noGoto_ret]
            go_returns
            unfold Stolen
            rw [HR.out, HT.out]
            exact ⟨rfl, left_more (Cha.refl F w) (fun _ h => h) (fun _ h => .inl h) q1.out (((Cha.refl F w).drew).setCell (p := ⟨bp, v * 11, none⟩) (fun _ => Q.out.fp) _) (fun _ h => h) (fun _ h => .inl h)⟩
          | cons g X =>
            have c9 : w.cell? ⟨bp, v * 11 + 1 + 9, none⟩ = some (.int .i64 ((X.length + 1 : Nat) : Int)) := c9
            have hx1 : (((X.length + 1 : Nat) : Int) == 0) = false := by simp; omega
            obtain ⟨_, f2, hR2⟩ := Q.out.prc p _ HP.out
            have hX := hR.n8
            simp only [List.length_cons] at hX
            have C2 := Lib.hid (half_any (P := p * 11) (R := v * 11 + 1) (Q.out.drew.ints) (by rw [← HK.out]; omega) (by rw [← HK.out]; omega) (by omega) hR2 hR (by simp; omega))
            have HVX := Lib.hid hvx
            have HT := Lib.hid (take_half hvx HP.out)
            clear hc hR hz hvx hcn hX hR2
            generalize X.length = xl at *
            go_wp2_with (first
              | (go_at_call 50; ((with_reducible refine (C.out).mono ?_); rintro e w1 ⟨rfl, rfl⟩))
              | (go_at_call 63; ((with_reducible refine (C2.out).mono ?_); rintro e w1 ⟨rfl, hH⟩; have HH := Lib.hid hH; clear hH)))
            rw [Exit.noGoto_ret]
            go_returns
            obtain ⟨z', q', c'⟩ := Q.out.drew.halve HVX.out HP.out hvp HH.out
            unfold Stolen
            rw [HR.out, HT.out]
            exact ⟨rfl, left_more ((Cha.refl F w).drew) (fun _ h => h) (fun _ h => .inl h) q' c' (fun _ h => h) (fun _ h => .inl h)⟩
    · obtain rfl : i = k := by omega
      have HR := Lib.hid (steal_none (S := S) (p := p) (f := f) (by rw [← HK.out]; exact HNO.out))
      go_wp2
      go_returns
      unfold Stolen
      rw [HR.out]
      exact ⟨rfl, left_more (Cha.refl F w) (fun _ h => h) (fun _ h => .inl h) Q.out.drew (Cha.refl F w).drew (fun _ h => h) (fun _ h => .inl h)⟩
end Go.Proofs.Ytaloafihbdamiaa
