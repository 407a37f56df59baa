/- Lists of ints; two lists alike. -/
import Derived.Test.YtlpgfdphoiideaaLA
namespace Go.Proofs.Ytlpgfdphoiideaa
open Go.ChangeShapes Go.WideShapes Go.ChangeAt Go.RowKit
variable {w W : World}
theorem ret_bool' {a b : Bool} (h : a = b) : Ending.returned (.bool a) = .returned (.bool b) := by rw [h]
def intE : Enc Int := ⟨65, 3, 1, 8, .int .i64 0, fun x => [.int .i64 x]⟩
theorem intE_ok : intE.Ok := ⟨Try.underlying65, by kernel_rfl, rfl, by decide, fun _ => rfl, fun a u h => by simp [intE] at h; subst h; rfl⟩
/-- The ints of a list, one by one. -/
def IntAt (w : World) (a : Option Addr) (L : List Int) : Prop := 0 < L.length → ∃ g o, a = some ⟨g, o, none⟩ ∧ ∀ W, Cha (fun _ => False) w W → ∀ j, j < L.length → W.cell? ⟨g, o + j, none⟩ = some (.int .i64 (L.getD j 0))
theorem int_at {a : Option Addr} {L : List Int} {n cap : Nat} (h : Lies intE w (.slice a n cap) L) : IntAt w a L := fun hp => by
  obtain ⟨g, o, cap', e, _, _, hc⟩ := h.cells intE_ok hp
  cases e
  refine ⟨g, o, rfl, fun W c j hj => ?_⟩
  have x := (hc W c.wide).1 j 0 hj (by decide)
  have e : L.getD j 0 = L[j] := by simp [List.getD, List.getElem?_eq_getElem hj]
  rw [e]
  have e1 : o + j * intE.k + 0 = o + j := by show o + j * 1 + 0 = _; omega
  rw [e1] at x
  simpa [intE] using x
theorem lists_eq {L M : List Int} (h : L.length = M.length) (k : ∀ j, j < L.length → L.getD j 0 = M.getD j 0) : L = M := by
  apply List.ext_getElem h
  intro j h1 h2
  have := k j h1
  simpa [List.getD, List.getElem?_eq_getElem h1, List.getElem?_eq_getElem h2] using this
set_option maxHeartbeats 1000000 in
theorem same_ints {a b : Option Addr} {n m c d : Nat} {L M : List Int} (h1 : Lies intE w (.slice a n c) L) (h2 : Lies intE w (.slice b m d) M) :
    Calls Try.prog 37 #[.slice a n c, .slice b m d] w fun e w' => e = .returned (.bool (decide (L = M))) ∧ Cha (fun _ => False) w w' := by
  have hn : n = L.length := by obtain ⟨a', cap', e, _⟩ := h1.form; cases e; rfl
  have hm : m = M.length := by obtain ⟨a', cap', e, _⟩ := h2.form; cases e; rfl
  have hx : n ≤ maxLen := by obtain ⟨a', cap', e, k1, k2⟩ := h1.form; cases e; exact Nat.le_trans k1 k2
  unfold maxLen at hx
  have Z1 := Lib.hid (int_at h1)
  have Z2 := Lib.hid (int_at h2)
  have HN := Lib.hid hn
  have HM := Lib.hid hm
  have H0 := Lib.hid (Cha.refl (fun _ => False) w)
  clear h1 h2
  by_cases hl : n = m
  · subst hl
    clear hn hm
    go_enter Try.func37, Try.ntmps37
    go_wp2
    go_loopw [5] (fun i wr => ∃ j : Nat, j ≤ n ∧ i = .int .i64 (j : Int) ∧ (∀ k, k < j → L.getD k 0 = M.getD k 0) ∧ Cha (fun _ => False) w wr) (fun i _ => n - (intOf i).toNat)
    case atStart => exact ⟨0, Nat.zero_le _, rfl, fun k hk => absurd hk (Nat.not_lt_zero _), H0.out⟩
    case round =>
      obtain ⟨j, hj, rfl, hlo, hC⟩ := hrel
      have HLO := Lib.hid hlo
      have HC := Lib.hid hC
      clear hlo hC
      by_cases hlt : j < n
      · obtain ⟨g, o, rfl, hz⟩ := Z1.out (by rw [← HN.out]; omega)
        obtain ⟨g2, o2, rfl, hz2⟩ := Z2.out (by rw [← HM.out]; omega)
        have z1 := hz wr HC.out j (by rw [← HN.out]; exact hlt)
        have z2 := hz2 wr HC.out j (by rw [← HM.out]; exact hlt)
        have k1 : (j : Int) < (n : Int) := by omega
        have k2 : (0 : Int) ≤ (j : Int) := by omega
        obtain ⟨x, hx2⟩ : ∃ x, x = L.getD j 0 := ⟨_, rfl⟩
        obtain ⟨y, hy⟩ : ∃ y, y = M.getD j 0 := ⟨_, rfl⟩
        have HX := Lib.hid hx2
        have HY := Lib.hid hy
        rw [← hx2] at z1
        rw [← hy] at z2
        clear hz hz2 hx2 hy
        by_cases hq : x = y
        · subst hq
          go_wp2
          go_region
          go_wp2
          go_roundw
          case rel => exact ⟨j + 1, by omega, by go_num, fun k hk => by
            by_cases e : k = j
            · rw [e, ← HX.out, ← HY.out]
            · exact HLO.out k (by omega), HC.out.drew⟩
          case measure => simp [intOf]; omega
        · have hq2 : (x == y) = false := by simpa using hq
          have HD : Hid (decide (L = M) = false) := Lib.hid (decide_eq_false fun e => hq (by rw [HX.out, HY.out, e]))
          clear hq
          go_wp2
          go_region
          go_wp2
          go_ret
          exact ⟨by rw [HD.out]; rfl, HC.out.drew⟩
      · obtain rfl : j = n := by omega
        have HD : Hid (decide (L = M) = true) := Lib.hid (decide_eq_true (lists_eq (HN.out.symm.trans HM.out) fun k hk => HLO.out k (by rw [HN.out]; exact hk)))
        go_wp2
        go_ret
        exact ⟨by rw [HD.out]; rfl, HC.out⟩
  · have e : decide (L = M) = false := decide_eq_false fun e => hl (by rw [hn, hm, e])
    rw [e]
    have hl2 : ¬ ((n : Int) = (m : Int)) := by omega
    clear hn hm e
    go_enter Try.func37, Try.ntmps37
    go_wp2
    go_ret
    exact ⟨rfl, H0.out⟩
end Go.Proofs.Ytlpgfdphoiideaa
