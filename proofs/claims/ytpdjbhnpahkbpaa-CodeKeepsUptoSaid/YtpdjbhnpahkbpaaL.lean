/- The reader: a text's first number, a number. -/
import Derived.Test.YtpdjbhnpahkbpaaI
import Derived.Test.YtpdjbhnpahkbpaaK
namespace Go.Proofs.Ytpdjbhnpahkbpaa
open Go.ChangeShapes Go.WideShapes Go.ChangeAt Go.RowKit

def RdU8 (_ : Nat → Prop) (W : World) (b o : Nat) (x : Nat) : Prop := W.cell? ⟨b, o, none⟩ = some (.int .u8 (x : Int)) ∧ x < 256
section
variable {B B' S : Nat → Prop} {W W' : World} {v : Value} {T : List Nat}
theorem RdS.bytes (h : RdS 1 RdU8 B W v T) (c : Cha S W W') (hS : ∀ i, S i → ¬ B i) (hB : ∀ i, B i → B' i) : RdS 1 RdU8 B' W' v T := h.map hB c.size fun _ _ _ hb h => ⟨cell_cha c hS hb h.1, h.2⟩
theorem RdS.small (h : RdS 1 RdU8 B W v T) : ∀ x ∈ T, x < 256 := fun x hx => by
  obtain ⟨b, o, _, h⟩ := h.all hx
  exact h.2
/-- The text from k on. -/
theorem sub_text {a : Option Addr} {n c : Nat} (h : RdS 1 RdU8 B W (.slice a n c) T) (hc : n ≤ c) {k : Nat} (hk : k ≤ T.length) : RdS 1 RdU8 B W (sliced a k n c 1) (T.drop k) := by
  obtain ⟨a', c', e, hl, h⟩ := h
  injection e with e1 e2 e3
  subst e1 e2 e3
  unfold sliced
  refine ⟨_, c - k, by rw [List.length_drop], by rw [List.length_drop]; omega, fun h0 => ?_⟩
  rw [List.length_drop] at h0
  obtain ⟨b, o, rfl, hb, hbs, h⟩ := h (by omega)
  refine ⟨b, o + k, by rw [if_neg (by omega)]; simp [Addr.add], hb, hbs, fun i x hi => ?_⟩
  rw [List.getElem?_drop] at hi
  have := h (k + i) x hi
  rw [Nat.mul_one] at this ⊢
  rw [Nat.add_assoc]
  exact this
end
theorem or_add (n m k : Nat) (hn : n < 2 ^ k) (h : n + m * 2 ^ k < 18446744073709551616) : bits .or .u64 (n : Int) ((m * 2 ^ k : Nat) : Int) = ((n + m * 2 ^ k : Nat) : Int) := by
  rw [u64_or_nat _ _ (by omega) (by omega), Nat.or_comm, Nat.mul_comm m, ← Nat.two_pow_add_eq_or_of_lt hn, Nat.add_comm]
set_option maxRecDepth 100000 in
set_option maxHeartbeats 1000000 in
theorem first_any {B : Nat → Prop} {W : World} {v : Value} {T : List Nat} (h : RdS 1 RdU8 B W v T) :
    Calls Try.prog 112 #[v] W fun e w' => e = .returned (.tuple #[.int .u64 ((fw T 0 0).1 : Int), .int .i64 ((fw T 0 0).2.1 : Int), .int .i64 (fw T 0 0).2.2]) ∧ W = w' := by
  have hlen := h.len
  have H := Lib.hid h
  obtain ⟨a, c, rfl, _, _⟩ := h
  obtain ⟨n, hn⟩ : ∃ n, n = T.length := ⟨_, rfl⟩
  rw [← hn] at hlen ⊢
  have HN := Lib.hid hn
  clear hn
  go_enter Try.func112, Try.ntmps112
  go_wp2
  go_loop [5, 10] (fun x i => ∃ (k N : Nat), k ≤ n ∧ k ≤ 9 ∧ i = .int .i64 (k : Int) ∧ x = .int .u64 (N : Int) ∧ N < 2 ^ (7 * k) ∧ fw (T.drop k) k N = fw T 0 0) (fun _ i => n - (intOf i).toNat)
  case atStart => exact ⟨0, 0, Nat.zero_le _, by omega, rfl, rfl, by simp, rfl⟩
  case round =>
    obtain ⟨k, N, hk, hk9, rfl, rfl, hN, hf⟩ := hrel
    have HF := Lib.hid hf
    have HP := Lib.hid hN
    clear hf hN
    by_cases hlt : k < n
    · obtain ⟨b, hb⟩ : ∃ b, T[k]? = some b := ⟨_, List.getElem?_eq_getElem (by have := HN.out; omega)⟩
      obtain ⟨g, o, _, he, _, _, hx⟩ := H.out.at hb
      obtain rfl : a = some ⟨g, o, none⟩ := by injection he
      have hc := hx.1
      rw [Nat.mul_one] at hc
      have hb256 := hx.2
      have HB := Lib.hid hb
      clear he hx hb
      have hfd : fw (T.drop k) k N = fw (b :: T.drop (k + 1)) k N := by
        have hb := HB.out
        have hkl : k < T.length := by have := HN.out; omega
        rw [List.getElem?_eq_getElem hkl] at hb
        injection hb with hb
        rw [List.drop_eq_getElem_cons hkl, hb]
      have HFD := Lib.hid hfd
      clear hfd
      by_cases h9 : k = 9 ∧ 1 < b
      · obtain ⟨h9a, h9b⟩ := h9
        have HE : Hid (fw T 0 0 = (0, 0, 8)) := Lib.hid (by rw [← HF.out, HFD.out, fw_long ⟨h9a, h9b⟩])
        have h9c : ((k : Int) == 9) = true := by simp; omega
        have h9d : (1 : Int) < (b : Int) := by omega
        clear h9a h9b
        go_wp2
        go_ret3
        exact ⟨by rw [HE.out]; rfl, rfl⟩
      · have hor : Hid (bits .or .u64 (N : Int) (IntKind.u64.wrap ((b : Int) % 128 * 2 ^ (7 * k))) = ((N + b % 128 * 2 ^ (7 * k) : Nat) : Int)) := Lib.hid (by
          have hP := HP.out
          have e1 : ((b : Int) % 128 * 2 ^ (7 * k)) = ((b % 128 * 2 ^ (7 * k) : Nat) : Int) := by simp
          have hb1 : N + b % 128 * 2 ^ (7 * k) < 18446744073709551616 := by
            by_cases c9 : k = 9
            · subst c9
              have : b % 128 * 2 ^ (7 * 9) ≤ 1 * 2 ^ (7 * 9) := Nat.mul_le_mul_right _ (by omega)
              have e1 : (2 : Nat) ^ (7 * 9) = 9223372036854775808 := by decide
              omega
            · have : (2 : Nat) ^ (7 * (k + 1)) ≤ 2 ^ 63 := Nat.pow_le_pow_right (by omega) (by omega)
              have e1 : (2 : Nat) ^ 63 = 9223372036854775808 := by decide
              have e2 := digs_pow (i := k)
              have : b % 128 * 2 ^ (7 * k) ≤ 127 * 2 ^ (7 * k) := Nat.mul_le_mul_right _ (by omega)
              omega
          rw [e1, show IntKind.u64.wrap ((b % 128 * 2 ^ (7 * k) : Nat) : Int) = ((b % 128 * 2 ^ (7 * k) : Nat) : Int) by rw [IntKind.wrap_u64]; omega]
          exact or_add N (b % 128) (7 * k) hP hb1)
        have hN2 : Hid (N + b % 128 * 2 ^ (7 * k) < 2 ^ (7 * (k + 1))) := Lib.hid (by
          have hP := HP.out
          have e2 := digs_pow (i := k)
          have : b % 128 * 2 ^ (7 * k) ≤ 127 * 2 ^ (7 * k) := Nat.mul_le_mul_right _ (by omega)
          omega)
        by_cases h128 : 128 ≤ b
        · have hk8 : ¬ k = 9 := fun c => h9 ⟨c, by omega⟩
          have HE : Hid (fw T 0 0 = fw (T.drop (k + 1)) (k + 1) (N + b % 128 * 2 ^ (7 * k))) := Lib.hid (by rw [← HF.out, HFD.out, fw_more h9 h128])
          have h1 : (128 : Int) ≤ (b : Int) := by omega
          have h2 : ¬ (k : Int) = 9 := by omega
          have hk' : k + 1 ≤ n ∧ k + 1 ≤ 9 := by omega
          clear h9 h128 hk8
          go_wp2
          go_round
          case rel => exact ⟨k + 1, N + b % 128 * 2 ^ (7 * k), hk'.1, hk'.2, by go_num, by rw [hor.out], hN2.out, HE.out.symm⟩
          case measure => simp [intOf]; omega
        · have h1 : ¬ (128 : Int) ≤ (b : Int) := by omega
          by_cases h0 : b = 0 ∧ 0 < k
          · have HE : Hid (fw T 0 0 = (0, 0, 8)) := Lib.hid (by rw [← HF.out, HFD.out, fw_zero h0.1 h0.2])
            obtain ⟨h01, h02⟩ := h0
            have h2 : ¬ 1 < (b : Int) := by omega
            clear h9 h128
            go_wp2
            all_goals
              go_ret3
              exact ⟨by rw [HE.out]; rfl, rfl⟩
          · have HE : Hid (fw T 0 0 = (N + b % 128 * 2 ^ (7 * k), k + 1, 0)) := Lib.hid (by rw [← HF.out, HFD.out, fw_last h9 h128 h0])
            have H9 := Lib.hid h9
            have H0 := Lib.hid h0
            clear h9 h128 h0
            by_cases hb0 : b = 0
            · have hk0 : ¬ 0 < k := fun c => H0.out ⟨by omega, c⟩
              have hk1 : ((k : Int) == 9) = false := by simp; omega
              have hk2 : ((b : Int) == 0) = true := by simp; omega
              clear hb0
              go_wp2
              go_ret3
              exact ⟨by rw [HE.out, hor.out]; simp, rfl⟩
            · have hk2 : ((b : Int) == 0) = false := by simp; omega
              clear hb0
              by_cases hk9 : k = 9
              · have hb1 : ¬ (1 : Int) < (b : Int) := by have a := H9.out; omega
                have hk1 : ((k : Int) == 9) = true := by simp; omega
                clear hk9
                go_wp2
                go_ret3
                exact ⟨by rw [HE.out, hor.out]; simp, rfl⟩
              · have hk1 : ((k : Int) == 9) = false := by simp; omega
                clear hk9
                go_wp2
                go_ret3
                exact ⟨by rw [HE.out, hor.out]; simp, rfl⟩
    · have HE : Hid (fw T 0 0 = (0, 0, 7)) := Lib.hid (by rw [← HF.out, List.drop_of_length_le (by have := HN.out; omega), fw_nil])
      go_wp2
      go_ret3
      exact ⟨by rw [HE.out]; rfl, rfl⟩
end Go.Proofs.Ytpdjbhnpahkbpaa
