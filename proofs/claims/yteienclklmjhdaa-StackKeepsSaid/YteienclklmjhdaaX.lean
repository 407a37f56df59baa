/- StackKeeps: its walk. -/
import Derived.Test.YteienclklmjhdaaV
namespace Go.Proofs.Yteienclklmjhdaa
open Go.ChangeShapes Go.WideShapes Go.ChangeAt Go.RowKit

set_option maxRecDepth 100000 in
set_option maxHeartbeats 4000000 in
theorem keeps_walk (d : Int) (s : Option Addr) (len cap : Nat) (w : World) (d0 : 0 ≤ d) (d1 : d ≤ 255) (hc : len ≤ cap) (hcap : cap ≤ 9223372036854775807) (b o : Nat) (z : Nat → Int) (hs : 0 < len → s = some ⟨b, o, none⟩)
    (hz : ∀ i, i < len → w.cell? ⟨b, o + i, none⟩ = some (.int .u64 (z i)) ∧ 0 ≤ z i ∧ z i ≤ 18446744073709551615) :
    Calls Try.prog 4 #[.slice s len cap, .int .u8 d] w fun e w' => e = .returned (.bool true) ∧ Cha (fun _ => False) w w' := by
  obtain ⟨n1, hn⟩ : ∃ n1 : Nat, d % 60 = (n1 : Int) := ⟨(d % 60).toNat, by omega⟩
  have hn60 : n1 ≤ 59 := by omega
  obtain ⟨L, hL⟩ : ∃ L, L = min len 30 := ⟨_, rfl⟩
  have hL30 : L ≤ 30 := by omega
  have hLlen : L ≤ len := by omega
  have hLcap : L ≤ cap := by omega
  have m1 : min (len : Int) 30 = (L : Int) := by omega
  have m2 : (if (30 : Int) < (len : Int) then (30 : Int) else (len : Int)) = (L : Int) := by split <;> omega
  have C0 := Lib.hid (live_new (Cha.refl (fun _ => False) w))
  have CA : Hid (∀ bs W, Live w W bs St.new → Calls Try.prog 10 #[] W fun e W' => e = .returned (.bool true) ∧ Kql w W' bs z L 0 0) := Lib.hid fun bs W h => (awake_any (Cha.refl (fun _ => False) W)).mono fun _ _ ⟨a, c⟩ => ⟨a, Kql.new (h.same c)⟩
  have HZ : Hid (∀ W i, Cha (fun _ => False) w W → i < L → W.cell? ⟨b, o + i, none⟩ = some (.int .u64 (z i))) := Lib.hid fun W i c hi => by
    have h1 := (hz i (by omega)).1
    have e := c.old b (block_lt_of_cell h1) id
    unfold World.cell? at h1 ⊢
    rw [e]; exact h1
  have HB : Hid (∀ i, i < L → 0 ≤ z i ∧ z i ≤ 18446744073709551615) := Lib.hid fun i hi => (hz i (by omega)).2
  have HS : Hid (0 < L → s = some ⟨b, o, none⟩) := Lib.hid fun h => hs (by omega)
  clear hz hs hL
  go_enter Try.func4, Try.ntmps4
  go_wp2_with (first
    | (go_at_call 8; ((with_reducible refine (C0.out).mono ?_); rintro e w1 ⟨bs, rfl, h⟩; have D1 := Lib.hid (CA.out _ _ h); clear h))
    | (go_at_call 10; ((with_reducible refine (D1.out).mono ?_); rintro e w2 ⟨rfl, h⟩; have H5 := Lib.hid h; clear h)))
  try simp only [hn]
  clear hn D1 C0 CA m1 m2 hc hcap hLlen hLcap
  go_loopw [36] (fun i wr => ∃ k : Nat, k ≤ n1 + 1 ∧ i = .int .i64 (k : Int) ∧ Kql w wr bs z L k (k - 1)) (fun i _ => n1 + 1 - (intOf i).toNat)
  case atStart => exact ⟨0, by omega, rfl, H5.out⟩
  case round =>
    clear H5
    obtain ⟨k, hk, rfl, hQ⟩ := hrel
    by_cases hlt : k < n1 + 1
    · have D1 := Lib.hid (hQ.push hL30 (by omega))
      have hlt2 : (k : Int) < (n1 : Int) + 1 := by omega
      clear hQ
      go_wp2_with (go_at_call 11; ((with_reducible refine (D1.out).mono ?_); rintro e w2 ⟨rfl, h⟩; have H2 := Lib.hid h; clear h))
      go_loopw [47] (fun i wr2 => ∃ j : Nat, j ≤ L ∧ i = .int .i64 (j : Int) ∧ Khl w wr2 bs z L k j (k - 1)) (fun i _ => L - (intOf i).toNat)
      case atStart => exact ⟨0, by omega, rfl, H2.out⟩
      case round =>
        clear H2 D1
        obtain ⟨j, hj, rfl, hH⟩ := hrel
        by_cases hjl : j < L
        · obtain rfl := HS.out (by omega)
          have y0 := HZ.out _ j hH.cha hjl
          have D2 := Lib.hid (hH.set hjl (by omega))
          have hjl2 : (j : Int) < (L : Int) := by omega
          have hw : IntKind.u64.wrap (k : Int) = (k : Int) := IntWalk.u64_in _ (by omega)
          clear hH
          go_wp2_with (go_at_call 15; ((with_reducible refine (D2.out).mono ?_); rintro e w3 ⟨rfl, h⟩; have H3 := Lib.hid h; clear h))
          go_roundw
          case rel => exact ⟨j + 1, by omega, by congr 1, H3.out⟩
          case measure => simp [intOf]; omega
        · obtain rfl : j = L := by omega
          by_cases hL0 : 0 < j
          · have hL2 : (0 : Int) < (j : Int) := by omega
            by_cases hk0 : k = 0
            · subst hk0
              have H3 := Lib.hid (hH.plain (.inl rfl) (Nat.zero_le _))
              clear hH
              go_wp2
              go_roundw
              case rel => exact ⟨1, by omega, by congr 1, H3.out⟩
              case measure => simp [intOf]
            · obtain ⟨m, rfl⟩ : ∃ m, k = m + 1 := ⟨k - 1, by omega⟩
              rw [Nat.add_sub_cancel] at hH
              have D2 := Lib.hid (hH.link hL0)
              have D3' : Hid (∀ W, Kll w W bs z j m → Calls Try.prog 19 #[.pointer (some ⟨bs, 0, none⟩), .int .i64 0, .int .i64 (j : Int), .int .u64 (1000 * ((m : Int) + 1))] W fun e W' => e = .returned (.int .i64 0) ∧ Kql w W' bs z j (m + 2) (m + 1)) := Lib.hid fun W h => h.store hL0 (by omega)
              have hw : IntKind.u64.wrap (1000 * ((m : Int) + 1)) = 1000 * ((m : Int) + 1) := IntWalk.u64_in _ (by omega)
              have hw2 : IntKind.i64.wrap (1000 * ((m : Int) + 1)) = 1000 * ((m : Int) + 1) := IntWalk.i64_in _ (by omega)
              have hk2 : (0 : Int) < (m : Int) + 1 := by omega
              clear hH
              go_wp2_with (first
                | (go_at_call 17; ((with_reducible refine (D2.out).mono ?_); rintro e w3 ⟨rfl, h⟩; have D3 := Lib.hid (D3'.out _ h); clear h))
                | (go_at_call 19; ((with_reducible refine (D3.out).mono ?_); rintro e w4 ⟨rfl, h⟩; have H4 := Lib.hid h; clear h)))
              go_roundw
              case rel => exact ⟨m + 2, by omega, by congr 1, H4.out⟩
              case measure => simp [intOf]; omega
          · have hL2 : ¬ ((0 : Int) < (j : Int)) := by omega
            have H3 := Lib.hid (hH.plain (.inr (by omega)) (by omega))
            clear hH hL0
            by_cases hk0 : k = 0
            · subst hk0
              go_wp2
              go_roundw
              case rel => exact ⟨1, by omega, by congr 1, H3.out⟩
              case measure => simp [intOf]
            · have hk2 : (0 : Int) < (k : Int) := by omega
              go_wp2
              go_roundw
              case rel => exact ⟨k + 1, by omega, by congr 1, H3.out⟩
              case measure => simp [intOf]; omega
    · obtain rfl : k = n1 + 1 := by omega
      rw [Nat.add_sub_cancel] at hQ
      have HQ := Lib.hid hQ
      clear hQ
      go_wp2
      rw [show ((n1 + 1 : Nat) : Int) = (n1 : Int) + 1 from rfl]
      go_loopw [10] (fun i wr => ∃ m : Nat, m ≤ n1 + 1 ∧ i = .int .i64 ((m : Int) - 1) ∧ Kql w wr bs z L m n1) (fun i _ => (intOf i + 1).toNat)
      case atStart => exact ⟨n1 + 1, by omega, by congr 1; omega, HQ.out⟩
      case round =>
        clear HQ
        obtain ⟨m', hm, rfl, hQ⟩ := hrel
        by_cases hm0 : m' = 0
        · subst hm0
          obtain ⟨⟨c, E1⟩, _⟩ := hQ.end
          have E1 := Lib.hid E1
          clear hQ
          go_wp2_with (first
            | (go_at_call 25; ((with_reducible refine (E1.out).mono ?_); rintro e w3 ⟨rfl, h⟩; have E2 := Lib.hid h.end.2; clear h))
            | (go_at_call 13; ((with_reducible refine (E2.out).mono ?_); rintro e w4 ⟨rfl, h⟩; have E3 := Lib.hid h; clear h)))
          go_ret
          exact ⟨rfl, E3.out⟩
        · obtain ⟨m, rfl⟩ : ∃ m, m' = m + 1 := ⟨m' - 1, by omega⟩
          have hm2 : (0 : Int) ≤ (m : Int) := by omega
          have hm3 : ((m + 1 : Nat) : Int) - 1 = (m : Int) := by omega
          rw [hm3]
          have HQ := Lib.hid hQ
          clear hQ hm3
          go_wp2
          go_loopw [94] (fun i wr2 => ∃ j : Nat, j ≤ L ∧ i = .int .i64 (j : Int) ∧ Kql w wr2 bs z L (m + 1) n1) (fun i _ => L - (intOf i).toNat)
          case atStart => exact ⟨0, by omega, rfl, HQ.out⟩
          case round =>
            clear HQ
            obtain ⟨j, hj, rfl, hQ⟩ := hrel
            by_cases hjl : j < L
            · obtain rfl := HS.out (by omega)
              have y0 := HZ.out _ j hQ.cha hjl
              have D2 := Lib.hid (hQ.get hjl)
              have hjl2 : (j : Int) < (L : Int) := by omega
              have hw : IntKind.u64.wrap (m : Int) = (m : Int) := IntWalk.u64_in _ (by omega)
              clear hQ
              by_cases hg : j = 0 ∧ m < n1
              · have e : Gv z n1 m j = 1000 * ((m : Int) + 1) := by unfold Gv; rw [if_pos hg]
                obtain ⟨hg0, hg2⟩ := hg
                have hj3 : ((j : Int) == 0) = true := by simp [hg0]
                have hg3 : (m : Int) < (n1 : Int) := by omega
                have hw1 : IntKind.u64.wrap (1000 * ((m : Int) + 1)) = 1000 * ((m : Int) + 1) := IntWalk.u64_in _ (by omega)
                have hw2 : IntKind.i64.wrap (1000 * ((m : Int) + 1)) = 1000 * ((m : Int) + 1) := IntWalk.i64_in _ (by omega)
                rw [e] at D2
                have HG0 := Lib.hid hg0
                clear e hg0
                go_wp2_with (go_at_call 21; ((with_reducible refine (D2.out).mono ?_); rintro e w3 ⟨rfl, h⟩; have H3 := Lib.hid h; clear h))
                go_roundw
                case rel => exact ⟨j + 1, by omega, by congr 1, H3.out⟩
                case measure => simp [intOf]; omega
              · have e : Gv z n1 m j = IntKind.u64.wrap (z j + (m : Int)) := by unfold Gv; rw [if_neg hg]
                rw [e] at D2
                clear e
                by_cases hj0 : j = 0
                · have hg3 : ¬ (m : Int) < (n1 : Int) := by omega
                  have hj3 : ((j : Int) == 0) = true := by simp [hj0]
                  clear hj0 hg
                  go_wp2_with (go_at_call 21; ((with_reducible refine (D2.out).mono ?_); rintro e w3 ⟨rfl, h⟩; have H3 := Lib.hid h; clear h))
                  go_roundw
                  case rel => exact ⟨j + 1, by omega, by congr 1, H3.out⟩
                  case measure => simp [intOf]; omega
                · have hj3 : ((j : Int) == 0) = false := by simp; exact hj0
                  go_wp2_with (go_at_call 21; ((with_reducible refine (D2.out).mono ?_); rintro e w3 ⟨rfl, h⟩; have H3 := Lib.hid h; clear h))
                  go_roundw
                  case rel => exact ⟨j + 1, by omega, by congr 1, H3.out⟩
                  case measure => simp [intOf]; omega
            · have D2 := Lib.hid (hQ.pop hL30)
              have hjl2 : ¬ (j : Int) < (L : Int) := by omega
              clear hQ
              go_wp2_with (go_at_call 13; ((with_reducible refine (D2.out).mono ?_); rintro e w3 ⟨rfl, h⟩; have H3 := Lib.hid h; clear h))
              go_roundw
              case rel => exact ⟨m, by omega, rfl, H3.out⟩
              case measure => simp [intOf]
end Go.Proofs.Yteienclklmjhdaa
