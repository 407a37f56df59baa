/- PacerHeap. -/
import Derived.Test.YtlpgfdphoiideaaPF
import Derived.Laws.BitsAllLaws
import Derived.Laws.Bits64b
namespace Go.Proofs.Ytlpgfdphoiideaa
open Go.ChangeShapes Go.WideShapes Go.ChangeAt Go.RowKit
theorem xor_all (a : Nat) (ha : a < 18446744073709551616) : 18446744073709551615 ^^^ a = 18446744073709551615 - a := by
  have h : (BitVec.ofNat 64 18446744073709551615 ^^^ BitVec.ofNat 64 a) = ~~~ (BitVec.ofNat 64 a) := by
    rw [show BitVec.ofNat 64 18446744073709551615 = BitVec.allOnes 64 by decide +kernel, BitVec.allOnes_xor]
  have h2 := congrArg BitVec.toNat h
  rw [BitVec.toNat_xor, BitVec.toNat_not, BitVec.toNat_ofNat, BitVec.toNat_ofNat] at h2
  rw [Nat.mod_eq_of_lt (a := a) (by omega)] at h2
  exact h2.trans (by omega)
/-- The same of Go's operations. -/
theorem go_not (a : Int) (h0 : 0 ≤ a) (h1 : a ≤ 18446744073709551615) : bits .xor .u64 IntKind.u64.max a = 18446744073709551615 - a := by
  obtain ⟨n, rfl⟩ := Int.eq_ofNat_of_zero_le h0
  have h := u64_xor_nat 18446744073709551615 n (by omega) (by omega)
  rw [xor_all n (by omega)] at h
  exact h.trans (by omega)
section
variable {w : World} {b : Nat} {s : PS} {x : Int}
def hs (x : Int) : PS := { PS.new 100 0 with heap := x }
theorem ok_hs {x : Int} (h : isW x) : (hs x).Ok := { ok_s0 with heap := h }
theorem num_at {W wr : World} {b o j : Nat} {v : Value} (c : Cha (fun _ => False) W wr) (h : W.cell? ⟨b, o + j, none⟩ = some v) : wr.cell? ⟨b, o + j, none⟩ = some v := by
  have e := c.old b (block_lt_of_cell h) (fun x => x)
  simpa [World.cell?, e] using h
theorem hs_alloc (h : PP w b (hs x)) (hx : isW x) (n y : Int) (hn : isW n) (e : M.sat (x + n) = y) :
    Calls Try.prog 16 #[.pointer (some ⟨b, 0, none⟩), .int .u64 n] w fun e w' => e = .returned (.tuple #[]) ∧ Leaves w w' b (hs y) := by
  have k := alloc_any h (ok_hs hx) n hn
  rw [← e]; exact k
theorem hs_free (h : PP w b (hs x)) (hx : isW x) (n y : Int) (hn : isW n) (e : M.dif x n = y) :
    Calls Try.prog 18 #[.pointer (some ⟨b, 0, none⟩), .int .u64 n] w fun e w' => e = .returned (.tuple #[]) ∧ Leaves w w' b (hs y) := by
  have k := free_any h (ok_hs hx) n hn
  rw [← e]; exact k
theorem hs_counts (h : PP w b (hs x)) : Calls Try.prog 24 #[.pointer (some ⟨b, 0, none⟩)] w fun e w' => e = .returned (.tuple #[.int .u64 x, .int .u64 256, .int .u64 192, .int .u64 0]) ∧ Cha (fun _ => False) w w' :=
  c24 h rfl rfl rfl rfl
theorem hs_due (h : PP w b (hs x)) : Calls Try.prog 26 #[.pointer (some ⟨b, 0, none⟩)] w fun e w' => e = .returned (.bool (decide (192 ≤ x))) ∧ Cha (fun _ => False) w w' := due_any h
set_option maxHeartbeats 8000000 in
theorem heap_walk (w : World) (a1 : Option Addr) (l1 c1 : Nat) (k1 : NumsC .u64 w a1 l1 c1) (a2 : Option Addr) (l2 c2 : Nat) (k2 : NumsC .u64 w a2 l2 c2) :
    Calls Try.prog 7 #[.slice a1 l1 c1, .slice a2 l2 c2] w fun e w' => e = .returned (.bool true) ∧ Cha (fun _ => False) w w' := by
  have AW := Lib.hid awake
  have N : Hid (Calls Try.prog 13 #[.int .i64 100, .int .u64 0] w fun e w' => e = .returned (.pointer (some ⟨w.heap.size, 0, none⟩)) ∧ PP w' w.heap.size (hs 0) ∧ Cha (fun _ => False) w w') := Lib.hid (new_any w 100 0 (by omega) isW_0)
  obtain ⟨p1, p2, p3, p4⟩ := k1
  obtain ⟨q1, q2, q3, q4⟩ := k2
  have K1 := Lib.hid p4
  have K2 := Lib.hid q4
  clear p4 q4
  go_enter Try.func7, Try.ntmps7
  go_wp2_with (first
    | (go_at_call 13; (with_reducible refine (N.out).mono ?_); rintro e w1 ⟨rfl, hp1, hc1⟩; have HP1 := Lib.hid hp1; have HC1 := Lib.hid hc1; clear hp1 hc1)
    | (go_at_call 15; (with_reducible refine (AW.out _).mono ?_); rintro e w2 ⟨rfl, hc2⟩; have HP2 := Lib.hid (PP.same HP1.out hc2); have HC2 := Lib.hid (HC1.out.trans hc2); clear hc2))
  clear HP1 HC1 N AW
  go_loopw [6, 22] (fun v i wr => ∃ j : Nat, j ≤ l1 ∧ i = .int .i64 (j : Int) ∧ ∃ x : Int, v = .int .u64 x ∧ isW x ∧ PP wr w.heap.size (hs x) ∧ Cha (fun _ => False) w wr) (fun _ i _ => l1 - (intOf i).toNat)
  case atStart => exact ⟨0, Nat.zero_le _, rfl, 0, rfl, isW_0, HP2.out, HC2.out⟩
  case round =>
    clear HP2 HC2
    obtain ⟨j, hj, rfl, x, rfl, hx, hp, hc⟩ := hrel
    have HP := Lib.hid hp
    have HC := Lib.hid hc
    by_cases hlt : j < l1
    · obtain ⟨ba, oa, z, rfl, hzz⟩ := K1.out (by omega)
      obtain ⟨hcell, hwf⟩ := hzz j hlt
      have hcell := num_at hc hcell
      have hz : isW (z j) := ⟨u64_lo hwf, u64_hi hwf⟩
      clear hzz hwf hp hc
      generalize z j = n at *
      obtain ⟨y, hy⟩ : ∃ y, M.sat (x + n) = y := ⟨_, rfl⟩
      have hyw : isW y := by rw [← hy]; exact isW_sat (by have := hx.1; have := hz.1; omega)
      have A := Lib.hid (hs_alloc HP.out hx n y hz hy)
      obtain ⟨x0, x1⟩ := hx
      obtain ⟨n0, n1⟩ := hz
      have hN := go_not x x0 x1
      have hN2 : bits BinOp.xor IntKind.u64 (if IntKind.u64.signed = true then -1 else IntKind.u64.max) x = 18446744073709551615 - x := hN
      by_cases hA : 18446744073709551615 - x < n
      all_goals
        first
        | have hA1 : decide (18446744073709551615 - x < n) = true := decide_eq_true hA
        | have hA1 : decide (18446744073709551615 - x < n) = false := decide_eq_false hA
        have HA := Lib.hid hA
        clear hA
        by_cases h2 : j < l2
        · obtain ⟨bb, ob, z2, rfl, hzz2⟩ := K2.out (by omega)
          obtain ⟨hcell2, hwf2⟩ := hzz2 j h2
          have hm : isW (z2 j) := ⟨u64_lo hwf2, u64_hi hwf2⟩
          clear hwf2
          have K3 := Lib.hid hcell2
          clear hzz2 hcell2
          generalize z2 j = m at *
          obtain ⟨u, hu⟩ : ∃ u, M.dif y m = u := ⟨_, rfl⟩
          have huw : isW u := by rw [← hu]; exact isW_dif hyw hm
          have B := Lib.hid fun w' (h : PP w' w.heap.size (hs y)) => hs_free h hyw m u hm hu
          have hB : ∀ t, t = y → IntKind.u64.wrap (t - min t m) = u := fun t ht => by
            rw [← hu, ht]
            obtain ⟨m0, m1⟩ := hm
            obtain ⟨y0, y1⟩ := hyw
            unfold M.dif
            rw [IntKind.wrap_u64]
            split <;> omega
          have hD : ∀ t, t = y → IntKind.u64.wrap t = y := fun t ht => by
            rw [ht, IntKind.wrap_u64]
            obtain ⟨y0, y1⟩ := hyw
            omega
          first
          | have hy2 : y = 18446744073709551615 := by (rw [← hy]; have hA := HA.out; exact M.sat_out _ (by omega))
            have hB := hB 18446744073709551615 hy2.symm
            clear hD
          | have hy2 : x + n = y := by (rw [← hy]; have hA := HA.out; exact (M.sat_in _ (by omega)).symm)
            have hD := hD (x + n) hy2
            have hB := hB y rfl
          clear hy hu hy2
          have HU := Lib.hid huw
          clear huw hm
          go_wp2_with (first
            | (go_at_call 16; (with_reducible refine (A.out).mono ?_); rintro e w3 ⟨rfl, hp3, hc3⟩; have HP3 := Lib.hid hp3; have HC3 := Lib.hid (HC.out.over hc3 fun i hi => .inr (by omega)); clear hp3 hc3; have hk := num_at HC3.out K3.out)
            | (go_at_call 18; (with_reducible refine (B.out _ HP3.out).mono ?_); rintro e w4 ⟨rfl, hp4, hc4⟩; have HP4 := Lib.hid hp4; have HC4 := Lib.hid (HC3.out.over hc4 fun i hi => .inr (by omega)); clear hp4 hc4; have hk2 := num_at HC4.out K3.out)
            | (go_at_call 24; (with_reducible refine (hs_counts HP4.out).mono ?_); rintro e w5 ⟨rfl, hc5⟩; have HP5 := Lib.hid (PP.same HP4.out hc5); have HC5 := Lib.hid (HC4.out.trans hc5); clear hc5)
            | (go_at_call 26; (with_reducible refine (hs_due HP5.out).mono ?_); rintro e w6 ⟨rfl, hc6⟩; have HP6 := Lib.hid (PP.same HP5.out hc6); have HC6 := Lib.hid (HC5.out.trans hc6); clear hc6))
          go_roundw
          case rel => exact ⟨j + 1, hlt, rfl, u, rfl, HU.out, HP6.out, HC6.out⟩
          case measure => simp [intOf]; omega
        · have hD : ∀ t, t = y → IntKind.u64.wrap t = y := fun t ht => by
            rw [ht, IntKind.wrap_u64]
            obtain ⟨y0, y1⟩ := hyw
            omega
          first
          | have hy2 : y = 18446744073709551615 := by (rw [← hy]; have hA := HA.out; exact M.sat_out _ (by omega))
            clear hD hy
            subst hy2
          | have hy2 : x + n = y := by (rw [← hy]; have hA := HA.out; exact (M.sat_in _ (by omega)).symm)
            have hD := hD (x + n) hy2
            clear hy hy2
          have HU := Lib.hid hyw
          clear hyw
          go_wp2_with (first
            | (go_at_call 16; (with_reducible refine (A.out).mono ?_); rintro e w3 ⟨rfl, hp3, hc3⟩; have HP3 := Lib.hid hp3; have HC3 := Lib.hid (HC.out.over hc3 fun i hi => .inr (by omega)); clear hp3 hc3)
            | (go_at_call 24; (with_reducible refine (hs_counts HP3.out).mono ?_); rintro e w5 ⟨rfl, hc5⟩; have HP5 := Lib.hid (PP.same HP3.out hc5); have HC5 := Lib.hid (HC3.out.trans hc5); clear hc5)
            | (go_at_call 26; (with_reducible refine (hs_due HP5.out).mono ?_); rintro e w6 ⟨rfl, hc6⟩; have HP6 := Lib.hid (PP.same HP5.out hc6); have HC6 := Lib.hid (HC5.out.trans hc6); clear hc6))
          go_roundw
          case rel => exact ⟨j + 1, hlt, rfl, _, rfl, HU.out, HP6.out, HC6.out⟩
          case measure => simp [intOf]; omega
    · clear hp hc
      go_wp2
      go_returns
      exact ⟨rfl, HC.out⟩
end
end Go.Proofs.Ytlpgfdphoiideaa
