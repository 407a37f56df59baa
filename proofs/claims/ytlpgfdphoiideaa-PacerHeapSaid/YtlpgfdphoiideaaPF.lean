/- PacerEnough, PacerHeap. -/
import Derived.Test.YtlpgfdphoiideaaPE
import Derived.Test.YtlpgfdphoiideaaAB
namespace Go.Proofs.Ytlpgfdphoiideaa
open Go.ChangeShapes Go.WideShapes Go.ChangeAt Go.RowKit
section
variable {w : World} {b : Nat} {s : PS}
/-- The ratio is enough: shared out over the room, it is the work. -/
theorem enough_ratio {h r : Int} (h0 : 0 ≤ h) (h1 : h ≤ 65535) (r0 : 0 ≤ r) (r1 : r ≤ 65535) :
    ∃ G R : Int, goalG 100 0 h r = G ∧ ratioG h r G = R ∧ h < G ∧ G ≤ 262144 ∧ 65536 ≤ R ∧ R ≤ 140000 ∧ (h + r) * 65536 ≤ R * (G - h) := by
  have e1 : goalG 100 0 h r = max (2 * h + r) 256 := by
    unfold goalG ownG
    rw [if_pos rfl, if_neg (by omega), M.sat_in (h + r) (by omega), show (h + r) * 100 / 100 = h + r by omega, M.sat_in (h + r) (by omega), M.sat_in _ (by omega)]
    omega
  obtain ⟨G, hG⟩ : ∃ G, max (2 * h + r) 256 = G := ⟨_, rfl⟩
  have hlt : h < G := by omega
  have hGr : h + r ≤ G - h := by omega
  refine ⟨G, _, e1.trans hG, rfl, hlt, by omega, ?_⟩
  unfold ratioG
  rw [M.dif_ge (by omega : h ≤ G), M.sat_in (h + r) (by omega), M.sat_in (h + r + 1) (by omega)]
  obtain ⟨m, hm⟩ : ∃ m, max (G - h) 1 = m := ⟨_, rfl⟩
  rw [hm]
  have hm0 : 0 < m := by omega
  have hmG : m = G - h := by omega
  rw [← hmG]
  have q0 : 0 ≤ (h + r + 1) * 65536 / m := Int.ediv_nonneg (by omega) (by omega)
  have q1 : (h + r + 1) * 65536 / m ≤ 131072 := by
    have : (h + r + 1) * 65536 < 131073 * m := by
      have : h + r + 1 ≤ 2 * m := by omega
      have : (h + r + 1) * 65536 ≤ 131072 * m := by omega
      omega
    have := (Int.ediv_lt_iff_lt_mul hm0).2 this
    omega
  have q2 : (h + r + 1) * 65536 < ((h + r + 1) * 65536 / m + 1) * m := Int.lt_ediv_add_one_mul_self _ hm0
  rw [M.sat_in ((h + r + 1) * 65536 / m) (by omega), M.sat_in _ (by omega)]
  generalize (h + r + 1) * 65536 / m = q at *
  refine ⟨by omega, by omega, ?_⟩
  have : (q + 1) * m ≤ max (q + 1) 65536 * m := Int.mul_le_mul_of_nonneg_right (by omega) (by omega)
  omega
/-- What one allocation owes. -/
theorem owes_bd {n R : Int} (h0 : 1 ≤ n) (h1 : n ≤ 256) (r0 : 65536 ≤ R) (r1 : R ≤ 140000) : ∃ x, M.sat (M.sat (n * R / 65536) + 1) = x ∧ n * R ≤ x * 65536 ∧ 0 ≤ x ∧ x ≤ 1000 := by
  have a : n * R ≤ 256 * 140000 := (M.mul_bd (by omega) (by omega) h1 r1).2
  have b : 0 ≤ n * R := (M.mul_bd (show 0 ≤ n by omega) (show 0 ≤ R by omega) h1 r1).1
  rw [M.sat_in (n * R / 65536) (by omega), M.sat_in _ (by omega)]
  exact ⟨_, rfl, by omega, by omega, by omega⟩
theorem u16_u64 {a : Int} (h0 : 0 ≤ a) (h1 : a ≤ 65535) : isW a := ⟨h0, by omega⟩
set_option maxHeartbeats 4000000 in
theorem enough_walk (h r : Int) (w : World) (h0 : 0 ≤ h) (h1 : h ≤ 65535) (r0 : 0 ≤ r) (r1 : r ≤ 65535) (a : Option Addr) (len c : Nat) (k : NumsC .u8 w a len c) (hz : len * 1 ≤ 140737488351232) :
    Calls Try.prog 5 #[.int .u16 h, .int .u16 r, .slice a len c] w fun e w' => e = .returned (.bool true) ∧ Cha (fun _ => False) w w' := by
  obtain ⟨G, R, hG, hR, g1, g2, g3, g4, g5⟩ := enough_ratio h0 h1 r0 r1
  have AW := Lib.hid awake
  have Hw := u16_u64 h0 h1
  have Rw := u16_u64 r0 r1
  have o1 : ((PS.new 100 0).fin h r).Ok := ok_s0.fin Hw Rw
  have o2 : (((PS.new 100 0).fin h r).alloc h).Ok := o1.alloc Hw
  have o3 : (((PS.new 100 0).fin h r).alloc h).begin.Ok := o2.begin
  have e1 : ((PS.new 100 0).fin h r).goal = G := hG
  have e2 : (((PS.new 100 0).fin h r).alloc h).begin.ratio = R := by
    show ratioG (M.sat (0 + h)) r (goalG 100 0 h r) = R
    rw [M.sat_in _ (by omega), hG, Int.zero_add]; exact hR
  obtain ⟨T, hT⟩ : ∃ x, x = ((PS.new 100 0).fin h r).trig := ⟨_, rfl⟩
  have N := Lib.hid (new_any w 100 0 (by omega) isW_0)
  have C1 : Hid (∀ w b, PP w b ((PS.new 100 0).fin h r) → Calls Try.prog 24 #[.pointer (some ⟨b, 0, none⟩)] w fun e w' => e = .returned (.tuple #[.int .u64 0, .int .u64 G, .int .u64 T, .int .u64 0]) ∧ Cha (fun _ => False) w w') :=
    Lib.hid fun w b h => c24 h rfl e1 hT.symm rfl
  have OW : Hid (∀ w b n, 1 ≤ n → n ≤ 256 → PP w b (((PS.new 100 0).fin h r).alloc h).begin → Calls Try.prog 28 #[.pointer (some ⟨b, 0, none⟩), .int .u64 n] w fun e w' => ∃ x, e = .returned (.int .u64 x) ∧ n * R ≤ x * 65536 ∧ 0 ≤ x ∧ x ≤ 1000 ∧ Cha (fun _ => False) w w') :=
    Lib.hid fun w b n n0 n1 hp => (owes_any hp o3 n ⟨by omega, by omega⟩).mono fun e w' ⟨he, hc⟩ => by
      obtain ⟨x, hx, x1, x2, x3⟩ := owes_bd n0 n1 g3 g4
      refine ⟨x, he.trans (ret_int ?_), x1, x2, x3, hc⟩
      rw [← hx, ← e2]; rfl
  clear hT e1 e2 hG hR
  have hw1 : IntKind.u64.wrap h = h := by rw [IntKind.wrap_u64]; omega
  have hw2 : IntKind.u64.wrap r = r := by rw [IntKind.wrap_u64]; omega
  obtain ⟨k1, k2, k3, k4⟩ := k
  have K4 := Lib.hid k4
  clear k4
  go_enter Try.func5, Try.ntmps5
  go_wp2_with (first
    | (go_at_call 13; (with_reducible refine (N.out).mono ?_); rintro e w1 ⟨rfl, hp1, hc1⟩; have HP1 := Lib.hid hp1; have HC1 := Lib.hid hc1; clear hp1 hc1)
    | (go_at_call 15; (with_reducible refine (AW.out _).mono ?_); rintro e w2 ⟨rfl, hc2⟩; have HP2 := Lib.hid (PP.same HP1.out hc2); have HC2 := Lib.hid (HC1.out.trans hc2); clear hc2)
    | (go_at_call 22; (with_reducible refine (end_any HP2.out ok_s0 h r Hw Rw).mono ?_); rintro e w3 ⟨rfl, hp3, hc3⟩; have HP3 := Lib.hid hp3; have HC3 := Lib.hid (HC2.out.over hc3 fun i hi => .inr (by omega)); clear hp3 hc3)
    | (go_at_call 24; (with_reducible refine (C1.out _ _ HP3.out).mono ?_); rintro e w4 ⟨rfl, hc4⟩; have HP4 := Lib.hid (PP.same HP3.out hc4); have HC4 := Lib.hid (HC3.out.trans hc4); clear hc4)
    | (go_at_call 16; (with_reducible refine (alloc_any HP4.out o1 h Hw).mono ?_); rintro e w5 ⟨rfl, hp5, hc5⟩; have HP5 := Lib.hid hp5; have HC5 := Lib.hid (HC4.out.over hc5 fun i hi => .inr (by omega)); clear hp5 hc5)
    | (go_at_call 20; (with_reducible refine (begin_any HP5.out o2).mono ?_); rintro e w6 ⟨rfl, hp6, hc6⟩; have HP6 := Lib.hid hp6; have HC6 := Lib.hid (HC5.out.over hc6 fun i hi => .inr (by omega)); clear hp6 hc6))
  clear HP1 HC1 HP2 HC2 HP3 HC3 HP4 HC4 HP5 HC5 N AW C1
  go_loopw [12, 13, 44] (fun i1 i2 i wr => ∃ j : Nat, j ≤ len ∧ i = .int .i64 (j : Int) ∧ ∃ x y : Int, i1 = .int .u64 x ∧ i2 = .int .u64 y ∧ 0 ≤ x ∧ x ≤ j * 256 ∧ 0 ≤ y ∧ y ≤ j * 1000 ∧ x * R ≤ y * 65536 ∧ PP wr w.heap.size (((PS.new 100 0).fin h r).alloc h).begin ∧ Cha (fun _ => False) w wr) (fun _ _ i _ => len - (intOf i).toNat)
  case atStart => exact ⟨0, Nat.zero_le _, rfl, 0, 0, rfl, rfl, by omega, by omega, by omega, by omega, by omega, HP6.out, HC6.out⟩
  case round =>
    clear HP6 HC6
    obtain ⟨j, hj, rfl, x, y, rfl, rfl, x0, x1, y0, y1, xy, hp, hc⟩ := hrel
    by_cases hlt : j < len
    · obtain ⟨ba, oa, z, rfl, hzz⟩ := K4.out (by omega)
      obtain ⟨hcell, hwf⟩ := hzz j hlt
      have hcell : wr.cell? ⟨ba, oa + j, none⟩ = some (.int .u8 (z j)) := by
        have e := hc.old ba (block_lt_of_cell hcell) (fun x => x)
        simpa [World.cell?, e] using hcell
      obtain ⟨z0, z1⟩ := (Lit.wf_int_iff _ _).1 hwf
      have z1 : z j ≤ 255 := z1
      have z0 : 0 ≤ z j := z0
      clear hzz hwf K4
      generalize z j = zz at *
      have hw3 : IntKind.u64.wrap zz = zz := by rw [IntKind.wrap_u64]; omega
      have hw4 : IntKind.u64.wrap (zz + 1) = zz + 1 := by rw [IntKind.wrap_u64]; omega
      have hw5 : IntKind.u64.wrap (x + (zz + 1)) = x + (zz + 1) := by rw [IntKind.wrap_u64]; omega
      have HP := Lib.hid hp
      have HC := Lib.hid hc
      clear hp hc
      go_wp2_with (go_at_call 28; (with_reducible refine (OW.out _ _ _ (by omega) (by omega) HP.out).mono ?_); rintro e w7 ⟨v, rfl, v1, v2, v3, hc7⟩; have hw6 : IntKind.u64.wrap (y + v) = y + v := (by rw [IntKind.wrap_u64]; omega); have HC7 := Lib.hid hc7; clear hc7)
      go_roundw
      case rel => exact ⟨j + 1, hlt, rfl, x + (zz + 1), y + v, rfl, rfl, by omega, by omega, by omega, by omega, by rw [Int.add_mul x (zz + 1) R]; omega, PP.same HP.out HC7.out, HC.out.trans HC7.out⟩
      case measure => simp [intOf]; omega
    · obtain rfl : j = len := by omega
      have hwg : IntKind.u64.wrap (G - h) = G - h := by rw [IntKind.wrap_u64]; omega
      have hwr : IntKind.u64.wrap (h + r) = h + r := by rw [IntKind.wrap_u64]; omega
      have HC := Lib.hid hc
      by_cases hx : x < G - h
      · clear hp hc
        go_wp2
        go_returns
        exact ⟨rfl, HC.out⟩
      · have m : R * (G - h) ≤ R * x := Int.mul_le_mul_of_nonneg_left (by omega) (by omega)
        have : R * x = x * R := Int.mul_comm _ _
        have d1 : decide (h + r ≤ y) = true := decide_eq_true (by omega)
        have d2 : decide (x < G - h) = false := decide_eq_false hx
        clear hp hc
        go_wp2
        go_returns
        exact ⟨rfl, HC.out⟩
end
end Go.Proofs.Ytlpgfdphoiideaa
