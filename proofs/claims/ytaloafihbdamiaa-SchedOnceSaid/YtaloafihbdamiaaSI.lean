/- The scheduler: Counts, New. -/
import Derived.Test.YtaloafihbdamiaaSH
namespace Go.Proofs.Ytaloafihbdamiaa
open Go.ChangeShapes Go.WideShapes Go.ChangeAt Go.RowKit
section
variable {w w' : World} {F : Nat → Prop} {bs bq bt b3 : Nat} {X : Sx}
/-- How many can go on. -/
def able (G : List (Int × Bool)) : Nat := G.countP fun s => s.1 == 1
theorem able_take (G : List (Int × Bool)) {j : Nat} (hj : j < G.length) : able (G.take (j + 1)) = able (G.take j) + if (G.getD j (0, false)).1 = 1 then 1 else 0 := by
  unfold able
  rw [List.take_add_one, List.getElem?_eq_getElem hj, List.countP_append]
  congr 1
  simp [List.getD, hj, List.countP_cons]
theorem counts_none (w : World) : Calls Try.prog 23 #[.pointer none] w fun e w' => e = .returned (.tuple #[.int .u64 0, .int .i64 0, .int .i64 0]) ∧ w = w' := by
  go_enter Try.func23, Try.ntmps23
  go_wp2
  go_returns
  exact ⟨rfl, rfl⟩
theorem counts_any (h : ScA bs bq bt b3 X w F) (hm : many X.P ≤ 1024) :
    Calls Try.prog 23 #[.pointer (some ⟨bs, 0, none⟩)] w fun e w' => e = .returned (.tuple #[.int .u64 X.clk, .int .i64 (able X.gs : Nat), .int .i64 (many X.P : Nat)]) ∧ Cha (fun _ => False) w w' := by
  have HS : Hid (∀ W, Cha (fun _ => False) w W → W.cell? ⟨bs, 1, none⟩ = some (.pointer (some ⟨bt, 0, none⟩)) ∧ W.cell? ⟨bs, 4, none⟩ = some (.int .u64 X.clk) ∧
      Calls Try.prog 35 #[.pointer (some ⟨bt, 0, none⟩)] W fun e w' => e = .returned (.int .i64 (many X.P : Nat)) ∧ w'.cell? ⟨bs, 1, none⟩ = some (.pointer (some ⟨bt, 0, none⟩)) ∧ w'.cell? ⟨bs, 4, none⟩ = some (.int .u64 X.clk) ∧ Cha (fun _ => False) w w') := Lib.hid fun W c => by
    obtain ⟨F2, gv, o, -, -⟩ := Sc.own (fit_sc.same h c)
    obtain ⟨c0, c1, c2, c3, c4, cf⟩ := o.facts
    refine ⟨c1, c4, (sc_count (fit_sc.same h c) hm).mono fun e w' ⟨a, d⟩ => ?_⟩
    obtain ⟨-, d1, -, -, d4, -⟩ := (o.same d).facts
    exact ⟨a, d1, d4, c.trans d⟩
  obtain ⟨F2, gv, o, -, -⟩ := Sc.own h
  obtain ⟨c0, c1, c2, c3, c4, cf⟩ := o.facts
  have h8 := o.g64
  obtain ⟨b, off, cap, hgv, hc1, hc2⟩ : ∃ b off cap, gv = .slice b X.gs.length cap ∧ X.gs.length ≤ cap ∧ off = 0 := by
    obtain ⟨a, cap, e, h1, h2⟩ := o.gls.form
    exact ⟨a, 0, cap, e, h1, rfl⟩
  clear hc2
  have HE : Hid (∀ j, j < X.gs.length → ∃ g o', b = some ⟨g, o', none⟩ ∧ ∀ W, Cha (fun _ => False) w W → W.cell? ⟨g, o' + j * 2, none⟩ = some (.int .i64 (X.gs.getD j (0, false)).1) ∧ W.cell? ⟨g, o' + j * 2 + 1, none⟩ = some (.bool (X.gs.getD j (0, false)).2)) := Lib.hid fun j hj => by
    obtain ⟨g, o', cap', e, -, -, hh⟩ := o.gls.cells goE_ok (by omega)
    rw [hgv] at e
    injection e with e1 e2 e3
    refine ⟨g, o', e1, fun W c => ?_⟩
    obtain ⟨k1, -⟩ := hh W (c.mono fun _ _ f => f.elim)
    have e : X.gs[j] = X.gs.getD j (0, false) := by simp [List.getD, hj]
    rw [← e]
    exact ⟨k1 j 0 hj (by decide), k1 j 1 hj (by decide)⟩
  subst hgv
  have HT := Lib.hid fun j (hj : j < X.gs.length) => able_take X.gs hj
  have HB := Lib.hid fun j => (show able (X.gs.take j) ≤ 64 by unfold able; have := List.countP_le_length (p := fun s : Int × Bool => s.1 == 1) (l := X.gs.take j); have := List.length_take (i := j) (l := X.gs); omega)
  have HF : Hid (able (X.gs.take X.gs.length) = able X.gs) := Lib.hid (by rw [List.take_length])
  have HK : Hid (∀ W, Cha (fun _ => False) w W → Cha (fun _ => False) w W) := Lib.hid fun _ c => c
  clear o h c0 c1 c2 c4 cf
  generalize hG : X.gs = G at *
  go_enter Try.func23, Try.ntmps23
  go_wp2
  go_loopw [5, 15] (fun r i wr => ∃ j : Nat, j ≤ G.length ∧ i = .int .i64 (j : Int) ∧ r = .int .i64 (able (G.take j) : Nat) ∧ Cha (fun _ => False) w wr) (fun _ i _ => G.length - (intOf i).toNat)
  case atStart => exact ⟨0, Nat.zero_le _, rfl, rfl, Cha.refl _ _⟩
  case round =>
    obtain ⟨j, hj, rfl, rfl, hC⟩ := hrel
    have HC := Lib.hid hC
    have hb := HB.out j
    clear hC
    by_cases hlt : j < G.length
    · obtain ⟨g, o', rfl, hz⟩ := HE.out j hlt
      obtain ⟨z0, z1⟩ := hz wr HC.out
      have ht := HT.out j hlt
      have hb2 := HB.out (j + 1)
      have k1 : (j : Int) < G.length := by omega
      have k2 : (0 : Int) ≤ (j : Int) := by omega
      generalize (G.getD j (0, false)).2 = y2 at *
      generalize (G.getD j (0, false)).1 = y at *
      clear hz
      by_cases hy : y = 1
      · subst hy
        rw [if_pos rfl] at ht
        have e2 : IntKind.i64.wrap ((able (G.take j) : Int) + 1) = ((able (G.take (j + 1)) : Nat) : Int) := by rw [IntWalk.i64_in _ (by omega)]; omega
        go_wp2
        go_roundw
        case rel => exact ⟨j + 1, by omega, by go_num, by congr 1; omega, HC.out.trans ((Cha.refl (fun _ => False) wr).alloc _)⟩
        case measure => simp [intOf]; omega
      · have hy2 : (y == 1) = false := by simpa using hy
        rw [if_neg hy, Nat.add_zero] at ht
        go_wp2
        go_roundw
        case rel => exact ⟨j + 1, by omega, by go_num, by congr 1; omega, HC.out.trans ((Cha.refl (fun _ => False) wr).alloc _)⟩
        case measure => simp [intOf]; omega
    · obtain rfl : j = G.length := by omega
      rw [HF.out]
      go_wp2
      obtain ⟨q1, q2, -⟩ := HS.out wr HC.out
      go_region_held3 (fun w' => w'.cell? ⟨bs, 1, none⟩ = some (.pointer (some ⟨bt, 0, none⟩)) ∧ w'.cell? ⟨bs, 4, none⟩ = some (.int .u64 X.clk))
        (first
          | exact ⟨q1, q2⟩
          | go_keep)
        (first | (go_at_call 35; (with_reducible refine ((HS.out _ (HC.out.trans (by first | exact (Cha.refl _ _).drew | exact (Cha.refl _ _).drewN _ | exact Cha.refl _ _))).2.2).mono ?_); rintro e w1 ⟨rfl, e1, e4, hc⟩; have HCC := Lib.hid hc; clear hc))
      all_goals
        go_wp2
        go_returns
        exact ⟨rfl, by first | exact HCC.out | exact HCC.out.drew⟩
end
end Go.Proofs.Ytaloafihbdamiaa
