/- Contracts of layer 10's rings and processors. -/
import Derived.Test.YtaloafihbdamiaaC
import Derived.Deep.RegionLaw
import Derived.Deep.RegionWith
namespace Go.Proofs.Ytaloafihbdamiaa
open Go.ChangeShapes Go.WideShapes Go.ChangeAt Go.RowKit
variable {t : TypeId} {w : World} {b m o f P R : Nat} {z : Nat → Int} {g : Int} {l L L1 : List Int}

theorem take_any (hI : Ints t w b m z) (ho : o + 10 ≤ m) (hR : Ring z o f (g :: l)) :
    Calls Try.prog 52 #[.pointer (some ⟨b, o, none⟩)] w fun e w' => e = .returned (.int .i64 g) ∧ Turned t b m o z l w w' := by
  have h8 := hR.f8
  have hn := hR.n8
  simp only [List.length_cons] at hn
  have c8 := hI.cell (i := o + 8) (by omega)
  rw [hR.fst] at c8
  have c9 := hI.cell (i := o + 9) (by omega)
  rw [hR.len] at c9
  simp only [List.length_cons] at c9
  have c0 := hI.cell (i := o + f) (by omega)
  rw [hR.head] at c0
  have z8 := hI.free (o + 8)
  have z9 := hI.free (o + 9)
  have k1 : (0 : Int) ≤ (f : Int) := by omega
  have k2 : (f : Int) < 8 := by omega
  have e1 : (((f + 1) % 8 : Nat) : Int) = ((f : Int) + 1) % 8 := by omega
  have hP := hR.pop
  rw [e1] at hP
  have HP := Lib.hid hP
  have HI := Lib.hid hI
  generalize l.length = n at *
  clear hP hI hR e1
  go_enter Try.func52, Try.ntmps52
  go_wp2
  go_region
  go_wp2
  go_ret
  exact ⟨rfl, _, _, Ints.of ((HI.out.set (o + 8) _).set (o + 9) _) rfl, HP.out, fun i hi => by rw [up_other _ _ (by omega), up_other _ _ (by omega)], (((Cha.refl (· = b) w).setCell (p := ⟨b, o + 8, none⟩) (fun _ => rfl) _).setCell (p := ⟨b, o + 9, none⟩) (fun _ => rfl) _).drew⟩
theorem push_any (hI : Ints t w b m z) (ho : o + 10 ≤ m) (hR : Ring z o f L) (hl : L.length < 8) :
    Calls Try.prog 61 #[.pointer (some ⟨b, o, none⟩), .int .i64 g] w fun e w' => e = .returned (.tuple #[]) ∧ Turned t b m o z (L ++ [g]) w w' := by
  have h8 := hR.f8
  have c8 := hI.cell (i := o + 8) (by omega)
  rw [hR.fst] at c8
  have c9 := hI.cell (i := o + 9) (by omega)
  rw [hR.len] at c9
  have c0 := hI.cell (i := o + (f + L.length) % 8) (by omega)
  have z0 := hI.free (o + (f + L.length) % 8)
  have z9 := hI.free (o + 9)
  have HP := Lib.hid (hR.push hl g)
  have HI := Lib.hid hI
  have HS : Hid ((f + L.length) % 8 < 8) := Lib.hid (Nat.mod_lt _ (by decide))
  generalize hn : L.length = n at *
  have k1 : IntKind.i64.wrap ((f : Int) + (n : Int)) = (f : Int) + (n : Int) := IntWalk.i64_in _ (by omega)
  have k2 : ((f : Int) + (n : Int)).tmod 8 = (((f + n) % 8 : Nat) : Int) := by rw [Int.tmod_eq_emod_of_nonneg (by omega)]; omega
  obtain ⟨s, hs⟩ : ∃ s, s = (f + n) % 8 := ⟨_, rfl⟩
  rw [← hs] at k2 c0 z0 HP HS
  have k3 : (s : Int) < 8 := by have := HS.out; omega
  have k4 : (0 : Int) ≤ (s : Int) := by omega
  clear hI hR hs
  go_enter Try.func61, Try.ntmps61
  go_wp2
  go_region
  go_wp2
  go_end0
  exact ⟨rfl, _, _, Ints.of ((HI.out.set (o + s) _).set (o + 9) _) rfl, HP.out, fun i hi => by have := HS.out; rw [up_other _ _ (by omega), up_other _ _ (by omega)], (((Cha.refl (· = b) w).setCell (p := ⟨b, o + s, none⟩) (fun _ => rfl) _).setCell (p := ⟨b, o + 9, none⟩) (fun _ => rfl) _).drew⟩

/-- A number is put in its place. -/
theorem next_any (hI : Ints t w b m z) (ho : P < m) :
    Calls Try.prog 48 #[.pointer (some ⟨b, P, none⟩)] w fun e w' => e = .returned (.int .i64 (z P)) ∧ w' = w.setCell ⟨b, P, none⟩ (.int .i64 (-1)) := by
  have c0 := hI.cell ho
  have z0 := hI.free P
  clear hI
  generalize z P = x at *
  go_enter Try.func48, Try.ntmps48
  go_wp2
  go_ret
  exact ⟨rfl, rfl⟩
/-- How many a processor has. -/
def cnt (x : Int × List Int) : Nat := if x.1 = -1 then x.2.length else x.2.length + 1
theorem count_any (hI : Ints t w b m z) (ho : P + 11 ≤ m) (hR : Ring z (P + 1) f L) :
    Calls Try.prog 50 #[.pointer (some ⟨b, P, none⟩)] w fun e w' => e = .returned (.int .i64 (cnt (z P, L) : Nat)) ∧ w = w' := by
  have c0 := hI.cell (i := P) (by omega)
  have c9 := hI.cell (i := P + 1 + 9) (by omega)
  rw [hR.len] at c9
  have hn := hR.n8
  clear hI hR
  unfold cnt
  dsimp only
  generalize z P = x at *
  generalize L.length = n at *
  by_cases hx : x = -1
  · subst hx
    rw [if_pos rfl]
    go_enter Try.func50, Try.ntmps50
    go_wp2
    go_ret
    exact ⟨rfl, rfl⟩
  · rw [if_neg hx]
    have hx2 : (x == -1) = false := by simpa using hx
    clear hx
    go_enter Try.func50, Try.ntmps50
    go_wp2
    go_ret
    exact ⟨ret_int (by omega), rfl⟩

/-- What a call that turns two rings leaves. -/
def Halved (t : TypeId) (b m P R : Nat) (z : Nat → Int) (A B : List Int) (w w' : World) : Prop :=
  ∃ z' f1 f2, Ints t w' b m z' ∧ Ring z' (P + 1) f1 A ∧ Ring z' R f2 B ∧ (∀ i, (i < P + 1 ∨ P + 11 ≤ i) → (i < R ∨ R + 10 ≤ i) → z' i = z i) ∧ Cha (· = b) w w'
set_option maxRecDepth 100000 in
theorem half_any {f1 f2 : Nat} {X : List Int} (hI : Ints t w b m z) (hP : P + 11 ≤ m) (hR : R + 10 ≤ m) (hd : P + 11 ≤ R ∨ R + 10 ≤ P + 1) (h1 : Ring z (P + 1) f1 L1) (h2 : Ring z R f2 (g :: X)) (hn : L1.length + X.length / 2 ≤ 8) :
    Calls Try.prog 63 #[.pointer (some ⟨b, P, none⟩), .pointer (some ⟨b, R, none⟩)] w fun e w' => e = .returned (.int .i64 g) ∧ Halved t b m P R z (L1 ++ X.take (X.length / 2)) (X.drop (X.length / 2)) w w' := by
  have c9 := hI.cell (i := R + 9) (by omega)
  rw [h2.len] at c9
  simp only [List.length_cons] at c9
  have hx := h2.n8
  simp only [List.length_cons] at hx
  have C1 := Lib.hid (take_any hI hR h2)
  have C2 : Hid (∀ W z f g l, Ints t W b m z → Ring z R f (g :: l) → Calls Try.prog 52 #[.pointer (some ⟨b, R, none⟩)] W fun e w' => e = .returned (.int .i64 g) ∧ Turned t b m R z l W w') := Lib.hid fun W z f g l h1 h2 => take_any h1 hR h2
  have C3 : Hid (∀ W z f L g, Ints t W b m z → Ring z (P + 1) f L → L.length < 8 → Calls Try.prog 61 #[.pointer (some ⟨b, P + 1, none⟩), .int .i64 g] W fun e w' => e = .returned (.tuple #[]) ∧ Turned t b m (P + 1) z (L ++ [g]) W w') := Lib.hid fun W z f L g h1 h2 h3 => push_any h1 (by omega) h2 h3
  have H1 := Lib.hid h1
  generalize hX : X.length = x at *
  have HX := Lib.hid hX
  clear hI h1 h2 hX
  go_enter Try.func63, Try.ntmps63
  go_wp2_with (go_at_call 52; ((with_reducible refine (C1.out).mono ?_); rintro e w1 ⟨rfl, z1, f3, k1, k2, k3, k4⟩; have I0 : Hid (Halved t b m P R z L1 X w w1) := Lib.hid ⟨z1, f1, f3, k1, Turned.other k3 H1.out (by omega), k2, fun i _ hi => k3 i hi, k4⟩; clear k1 k2 k3 k4))
  go_loopw [17] (fun i wr => ∃ j : Nat, j ≤ x / 2 ∧ i = .int .i64 (j : Int) ∧ Halved t b m P R z (L1 ++ X.take j) (X.drop j) w wr) (fun i _ => x / 2 - (intOf i).toNat)
  case atStart => exact ⟨0, Nat.zero_le _, rfl, by rw [List.take_zero, List.drop_zero, List.append_nil]; exact I0.out⟩
  case round =>
    clear I0 C1
    obtain ⟨j, hj, rfl, z1, f1, f2, k1, k2, k3, k4, k5⟩ := hrel
    by_cases hlt : j < x / 2
    · have hjX : j < X.length := by have := HX.out; omega
      rw [List.drop_eq_getElem_cons hjX] at k3
      have hl8 : (L1 ++ X.take j).length < 8 := by rw [List.length_append, List.length_take]; omega
      have D1 := Lib.hid (C2.out wr.drew z1 f2 _ _ (k1.of rfl) k3)
      have HL8 := Lib.hid hl8
      have K2 := Lib.hid k2
      have K4 := Lib.hid k4
      have K5 := Lib.hid k5
      have HJ := Lib.hid hjX
      have ht := Lib.hid (List.take_succ_eq_append_getElem hjX)
      clear k1 k2 k3 k4 k5 hl8
      generalize X[j] = v at *
      clear hjX
      go_wp2
      go_region_law (first
        | (go_simp; go_at_call 52; refine (D1.out).mono ?_; rintro e w2 ⟨rfl, z2, f3, m1, m2, m3, m4⟩; have D2 := Lib.hid (C3.out w2 z2 f1 _ v m1 (Turned.other m3 K2.out (by omega)) HL8.out))
        | (go_simp; go_at_call 61; refine (D2.out).mono ?_; rintro e w3 ⟨rfl, z3, f4, n1, n2, n3, n4⟩))
      all_goals
        go_wp2
        go_roundw
        case rel => exact ⟨j + 1, by omega, by go_num, z3, f4, f3, n1, by rw [ht.out, ← List.append_assoc]; exact n2, Turned.other n3 m2 (by omega), fun i p q => (n3 i (by omega)).trans ((m3 i q).trans (K4.out i p q)), (K5.out.drew.trans m4).trans n4⟩
        case measure => simp [intOf]; omega
    · obtain rfl : j = x / 2 := by omega
      go_wp2
      go_ret
      exact ⟨rfl, z1, f1, f2, k1, k2, k3, k4, k5⟩
end Go.Proofs.Ytaloafihbdamiaa
