/- MarkFixed. -/
import Derived.Test.YtllefljimkmbhaaT
namespace Go.Proofs.Ytllefljimkmbhaa
open Go.ChangeShapes Go.WideShapes Go.ChangeAt Go.RowKit
variable {w0 w w' W W' : World} {F : Nat → Prop} {bg : Nat} {g : Gr}

def b1 : Gr := (Gr.new.addR 1).2
def b2 : Gr := (b1.addR 0).2
def b3 : Gr := (b2.setR 1 0 2).2
def b4 : Gr := (b3.dropR 1).2
def b5 : Gr := (b4.addR 1).2
def b6 : Gr := (b5.addR 1).2
def b7 : Gr := (b6.setR 3 0 4).2
def b8 : Gr := (b7.setR 4 0 3).2
def b9 : Gr := (b8.dropR 2).2
def b10 : Gr := (b9.dropR 1).2
def b11 : Gr := b10.startR.2
def b12 : Gr := b11.works 20
def b13 : Gr := (b12.rootR 1 0).2
/-- What has been freed. -/
def frd (g : Gr) : Nat → List Nat
  | 0 => []
  | j + 1 => if (g.works j).workR.1.2 = 0 ∧ 0 < (g.works j).workR.1.1 then frd g j ++ [(g.works j).workR.1.1.toNat] else frd g j
theorem frd_len (g : Gr) : ∀ j, (frd g j).length ≤ j
  | 0 => Nat.le_refl _
  | j + 1 => by
    have := frd_len g j
    unfold frd
    split
    · rw [List.length_append, List.length_singleton]; omega
    · omega
theorem work_val (j : Nat) : (b11.works j).workR.1.2 = 0 ∨ (b11.works j).workR.1.2 = 5 := by
  unfold Gr.workR
  split
  · exact .inr rfl
  · split <;> exact .inl rfl
set_option maxRecDepth 100000 in
set_option maxHeartbeats 4000000 in
theorem fixed_walk (W : World) : Calls Try.prog 8 #[] W fun e w' => e = .returned (.bool true) ∧ Cha (fun _ => False) W w' := by
  have C0 := Lib.hid (m9 (Cha.refl (fun _ => False) W))
  have C1 : Hid (∀ bg W1, Mine W (PgA bg Gr.new) W1 → Calls Try.prog 12 #[.pointer (some ⟨bg, 0, none⟩), .int .i64 1] W1 fun e W' => e = .returned (.tuple #[.int .i64 1, .int .i64 0]) ∧ Mine W (PgA bg b1) W') := Lib.hid fun bg W1 h => m12 h 1
  have C2 : Hid (∀ bg W1, Mine W (PgA bg b1) W1 → Calls Try.prog 12 #[.pointer (some ⟨bg, 0, none⟩), .int .i64 0] W1 fun e W' => e = .returned (.tuple #[.int .i64 2, .int .i64 0]) ∧ Mine W (PgA bg b2) W') := Lib.hid fun bg W1 h => m12 h 0
  have C3 : Hid (∀ bg W1, Mine W (PgA bg b2) W1 → Calls Try.prog 18 #[.pointer (some ⟨bg, 0, none⟩), .int .i64 1, .int .i64 0, .int .i64 2] W1 fun e W' => e = .returned (.int .i64 0) ∧ Mine W (PgA bg b3) W') := Lib.hid fun bg W1 h => by
    have := m18 h 1 0 2
    rwa [show (b2.setR 1 0 2).1 = 0 by decide +kernel] at this
  have C4 : Hid (∀ bg W1, Mine W (PgA bg b3) W1 → Calls Try.prog 14 #[.pointer (some ⟨bg, 0, none⟩), .int .i64 1] W1 fun e W' => e = .returned (.int .i64 0) ∧ Mine W (PgA bg b4) W') := Lib.hid fun bg W1 h => by
    have := m14 h 1
    rwa [show (b3.dropR 1).1 = 0 by decide +kernel] at this
  have C5 : Hid (∀ bg W1, Mine W (PgA bg b4) W1 → Calls Try.prog 12 #[.pointer (some ⟨bg, 0, none⟩), .int .i64 1] W1 fun e W' => e = .returned (.tuple #[.int .i64 3, .int .i64 0]) ∧ Mine W (PgA bg b5) W') := Lib.hid fun bg W1 h => by
    have := m12 h 1
    rwa [show (b4.addR 1).1 = (3, 0) by decide +kernel] at this
  have C6 : Hid (∀ bg W1, Mine W (PgA bg b5) W1 → Calls Try.prog 12 #[.pointer (some ⟨bg, 0, none⟩), .int .i64 1] W1 fun e W' => e = .returned (.tuple #[.int .i64 4, .int .i64 0]) ∧ Mine W (PgA bg b6) W') := Lib.hid fun bg W1 h => by
    have := m12 h 1
    rwa [show (b5.addR 1).1 = (4, 0) by decide +kernel] at this
  have C7 : Hid (∀ bg W1, Mine W (PgA bg b6) W1 → Calls Try.prog 18 #[.pointer (some ⟨bg, 0, none⟩), .int .i64 3, .int .i64 0, .int .i64 4] W1 fun e W' => e = .returned (.int .i64 0) ∧ Mine W (PgA bg b7) W') := Lib.hid fun bg W1 h => by
    have := m18 h 3 0 4
    rwa [show (b6.setR 3 0 4).1 = 0 by decide +kernel] at this
  have C8 : Hid (∀ bg W1, Mine W (PgA bg b7) W1 → Calls Try.prog 18 #[.pointer (some ⟨bg, 0, none⟩), .int .i64 4, .int .i64 0, .int .i64 3] W1 fun e W' => e = .returned (.int .i64 0) ∧ Mine W (PgA bg b8) W') := Lib.hid fun bg W1 h => by
    have := m18 h 4 0 3
    rwa [show (b7.setR 4 0 3).1 = 0 by decide +kernel] at this
  have C9 : Hid (∀ bg W1, Mine W (PgA bg b8) W1 → Calls Try.prog 14 #[.pointer (some ⟨bg, 0, none⟩), .int .i64 2] W1 fun e W' => e = .returned (.int .i64 0) ∧ Mine W (PgA bg b9) W') := Lib.hid fun bg W1 h => by
    have := m14 h 2
    rwa [show (b8.dropR 2).1 = 0 by decide +kernel] at this
  have C10 : Hid (∀ bg W1, Mine W (PgA bg b9) W1 → Calls Try.prog 14 #[.pointer (some ⟨bg, 0, none⟩), .int .i64 1] W1 fun e W' => e = .returned (.int .i64 0) ∧ Mine W (PgA bg b10) W') := Lib.hid fun bg W1 h => by
    have := m14 h 1
    rwa [show (b9.dropR 1).1 = 0 by decide +kernel] at this
  have C11 : Hid (∀ bg W1, Mine W (PgA bg b10) W1 → Calls Try.prog 20 #[.pointer (some ⟨bg, 0, none⟩)] W1 fun e W' => e = .returned (.int .i64 0) ∧ Mine W (Star (PgA bg (b11.works 0)) (LsA inE (.slice none 0 0) (frd b11 0))) W') := Lib.hid fun bg W1 h => by
    have := m20 h
    rw [show b10.startR.1 = 0 by decide +kernel] at this
    exact this.mono fun _ W' ⟨a, b⟩ => ⟨a, b.star (fit_pg _ _) (fit_ls _ _ _) (ls_nil inE W')⟩
  go_enter Try.func8, Try.ntmps8
  go_wp2_with (first
    | (go_at_call 9; ((with_reducible refine (C0.out).mono ?_); rintro e w1 ⟨bg, rfl, h⟩; have D1 := Lib.hid (C1.out _ _ h); clear h))
    | (go_at_call 12; ((with_reducible refine (D1.out).mono ?_); rintro e w2 ⟨rfl, h⟩; have D2 := Lib.hid (C2.out _ _ h); clear h D1))
    | (go_at_call 12; ((with_reducible refine (D2.out).mono ?_); rintro e w3 ⟨rfl, h⟩; have D3 := Lib.hid (C3.out _ _ h); clear h D2))
    | (go_at_call 18; ((with_reducible refine (D3.out).mono ?_); rintro e w4 ⟨rfl, h⟩; have D4 := Lib.hid (C4.out _ _ h); clear h D3))
    | (go_at_call 14; ((with_reducible refine (D4.out).mono ?_); rintro e w5 ⟨rfl, h⟩; have D5 := Lib.hid (C5.out _ _ h); clear h D4))
    | (go_at_call 12; ((with_reducible refine (D5.out).mono ?_); rintro e w6 ⟨rfl, h⟩; have D6 := Lib.hid (C6.out _ _ h); clear h D5))
    | (go_at_call 12; ((with_reducible refine (D6.out).mono ?_); rintro e w7 ⟨rfl, h⟩; have D7 := Lib.hid (C7.out _ _ h); clear h D6))
    | (go_at_call 18; ((with_reducible refine (D7.out).mono ?_); rintro e w8 ⟨rfl, h⟩; have D8 := Lib.hid (C8.out _ _ h); clear h D7))
    | (go_at_call 18; ((with_reducible refine (D8.out).mono ?_); rintro e w9 ⟨rfl, h⟩; have D9 := Lib.hid (C9.out _ _ h); clear h D8))
    | (go_at_call 14; ((with_reducible refine (D9.out).mono ?_); rintro e w10 ⟨rfl, h⟩; have D10 := Lib.hid (C10.out _ _ h); clear h D9))
    | (go_at_call 14; ((with_reducible refine (D10.out).mono ?_); rintro e w11 ⟨rfl, h⟩; have D11 := Lib.hid (C11.out _ _ h); clear h D10))
    | (go_at_call 20; ((with_reducible refine (D11.out).mono ?_); rintro e w12 ⟨rfl, h⟩; have H12 := Lib.hid h; clear h D11)))
  clear C0 C1 C2 C3 C4 C5 C6 C7 C8 C9 C10 C11
  have CW : Hid (∀ W1 j v, Mine W (Star (PgA bg (b11.works j)) (LsA inE v (frd b11 j))) W1 → Calls Try.prog 22 #[.pointer (some ⟨bg, 0, none⟩)] W1 fun e W' => e = .returned (.tuple #[.int .i64 (b11.works j).workR.1.1, .int .i64 (b11.works j).workR.1.2]) ∧ Mine W (Star (PgA bg (b11.works (j + 1))) (LsA inE v (frd b11 j))) W') := Lib.hid fun W1 j v h =>
    h.step fun F q => q.stepL (fit_pg _ _) (fit_ls _ _ _) fun F1 p => work_any p
  go_loopw [2, 3, 4, 45] (fun v _ _ i wr => ∃ j : Nat, i = .int .i64 (j : Int) ∧ j ≤ 20 ∧ ∃ a c, v = .slice a (frd b11 j).length c ∧ Mine W (Star (PgA bg (b11.works j)) (LsA inE (.slice a (frd b11 j).length c) (frd b11 j))) wr) (fun _ _ _ i _ => 20 - (intOf i).toNat)
  case atStart => exact ⟨0, rfl, Nat.zero_le _, none, 0, rfl, H12.out⟩
  case round =>
    clear H12
    obtain ⟨j, rfl, hj, a, c, rfl, hM⟩ := hrel
    by_cases hlt : j < 20
    · have C := Lib.hid (CW.out _ _ _ hM)
      have hE := work_val j
      have HS : Hid (frd b11 (j + 1) = if (b11.works j).workR.1.2 = 0 ∧ 0 < (b11.works j).workR.1.1 then frd b11 j ++ [(b11.works j).workR.1.1.toNat] else frd b11 j) := Lib.hid rfl
      have hfl := frd_len b11 j
      generalize (b11.works j).workR.1.2 = E at *
      generalize (b11.works j).workR.1.1 = V at *
      generalize frd b11 j = L at *
      clear hM
      by_cases hc : E = 0 ∧ 0 < V
      · obtain ⟨rfl, hV⟩ := hc
        obtain ⟨x, rfl⟩ : ∃ x : Nat, V = x := ⟨V.toNat, by omega⟩
        rw [if_pos ⟨rfl, hV⟩, Int.toNat_natCast] at HS
        have HL2 := Lib.hid HS.out
        have B1 : Hid (L.length + [x].length ≤ maxLen) := Lib.hid (by unfold maxLen; simp only [List.length_singleton]; omega)
        have B2 : Hid ((L.length + [x].length) * inE.b ≤ 140737488355328) := Lib.hid (by show _ * 8 ≤ _; simp only [List.length_singleton]; omega)
        clear hE hfl
        go_wp2_with (first
          | (go_at_call 22; ((with_reducible refine (C.out).mono ?_); rintro e w2 ⟨rfl, hM2⟩; have HM2 := Lib.hid hM2; clear hM2))
          | (at_builtin; refine wpList_app inE_ok rfl (.tmp 58) (.tmp 60) rfl rfl ((mine_lies HM2.out).same ((Cha.refl (fun _ => False) _).alloc _)) ⟨w2.heap.size, 0, none⟩ 1 1 [x] rfl rfl (just_new inE w2 x 3) Nat.zero_lt_one B1.out B2.out ?_; intro g3 o3 cap3 w3 hA3; have H3 := Lib.hid (mine_app (fit_pg _ _) HM2.out ((Cha.refl (fun _ => False) _).alloc _) hA3.v); clear hA3; dsimp only [List.length_singleton] at H3 ⊢))
        go_roundw
        case rel =>
          have e1 : (frd b11 (j + 1)).length = L.length + 1 := by rw [HL2.out]; simp
          refine ⟨j + 1, rfl, hlt, some ⟨g3, o3, none⟩, cap3, by rw [e1], ?_⟩
          rw [e1, HL2.out]
          exact H3.out
        case measure => simp [intOf]; omega
      · rw [if_neg hc] at HS
        have HL2 := Lib.hid HS.out
        have q1 : ((E == 0) && decide (0 < V)) = false := by
          rcases hE with rfl | rfl
          · simp at hc ⊢; exact hc
          · rfl
        clear hc
        rcases hE with rfl | rfl
        · have q2 : ¬ 0 < V := by simpa using q1
          clear q1
          go_wp2_with (go_at_call 22; ((with_reducible refine (C.out).mono ?_); rintro e w2 ⟨rfl, hM2⟩; have HM2 := Lib.hid hM2; clear hM2))
          go_roundw
          case rel => exact ⟨j + 1, rfl, hlt, a, c, by rw [HL2.out], by rw [HL2.out]; exact HM2.out⟩
          case measure => simp [intOf]; omega
        · clear q1
          go_wp2_with (go_at_call 22; ((with_reducible refine (C.out).mono ?_); rintro e w2 ⟨rfl, hM2⟩; have HM2 := Lib.hid hM2; clear hM2))
          go_roundw
          case rel => exact ⟨j + 1, rfl, hlt, a, c, by rw [HL2.out], by rw [HL2.out]; exact HM2.out⟩
          case measure => simp [intOf]; omega
    · obtain rfl : j = 20 := by omega
      have hf : frd b11 20 = [3, 4] := by decide +kernel
      rw [hf, show ([3, 4] : List Nat).length = 2 from rfl] at hM ⊢
      have P24 : Hid (∀ W1 v, Mine W (Star (PgA bg (b11.works 20)) (LsA inE v [3, 4])) W1 → Calls Try.prog 24 #[.pointer (some ⟨bg, 0, none⟩), .int .i64 2, .int .i64 0] W1 fun e W' => e = .returned (.tuple #[.int .i64 0, .int .i64 4]) ∧ Mine W (Star (PgA bg (b11.works 20)) (LsA inE v [3, 4])) W') := Lib.hid fun W1 v h =>
        h.step fun F q => q.lookL ((fit_pg _ _).star (fit_ls _ _ _)) fun F1 p => by
          obtain ⟨K, vo, vr, vq, q, f, T, hi, p⟩ := p.open
          have := get_any p hi.rk 2 0
          rw [show (b11.works 20).get 2 0 = (0, 4) by decide +kernel] at this
          exact this.mono fun _ _ ⟨a, b⟩ => ⟨a, b ▸ Cha.refl _ _⟩
      have P11 : Hid (∀ W1 v, Mine W (Star (PgA bg (b11.works 20)) (LsA inE v [3, 4])) W1 → Calls Try.prog 11 #[] W1 fun e W' => e = .returned (.bool true) ∧ Mine W (Star (PgA bg (b11.works 20)) (LsA inE v [3, 4])) W') := Lib.hid fun W1 v h =>
        (awake_any W1).mono fun _ _ ⟨a, c⟩ => ⟨a, h.same ((fit_pg _ _).star (fit_ls _ _ _)) c⟩
      have P30 : Hid (∀ W1 v, Mine W (Star (PgA bg (b11.works 20)) (LsA inE v [3, 4])) W1 → Calls Try.prog 30 #[v, .slice (some ⟨W1.heap.size, 0, none⟩) 2 2] (W1.alloc (.cells #[.int .i64 3, .int .i64 4] 3)) fun e W' => e = .returned (.bool true) ∧ Mine W (PgA bg b12) W') := Lib.hid fun W1 v h => by
        have h2 := h.same ((fit_pg _ _).star (fit_ls _ _ _)) ((Cha.refl (fun _ => False) W1).alloc (.cells #[.int .i64 3, .int .i64 4] 3))
        refine (same_any (mine_lies h2) (lies_new W1 [3, 4] (by decide) _ rfl) (by decide)).mono fun _ W' ⟨a, c⟩ => ⟨a, ?_⟩
        obtain ⟨F, ⟨F1, F2, p, _, _, e1, _, _⟩, c1, n⟩ := h2.same ((fit_pg _ _).star (fit_ls _ _ _)) c
        exact ⟨F1, p, c1, fun i hi => n i (e1 i hi)⟩
      have P16 : Hid (∀ W1, Mine W (PgA bg b12) W1 → Calls Try.prog 16 #[.pointer (some ⟨bg, 0, none⟩), .int .i64 1, .int .i64 0] W1 fun e W' => e = .returned (.int .i64 0) ∧ Mine W (PgA bg b13) W') := Lib.hid fun W1 h => by
        have := m16 h 1 0
        rwa [show (b12.rootR 1 0).1 = 0 by decide +kernel] at this
      have P31 : Hid (∀ W1, Mine W (PgA bg b13) W1 → Calls Try.prog 31 #[.pointer (some ⟨bg, 0, none⟩)] W1 fun e W' => ∃ a n c, e = .returned (.slice a n c) ∧ Fresh W1 W' (.slice a n c) [1, 2] ∧ Mine W (PgA bg b13) W') := Lib.hid fun W1 h => by
        have := m31 h
        rwa [show b13.roots = [1, 2] by decide +kernel] at this
      have Q30 : Hid (∀ W1 W2 v, Fresh W1 W2 v [1, 2] → Mine W (PgA bg b13) W2 → Calls Try.prog 30 #[v, .slice (some ⟨W2.heap.size, 0, none⟩) 2 2] (W2.alloc (.cells #[.int .i64 1, .int .i64 2] 3)) fun e W' => e = .returned (.bool true) ∧ Mine W (PgA bg b13) W') := Lib.hid fun W1 W2 v h hm =>
        (same_any (h.1.same ((Cha.refl (fun _ => False) W2).alloc _)) (lies_new W2 [1, 2] (by decide) _ rfl) (by decide)).mono fun _ _ ⟨a, c⟩ => ⟨a, hm.same (fit_pg _ _) (((Cha.refl _ W2).alloc _).trans c)⟩
      have P28 : Hid (∀ W1, Mine W (PgA bg b13) W1 → Calls Try.prog 28 #[.pointer (some ⟨bg, 0, none⟩), .int .i64 2] W1 fun e W' => e = .returned (.bool true) ∧ Mine W (PgA bg b13) W') := Lib.hid fun W1 h => by
        have := m28 h 2
        rwa [show b13.has 2 = true by decide +kernel] at this
      have Q28 : Hid (∀ W1, Mine W (PgA bg b13) W1 → Calls Try.prog 28 #[.pointer (some ⟨bg, 0, none⟩), .int .i64 3] W1 fun e W' => e = .returned (.bool false) ∧ Mine W (PgA bg b13) W') := Lib.hid fun W1 h => by
        have := m28 h 3
        rwa [show b13.has 3 = false by decide +kernel] at this
      have P14 : Hid (∀ W1, Mine W (PgA bg b13) W1 → Calls Try.prog 14 #[.pointer (some ⟨bg, 0, none⟩), .int .i64 2] W1 fun e W' => e = .returned (.int .i64 1) ∧ Cha (fun _ => False) W W') := Lib.hid fun W1 h => by
        have := m14 h 2
        rw [show (b13.dropR 2).1 = 1 by decide +kernel] at this
        exact this.mono fun _ _ ⟨a, b⟩ => ⟨a, b.cha⟩
      have D24 := Lib.hid (P24.out _ _ hM)
      clear hM hf CW P24
      go_wp2_with (first
        | (go_at_call 24; ((with_reducible refine (D24.out).mono ?_); rintro e w13 ⟨rfl, h⟩; have D11 := Lib.hid (P11.out _ _ h); clear h))
        | (go_at_call 11; ((with_reducible refine (D11.out).mono ?_); rintro e w14 ⟨rfl, h⟩; have D30 := Lib.hid (P30.out _ _ h); clear h))
        | (go_at_call 30; ((with_reducible refine (D30.out).mono ?_); rintro e w15 ⟨rfl, h⟩; have D16 := Lib.hid (P16.out _ h); clear h))
        | (go_at_call 16; ((with_reducible refine (D16.out).mono ?_); rintro e w16 ⟨rfl, h⟩; have D31 := Lib.hid (P31.out _ h); clear h))
        | (go_at_call 31; ((with_reducible refine (D31.out).mono ?_); rintro e w17 ⟨az, nz, cz, rfl, hf, h⟩; have E30 := Lib.hid (Q30.out _ _ _ hf h); clear h hf))
        | (go_at_call 30; ((with_reducible refine (E30.out).mono ?_); rintro e w18 ⟨rfl, h⟩; have D28 := Lib.hid (P28.out _ h); clear h))
        | (go_at_call 28; ((with_reducible refine (D28.out).mono ?_); rintro e w19 ⟨rfl, h⟩; have E28 := Lib.hid (Q28.out _ h); clear h))
        | (go_at_call 28; ((with_reducible refine (E28.out).mono ?_); rintro e w20 ⟨rfl, h⟩; have D14 := Lib.hid (P14.out _ h); clear h))
        | (go_at_call 14; ((with_reducible refine (D14.out).mono ?_); rintro e w21 ⟨rfl, h⟩; have HZ := Lib.hid h; clear h)))
      go_returns
      exact ⟨rfl, HZ.out⟩
end Go.Proofs.Ytllefljimkmbhaa
