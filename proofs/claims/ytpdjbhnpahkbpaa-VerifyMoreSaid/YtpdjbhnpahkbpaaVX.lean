/- Check: what an instruction names; an instruction. -/
import Derived.Test.YtpdjbhnpahkbpaaVV
import Derived.Test.YtpdjbhnpahkbpaaVWA
import Derived.Test.YtpdjbhnpahkbpaaVWB
import Derived.Test.YtpdjbhnpahkbpaaVWC
import Derived.Test.YtpdjbhnpahkbpaaVWD
namespace Go.Proofs.Ytpdjbhnpahkbpaa
set_option linter.unusedVariables false
open Go.ChangeShapes Go.WideShapes Go.ChangeAt Go.RowKit
section
variable {W w w' : World} {x : SV} {p : PZ} {f : FZ} {i : IZ}
theorem named_any (h : Sit W x p f i) (hx : Okay W x p f) (h0 : 1 ≤ i.op) (h1 : i.op ≤ 52) : Calls Try.prog 66 #[x.v f i] W (Says W (.int .i64 (namedZ p f i))) := by
  have : i.op = 1 ∨ i.op = 2 ∨ i.op = 3 ∨ i.op = 4 ∨ i.op = 5 ∨ i.op = 6 ∨ i.op = 7 ∨ i.op = 8 ∨ i.op = 9 ∨ i.op = 10 ∨ i.op = 11 ∨ i.op = 12 ∨ i.op = 13 ∨ i.op = 14 ∨ i.op = 15 ∨ i.op = 16 ∨ i.op = 17 ∨ i.op = 18 ∨ i.op = 19 ∨ i.op = 20 ∨ i.op = 21 ∨ i.op = 22 ∨ i.op = 23 ∨ i.op = 24 ∨ i.op = 25 ∨ i.op = 26 ∨ i.op = 27 ∨ i.op = 28 ∨ i.op = 29 ∨ i.op = 30 ∨ i.op = 31 ∨ i.op = 32 ∨ i.op = 33 ∨ i.op = 34 ∨ i.op = 35 ∨ i.op = 36 ∨ i.op = 37 ∨ i.op = 38 ∨ i.op = 39 ∨ i.op = 40 ∨ i.op = 41 ∨ i.op = 42 ∨ i.op = 43 ∨ i.op = 44 ∨ i.op = 45 ∨ i.op = 46 ∨ i.op = 47 ∨ i.op = 48 ∨ i.op = 49 ∨ i.op = 50 ∨ i.op = 51 ∨ i.op = 52 := by omega
  rcases this with e | e | e | e | e | e | e | e | e | e | e | e | e | e | e | e | e | e | e | e | e | e | e | e | e | e | e | e | e | e | e | e | e | e | e | e | e | e | e | e | e | e | e | e | e | e | e | e | e | e | e | e
  · exact nm_1 h hx e
  · exact nm_2 h hx e
  · exact nm_3 h e
  · exact nm_4 h e
  · exact nm_5 h e
  · exact nm_6 h e
  · exact nm_7 h e
  · exact nm_8 h e
  · exact nm_9 h e
  · exact nm_10 h e
  · exact nm_11 h e
  · exact nm_12 h e
  · exact nm_13 h e
  · exact nm_14 h e
  · exact nm_15 h e
  · exact nm_16 h e
  · exact nm_17 h e
  · exact nm_18 h e
  · exact nm_19 h e
  · exact nm_20 h e
  · exact nm_21 h e
  · exact nm_22 h e
  · exact nm_23 h hx e
  · exact nm_24 h hx e
  · exact nm_25 h hx e
  · exact nm_26 h hx e
  · exact nm_27 h hx e
  · exact nm_28 h hx e
  · exact nm_29 h hx e
  · exact nm_30 h hx e
  · exact nm_31 h hx e
  · exact nm_32 h hx e
  · exact nm_33 h hx e
  · exact nm_34 h hx e
  · exact nm_35 h hx e
  · exact nm_36 h hx e
  · exact nm_37 h hx e
  · exact nm_38 h hx e
  · exact nm_39 h e
  · exact nm_40 h e
  · exact nm_41 h hx e
  · exact nm_42 h hx e
  · exact nm_43 h hx e
  · exact nm_44 h hx e
  · exact nm_45 h hx e
  · exact nm_46 h e
  · exact nm_47 h e
  · exact nm_48 h hx e
  · exact nm_49 h e
  · exact nm_50 h e
  · exact nm_51 h e
  · exact nm_52 h e
/-- An instruction, of which only the number of its list's words may be wrong. -/
structure Okay0 (W : World) (x : SV) (p : PZ) (f : FZ) : Prop where
  t32 : p.ty.length ≤ 32
  typed : Typed p f
  full : ∀ t ∈ p.ty, 0 < t.fi.length
  good : ∀ g ∈ p.fu, GoodFn g
  r32 : x.nR ≤ 1000
  caps : Caps W x.aF x.nF
  capL : x.nL ≤ x.cL
theorem Okay0.okay (h : Okay0 W x p f) (hl : x.nL ≤ 24) : Okay W x p f := ⟨h.t32, h.typed, h.full, h.good, h.r32, h.caps, h.capL, hl⟩
theorem Okay0.cha (h : Okay0 W x p f) (c : Cha (fun _ => False) W w) : Okay0 w x p f := { h with caps := h.caps.cha c }
set_option maxRecDepth 100000 in
theorem check_any (h : Sit W x p f i) (hx : Okay0 W x p f) : Calls Try.prog 43 #[x.v f i] W (Says W (.int .i64 (insZ p f i))) := by
  have CN : Hid (x.nL ≤ 24 → 1 ≤ i.op → i.op ≤ 52 → ∀ w, Cha (fun _ => False) W w → Calls Try.prog 66 #[x.v f i] w (Says w (.int .i64 (namedZ p f i)))) := Lib.hid fun hl h0 h1 w c => named_any (h.cha c) ((hx.cha c).okay hl) h0 h1
  have CF : Hid (1 ≤ i.op → i.op ≤ 52 → ∀ w, Cha (fun _ => False) W w → Calls Try.prog 65 #[x.v f i] w (Says w (.bool (formZ i)))) := Lib.hid fun h0 h1 w c => form_any (h.cha c) h0 h1
  have hn := h.eL
  obtain ⟨R, hR⟩ : ∃ R, R = insZ p f i := ⟨_, rfl⟩
  have E1 : Hid (i.op < 1 ∨ 52 < i.op → R = 9) := Lib.hid fun e => by rw [hR]; exact if_pos e
  have E2 : Hid (¬ (i.op < 1 ∨ 52 < i.op) → formZ i = false → R = 8) := Lib.hid fun e d => by rw [hR]; unfold insZ; rw [if_neg e, if_pos d]
  have E3 : Hid (¬ (i.op < 1 ∨ 52 < i.op) → formZ i = true → 24 < x.nL → R = 16) := Lib.hid fun e d c => by rw [hR]; unfold insZ; rw [if_neg e, if_neg (by rw [d]; simp), if_pos (by rw [← hn]; exact c)]
  have E4 : Hid (¬ (i.op < 1 ∨ 52 < i.op) → formZ i = true → ¬ 24 < x.nL → R = namedZ p f i) := Lib.hid fun e d c => by rw [hR]; unfold insZ; rw [if_neg e, if_neg (by rw [d]; simp), if_neg (by rw [← hn]; exact c)]
  rw [← hR]
  generalize namedZ p f i = V at *
  generalize formZ i = B at *
  clear h hx hR hn
  obtain ⟨aT, nT, cT, aG, nG, cG, aF, nF, cF, aS, nS, cS, aR, nR, cR, aC, nC, cC, aL, nL, cL⟩ := x
  obtain ⟨pa, sl, re, co⟩ := f
  obtain ⟨op, a, b, c, im, li⟩ := i
  dsimp only [SV.v] at *
  by_cases h0 : op < 1
  · have e := Lib.hid (E1.out (.inl h0))
    clear E1 E2 E3 E4 CN CF
    go_enter Try.func43, Try.ntmps43
    go_wp2
    go_ret
    exact ⟨by first | (rw [e.out]; done) | (rw [e.out]; rfl), cha_box⟩
  · by_cases h1 : 52 < op
    · have e := Lib.hid (E1.out (.inr h1))
      clear E1 E2 E3 E4 CN CF
      go_enter Try.func43, Try.ntmps43
      go_wp2
      go_ret
      exact ⟨by first | (rw [e.out]; done) | (rw [e.out]; rfl), cha_box⟩
    · have CF1 := Lib.hid (CF.out (by omega) (by omega))
      clear CF
      cases B
      · have e := Lib.hid (E2.out (by omega) rfl)
        clear E1 E2 E3 E4 CN
        go_enter Try.func43, Try.ntmps43
        go_wp2_with (go_at_call 65; ((with_reducible refine (CF1.out _ cha_box).mono ?_); rintro e w1 ⟨rfl, k1⟩; have C1 := Lib.hid (Cha.trans cha_box k1); obtain ⟨b0, b1, b2, b3, b4, b5, b6, b7, b8, b9, b10, b11, b12⟩ := site_keep k1; clear k1))
        go_ret
        exact ⟨by first | (rw [e.out]; done) | (rw [e.out]; rfl), C1.out⟩
      · by_cases h2 : 24 < nL
        · have e := Lib.hid (E3.out (by omega) rfl h2)
          have h3 : (24 : Int) < (nL : Int) := by omega
          clear E1 E2 E3 E4 CN
          go_enter Try.func43, Try.ntmps43
          go_wp2_with (go_at_call 65; ((with_reducible refine (CF1.out _ cha_box).mono ?_); rintro e w1 ⟨rfl, k1⟩; have C1 := Lib.hid (Cha.trans cha_box k1); obtain ⟨b0, b1, b2, b3, b4, b5, b6, b7, b8, b9, b10, b11, b12⟩ := site_keep k1; clear k1))
          go_ret
          exact ⟨by first | (rw [e.out]; done) | (rw [e.out]; rfl), C1.out⟩
        · have e := Lib.hid (E4.out (by omega) rfl h2)
          have h3 : ¬ (24 : Int) < (nL : Int) := by omega
          have CN1 := Lib.hid (CN.out (by omega) (by omega) (by omega))
          clear E1 E2 E3 E4 CN
          go_enter Try.func43, Try.ntmps43
          go_wp2_with (first
            | (go_at_call 65; ((with_reducible refine (CF1.out _ cha_box).mono ?_); rintro e w1 ⟨rfl, k1⟩; have C1 := Lib.hid (Cha.trans cha_box k1); obtain ⟨b0, b1, b2, b3, b4, b5, b6, b7, b8, b9, b10, b11, b12⟩ := site_keep k1; clear k1))
            | (go_at_call 66; ((with_reducible refine (CN1.out _ C1.out).mono ?_); rintro e w2 ⟨rfl, k2⟩; have C2 := Lib.hid (C1.out.trans k2); clear k2)))
          go_ret
          exact ⟨by first | (rw [e.out]; done) | (rw [e.out]; rfl), C2.out⟩
end
end Go.Proofs.Ytpdjbhnpahkbpaa
