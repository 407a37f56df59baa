/- TimerPlays: the walk. -/
import Derived.Test.YteogepfolifneaaUK
import Derived.Test.YteogepfolifneaaAB
import Derived.Deep.CutBlock
namespace Go.Proofs.Yteogepfolifneaa.Tp
open Go.ChangeShapes Go.WideShapes Go.ChangeAt Go.RowKit
variable {w0 w w' W : World} {bt bp bd gb n : Nat} {P : List (List Ent)} {X : List (Int × Ent)} {a : Int} {cs : Array Value}

theorem cell54 : Try.prog.cellsOf 54 = 1 := by kernel_rfl
/-- An operation of a script: three ints, a word. -/
structure OpAt (w : World) (b o : Nat) (z0 z1 z2 z3 : Int) : Prop where
  cells : w.rangeAt b o [.int .i64 z0, .int .i64 z1, .int .i64 z2, .int .u64 z3]
theorem OpAt.cha {w W : World} {b o : Nat} {z0 z1 z2 z3 : Int} (h : OpAt w b o z0 z1 z2 z3) (c : Cha (fun _ => False) w W) : OpAt W b o z0 z1 z2 z3 := by
  refine ⟨fun j v hv => ?_⟩
  have h1 := h.cells j v hv
  have hb := block_lt_of_cell h1
  have e := c.old b hb (fun x => x)
  simpa [World.cell?, e] using h1
set_option maxRecDepth 100000 in
theorem plays_bad (p : Int) (v : Value) (w : World) (hp : p < 1 ∨ 8 < p) : Calls Try.prog 8 #[.int .i64 p, v] w fun e w' => e = .returned (.bool true) ∧ Cha (fun _ => False) w w' := by
  have A9 := Lib.hid (tnew_bad p w hp)
  have A10 := Lib.hid fun w => dtnew_bad p w hp
  have A11 := Lib.hid tawake_any
  clear hp
  go_enter Try.func8, Try.ntmps8
  go_wp2_with (first
    | (go_at_call 23; ((with_reducible refine (A9.out).mono ?_); rintro e w1 ⟨rfl, rfl⟩))
    | (go_at_call 24; ((with_reducible refine (A10.out _).mono ?_); rintro e w2 ⟨rfl, rfl⟩))
    | (go_at_call 25; ((with_reducible refine (A11.out _).mono ?_); rintro e w3 ⟨rfl, h⟩; have H3 := Lib.hid h; clear h)))
  go_ret
  exact ⟨rfl, H3.out⟩
/-- Behind a round. -/
def Next (w0 : World) (bt bp bd n j : Nat) (w : World) : Prop := ∃ P X a, (Match P X a ∧ many P ≤ 1024 ∧ P.length = n ∧ 0 ≤ a ∧ a ≤ (j : Int)) ∧ Duo w0 w bt bp bd n P X a
/-- Behind a round's calls. -/
def Mid (w0 : World) (bt bp bd n gb : Nat) (cs : Array Value) (j : Nat) (w : World) : Prop := ∃ P X a, (Match P X a ∧ many P ≤ 1024 ∧ P.length = n ∧ 0 ≤ a ∧ a ≤ (j : Int)) ∧ Both w0 w bt bp bd n gb cs P X a
set_option maxRecDepth 100000 in
set_option maxHeartbeats 8000000 in
theorem plays_walk (n : Nat) (s : Option Addr) (len c : Nat) (w : World) (hn1 : 1 ≤ n) (hn2 : n ≤ 8) (hlen : len * 32 ≤ 140737488351232)
    (hs : 0 < len → ∃ (b o : Nat), s = some ⟨b, o, none⟩ ∧ ∀ i, i < len → ∃ z0 z1 z2 z3, OpAt w b (o + i * 4) z0 z1 z2 z3) :
    Calls Try.prog 8 #[.int .i64 (n : Int), .slice s len c] w fun e w' => e = .returned (.bool true) ∧ Cha (fun _ => False) w w' := by
  have A9 := Lib.hid (tnew_ok n w hn1 hn2)
  have A10 := Lib.hid fun w => dtnew_ok n w hn1 hn2
  have A11 := Lib.hid tawake_any
  have HS := Lib.hid hs
  clear hs
  go_enter Try.func8, Try.ntmps8
  go_wp2_with (first
    | (go_at_call 23; ((with_reducible refine (A9.out).mono ?_); rintro e w1 ⟨rfl, h⟩; have H1 := Lib.hid (duo_new h); clear h))
    | (go_at_call 24; ((with_reducible refine (A10.out _).mono ?_); rintro e w2 ⟨rfl, rfl⟩))
    | (go_at_call 25; ((with_reducible refine (A11.out _).mono ?_); rintro e w3 ⟨rfl, h⟩; have H2 := Lib.hid (H1.out.same h); clear h)))
  clear A9 A10 A11 H1
  generalize w.heap.size + 1 = bt at *
  generalize w.heap.size = bp at *
  generalize w1.heap.size = bd at *
  go_loopw [44] (fun i wr => ∃ j : Nat, j ≤ len ∧ i = .int .i64 (j : Int) ∧ Next w bt bp bd n j wr) (fun i _ => len - (intOf i).toNat)
  case atStart => exact ⟨0, Nat.zero_le _, rfl, _, _, _, ⟨match_new n, (by rw [(match_new n).cnt]; decide), List.length_replicate .., by decide, by decide⟩, H2.out⟩
  case round =>
    clear H2
    obtain ⟨j, hj, rfl, P, X, a, ⟨hM, hm, hn, h0, ha⟩, hD⟩ := hrel
    by_cases hlt : j < len
    · obtain ⟨b, o, rfl, hz⟩ := HS.out (by omega)
      obtain ⟨z0, z1, z2, z3, hop⟩ := hz j hlt
      have hop := hop.cha hD.cha
      have HR := Lib.hid hop.cells
      have HB := Lib.hid (hD.box #[.int .i64 z0, .int .i64 z1, .int .i64 z2, .int .u64 z3])
      have HM := Lib.hid hM
      have Hm := Lib.hid hm
      have Hn := Lib.hid hn
      have H0 : Hid (0 ≤ a ∧ a ≤ (j : Int) ∧ a + 1 < 2 ^ 63) := Lib.hid ⟨h0, ha, by omega⟩
      clear hz hop hD hM hm hn h0 ha
      have KX : Hid (∀ W P X a, Both w W bt bp bd n wr.heap.size #[.int .i64 z0, .int .i64 z1, .int .i64 z2, .int .u64 z3] P X a → W.cell? ⟨wr.heap.size, 1, none⟩ = some (.int .i64 z1) ∧ W.cell? ⟨wr.heap.size, 2, none⟩ = some (.int .i64 z2) ∧ W.cell? ⟨wr.heap.size, 3, none⟩ = some (.int .u64 z3)) := Lib.hid fun W P X a h => ⟨h.cell 1, h.cell 2, h.cell 3⟩
      go_upto_block 2 with (refine wpList_load_mid rfl 56 (.tmp 46) rfl b (o + j * 4) rfl _ _ HR.out Try.underlying56 rfl (by kernel_rfl) ?_)
      go_cut [11] (fun v wx => v = .bool true ∧ Mid w bt bp bd n wr.heap.size #[.int .i64 z0, .int .i64 z1, .int .i64 z2, .int .u64 z3] (j + 1) wx)
      case first =>
        as_aux_lemma =>
          generalize hWb : wr.alloc (.cells #[.int .i64 z0, .int .i64 z1, .int .i64 z2, .int .u64 z3] 56) = Wb at *
          have HB2 := Lib.hid (HB.out.same (Cha.refl _ Wb).drew)
          clear hWb HR
          obtain ⟨k1, k2, k3⟩ := KX.out _ _ _ _ HB2.out
          generalize wr.heap.size = g at *
          by_cases h0 : z0 = 0
          · subst h0
            obtain ⟨r, hr⟩ : ∃ r, r = addR P z1 := ⟨_, rfl⟩
            obtain ⟨XX, hX⟩ : ∃ XX, XX = addX P X a z1 z3 z2 := ⟨_, rfl⟩
            have C26 : Hid (∀ W, Both w W bt bp bd n g #[.int .i64 0, .int .i64 z1, .int .i64 z2, .int .u64 z3] P X a → Calls Try.prog 26 #[.pointer (some ⟨bt, 0, none⟩), .int .i64 z1, .int .u64 z3, .int .i64 z2] W fun e w' => e = .returned (.int .i64 r) ∧ ∃ P' a', (Match P' XX a' ∧ many P' ≤ 1024 ∧ 0 ≤ a' ∧ a' ≤ a + 1 ∧ P'.length = P.length) ∧ Both w w' bt bp bd n g #[.int .i64 0, .int .i64 z1, .int .i64 z2, .int .u64 z3] P' X a') := Lib.hid fun W h => by rw [hr, hX]; exact p26 h HM.out Hm.out H0.out.1 H0.out.2.2 z1 z3 z2
            have C27 : Hid (∀ W Q b, Both w W bt bp bd n g #[.int .i64 0, .int .i64 z1, .int .i64 z2, .int .u64 z3] Q X b → Calls Try.prog 27 #[.pointer (some ⟨bd, 0, none⟩), .int .i64 z1, .int .u64 z3, .int .i64 z2] W fun e w' => e = .returned (.int .i64 r) ∧ Both w w' bt bp bd n g #[.int .i64 0, .int .i64 z1, .int .i64 z2, .int .u64 z3] Q XX b) := Lib.hid fun W Q b h => by rw [hr, hX]; exact p27 h Hn.out HM.out.cnt Hm.out z1 z3 z2
            clear hr hX
            go_wp2
            go_region_held3 (fun w' => w'.cell? ⟨g, 1, none⟩ = some (.int .i64 z1) ∧ w'.cell? ⟨g, 2, none⟩ = some (.int .i64 z2) ∧ w'.cell? ⟨g, 3, none⟩ = some (.int .u64 z3))
              (first
                | go_keep
                | exact ⟨k1, k2, k3⟩
                | exact KX.out _ _ _ _ (by assumption))
              (first
                | (go_at_call 26; refine (C26.out _ HB2.out).mono ?_; rintro e5 w5 ⟨rfl, P', a', hP', hH⟩)
                | (go_at_call 27; refine (C27.out w5 _ _ hH).mono ?_; rintro e6 w6 ⟨rfl, hN⟩))
            all_goals
              have HN := Lib.hid hN
              have HP := Lib.hid hP'
              clear hN hH hP'
              go_wp2
              go_meet
              exact ⟨by first | rfl | simp, P', XX, a', ⟨HP.out.1, HP.out.2.1, HP.out.2.2.2.2.trans Hn.out, HP.out.2.2.1, by have := HP.out.2.2.2.1; have := H0.out.2.1; omega⟩, HN.out⟩
          · have h01 : (z0 == 0) = false := by simpa using h0
            by_cases h1 : z0 = 1
            · subst h1
              clear h0 h01
              have C29 : Hid (∀ W, Both w W bt bp bd n g #[.int .i64 1, .int .i64 z1, .int .i64 z2, .int .u64 z3] P X a → Calls Try.prog 29 #[.pointer (some ⟨bt, 0, none⟩), .int .i64 z1, .int .u64 z3] W fun e w' => ∃ s k c A P', e = .returned (.slice s k c) ∧ DueRel P z1 z3 A P' ∧ Told w w' bt bp bd n g #[.int .i64 1, .int .i64 z1, .int .i64 z2, .int .u64 z3] P' X a (.slice s k c) A) := Lib.hid fun W h => p29 h Hm.out z1 z3
              have C30 : Hid (∀ W Q v A, DueRel P z1 z3 A Q → Told w W bt bp bd n g #[.int .i64 1, .int .i64 z1, .int .i64 z2, .int .u64 z3] Q X a v A → Calls Try.prog 30 #[.pointer (some ⟨bd, 0, none⟩), .int .i64 z1, .int .u64 z3] W fun e w' => ∃ s k c X', e = .returned (.slice s k c) ∧ Lies w' (.slice s k c) A ∧ Lies w' v A ∧ Match Q X' a ∧ Both w w' bt bp bd n g #[.int .i64 1, .int .i64 z1, .int .i64 z2, .int .u64 z3] Q X' a) := Lib.hid fun W Q v A hR h => p30 h HM.out hR (by have := HM.out.cnt; have := Hm.out; omega)
              have DL : Hid (∀ A Q, DueRel P z1 z3 A Q → many Q ≤ 1024 ∧ Q.length = n) := Lib.hid fun A Q hR => by
                rcases hR with ⟨_, _, rfl⟩ | ⟨q, L, m, _, hL, _, _, rfl⟩
                · exact ⟨Hm.out, Hn.out⟩
                · have := many_set (M := L.drop m) hL
                  have := Hm.out
                  rw [List.length_drop] at *
                  exact ⟨by omega, by rw [List.length_set]; exact Hn.out⟩
              go_wp2
              go_region_held3 (fun w' => w'.cell? ⟨g, 1, none⟩ = some (.int .i64 z1) ∧ w'.cell? ⟨g, 2, none⟩ = some (.int .i64 z2) ∧ w'.cell? ⟨g, 3, none⟩ = some (.int .u64 z3))
                (first
                  | go_keep
                  | exact ⟨k1, k2, k3⟩
                  | exact KX.out _ _ _ _ (by assumption)
                  | exact KX.out _ _ _ _ hT.both)
                (first
                  | (go_at_call 29; refine (C29.out _ HB2.out).mono ?_; rintro e5 w5 ⟨s5, q5, c5, A5, P', rfl, hR, hT⟩)
                  | (go_at_call 30; refine (C30.out w5 _ _ _ hR hT).mono ?_; rintro e6 w6 ⟨s6, q6, c6, X', rfl, hl1, hl2, hM', hH⟩)
                  | (go_at_call 28; refine (alike_same hl2 hl1).mono ?_; rintro e7 w7 ⟨rfl, hc7⟩; have hN := hH.same hc7))
              all_goals
                have HN := Lib.hid hN
                have HP := Lib.hid hM'
                have HD := Lib.hid (DL.out _ _ hR)
                clear hN hH hM' hT hl1 hl2 hR hc7
                go_wp2
                go_meet
                exact ⟨by first | rfl | simp, P', X', a, ⟨HP.out, HD.out.1, HD.out.2, H0.out.1, by have := H0.out.2.1; omega⟩, HN.out⟩
            · have h11 : (z0 == 1) = false := by simpa using h1
              by_cases h2 : z0 = 2
              · subst h2
                clear h0 h01 h1 h11
                obtain ⟨r, hr⟩ : ∃ r, r = movR P z1 z2 := ⟨_, rfl⟩
                obtain ⟨XX, hX⟩ : ∃ XX, XX = movX P X z1 z2 := ⟨_, rfl⟩
                have C31 : Hid (∀ W, Both w W bt bp bd n g #[.int .i64 2, .int .i64 z1, .int .i64 z2, .int .u64 z3] P X a → Calls Try.prog 31 #[.pointer (some ⟨bt, 0, none⟩), .int .i64 z1, .int .i64 z2] W fun e w' => e = .returned (.int .i64 r) ∧ ∃ P', (Match P' XX a ∧ many P' ≤ 1024 ∧ P'.length = P.length) ∧ Both w w' bt bp bd n g #[.int .i64 2, .int .i64 z1, .int .i64 z2, .int .u64 z3] P' X a) := Lib.hid fun W h => by rw [hr, hX]; exact p31 h HM.out Hm.out z1 z2
                have C32 : Hid (∀ W Q, Both w W bt bp bd n g #[.int .i64 2, .int .i64 z1, .int .i64 z2, .int .u64 z3] Q X a → Calls Try.prog 32 #[.pointer (some ⟨bd, 0, none⟩), .int .i64 z1, .int .i64 z2] W fun e w' => e = .returned (.int .i64 r) ∧ Both w w' bt bp bd n g #[.int .i64 2, .int .i64 z1, .int .i64 z2, .int .u64 z3] Q XX a) := Lib.hid fun W Q h => by rw [hr, hX]; exact p32 h Hn.out (by have := HM.out.cnt; have := Hm.out; omega) z1 z2
                clear hr hX
                go_wp2
                go_region_held3 (fun w' => w'.cell? ⟨g, 1, none⟩ = some (.int .i64 z1) ∧ w'.cell? ⟨g, 2, none⟩ = some (.int .i64 z2))
                  (first
                    | go_keep
                    | exact ⟨k1, k2⟩
                    | exact ⟨(KX.out _ _ _ _ (by assumption)).1, (KX.out _ _ _ _ (by assumption)).2.1⟩)
                  (first
                    | (go_at_call 31; refine (C31.out _ HB2.out).mono ?_; rintro e5 w5 ⟨rfl, P', hP', hH⟩)
                    | (go_at_call 32; refine (C32.out w5 _ hH).mono ?_; rintro e6 w6 ⟨rfl, hN⟩))
                all_goals
                  have HN := Lib.hid hN
                  have HP := Lib.hid hP'
                  clear hN hH hP'
                  go_wp2
                  go_meet
                  exact ⟨by first | rfl | simp, P', XX, a, ⟨HP.out.1, HP.out.2.1, HP.out.2.2.trans Hn.out, H0.out.1, by have := H0.out.2.1; omega⟩, HN.out⟩
              · have h21 : (z0 == 2) = false := by simpa using h2
                go_wp2
                go_meet
                exact ⟨rfl, P, X, a, ⟨HM.out, Hm.out, Hn.out, H0.out.1, by have := H0.out.2.1; omega⟩, HB.out⟩
      case rest =>
        as_aux_lemma =>
          obtain ⟨rfl, P', X', a', ⟨hM, hm, hn, h0, ha⟩, hB⟩ := hcut
          have HB2 := Lib.hid hB
          have HM2 := Lib.hid hM
          have HC2 := Lib.hid hM.cnt
          have Hm2 := Lib.hid hm
          have HF : Hid (P'.length = n ∧ 0 ≤ a' ∧ a' ≤ ((j + 1 : Nat) : Int)) := Lib.hid ⟨hn, h0, ha⟩
          obtain ⟨t, f, hR⟩ := next_ex P' z1
          have HR2 := Lib.hid hR
          have C33 : Hid (Calls Try.prog 33 #[.pointer (some ⟨bt, 0, none⟩), .int .i64 z1] wc fun e w' => e = .returned (.tuple #[.int .u64 t, .bool f]) ∧ wc = w') := Lib.hid (p33 hB hR)
          have C34 : Hid (Calls Try.prog 34 #[.pointer (some ⟨bd, 0, none⟩), .int .i64 z1] wc fun e w' => e = .returned (.tuple #[.int .u64 t, .bool f]) ∧ Cha (fun _ => False) wc w') := Lib.hid (p34 hB hM (by have := hM.cnt; omega) hR)
          obtain ⟨k1, _, _⟩ := KX.out _ _ _ _ hB
          clear hM hm hn h0 ha hB hR HB HM Hm Hn H0 KX HR HR2
          generalize wr.heap.size = g at *
          generalize (#[.int .i64 z0, .int .i64 z1, .int .i64 z2, .int .u64 z3] : Array Value) = cs at *
          go_wp2_with (first
            | (go_at_call 33; ((with_reducible refine (C33.out).mono ?_); rintro e w5 ⟨rfl, rfl⟩))
            | (go_at_call 34; ((with_reducible refine (C34.out).mono ?_); rintro e w6 ⟨rfl, h⟩; have H6 := Lib.hid (HB2.out.same h); clear h)))
          clear C33 C34
          have C35 := Lib.hid (fun W (h : Both w W bt bp bd n g cs P' X' a') => p35 h Hm2.out)
          rw [HC2.out] at C35
          obtain ⟨sq, cq, x1⟩ := H6.out.list
          have HX : Hid (∀ m, Both w (w6.drewN m) bt bp bd n g cs P' X' a') := Lib.hid fun m => H6.out.same ((Cha.refl _ w6).drewN m)
          generalize X'.length = nn at *
          cases f
          all_goals
            go_quiet ((go_at_call 35; exact Calls.quiet_of (C35.out _ (HX.out _))))
            go_wp2
            go_roundw
            case rel => exact ⟨j + 1, by omega, by go_num, P', X', a', ⟨HM2.out, Hm2.out, HF.out.1, HF.out.2.1, HF.out.2.2⟩, (H6.out.same ((Cha.refl _ w6).drewN _)).duo⟩
            case measure => simp [intOf]; omega
    · obtain rfl : j = len := by omega
      have HC := Lib.hid hD.cha
      clear hD hM
      go_wp2
      go_ret
      exact ⟨rfl, HC.out⟩
end Go.Proofs.Yteogepfolifneaa.Tp
