/- StackPlays: its walk. -/
import Derived.Test.YteienclklmjhdaaYI
import Derived.Test.YteienclklmjhdaaAC
import Derived.Deep.CutBlock
namespace Go.Proofs.Yteienclklmjhdaa
open Go.ChangeShapes Go.WideShapes Go.ChangeAt Go.RowKit

def opc (z0 z1 z2 z3 z4 z5 : Int) : Array Value := #[.int .i64 z0, .int .i64 z1, .int .i64 z2, .int .i64 z3, .int .i64 z4, .int .u64 z5]
set_option maxRecDepth 100000 in
set_option maxHeartbeats 8000000 in
theorem plays_walk (s : Option Addr) (len c : Nat) (w : World) (hlen : len ≤ 9223372036854775807)
    (hs : 0 < len → ∃ (b o : Nat), s = some ⟨b, o, none⟩ ∧ ∀ i, i < len → ∃ z0 z1 z2 z3 z4 z5, OpW w b (o + i * 6) z0 z1 z2 z3 z4 z5) :
    Calls Try.prog 3 #[.slice s len c] w fun e w' => e = .returned (.bool true) ∧ Cha (fun _ => False) w w' := by
  have A8 := Lib.hid (duo_new (Cha.refl (fun _ => False) w))
  have A10 : Hid (∀ W bs rs, Duo w W bs rs St.new St.new → Calls Try.prog 10 #[] W fun e W' => e = .returned (.bool true) ∧ Duo w W' bs rs St.new St.new) := Lib.hid fun W bs rs h => (awake_any (Cha.refl (fun _ => False) W)).mono fun _ _ ⟨a, c⟩ => ⟨a, h.same c⟩
  have HS := Lib.hid hs
  clear hs
  go_enter Try.func3, Try.ntmps3
  go_wp2_with (first
    | (go_at_call 8; ((with_reducible refine (A8.out).mono ?_); rintro e w1 ⟨bs, rfl, h⟩; have A9 := Lib.hid h; clear h))
    | (go_at_call 9; ((with_reducible refine (A9.out).mono ?_); rintro e w2 ⟨rs, rfl, h⟩; have A11 := Lib.hid (A10.out _ _ _ h); clear h))
    | (go_at_call 10; ((with_reducible refine (A11.out).mono ?_); rintro e w3 ⟨rfl, h⟩; have H12 := Lib.hid h; clear h)))
  clear A8 A9 A10 A11
  go_loopw [29] (fun i wr => ∃ j : Nat, j ≤ len ∧ i = .int .i64 (j : Int) ∧ ∃ st, Duo w wr bs rs st st) (fun i _ => len - (intOf i).toNat)
  case atStart => exact ⟨0, Nat.zero_le _, rfl, _, H12.out⟩
  case round =>
    clear H12
    obtain ⟨j, hj, rfl, st, hD⟩ := hrel
    by_cases hlt : j < len
    · obtain ⟨b, o, rfl, hz⟩ := HS.out (by omega)
      obtain ⟨z0, z1, z2, z3, z4, z5, hop⟩ := hz j hlt
      have hop := hop.cha hD.cha
      have HR := Lib.hid hop.cells
      have l5 := hop.lo
      have h5 := hop.hi
      have h1 := hop.m1
      have h3 := hop.m3
      have HB : Hid (Both w (wr.alloc (.cells #[.int .i64 z0, .int .i64 z1, .int .i64 z2, .int .i64 z3, .int .i64 z4, .int .u64 z5] 30)) bs rs wr.heap.size (opc z0 z1 z2 z3 z4 z5) st st) := Lib.hid (hD.box (opc z0 z1 z2 z3 z4 z5))
      have KX : Hid (∀ W s' t', Both w W bs rs wr.heap.size (opc z0 z1 z2 z3 z4 z5) s' t' → W.cell? ⟨wr.heap.size, 1, none⟩ = some (.int .i64 z1) ∧ W.cell? ⟨wr.heap.size, 2, none⟩ = some (.int .i64 z2) ∧ W.cell? ⟨wr.heap.size, 3, none⟩ = some (.int .i64 z3) ∧ W.cell? ⟨wr.heap.size, 4, none⟩ = some (.int .i64 z4) ∧ W.cell? ⟨wr.heap.size, 5, none⟩ = some (.int .u64 z5)) := Lib.hid fun W s' t' h => ⟨h.cell 1, h.cell 2, h.cell 3, h.cell 4, h.cell 5⟩
      clear hz hop hD
      go_upto_block 2 with (refine wpList_load_mid rfl 30 (.tmp 31) rfl b (o + j * 6) rfl _ _ HR.out Try.underlying30 rfl (by kernel_rfl) ?_)
      go_cut [7] (fun v wx => v = .bool true ∧ ∃ sn, Both w wx bs rs wr.heap.size (opc z0 z1 z2 z3 z4 z5) sn sn)
      case first =>
        as_aux_lemma =>
          generalize hWb : wr.alloc (.cells #[.int .i64 z0, .int .i64 z1, .int .i64 z2, .int .i64 z3, .int .i64 z4, .int .u64 z5] 30) = Wb at *
          clear hWb HR
          obtain ⟨k1, k2, k3, k4, k5⟩ := KX.out _ _ _ HB.out
          generalize wr.heap.size = g at *
          by_cases h0 : z0 = 0
          · subst h0
            obtain ⟨⟨e0, sn⟩, hr⟩ : ∃ r, r = st.pushR z1 := ⟨_, rfl⟩
            have CP : Hid (∀ W s', Both w W bs rs g (opc 0 z1 z2 z3 z4 z5) st s' → Calls Try.prog 11 #[.pointer (some ⟨bs, 0, none⟩), .int .i64 z1] W fun e w' => e = .returned (.int .i64 e0) ∧ Both w w' bs rs g (opc 0 z1 z2 z3 z4 z5) sn s') := Lib.hid fun W s' h => by have := b11 h z1; rw [← hr] at this; exact this
            have CD : Hid (∀ W s', Both w W bs rs g (opc 0 z1 z2 z3 z4 z5) s' st → Calls Try.prog 12 #[.pointer (some ⟨rs, 0, none⟩), .int .i64 z1] W fun e w' => e = .returned (.int .i64 e0) ∧ Both w w' bs rs g (opc 0 z1 z2 z3 z4 z5) s' sn) := Lib.hid fun W s' h => by have := b12 h z1; rw [← hr] at this; exact this
            have KS : Hid (∀ W s' t', Both w W bs rs g (opc 0 z1 z2 z3 z4 z5) s' t' → W.cell? ⟨g, 1, none⟩ = some (.int .i64 z1)) := Lib.hid fun W s' t' h => (KX.out _ _ _ h).1
            clear hr
            go_wp2
            have HB1 := Lib.hid (HB.out.same ((Cha.refl _ Wb).drew))
            go_region_held3 (fun w' => w'.cell? ⟨g, 1, none⟩ = some (.int .i64 z1))
              (first
                | go_keep
                | exact k1
                | exact KS.out _ _ _ (by assumption))
              (first
                | (go_at_call 11; refine (CP.out _ _ HB1.out).mono ?_; rintro e5 w5 ⟨rfl, hH5⟩)
                | (go_at_call 12; refine (CD.out _ _ hH5).mono ?_; rintro e6 w6 ⟨rfl, hH6⟩))
            all_goals
              have H6 := Lib.hid hH6
              clear hH5 hH6
              go_wp2
              go_meet
              exact ⟨by first | rfl | simp, sn, H6.out⟩
          · have h01 : (z0 == 0) = false := by simpa using h0
            by_cases h1' : z0 = 1
            · subst h1'
              clear h0 h01
              obtain ⟨⟨e0, sn⟩, hr⟩ : ∃ r, r = st.popR := ⟨_, rfl⟩
              have CP : Hid (∀ W s', Both w W bs rs g (opc 1 z1 z2 z3 z4 z5) st s' → Calls Try.prog 13 #[.pointer (some ⟨bs, 0, none⟩)] W fun e w' => e = .returned (.int .i64 e0) ∧ Both w w' bs rs g (opc 1 z1 z2 z3 z4 z5) sn s') := Lib.hid fun W s' h => by have := b13 h; rw [← hr] at this; exact this
              have CD : Hid (∀ W s', Both w W bs rs g (opc 1 z1 z2 z3 z4 z5) s' st → Calls Try.prog 14 #[.pointer (some ⟨rs, 0, none⟩)] W fun e w' => e = .returned (.int .i64 e0) ∧ Both w w' bs rs g (opc 1 z1 z2 z3 z4 z5) s' sn) := Lib.hid fun W s' h => by have := b14 h; rw [← hr] at this; exact this
              clear hr
              go_wp2_with (first
                | (go_at_call 13; ((with_reducible refine (CP.out _ _ HB.out).mono ?_); rintro e w5 ⟨rfl, h⟩; have H5 := Lib.hid h; clear h))
                | (go_at_call 14; ((with_reducible refine (CD.out _ _ H5.out).mono ?_); rintro e w6 ⟨rfl, h⟩; have H6 := Lib.hid h; clear h)))
              go_meet
              exact ⟨by first | rfl | simp, sn, H6.out⟩
            · have h11 : (z0 == 1) = false := by simpa using h1'
              by_cases h2 : z0 = 2
              · subst h2
                clear h0 h01 h1' h11
                obtain ⟨⟨e0, sn⟩, hr⟩ : ∃ r, r = st.set z1 z2 z5 := ⟨_, rfl⟩
                have CP : Hid (∀ W s', Both w W bs rs g (opc 2 z1 z2 z3 z4 z5) st s' → Calls Try.prog 15 #[.pointer (some ⟨bs, 0, none⟩), .int .i64 z1, .int .i64 z2, .int .u64 z5] W fun e w' => e = .returned (.int .i64 e0) ∧ Both w w' bs rs g (opc 2 z1 z2 z3 z4 z5) sn s') := Lib.hid fun W s' h => by have := b15 h z1 z2 z5 l5 h5; rw [← hr] at this; exact this
                have CD : Hid (∀ W s', Both w W bs rs g (opc 2 z1 z2 z3 z4 z5) s' st → Calls Try.prog 16 #[.pointer (some ⟨rs, 0, none⟩), .int .i64 z1, .int .i64 z2, .int .u64 z5] W fun e w' => e = .returned (.int .i64 e0) ∧ Both w w' bs rs g (opc 2 z1 z2 z3 z4 z5) s' sn) := Lib.hid fun W s' h => by have := b16 h z1 z2 z5 h1 l5 h5; rw [← hr] at this; exact this
                have KS : Hid (∀ W s' t', Both w W bs rs g (opc 2 z1 z2 z3 z4 z5) s' t' → W.cell? ⟨g, 1, none⟩ = some (.int .i64 z1) ∧ W.cell? ⟨g, 2, none⟩ = some (.int .i64 z2) ∧ W.cell? ⟨g, 5, none⟩ = some (.int .u64 z5)) := Lib.hid fun W s' t' h => ⟨(KX.out _ _ _ h).1, (KX.out _ _ _ h).2.1, (KX.out _ _ _ h).2.2.2.2⟩
                clear hr
                go_wp2
                have HB1 := Lib.hid (HB.out.same ((Cha.refl _ Wb).drew))
                go_region_held3 (fun w' => w'.cell? ⟨g, 1, none⟩ = some (.int .i64 z1) ∧ w'.cell? ⟨g, 2, none⟩ = some (.int .i64 z2) ∧ w'.cell? ⟨g, 5, none⟩ = some (.int .u64 z5))
                  (first
                    | go_keep
                    | exact ⟨k1, k2, k5⟩
                    | exact KS.out _ _ _ (by assumption))
                  (first
                    | (go_at_call 15; refine (CP.out _ _ HB1.out).mono ?_; rintro e5 w5 ⟨rfl, hH5⟩)
                    | (go_at_call 16; refine (CD.out _ _ hH5).mono ?_; rintro e6 w6 ⟨rfl, hH6⟩))
                all_goals
                  have H6 := Lib.hid hH6
                  clear hH5 hH6
                  go_wp2
                  go_meet
                  exact ⟨by first | rfl | simp, sn, H6.out⟩
              · have h21 : (z0 == 2) = false := by simpa using h2
                by_cases h3' : z0 = 3
                · subst h3'
                  clear h0 h01 h1' h11 h2 h21
                  obtain ⟨⟨e0, sn⟩, hr⟩ : ∃ r, r = st.link z1 z2 z3 z4 := ⟨_, rfl⟩
                  have CP : Hid (∀ W s', Both w W bs rs g (opc 3 z1 z2 z3 z4 z5) st s' → Calls Try.prog 17 #[.pointer (some ⟨bs, 0, none⟩), .int .i64 z1, .int .i64 z2, .int .i64 z3, .int .i64 z4] W fun e w' => e = .returned (.int .i64 e0) ∧ Both w w' bs rs g (opc 3 z1 z2 z3 z4 z5) sn s') := Lib.hid fun W s' h => by have := b17 h z1 z2 z3 z4; rw [← hr] at this; exact this
                  have CD : Hid (∀ W s', Both w W bs rs g (opc 3 z1 z2 z3 z4 z5) s' st → Calls Try.prog 18 #[.pointer (some ⟨rs, 0, none⟩), .int .i64 z1, .int .i64 z2, .int .i64 z3, .int .i64 z4] W fun e w' => e = .returned (.int .i64 e0) ∧ Both w w' bs rs g (opc 3 z1 z2 z3 z4 z5) s' sn) := Lib.hid fun W s' h => by have := b18 h z1 z2 z3 z4 h1 h3; rw [← hr] at this; exact this
                  have KS : Hid (∀ W s' t', Both w W bs rs g (opc 3 z1 z2 z3 z4 z5) s' t' → W.cell? ⟨g, 1, none⟩ = some (.int .i64 z1) ∧ W.cell? ⟨g, 2, none⟩ = some (.int .i64 z2) ∧ W.cell? ⟨g, 3, none⟩ = some (.int .i64 z3) ∧ W.cell? ⟨g, 4, none⟩ = some (.int .i64 z4)) := Lib.hid fun W s' t' h => ⟨(KX.out _ _ _ h).1, (KX.out _ _ _ h).2.1, (KX.out _ _ _ h).2.2.1, (KX.out _ _ _ h).2.2.2.1⟩
                  clear hr
                  go_wp2
                  have HB1 := Lib.hid (HB.out.same ((Cha.refl _ Wb).drew))
                  go_region_held3 (fun w' => w'.cell? ⟨g, 1, none⟩ = some (.int .i64 z1) ∧ w'.cell? ⟨g, 2, none⟩ = some (.int .i64 z2) ∧ w'.cell? ⟨g, 3, none⟩ = some (.int .i64 z3) ∧ w'.cell? ⟨g, 4, none⟩ = some (.int .i64 z4))
                    (first
                      | go_keep
                      | exact ⟨k1, k2, k3, k4⟩
                      | exact KS.out _ _ _ (by assumption))
                    (first
                      | (go_at_call 17; refine (CP.out _ _ HB1.out).mono ?_; rintro e5 w5 ⟨rfl, hH5⟩)
                      | (go_at_call 18; refine (CD.out _ _ hH5).mono ?_; rintro e6 w6 ⟨rfl, hH6⟩))
                  all_goals
                    have H6 := Lib.hid hH6
                    clear hH5 hH6
                    go_wp2
                    go_meet
                    exact ⟨by first | rfl | simp, sn, H6.out⟩
                · have h31 : (z0 == 3) = false := by simpa using h3'
                  by_cases h4 : z0 = 4
                  · subst h4
                    clear h0 h01 h1' h11 h2 h21 h3' h31
                    obtain ⟨⟨e0, sn⟩, hr⟩ : ∃ r, r = st.store z1 z2 z5 := ⟨_, rfl⟩
                    have CP : Hid (∀ W s', Both w W bs rs g (opc 4 z1 z2 z3 z4 z5) st s' → Calls Try.prog 19 #[.pointer (some ⟨bs, 0, none⟩), .int .i64 z1, .int .i64 z2, .int .u64 z5] W fun e w' => e = .returned (.int .i64 e0) ∧ Both w w' bs rs g (opc 4 z1 z2 z3 z4 z5) sn s') := Lib.hid fun W s' h => by have := b19 h z1 z2 z5 l5 h5; rw [← hr] at this; exact this
                    have CD : Hid (∀ W s', Both w W bs rs g (opc 4 z1 z2 z3 z4 z5) s' st → Calls Try.prog 20 #[.pointer (some ⟨rs, 0, none⟩), .int .i64 z1, .int .i64 z2, .int .u64 z5] W fun e w' => e = .returned (.int .i64 e0) ∧ Both w w' bs rs g (opc 4 z1 z2 z3 z4 z5) s' sn) := Lib.hid fun W s' h => by have := b20 h z1 z2 z5 h1 l5 h5; rw [← hr] at this; exact this
                    have KS : Hid (∀ W s' t', Both w W bs rs g (opc 4 z1 z2 z3 z4 z5) s' t' → W.cell? ⟨g, 1, none⟩ = some (.int .i64 z1) ∧ W.cell? ⟨g, 2, none⟩ = some (.int .i64 z2) ∧ W.cell? ⟨g, 5, none⟩ = some (.int .u64 z5)) := Lib.hid fun W s' t' h => ⟨(KX.out _ _ _ h).1, (KX.out _ _ _ h).2.1, (KX.out _ _ _ h).2.2.2.2⟩
                    clear hr
                    go_wp2
                    have HB1 := Lib.hid (HB.out.same ((Cha.refl _ Wb).drew))
                    go_region_held3 (fun w' => w'.cell? ⟨g, 1, none⟩ = some (.int .i64 z1) ∧ w'.cell? ⟨g, 2, none⟩ = some (.int .i64 z2) ∧ w'.cell? ⟨g, 5, none⟩ = some (.int .u64 z5))
                      (first
                        | go_keep
                        | exact ⟨k1, k2, k5⟩
                        | exact KS.out _ _ _ (by assumption))
                      (first
                        | (go_at_call 19; refine (CP.out _ _ HB1.out).mono ?_; rintro e5 w5 ⟨rfl, hH5⟩)
                        | (go_at_call 20; refine (CD.out _ _ hH5).mono ?_; rintro e6 w6 ⟨rfl, hH6⟩))
                    all_goals
                      have H6 := Lib.hid hH6
                      clear hH5 hH6
                      go_wp2
                      go_meet
                      exact ⟨by first | rfl | simp, sn, H6.out⟩
                  · have h41 : (z0 == 4) = false := by simpa using h4
                    go_wp2
                    go_meet
                    exact ⟨rfl, st, HB.out⟩
      case rest =>
        as_aux_lemma =>
          obtain ⟨rfl, sn, hB⟩ := hcut
          have HB2 := Lib.hid hB
          clear hB HB HR
          have KY := KX
          generalize wr.heap.size = g at *
          generalize (opc z0 z1 z2 z3 z4 z5) = cs at *
          obtain ⟨k1, k2, k3, k4, k5⟩ := KX.out _ _ _ HB2.out
          obtain ⟨⟨g1, g2⟩, hg⟩ : ∃ r, r = sn.get z1 z2 := ⟨_, rfl⟩
          obtain ⟨⟨l1, l2⟩, hl⟩ : ∃ r, r = sn.load z1 z2 := ⟨_, rfl⟩
          obtain ⟨n1, hn1⟩ : ∃ n, n = sn.fs.length := ⟨_, rfl⟩
          obtain ⟨n2, hn2⟩ : ∃ n, n = sn.n := ⟨_, rfl⟩
          obtain ⟨n3, hn3⟩ : ∃ n, n = sn.cop := ⟨_, rfl⟩
          have C21 : Hid (∀ W, Both w W bs rs g cs sn sn → Calls Try.prog 21 #[.pointer (some ⟨bs, 0, none⟩), .int .i64 z1, .int .i64 z2] W fun e W' => e = .returned (.tuple #[.int .u64 g1, .int .i64 g2]) ∧ Both w W' bs rs g cs sn sn) := Lib.hid fun W h => by have := b21 h z1 z2; rw [← hg] at this; exact this
          have C22 : Hid (∀ W, Both w W bs rs g cs sn sn → Calls Try.prog 22 #[.pointer (some ⟨rs, 0, none⟩), .int .i64 z1, .int .i64 z2] W fun e W' => e = .returned (.tuple #[.int .u64 g1, .int .i64 g2]) ∧ Both w W' bs rs g cs sn sn) := Lib.hid fun W h => by have := b22 h z1 z2 h1; rw [← hg] at this; exact this
          have C23 : Hid (∀ W, Both w W bs rs g cs sn sn → Calls Try.prog 23 #[.pointer (some ⟨bs, 0, none⟩), .int .i64 z1, .int .i64 z2] W fun e W' => e = .returned (.tuple #[.int .u64 l1, .int .i64 l2]) ∧ Both w W' bs rs g cs sn sn) := Lib.hid fun W h => by have := b23 h z1 z2; rw [← hl] at this; exact this
          have C24 : Hid (∀ W, Both w W bs rs g cs sn sn → Calls Try.prog 24 #[.pointer (some ⟨rs, 0, none⟩), .int .i64 z1, .int .i64 z2] W fun e W' => e = .returned (.tuple #[.int .u64 l1, .int .i64 l2]) ∧ Both w W' bs rs g cs sn sn) := Lib.hid fun W h => by have := b24 h z1 z2 h1; rw [← hl] at this; exact this
          have C25 : Hid (∀ W, Both w W bs rs g cs sn sn → Calls Try.prog 25 #[.pointer (some ⟨bs, 0, none⟩)] W fun e W' => e = .returned (.tuple #[.int .i64 (n1 : Nat), .int .i64 (n2 : Nat), .int .i64 n3]) ∧ Both w W' bs rs g cs sn sn) := Lib.hid fun W h => by have := b25 h; rw [← hn1, ← hn2, ← hn3] at this; exact this
          have CH : Hid (∀ W, Both w W bs rs g cs sn sn → ∃ a c, W.cell? ⟨rs, 0, none⟩ = some (.slice a n1 c) ∧ W.cell? ⟨rs, 1, none⟩ = some (.int .i64 (n2 : Nat)) ∧ W.cell? ⟨rs, 2, none⟩ = some (.int .i64 n3)) := Lib.hid fun W h => by have := h.heads; rw [← hn1, ← hn2, ← hn3] at this; exact this
          have q1 : (g1 != g1) = false := by simp
          have q2 : (g2 != g2) = false := by simp
          have q3 : (l1 != l1) = false := by simp
          have q4 : (l2 != l2) = false := by simp
          have q5 : ((n1 : Int) != (n1 : Int)) = false := by simp
          have q6 : ((n2 : Int) != (n2 : Int)) = false := by simp
          have q7 : (n3 != n3) = false := by simp
          clear hg hl hn1 hn2 hn3
          go_wp2_with (first
            | (go_at_call 21; ((with_reducible refine (C21.out _ HB2.out).mono ?_); rintro e w5 ⟨rfl, h⟩; have H5 := Lib.hid h; obtain ⟨u1, u2, u3, u4, u5⟩ := KX.out _ _ _ h; clear h))
            | (go_at_call 22; ((with_reducible refine (C22.out _ H5.out).mono ?_); rintro e w6 ⟨rfl, h⟩; have H6 := Lib.hid h; obtain ⟨v1, v2, v3, v4, v5⟩ := KX.out _ _ _ h; clear h))
            | (go_at_call 23; ((with_reducible refine (C23.out _ H6.out).mono ?_); rintro e w7 ⟨rfl, h⟩; have H7 := Lib.hid h; obtain ⟨x1, x2, x3, x4, x5⟩ := KX.out _ _ _ h; clear h))
            | (go_at_call 24; ((with_reducible refine (C24.out _ H7.out).mono ?_); rintro e w8 ⟨rfl, h⟩; have H8 := Lib.hid h; clear h))
            | (go_at_call 25; ((with_reducible refine (C25.out _ H8.out).mono ?_); rintro e w9 ⟨rfl, h⟩; have H9 := Lib.hid h.duo; obtain ⟨a9, c9, y0, y1, y2⟩ := CH.out _ h; clear h)))
          go_roundw
          case rel => exact ⟨j + 1, by omega, by go_num, sn, H9.out⟩
          case measure => simp [intOf]; omega
    · obtain rfl : j = len := by omega
      have HC := Lib.hid hD.cha
      clear hD
      go_wp2
      go_ret
      exact ⟨rfl, HC.out⟩
end Go.Proofs.Yteienclklmjhdaa
