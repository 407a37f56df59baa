/- QueuePlays: the walk. -/
import Derived.Test.YteogepfolifneaaZB
import Derived.Test.YteogepfolifneaaAB
namespace Go.Proofs.Yteogepfolifneaa
open Go.ChangeShapes Go.WideShapes Go.ChangeAt Go.RowKit
variable {w0 w w' W : World} {F U : Nat → Prop} {bq bp br bl bn on cn gb k : Nat} {s t : St} {cs : Array Value}

theorem plays_bad (p : Int) (v : Value) (w : World) (hp : p < 1 ∨ 8 < p) : Calls Try.prog 3 #[.int .i64 p, v] w fun e w' => e = .returned (.bool true) ∧ Cha (fun _ => False) w w' := by
  have A9 := Lib.hid (new_bad p w hp)
  have A10 := Lib.hid fun w => rnew_bad p w hp
  have A11 := Lib.hid awake_any
  clear hp
  go_enter Try.func3, Try.ntmps3
  go_wp2_with (first
    | (go_at_call 12; ((with_reducible refine (A9.out).mono ?_); rintro e w1 ⟨rfl, rfl⟩))
    | (go_at_call 13; ((with_reducible refine (A10.out _).mono ?_); rintro e w1 ⟨rfl, rfl⟩))
    | (go_at_call 14; ((with_reducible refine (A11.out _).mono ?_); rintro e w1 ⟨rfl, h⟩; have H11 := Lib.hid h; clear h)))
  go_ret
  exact ⟨rfl, H11.out⟩
/-- Both, with no block beside. -/
def Duo (w0 w : World) (bq bp br bl bn on cn k : Nat) (s t : St) : Prop := ∃ F U, Two w0 w F U bq bp br bl bn on cn k s t
theorem Two.same (h : Two w0 w F U bq bp br bl bn on cn k s t) (c : Cha (fun _ => False) w w') : Two w0 w' F U bq bp br bl bn on cn k s t := by
  obtain ⟨⟨z, v, q⟩, ⟨lv, va, r⟩, a1, a2, a3, a4, c0, n1, n2, n3, ls, lt⟩ := h
  exact ⟨⟨z, v, q.same c⟩, ⟨lv, va, r.same c⟩, a1, a2, a3, a4, c0.trans c, n1, n2, n3, ls, lt⟩
theorem Both.duo (h : Both w0 w bq bp br bl bn on cn k gb cs s t) : Duo w0 w bq bp br bl bn on cn k s t := by
  obtain ⟨F, U, T, _⟩ := h
  exact ⟨F, U, T⟩
theorem Duo.box (h : Duo w0 w bq bp br bl bn on cn k s t) (cs : Array Value) : Both w0 (w.alloc (.cells cs 32)) bq bp br bl bn on cn k w.heap.size cs s t := by
  obtain ⟨F, U, T⟩ := h
  obtain ⟨z, v, q⟩ := T.q
  obtain ⟨lv, va, r⟩ := T.r
  have hr := r.lt
  exact ⟨F, U, T.same ((Cha.refl _ w).alloc _), heap_alloc_new w _, fun e => by have := q.old _ e; omega, fun e => by have := r.old _ e; omega, by omega⟩
theorem duo_new {w1 w2 : World} (h1 : Fresh k w w1) (h2 : RFresh k w1 w2) : ∃ bl bn on cn, Duo w w2 (w.heap.size + 1) w.heap.size (w1.heap.size + 1) bl bn on cn k (ini k) (ini k) := by
  obtain ⟨q, c1⟩ := h1
  obtain ⟨bn, on, cn, lv, r, c2, hbn⟩ := h2
  have hs := c1.size
  have ho := q.old _ (.inl rfl)
  exact ⟨_, bn, on, cn, fun i => i = w.heap.size + 1 ∨ i = w.heap.size, fun _ => False, ⟨_, _, q.same c2⟩, ⟨_, _, r⟩, by omega, by omega, by omega, fun _ _ f => f, c1.trans c2, fun i hi => by omega, fun i hi => hi.elim, by omega, by show (List.replicate k _).length = k; rw [List.length_replicate], by show (List.replicate k _).length = k; rw [List.length_replicate]⟩

/-- Behind a round. -/
def Next (w0 : World) (bq bp br bl bn on cn k n : Nat) (w : World) : Prop := ∃ s, Duo w0 w bq bp br bl bn on cn k s s ∧ Good n s.1 s.2
set_option maxRecDepth 100000 in
set_option maxHeartbeats 8000000 in
theorem plays_walk (p : Nat) (s : Option Addr) (len c : Nat) (w : World) (hp1 : 1 ≤ p) (hp2 : p ≤ 8) (hlen : len * 24 ≤ 140737488351232)
    (hs : 0 < len → ∃ (b o : Nat), s = some ⟨b, o, none⟩ ∧ ∀ i, i < len → ∃ z0 z1 z2, OpAt w b (o + i * 3) z0 z1 z2) :
    Calls Try.prog 3 #[.int .i64 (p : Int), .slice s len c] w fun e w' => e = .returned (.bool true) ∧ Cha (fun _ => False) w w' := by
  have A9 := Lib.hid (new_ok p w hp1 hp2)
  have A10 := Lib.hid fun w => rnew_ok p w hp1 hp2
  have A11 := Lib.hid awake_any
  have HS := Lib.hid hs
  clear hs
  go_enter Try.func3, Try.ntmps3
  go_wp2_with (first
    | (go_at_call 12; ((with_reducible refine (A9.out).mono ?_); rintro e w1 ⟨rfl, h⟩; have H9 := Lib.hid h; clear h))
    | (go_at_call 13; ((with_reducible refine (A10.out _).mono ?_); rintro e w2 ⟨rfl, h⟩; have H10 := Lib.hid (duo_new H9.out h); clear h))
    | (go_at_call 14; ((with_reducible refine (A11.out _).mono ?_); rintro e w3 ⟨rfl, h⟩; have H11 := Lib.hid h; clear h)))
  have H12 : Hid (∃ bl bn on cn, Duo w w3 (w.heap.size + 1) w.heap.size (w1.heap.size + 1) bl bn on cn p (ini p) (ini p)) := Lib.hid (by
    obtain ⟨bl, bn, on, cn, F, U, T⟩ := H10.out
    exact ⟨bl, bn, on, cn, F, U, T.same H11.out⟩)
  clear A9 A10 A11 H9 H10 H11
  generalize w1.heap.size + 1 = br at *
  generalize w.heap.size + 1 = bq at *
  generalize w.heap.size = bp at *
  obtain ⟨bl, bn, on, cn, hd⟩ := H12.out
  have H13 := Lib.hid hd
  clear H12 hd
  go_loopw [48] (fun i wr => ∃ j : Nat, j ≤ len ∧ i = .int .i64 (j : Int) ∧ Next w bq bp br bl bn on cn p j wr) (fun i _ => len - (intOf i).toNat)
  case atStart => exact ⟨0, Nat.zero_le _, rfl, ini p, H13.out, good_ini p⟩
  case round =>
    clear H13
    obtain ⟨j, hj, rfl, st, hD, hG⟩ := hrel
    by_cases hlt : j < len
    · obtain ⟨b, o, rfl, hz⟩ := HS.out (by omega)
      obtain ⟨z0, z1, z2, hop⟩ := hz j hlt
      have hc : Cha (fun _ => False) w wr := by obtain ⟨F, U, T⟩ := hD; exact T.c
      have hop := hop.cha hc
      have HR := Lib.hid hop.cells
      have HB := Lib.hid (hD.box #[.int .i64 z0, .int .i64 z1, .int .i64 z2])
      have HG := Lib.hid hG
      have hA : st.2.length + 5 ≤ 17592186044416 := by have := hG.sum; omega
      have HA := Lib.hid hA
      clear hz hop hD hG hc hA
      have C15 : Hid (∀ W, Both w W bq bp br bl bn on cn p wr.heap.size #[.int .i64 z0, .int .i64 z1, .int .i64 z2] st st → Calls Try.prog 15 #[.pointer (some ⟨bq, 0, none⟩), .int .i64 z1, .int .i64 z2] W fun e w' => e = .returned (.int .i64 (putT st z1 z2).1) ∧ Both w w' bq bp br bl bn on cn p wr.heap.size #[.int .i64 z0, .int .i64 z1, .int .i64 z2] (putT st z1 z2).2 st) := Lib.hid fun W h => b15 h z1 z2 HA.out
      have C16 : Hid (∀ W s', Both w W bq bp br bl bn on cn p wr.heap.size #[.int .i64 z0, .int .i64 z1, .int .i64 z2] s' st → Calls Try.prog 16 #[.pointer (some ⟨br, 0, none⟩), .int .i64 z1, .int .i64 z2] W fun e w' => e = .returned (.int .i64 (putT st z1 z2).1) ∧ Both w w' bq bp br bl bn on cn p wr.heap.size #[.int .i64 z0, .int .i64 z1, .int .i64 z2] s' (putT st z1 z2).2) := Lib.hid fun W s' h => b16 h z1 z2 HG.out HA.out
      have C17 : Hid (∀ W, Both w W bq bp br bl bn on cn p wr.heap.size #[.int .i64 z0, .int .i64 z1, .int .i64 z2] st st → Calls Try.prog 17 #[.pointer (some ⟨bq, 0, none⟩), .int .i64 z2] W fun e w' => e = .returned (.int .i64 (lastT st z2).1) ∧ Both w w' bq bp br bl bn on cn p wr.heap.size #[.int .i64 z0, .int .i64 z1, .int .i64 z2] (lastT st z2).2 st) := Lib.hid fun W h => b17 h z2 HA.out
      have C18 : Hid (∀ W s', Both w W bq bp br bl bn on cn p wr.heap.size #[.int .i64 z0, .int .i64 z1, .int .i64 z2] s' st → Calls Try.prog 18 #[.pointer (some ⟨br, 0, none⟩), .int .i64 z2] W fun e w' => e = .returned (.int .i64 (lastT st z2).1) ∧ Both w w' bq bp br bl bn on cn p wr.heap.size #[.int .i64 z0, .int .i64 z1, .int .i64 z2] s' (lastT st z2).2) := Lib.hid fun W s' h => b18 h z2 HA.out
      have C19 : Hid (∀ W, Both w W bq bp br bl bn on cn p wr.heap.size #[.int .i64 z0, .int .i64 z1, .int .i64 z2] st st → Calls Try.prog 19 #[.pointer (some ⟨bq, 0, none⟩), .int .i64 z1, .int .i64 z2] W fun e w' => e = .returned (.tuple #[.int .i64 (getT st z1 z2).1.1, .bool (getT st z1 z2).1.2]) ∧ Both w w' bq bp br bl bn on cn p wr.heap.size #[.int .i64 z0, .int .i64 z1, .int .i64 z2] (getT st z1 z2).2 st) := Lib.hid fun W h => b19 h z1 z2
      have C20 : Hid (∀ W s', Both w W bq bp br bl bn on cn p wr.heap.size #[.int .i64 z0, .int .i64 z1, .int .i64 z2] s' st → Calls Try.prog 20 #[.pointer (some ⟨br, 0, none⟩), .int .i64 z1, .int .i64 z2] W fun e w' => e = .returned (.tuple #[.int .i64 (getT st z1 z2).1.1, .bool (getT st z1 z2).1.2]) ∧ Both w w' bq bp br bl bn on cn p wr.heap.size #[.int .i64 z0, .int .i64 z1, .int .i64 z2] s' (getT st z1 z2).2) := Lib.hid fun W s' h => b20 h z1 z2 HG.out HA.out
      have C21 : Hid (∀ W s' t', Both w W bq bp br bl bn on cn p wr.heap.size #[.int .i64 z0, .int .i64 z1, .int .i64 z2] s' t' → Calls Try.prog 21 #[.pointer (some ⟨bq, 0, none⟩), .int .i64 z1] W fun e w' => e = .returned (.tuple #[.int .i64 (waitT s' z1).1, .int .i64 (waitT s' z1).2]) ∧ Both w w' bq bp br bl bn on cn p wr.heap.size #[.int .i64 z0, .int .i64 z1, .int .i64 z2] s' t') := Lib.hid fun W s' t' h => b21 h z1
      have C22 : Hid (∀ W s' t', Good (j + 1) t'.1 t'.2 → Both w W bq bp br bl bn on cn p wr.heap.size #[.int .i64 z0, .int .i64 z1, .int .i64 z2] s' t' → Calls Try.prog 22 #[.pointer (some ⟨br, 0, none⟩), .int .i64 z1] W fun e w' => e = .returned (.tuple #[.int .i64 (waitT t' z1).1, .int .i64 (waitT t' z1).2]) ∧ Both w w' bq bp br bl bn on cn p wr.heap.size #[.int .i64 z0, .int .i64 z1, .int .i64 z2] s' t') := Lib.hid fun W s' t' hg h => b22 h z1 hg
      have KX : Hid (∀ W s' t', Both w W bq bp br bl bn on cn p wr.heap.size #[.int .i64 z0, .int .i64 z1, .int .i64 z2] s' t' → W.cell? ⟨wr.heap.size, 1, none⟩ = some (.int .i64 z1) ∧ W.cell? ⟨wr.heap.size, 2, none⟩ = some (.int .i64 z2)) := Lib.hid fun W s' t' h => ⟨h.cell 1, h.cell 2⟩
      have G0 : Hid (Good (j + 1) (putT st z1 z2).2.1 (putT st z1 z2).2.2) := Lib.hid (HG.out.putT z1 z2)
      have G1 : Hid (Good (j + 1) (lastT st z2).2.1 (lastT st z2).2.2) := Lib.hid (HG.out.lastT z2)
      have G2 : Hid (Good (j + 1) (getT st z1 z2).2.1 (getT st z1 z2).2.2) := Lib.hid (HG.out.getT z1 z2)
      have G3 : Hid (Good (j + 1) st.1 st.2) := Lib.hid (HG.out.more (by omega))
      generalize (putT st z1 z2) = rp at *
      generalize (lastT st z2) = rl at *
      generalize (getT st z1 z2) = rg at *
      obtain ⟨rp, sp⟩ := rp
      obtain ⟨rl, sl⟩ := rl
      obtain ⟨⟨rg, rb⟩, sg⟩ := rg
      dsimp only at *
      by_cases h0 : z0 = 0
      · subst h0
        clear C17 C18 C19 C20 G1 G2 G3
        go_wp2_with (refine wpList_load_mid rfl 32 (.tmp 50) rfl b (o + j * 3) rfl _ _ HR.out Try.underlying32 rfl (by kernel_rfl) ?_)
        generalize hWb : wr.alloc (.cells #[.int .i64 0, .int .i64 z1, .int .i64 z2] 32) = Wb at *
        have HB2 := Lib.hid (HB.out.same (Cha.refl _ Wb).drew)
        clear hWb HB
        obtain ⟨k1, k2⟩ := KX.out _ _ _ HB2.out
        generalize wr.heap.size = g at *
        go_region_held3 (fun w' => w'.cell? ⟨g, 1, none⟩ = some (.int .i64 z1) ∧ w'.cell? ⟨g, 2, none⟩ = some (.int .i64 z2))
          (first
            | go_keep
            | exact ⟨k1, k2⟩
            | exact KX.out _ _ _ (by assumption))
          (first
            | (go_at_call 15; refine (C15.out Wb.drew HB2.out).mono ?_; rintro e5 w5 ⟨rfl, hH⟩)
            | (go_at_call 16; refine (C16.out w5 _ hH).mono ?_; rintro e6 w6 ⟨rfl, hN⟩))
        all_goals
          have HN := Lib.hid hN
          obtain ⟨k5, k6⟩ := KX.out _ _ _ hN
          clear hN hH
          go_wp2_with (first
            | (go_at_call 21; ((with_reducible refine (C21.out _ _ _ HN.out).mono ?_); rintro e w7 ⟨rfl, h⟩; have H7 := Lib.hid h; have k7 := (KX.out _ _ _ h).1; clear h))
            | (go_at_call 22; ((with_reducible refine (C22.out _ _ _ G0.out H7.out).mono ?_); rintro e w8 ⟨rfl, h⟩; have H8 := Lib.hid h.duo; clear h)))
          go_roundw
          case rel => exact ⟨j + 1, by omega, by go_num, _, H8.out, G0.out⟩
          case measure => simp [intOf]; omega
      · have h01 : (z0 == 0) = false := by simpa using h0
        by_cases h1 : z0 = 1
        · subst h1
          clear C15 C16 C19 C20 G0 G2 G3 h0 h01
          go_wp2_with (refine wpList_load_mid rfl 32 (.tmp 50) rfl b (o + j * 3) rfl _ _ HR.out Try.underlying32 rfl (by kernel_rfl) ?_)
          generalize hWb : wr.alloc (.cells #[.int .i64 1, .int .i64 z1, .int .i64 z2] 32) = Wb at *
          have HB2 := Lib.hid (HB.out.same (Cha.refl _ Wb).drew)
          clear hWb HB
          obtain ⟨k1, k2⟩ := KX.out _ _ _ HB2.out
          generalize wr.heap.size = g at *
          go_region_held3 (fun w' => w'.cell? ⟨g, 1, none⟩ = some (.int .i64 z1) ∧ w'.cell? ⟨g, 2, none⟩ = some (.int .i64 z2))
            (first
              | go_keep
              | exact ⟨k1, k2⟩
              | exact KX.out _ _ _ (by assumption))
            (first
              | (go_at_call 17; refine (C17.out Wb.drew HB2.out).mono ?_; rintro e5 w5 ⟨rfl, hH⟩)
              | (go_at_call 18; refine (C18.out w5 _ hH).mono ?_; rintro e6 w6 ⟨rfl, hN⟩))
          all_goals
            have HN := Lib.hid hN
            obtain ⟨k5, k6⟩ := KX.out _ _ _ hN
            clear hN hH
            go_wp2_with (first
              | (go_at_call 21; ((with_reducible refine (C21.out _ _ _ HN.out).mono ?_); rintro e w7 ⟨rfl, h⟩; have H7 := Lib.hid h; have k7 := (KX.out _ _ _ h).1; clear h))
              | (go_at_call 22; ((with_reducible refine (C22.out _ _ _ G1.out H7.out).mono ?_); rintro e w8 ⟨rfl, h⟩; have H8 := Lib.hid h.duo; clear h)))
            go_roundw
            case rel => exact ⟨j + 1, by omega, by go_num, _, H8.out, G1.out⟩
            case measure => simp [intOf]; omega
        · have h11 : (z0 == 1) = false := by simpa using h1
          have KX2 := Lib.hid (KX.out _ _ _ HB.out)
          by_cases h2 : z0 = 2
          · subst h2
            clear C15 C16 C17 C18 G0 G1 G3 h0 h01 h1 h11
            obtain ⟨k1, k2⟩ := KX2.out
            go_wp2_with (first
              | (refine wpList_load_mid rfl 32 (.tmp 50) rfl b (o + j * 3) rfl _ _ HR.out Try.underlying32 rfl (by kernel_rfl) ?_)
              | (go_at_call 19; ((with_reducible refine (C19.out _ HB.out).mono ?_); rintro e w5 ⟨rfl, h⟩; have H5 := Lib.hid h; obtain ⟨k3, k4⟩ := KX.out _ _ _ h; clear h))
              | (go_at_call 20; ((with_reducible refine (C20.out _ _ H5.out).mono ?_); rintro e w6 ⟨rfl, h⟩; have HN := Lib.hid h; obtain ⟨k5, k6⟩ := KX.out _ _ _ h; clear h))
              | (go_at_call 21; ((with_reducible refine (C21.out _ _ _ HN.out).mono ?_); rintro e w7 ⟨rfl, h⟩; have H7 := Lib.hid h; have k7 := (KX.out _ _ _ h).1; clear h))
              | (go_at_call 22; ((with_reducible refine (C22.out _ _ _ G2.out H7.out).mono ?_); rintro e w8 ⟨rfl, h⟩; have H8 := Lib.hid h.duo; clear h)))
            go_roundw
            case rel => exact ⟨j + 1, by omega, by go_num, _, H8.out, G2.out⟩
            case measure => simp [intOf]; omega
          · have h21 : (z0 == 2) = false := by simpa using h2
            clear C15 C16 C17 C18 C19 C20 G0 G1 G2 h0 h1 h2
            obtain ⟨k1, k2⟩ := KX2.out
            go_wp2_with (first
              | (refine wpList_load_mid rfl 32 (.tmp 50) rfl b (o + j * 3) rfl _ _ HR.out Try.underlying32 rfl (by kernel_rfl) ?_)
              | (go_at_call 21; ((with_reducible refine (C21.out _ _ _ HB.out).mono ?_); rintro e w7 ⟨rfl, h⟩; have H7 := Lib.hid h; have k7 := (KX.out _ _ _ h).1; clear h))
              | (go_at_call 22; ((with_reducible refine (C22.out _ _ _ G3.out H7.out).mono ?_); rintro e w8 ⟨rfl, h⟩; have H8 := Lib.hid h.duo; clear h)))
            go_roundw
            case rel => exact ⟨j + 1, by omega, by go_num, _, H8.out, G3.out⟩
            case measure => simp [intOf]; omega
    · obtain rfl : j = len := by omega
      have HC : Hid (Cha (fun _ => False) w wr) := Lib.hid (by obtain ⟨F, U, T⟩ := hD; exact T.c)
      clear hD hG
      go_wp2
      go_ret
      exact ⟨rfl, HC.out⟩
end Go.Proofs.Yteogepfolifneaa
