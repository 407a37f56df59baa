/- SchedOnce: its walk. -/
import Derived.Test.YtaloafihbdamiaaVD
import Derived.Test.YtaloafihbdamiaaAC
namespace Go.Proofs.Ytaloafihbdamiaa
open Go.ChangeShapes Go.WideShapes Go.ChangeAt Go.RowKit
section
variable {n : Nat} {X : Sx} {p : Nat}
theorem goon_a (X : Sx) (p : Nat) : (X.goon p).2.a = X.a := by unfold Sx.goon; split; rfl; split <;> rfl
/-- What an act says. -/
theorem act_says (w : Wf n X) (hp : p < n) (s : Int) : Wf n (X.act p s).2 ∧ (X.act p s).2.a = X.a ∧
    (((X.act p s).1.1 = 2 ∧ ∃ g : Nat, (X.act p s).1.2 = (g : Int) ∧ g < (X.act p s).2.gs.length ∧ ((X.act p s).2.gs.getD g (0, false)).1 = 1 ∧ (X.act p s).2.on p = (g : Int)) ∨ ((X.act p s).1.1 = 3 ∧ (X.act p s).2.on p = (X.act p s).1.2) ∨ (X.act p s).1.1 = 1 ∨ (X.act p s).1.1 = 4) := by
  have wa := w.act hp s
  by_cases hi : X.on p = -1
  · obtain ⟨A, ac⟩ := acted w hp s hi
    refine ⟨wa, A.a, ?_⟩
    rcases ac with ⟨g, e, h1, h2, h3⟩ | e
    · exact .inl ⟨by rw [e], g, by rw [e], h2, h3, h1⟩
    · exact .inr (.inr (.inl (by rw [e])))
  · have e : X.act p s = (((X.goon p).1, X.on p), (X.goon p).2) := by unfold Sx.act; rw [if_neg hi]
    refine ⟨wa, by rw [e]; exact goon_a X p, ?_⟩
    rw [e]
    show ((X.goon p).1 = 2 ∧ _) ∨ ((X.goon p).1 = 3 ∧ (X.goon p).2.on p = X.on p) ∨ (X.goon p).1 = 1 ∨ (X.goon p).1 = 4
    unfold Sx.goon
    split
    · refine .inr (.inl ⟨rfl, ?_⟩)
      show ((X.pr.set p (X.on p, X.runs p + 1)).getD p (-1, 0)).1 = _
      rw [getD_set _ _ _ _ _ (by rw [w.lpr]; exact hp), if_pos rfl]
    · split
      · exact .inr (.inl ⟨rfl, rfl⟩)
      · exact .inr (.inr (.inr rfl))
end
/-- What a call leaves that answers no matter what. -/
def Leaves (n : Nat) (X : Sx) (w0 : World) (bs : Nat) (e : Ending) (w' : World) : Prop := ∃ v Y, e = .returned v ∧ (Wf n Y ∧ Y.a ≤ X.a + 1) ∧ Sd w0 w' bs Y
section
variable {n : Nat} {X : Sx} {p : Nat} {w0 w : World} {bs : Nat}
theorem once_begin (wf : Wf n X) (hp : p < n) (h : Sd w0 w bs X) : Calls Try.prog 12 #[.pointer (some ⟨bs, 0, none⟩), .int .i64 (p : Int)] w (Leaves n X w0 bs) := by
  by_cases c : X.gs.length = 64
  · exact (sd_full h p (by rw [wf.lpr]; exact hp) c).mono fun e w' ⟨a, b⟩ => ⟨_, X, a, ⟨wf, by omega⟩, b ▸ h⟩
  · have := wf.g64
    exact (sd_begin h p (by rw [wf.lpr]; exact hp) (by rw [wf.lq]; exact hp) (by omega) (by have := wf.qle; omega)).mono fun e w' ⟨a, b⟩ => ⟨_, _, a, ⟨wf.beg hp (by omega), by show X.a ≤ _; omega⟩, b⟩
theorem once_yield (wf : Wf n X) (hp : p < n) (h : Sd w0 w bs X) : Calls Try.prog 16 #[.pointer (some ⟨bs, 0, none⟩), .int .i64 (p : Int)] w (Leaves n X w0 bs) := by
  by_cases c : X.on p = -1
  · exact (sd_yield_idle h p (by rw [wf.lpr]; exact hp) c).mono fun e w' ⟨a, b⟩ => ⟨_, X, a, ⟨wf, by omega⟩, b ▸ h⟩
  · obtain ⟨i, hi, -⟩ := wf.on hp c
    exact (sd_yield h p (by rw [wf.lpr]; exact hp) (by omega) (by have := wf.qle; omega)).mono fun e w' ⟨a, b⟩ => ⟨_, _, a, ⟨wf.yld hp c, by show X.a ≤ _; omega⟩, b⟩
theorem once_block (wf : Wf n X) (hp : p < n) (h : Sd w0 w bs X) : Calls Try.prog 17 #[.pointer (some ⟨bs, 0, none⟩), .int .i64 (p : Int)] w (Leaves n X w0 bs) := by
  by_cases c : X.on p = -1
  · exact (sd_block_idle h p (by rw [wf.lpr]; exact hp) c).mono fun e w' ⟨a, b⟩ => ⟨_, X, a, ⟨wf, by omega⟩, b⟩
  · obtain ⟨i, hi, hl, -⟩ := wf.on hp c
    exact (sd_block h p i (by rw [wf.lpr]; exact hp) hi hl).mono fun e w' ⟨a, b⟩ => ⟨_, _, a, ⟨wf.off hp c (2, false) (by decide) (by decide), by show X.a ≤ _; omega⟩, b⟩
theorem once_end (wf : Wf n X) (hp : p < n) (h : Sd w0 w bs X) : Calls Try.prog 19 #[.pointer (some ⟨bs, 0, none⟩), .int .i64 (p : Int)] w (Leaves n X w0 bs) := by
  by_cases c : X.on p = -1
  · exact (sd_end_idle h p (by rw [wf.lpr]; exact hp) c).mono fun e w' ⟨a, b⟩ => ⟨_, X, a, ⟨wf, by omega⟩, b⟩
  · obtain ⟨i, hi, hl, -⟩ := wf.on hp c
    exact (sd_end h p i (by rw [wf.lpr]; exact hp) hi hl).mono fun e w' ⟨a, b⟩ => ⟨_, _, a, ⟨wf.off hp c (3, false) (by decide) (by decide), by show X.a ≤ _; omega⟩, b⟩
theorem once_sleep (wf : Wf n X) (hp : p < n) (ha : X.a ≤ 300) (t : Int) (h : Sd w0 w bs X) : Calls Try.prog 18 #[.pointer (some ⟨bs, 0, none⟩), .int .i64 (p : Int), .int .u64 t] w (Leaves n X w0 bs) := by
  by_cases c : X.on p = -1
  · exact (sd_sleep_idle h p t (by rw [wf.lpr]; exact hp) c).mono fun e w' ⟨a, b⟩ => ⟨_, X, a, ⟨wf, by omega⟩, b ▸ h⟩
  · obtain ⟨i, hi, hl, -⟩ := wf.on hp c
    exact (sd_sleep h wf.fine p i t (by rw [wf.lpr]; exact hp) hi hl wf.a0 (by omega)).mono fun e w' ⟨a, b⟩ => ⟨_, _, a, ⟨wf.slp hp c t, by show X.a + 1 ≤ _; omega⟩, b⟩
theorem once_ready (wf : Wf n X) (hp : p < n) (g : Int) (h : Sd w0 w bs X) : Calls Try.prog 20 #[.pointer (some ⟨bs, 0, none⟩), .int .i64 (p : Int), .int .i64 g] w (Leaves n X w0 bs) := by
  by_cases c : g < 0 ∨ (X.gs.length : Int) ≤ g
  · exact (sd_ready_not h p g (by rw [wf.lpr]; exact hp) c).mono fun e w' ⟨a, b⟩ => ⟨_, X, a, ⟨wf, by omega⟩, b ▸ h⟩
  · obtain ⟨k, rfl⟩ : ∃ k : Nat, g = (k : Int) := ⟨g.toNat, by omega⟩
    have hk : k < X.gs.length := by omega
    by_cases d : X.gs.getD k (0, false) = (2, false)
    · exact (sd_ready h p k (by rw [wf.lpr]; exact hp) (by rw [wf.lq]; exact hp) hk d (by have := wf.qle; omega)).mono fun e w' ⟨a, b⟩ => ⟨_, _, a, ⟨wf.rdy hp hk d, by show X.a ≤ _; omega⟩, b⟩
    · exact (sd_ready_busy h p k (by rw [wf.lpr]; exact hp) hk d).mono fun e w' ⟨a, b⟩ => ⟨_, X, a, ⟨wf, by omega⟩, b ▸ h⟩
theorem once_tick (wf : Wf n X) (t : Int) (h0 : 0 ≤ t) (h1 : t ≤ 18446744073709551615) (h : Sd w0 w bs X) : Calls Try.prog 21 #[.pointer (some ⟨bs, 0, none⟩), .int .u64 t] w (Leaves n X w0 bs) :=
  (sd_tick h t h0 h1).mono fun e w' ⟨a, b⟩ => ⟨_, _, a, ⟨wf.tick t, by show X.a ≤ _; omega⟩, b⟩
end
set_option maxRecDepth 100000 in
set_option maxHeartbeats 16000000 in
theorem once_walk (a : Option Addr) (n1 c1 np : Nat) (w : World) (hc1 : n1 ≤ c1) (hd1 : c1 ≤ 9223372036854775807) (hs : 0 < n1 → ∃ b o, a = some ⟨b, o, none⟩ ∧ ∀ i, i < n1 → ∃ z0 z1 z2 z3, OpAt4 w b (o + i * 4) z0 z1 z2 z3) :
    Calls Try.prog 3 #[.slice a n1 c1, .int .u8 (np : Int)] w fun e w' => e = .returned (.bool true) ∧ Cha (fun _ => False) w w' := by
  obtain ⟨n, hk⟩ : ∃ n, n = np % 8 + 1 := ⟨_, rfl⟩
  have hn8 : n ≤ 8 := by omega
  have hn1 : 1 ≤ n := by omega
  have e0 : (np : Int) % 8 = ((n - 1 : Nat) : Int) := by omega
  have e1 : IntKind.i64.wrap (((n - 1 : Nat) : Int) + 1) = (n : Int) := by rw [IntWalk.i64_in _ (by omega)]; omega
  obtain ⟨L, hL⟩ : ∃ L, L = min n1 300 := ⟨_, rfl⟩
  have hL1 : L ≤ n1 := by omega
  have hL3 : L ≤ 300 := by omega
  have mm : min (n1 : Int) 300 = (L : Int) := by omega
  have hkc : (L : Int) ≤ (c1 : Int) := by omega
  have HA : Hid (0 < L → ∃ b o, a = some ⟨b, o, none⟩ ∧ ∀ i, i < L → ∃ z0 z1 z2 z3, OpAt4 w b (o + i * 4) z0 z1 z2 z3) := Lib.hid fun hp => by
    obtain ⟨b, o, e, hz⟩ := hs (by omega)
    exact ⟨b, o, e, fun i hi => hz i (by omega)⟩
  have C0 : Hid (Calls Try.prog 10 #[.int .i64 (n : Int)] w fun e w' => ∃ bs, e = .returned (.tuple #[.pointer (some ⟨bs, 0, none⟩), .int .i64 0]) ∧ Sd w w' bs (Sx.ini n)) := Lib.hid (sd_new n (Cha.refl _ w) hn1 hn8)
  have CW : Hid (∀ w1 bs X, Sd w w1 bs X → Calls Try.prog 11 #[] w1 fun e w' => e = .returned (.bool true) ∧ Sd w w' bs X) := Lib.hid fun w1 bs X h => (schawake_any w1).mono fun _ _ ⟨a, c⟩ => ⟨a, h.same c⟩
  have W0 := Lib.hid (wf_ini hn1 hn8)
  have HC : Hid (∀ w1 bs X, Sd w w1 bs X → Cha (fun _ => False) w w1) := Lib.hid fun _ _ _ h => h.cha
  have RO := Lib.hid fun s => rest_of s n hn1 hn8
  have CAll := Lib.hid fun w1 bs X (wf : Wf n X) (h : Sd w w1 bs X) => all_walk n X w w1 bs hn8 wf h
  clear hk hL hs hL1
  go_enter Try.func3, Try.ntmps3
  go_wp2_with (first
    | (go_at_call 10; ((with_reducible refine (C0.out).mono ?_); rintro e w1 ⟨bs, rfl, hS⟩; have S1 := Lib.hid hS; clear hS))
    | (go_at_call 11; ((with_reducible refine (CW.out _ _ _ S1.out).mono ?_); rintro e w2 ⟨rfl, hS⟩; have S2 := Lib.hid hS; clear hS)))
  clear C0 CW S1
  first | rw [e0] | skip
  clear e0
  have CU : Hid (∀ w1 X (p : Nat), p < n → Wf n X → Sd w w1 bs X → Calls Try.prog 15 #[.pointer (some ⟨bs, 0, none⟩), .int .i64 (p : Int)] w1 fun e w' => e = .returned (.int .i64 (X.on p)) ∧ w1 = w') := Lib.hid fun w1 X p hp wf h => sd_current h p (by rw [wf.lpr]; exact hp)
  go_loopw [9, 10, 11, 12, 13, 14, 15, 16, 42, 140, 144] (fun _ _ _ _ _ _ _ _ iv _ _ wr => ∃ j : Nat, j ≤ L ∧ iv = .int .i64 (j : Int) ∧ ∃ X, Wf n X ∧ X.a ≤ (j : Int) ∧ Sd w wr bs X) (fun _ _ _ _ _ _ _ _ iv _ _ _ => L - (intOf iv).toNat)
  case atStart => exact ⟨0, Nat.zero_le _, rfl, _, W0.out, Int.le_refl _, S2.out⟩
  case round =>
    clear S2 W0
    obtain ⟨j, hj, rfl, X, hw, ha, hS⟩ := hrel
    by_cases hlt : j < L
    · obtain ⟨b, o, rfl, hz⟩ := HA.out (by omega)
      obtain ⟨z0, z1, z2, z3, hop⟩ := hz j hlt
      have hop := hop.cha (HC.out _ _ _ hS)
      have HR := Lib.hid hop.cells
      have y3 := hop.l3
      have y4 := hop.h3
      have ha1 : X.a ≤ 300 := by omega
      obtain ⟨r, hr⟩ : ∃ r, z1.tmod (n : Int) = r := ⟨_, rfl⟩
      obtain ⟨hr1, hr2, e3⟩ := RO.out z1
      rw [hr] at hr1 hr2 e3
      obtain ⟨f, hf⟩ : ∃ f, f = (z1 % (n : Int)).toNat := ⟨_, rfl⟩
      rw [← hf] at e3
      have hfn : f < n := by
        have := Int.emod_lt_of_pos z1 (show (0 : Int) < n by omega)
        have := Int.emod_nonneg z1 (show (n : Int) ≠ 0 by omega)
        omega
      have e4 : (r + (n : Int)).tmod (n : Int) = (f : Int) := by rw [Int.tmod_eq_emod_of_nonneg (by omega)]; exact e3
      have ew : IntKind.i64.wrap (r + (n : Int)) = r + (n : Int) := IntWalk.i64_in _ (by omega)
      have k5 : (0 : Int) < (n : Int) := by omega
      have hS1 := hS.same ((Cha.refl (fun _ => False) wr).alloc (.cells #[.int .i64 z0, .int .i64 z1, .int .i64 z2, .int .u64 z3] 30))
      have x0 : wr.cell? ⟨b, o + j * 4, none⟩ = some (.int .i64 z0) := HR.out 0 _ rfl
      have x1 : wr.cell? ⟨b, o + j * 4 + 1, none⟩ = some (.int .i64 z1) := HR.out 1 _ rfl
      have x2 : wr.cell? ⟨b, o + j * 4 + 2, none⟩ = some (.int .i64 z2) := HR.out 2 _ rfl
      have x3 : wr.cell? ⟨b, o + j * 4 + 3, none⟩ = some (.int .u64 z3) := HR.out 3 _ rfl
      have u1 : 0 ≤ z3 % 50 := Int.emod_nonneg _ (by decide)
      have u3 : 0 ≤ z3 % 20 := Int.emod_nonneg _ (by decide)
      have u4 : z3 % 20 ≤ 18446744073709551615 := by have := Int.emod_lt_of_pos z3 (show (0 : Int) < 20 by decide); omega
      have kj : (j : Int) < (L : Int) := by omega
      have kj0 : (0 : Int) ≤ (j : Int) := by omega
      have M1 := Lib.hid ha
      have HS1 := Lib.hid hS1
      have HW := Lib.hid hw
      have CB := Lib.hid (once_begin hw hfn hS1)
      have CY := Lib.hid (once_yield hw hfn hS1)
      have CBl := Lib.hid (once_block hw hfn hS1)
      have CEn := Lib.hid (once_end hw hfn hS1)
      have CSl := Lib.hid (once_sleep hw hfn ha1 (z3 % 50) hS1)
      have CRe := Lib.hid (once_ready hw hfn z2 hS1)
      have CTi := Lib.hid (once_tick hw (z3 % 20) u3 u4 hS1)
      have CAc := Lib.hid (sd_act hS1 hw.fine f z2 (by rw [hw.lpr]; exact hfn) (by
        by_cases c : X.on f = -1
        · exact .inl c
        · obtain ⟨i, hi, -⟩ := hw.on hfn c
          exact .inr (by omega)) (hw.rn f))
      have hsay := act_says hw hfn z2
      clear hz hop hS hS1 hw ha hf HR u1 u3 u4 ha1
      have hk0 : z0 = 0 ∨ z0 = 1 ∨ z0 = 2 ∨ z0 = 3 ∨ z0 = 4 ∨ z0 = 5 ∨ z0 = 6 ∨ z0 = 7 ∨ ((z0 == 0) = false ∧ (z0 == 1) = false ∧ (z0 == 2) = false ∧ (z0 == 3) = false ∧ (z0 == 4) = false ∧ (z0 == 5) = false ∧ (z0 == 6) = false ∧ (z0 == 7) = false) := by
        simp only [beq_eq_false_iff_ne, ne_eq]
        omega
      rcases hk0 with hk0 | hk0 | hk0 | hk0 | hk0 | hk0 | hk0 | hk0 | hk0
      · subst hk0
        clear hsay
        go_wp2_with (go_at_call 12; ((with_reducible refine (CB.out).mono ?_); rintro e w3 ⟨v, Y, rfl, hY, hSY⟩; have HY := Lib.hid (show Wf n Y ∧ Y.a ≤ (j : Int) + 1 from ⟨hY.1, by have := hY.2; have := M1.out; omega⟩); have SY := Lib.hid hSY; clear hY hSY))
        have PY := Lib.hid (show (Wf n Y ∧ Y.a ≤ (j : Int) + 1) ∧ Sd w w3 bs Y from ⟨HY.out, SY.out⟩)
        have CD := Lib.hid fun v (hv : v < n) => CU.out w3 Y v hv PY.out.1.1 PY.out.2
        have NE := Lib.hid fun u v (hu : u < n) (hv : v < n) (hne : u ≠ v) (hn : Y.on u ≠ -1) => PY.out.1.1.apart hu hv hne hn
        go_loopw [14, 15, 16, 140, 144] (fun _ _ _ av _ W => ∃ u : Nat, u ≤ n ∧ av = .int .i64 (u : Int) ∧ W = w3) (fun _ _ _ av _ _ => n - (intOf av).toNat)
        case atStart => exact ⟨0, Nat.zero_le _, rfl, rfl⟩
        case round =>
          obtain ⟨u, hu, rfl, rfl⟩ := hrel
          by_cases hlu : u < n
          · have D1 := Lib.hid (CD.out u hlu)
            have k1 : (u : Int) < (n : Int) := by omega
            have k2 : (0 : Int) ≤ (u : Int) := by omega
            have NU := Lib.hid fun v => NE.out u v hlu
            generalize Y.on u = zu at *
            go_wp2
            go_loopw [15, 16, 144] (fun _ _ bv W => ∃ v : Nat, v ≤ u ∧ bv = .int .i64 (v : Int) ∧ W = wr) (fun _ _ bv _ => u - (intOf bv).toNat)
            case atStart => exact ⟨0, Nat.zero_le _, rfl, by first | rfl | exact trivial⟩
            case round =>
              obtain ⟨v, hv, rfl, rfl⟩ := hrel
              by_cases hlv : v < u
              · have D2 := Lib.hid (CD.out v (by omega))
                have k3 : (v : Int) < (u : Int) := by omega
                have hne := NU.out v (by omega) (by omega)
                generalize Y.on v = zv at *
                by_cases hz : 0 ≤ zu
                · have k4 : (zu == zv) = false := by simpa using hne (by omega)
                  go_wp2_with (first
                    | (go_at_call 15; ((with_reducible refine (D1.out).mono ?_); rintro e w8 ⟨rfl, rfl⟩))
                    | (go_at_call 15; ((with_reducible refine (D2.out).mono ?_); rintro e w8 ⟨rfl, rfl⟩)))
                  go_roundw
                  case rel => exact ⟨v + 1, by omega, by go_num, by first | rfl | exact trivial⟩
                  case measure => simp [intOf]; omega
                · have k4 : decide (0 ≤ zu) = false := by simpa using hz
                  go_wp2_with (first
                    | (go_at_call 15; ((with_reducible refine (D1.out).mono ?_); rintro e w8 ⟨rfl, rfl⟩))
                    | (go_at_call 15; ((with_reducible refine (D2.out).mono ?_); rintro e w8 ⟨rfl, rfl⟩)))
                  go_roundw
                  case rel => exact ⟨v + 1, by omega, by go_num, by first | rfl | exact trivial⟩
                  case measure => simp [intOf]; omega
              · go_wp2
                go_roundw
                case rel => exact ⟨u + 1, by omega, by go_num, by first | rfl | exact trivial⟩
                case measure => simp [intOf]; omega
          · go_wp2
            go_roundw
            case rel => exact ⟨j + 1, by omega, by go_num, Y, PY.out.1.1, by have := PY.out.1.2; push_cast; exact this, PY.out.2⟩
            case measure => simp [intOf]; omega
      · subst hk0
        obtain ⟨q1, q2, q3⟩ := hsay
        have HY := Lib.hid (show Wf n (X.act f z2).2 ∧ (X.act f z2).2.a ≤ (j : Int) + 1 from ⟨q1, by have := M1.out; omega⟩)
        have CF := Lib.hid fun w1 (h : Sd w w1 bs (X.act f z2).2) => CU.out w1 _ f hfn q1 h
        rcases q3 with ⟨q3, g, q4, q5, q6, q7⟩ | ⟨q3, q4⟩ | q3 | q3
        · have CG := Lib.hid fun w1 (h : Sd w w1 bs (X.act f z2).2) => sd_state h g q5
          rw [q6] at CG
          rw [q3, q4] at CAc
          rw [q7] at CF
          clear q1 q2 q3 q4 q5 q6 q7
          generalize (X.act f z2).2 = Y at *
          go_wp2_with (first
            | (go_at_call 13; ((with_reducible refine (CAc.out).mono ?_); rintro e w3 ⟨rfl, hSY⟩; have SY := Lib.hid hSY; clear hSY))
            | (go_at_call 14; ((with_reducible refine (CG.out _ SY.out).mono ?_); rintro e w8 ⟨rfl, rfl⟩))
            | (go_at_call 15; ((with_reducible refine (CF.out _ SY.out).mono ?_); rintro e w8 ⟨rfl, rfl⟩)))
          have PY := Lib.hid (show (Wf n Y ∧ Y.a ≤ (j : Int) + 1) ∧ Sd w w3 bs Y from ⟨HY.out, SY.out⟩)
          have CD := Lib.hid fun v (hv : v < n) => CU.out w3 Y v hv PY.out.1.1 PY.out.2
          have NE := Lib.hid fun u v (hu : u < n) (hv : v < n) (hne : u ≠ v) (hn : Y.on u ≠ -1) => PY.out.1.1.apart hu hv hne hn
          go_loopw [14, 15, 16, 140, 144] (fun _ _ _ av _ W => ∃ u : Nat, u ≤ n ∧ av = .int .i64 (u : Int) ∧ W = w3) (fun _ _ _ av _ _ => n - (intOf av).toNat)
          case atStart => exact ⟨0, Nat.zero_le _, rfl, rfl⟩
          case round =>
            obtain ⟨u, hu, rfl, rfl⟩ := hrel
            by_cases hlu : u < n
            · have D1 := Lib.hid (CD.out u hlu)
              have k1 : (u : Int) < (n : Int) := by omega
              have k2 : (0 : Int) ≤ (u : Int) := by omega
              have NU := Lib.hid fun v => NE.out u v hlu
              generalize Y.on u = zu at *
              go_wp2
              go_loopw [15, 16, 144] (fun _ _ bv W => ∃ v : Nat, v ≤ u ∧ bv = .int .i64 (v : Int) ∧ W = wr) (fun _ _ bv _ => u - (intOf bv).toNat)
              case atStart => exact ⟨0, Nat.zero_le _, rfl, by first | rfl | exact trivial⟩
              case round =>
                obtain ⟨v, hv, rfl, rfl⟩ := hrel
                by_cases hlv : v < u
                · have D2 := Lib.hid (CD.out v (by omega))
                  have k3 : (v : Int) < (u : Int) := by omega
                  have hne := NU.out v (by omega) (by omega)
                  generalize Y.on v = zv at *
                  by_cases hz : 0 ≤ zu
                  · have k4 : (zu == zv) = false := by simpa using hne (by omega)
                    go_wp2_with (first
                      | (go_at_call 15; ((with_reducible refine (D1.out).mono ?_); rintro e w8 ⟨rfl, rfl⟩))
                      | (go_at_call 15; ((with_reducible refine (D2.out).mono ?_); rintro e w8 ⟨rfl, rfl⟩)))
                    go_roundw
                    case rel => exact ⟨v + 1, by omega, by go_num, by first | rfl | exact trivial⟩
                    case measure => simp [intOf]; omega
                  · have k4 : decide (0 ≤ zu) = false := by simpa using hz
                    go_wp2_with (first
                      | (go_at_call 15; ((with_reducible refine (D1.out).mono ?_); rintro e w8 ⟨rfl, rfl⟩))
                      | (go_at_call 15; ((with_reducible refine (D2.out).mono ?_); rintro e w8 ⟨rfl, rfl⟩)))
                    go_roundw
                    case rel => exact ⟨v + 1, by omega, by go_num, by first | rfl | exact trivial⟩
                    case measure => simp [intOf]; omega
                · go_wp2
                  go_roundw
                  case rel => exact ⟨u + 1, by omega, by go_num, by first | rfl | exact trivial⟩
                  case measure => simp [intOf]; omega
            · go_wp2
              go_roundw
              case rel => exact ⟨j + 1, by omega, by go_num, Y, PY.out.1.1, by have := PY.out.1.2; push_cast; exact this, PY.out.2⟩
              case measure => simp [intOf]; omega
        · rw [q3] at CAc
          rw [q4] at CF
          clear q1 q2 q3 q4
          generalize (X.act f z2).1.2 = g at *
          generalize (X.act f z2).2 = Y at *
          go_wp2_with (first
            | (go_at_call 13; ((with_reducible refine (CAc.out).mono ?_); rintro e w3 ⟨rfl, hSY⟩; have SY := Lib.hid hSY; clear hSY))
            | (go_at_call 15; ((with_reducible refine (CF.out _ SY.out).mono ?_); rintro e w8 ⟨rfl, rfl⟩)))
          have PY := Lib.hid (show (Wf n Y ∧ Y.a ≤ (j : Int) + 1) ∧ Sd w w3 bs Y from ⟨HY.out, SY.out⟩)
          have CD := Lib.hid fun v (hv : v < n) => CU.out w3 Y v hv PY.out.1.1 PY.out.2
          have NE := Lib.hid fun u v (hu : u < n) (hv : v < n) (hne : u ≠ v) (hn : Y.on u ≠ -1) => PY.out.1.1.apart hu hv hne hn
          go_loopw [14, 15, 16, 140, 144] (fun _ _ _ av _ W => ∃ u : Nat, u ≤ n ∧ av = .int .i64 (u : Int) ∧ W = w3) (fun _ _ _ av _ _ => n - (intOf av).toNat)
          case atStart => exact ⟨0, Nat.zero_le _, rfl, rfl⟩
          case round =>
            obtain ⟨u, hu, rfl, rfl⟩ := hrel
            by_cases hlu : u < n
            · have D1 := Lib.hid (CD.out u hlu)
              have k1 : (u : Int) < (n : Int) := by omega
              have k2 : (0 : Int) ≤ (u : Int) := by omega
              have NU := Lib.hid fun v => NE.out u v hlu
              generalize Y.on u = zu at *
              go_wp2
              go_loopw [15, 16, 144] (fun _ _ bv W => ∃ v : Nat, v ≤ u ∧ bv = .int .i64 (v : Int) ∧ W = wr) (fun _ _ bv _ => u - (intOf bv).toNat)
              case atStart => exact ⟨0, Nat.zero_le _, rfl, by first | rfl | exact trivial⟩
              case round =>
                obtain ⟨v, hv, rfl, rfl⟩ := hrel
                by_cases hlv : v < u
                · have D2 := Lib.hid (CD.out v (by omega))
                  have k3 : (v : Int) < (u : Int) := by omega
                  have hne := NU.out v (by omega) (by omega)
                  generalize Y.on v = zv at *
                  by_cases hz : 0 ≤ zu
                  · have k4 : (zu == zv) = false := by simpa using hne (by omega)
                    go_wp2_with (first
                      | (go_at_call 15; ((with_reducible refine (D1.out).mono ?_); rintro e w8 ⟨rfl, rfl⟩))
                      | (go_at_call 15; ((with_reducible refine (D2.out).mono ?_); rintro e w8 ⟨rfl, rfl⟩)))
                    go_roundw
                    case rel => exact ⟨v + 1, by omega, by go_num, by first | rfl | exact trivial⟩
                    case measure => simp [intOf]; omega
                  · have k4 : decide (0 ≤ zu) = false := by simpa using hz
                    go_wp2_with (first
                      | (go_at_call 15; ((with_reducible refine (D1.out).mono ?_); rintro e w8 ⟨rfl, rfl⟩))
                      | (go_at_call 15; ((with_reducible refine (D2.out).mono ?_); rintro e w8 ⟨rfl, rfl⟩)))
                    go_roundw
                    case rel => exact ⟨v + 1, by omega, by go_num, by first | rfl | exact trivial⟩
                    case measure => simp [intOf]; omega
                · go_wp2
                  go_roundw
                  case rel => exact ⟨u + 1, by omega, by go_num, by first | rfl | exact trivial⟩
                  case measure => simp [intOf]; omega
            · go_wp2
              go_roundw
              case rel => exact ⟨j + 1, by omega, by go_num, Y, PY.out.1.1, by have := PY.out.1.2; push_cast; exact this, PY.out.2⟩
              case measure => simp [intOf]; omega
        · rw [q3] at CAc
          clear q1 q2 q3
          generalize (X.act f z2).1.2 = g at *
          generalize (X.act f z2).2 = Y at *
          go_wp2_with (go_at_call 13; ((with_reducible refine (CAc.out).mono ?_); rintro e w3 ⟨rfl, hSY⟩; have SY := Lib.hid hSY; clear hSY))
          have PY := Lib.hid (show (Wf n Y ∧ Y.a ≤ (j : Int) + 1) ∧ Sd w w3 bs Y from ⟨HY.out, SY.out⟩)
          have CD := Lib.hid fun v (hv : v < n) => CU.out w3 Y v hv PY.out.1.1 PY.out.2
          have NE := Lib.hid fun u v (hu : u < n) (hv : v < n) (hne : u ≠ v) (hn : Y.on u ≠ -1) => PY.out.1.1.apart hu hv hne hn
          go_loopw [14, 15, 16, 140, 144] (fun _ _ _ av _ W => ∃ u : Nat, u ≤ n ∧ av = .int .i64 (u : Int) ∧ W = w3) (fun _ _ _ av _ _ => n - (intOf av).toNat)
          case atStart => exact ⟨0, Nat.zero_le _, rfl, rfl⟩
          case round =>
            obtain ⟨u, hu, rfl, rfl⟩ := hrel
            by_cases hlu : u < n
            · have D1 := Lib.hid (CD.out u hlu)
              have k1 : (u : Int) < (n : Int) := by omega
              have k2 : (0 : Int) ≤ (u : Int) := by omega
              have NU := Lib.hid fun v => NE.out u v hlu
              generalize Y.on u = zu at *
              go_wp2
              go_loopw [15, 16, 144] (fun _ _ bv W => ∃ v : Nat, v ≤ u ∧ bv = .int .i64 (v : Int) ∧ W = wr) (fun _ _ bv _ => u - (intOf bv).toNat)
              case atStart => exact ⟨0, Nat.zero_le _, rfl, by first | rfl | exact trivial⟩
              case round =>
                obtain ⟨v, hv, rfl, rfl⟩ := hrel
                by_cases hlv : v < u
                · have D2 := Lib.hid (CD.out v (by omega))
                  have k3 : (v : Int) < (u : Int) := by omega
                  have hne := NU.out v (by omega) (by omega)
                  generalize Y.on v = zv at *
                  by_cases hz : 0 ≤ zu
                  · have k4 : (zu == zv) = false := by simpa using hne (by omega)
                    go_wp2_with (first
                      | (go_at_call 15; ((with_reducible refine (D1.out).mono ?_); rintro e w8 ⟨rfl, rfl⟩))
                      | (go_at_call 15; ((with_reducible refine (D2.out).mono ?_); rintro e w8 ⟨rfl, rfl⟩)))
                    go_roundw
                    case rel => exact ⟨v + 1, by omega, by go_num, by first | rfl | exact trivial⟩
                    case measure => simp [intOf]; omega
                  · have k4 : decide (0 ≤ zu) = false := by simpa using hz
                    go_wp2_with (first
                      | (go_at_call 15; ((with_reducible refine (D1.out).mono ?_); rintro e w8 ⟨rfl, rfl⟩))
                      | (go_at_call 15; ((with_reducible refine (D2.out).mono ?_); rintro e w8 ⟨rfl, rfl⟩)))
                    go_roundw
                    case rel => exact ⟨v + 1, by omega, by go_num, by first | rfl | exact trivial⟩
                    case measure => simp [intOf]; omega
                · go_wp2
                  go_roundw
                  case rel => exact ⟨u + 1, by omega, by go_num, by first | rfl | exact trivial⟩
                  case measure => simp [intOf]; omega
            · go_wp2
              go_roundw
              case rel => exact ⟨j + 1, by omega, by go_num, Y, PY.out.1.1, by have := PY.out.1.2; push_cast; exact this, PY.out.2⟩
              case measure => simp [intOf]; omega
        · rw [q3] at CAc
          clear q1 q2 q3
          generalize (X.act f z2).1.2 = g at *
          generalize (X.act f z2).2 = Y at *
          go_wp2_with (go_at_call 13; ((with_reducible refine (CAc.out).mono ?_); rintro e w3 ⟨rfl, hSY⟩; have SY := Lib.hid hSY; clear hSY))
          have PY := Lib.hid (show (Wf n Y ∧ Y.a ≤ (j : Int) + 1) ∧ Sd w w3 bs Y from ⟨HY.out, SY.out⟩)
          have CD := Lib.hid fun v (hv : v < n) => CU.out w3 Y v hv PY.out.1.1 PY.out.2
          have NE := Lib.hid fun u v (hu : u < n) (hv : v < n) (hne : u ≠ v) (hn : Y.on u ≠ -1) => PY.out.1.1.apart hu hv hne hn
          go_loopw [14, 15, 16, 140, 144] (fun _ _ _ av _ W => ∃ u : Nat, u ≤ n ∧ av = .int .i64 (u : Int) ∧ W = w3) (fun _ _ _ av _ _ => n - (intOf av).toNat)
          case atStart => exact ⟨0, Nat.zero_le _, rfl, rfl⟩
          case round =>
            obtain ⟨u, hu, rfl, rfl⟩ := hrel
            by_cases hlu : u < n
            · have D1 := Lib.hid (CD.out u hlu)
              have k1 : (u : Int) < (n : Int) := by omega
              have k2 : (0 : Int) ≤ (u : Int) := by omega
              have NU := Lib.hid fun v => NE.out u v hlu
              generalize Y.on u = zu at *
              go_wp2
              go_loopw [15, 16, 144] (fun _ _ bv W => ∃ v : Nat, v ≤ u ∧ bv = .int .i64 (v : Int) ∧ W = wr) (fun _ _ bv _ => u - (intOf bv).toNat)
              case atStart => exact ⟨0, Nat.zero_le _, rfl, by first | rfl | exact trivial⟩
              case round =>
                obtain ⟨v, hv, rfl, rfl⟩ := hrel
                by_cases hlv : v < u
                · have D2 := Lib.hid (CD.out v (by omega))
                  have k3 : (v : Int) < (u : Int) := by omega
                  have hne := NU.out v (by omega) (by omega)
                  generalize Y.on v = zv at *
                  by_cases hz : 0 ≤ zu
                  · have k4 : (zu == zv) = false := by simpa using hne (by omega)
                    go_wp2_with (first
                      | (go_at_call 15; ((with_reducible refine (D1.out).mono ?_); rintro e w8 ⟨rfl, rfl⟩))
                      | (go_at_call 15; ((with_reducible refine (D2.out).mono ?_); rintro e w8 ⟨rfl, rfl⟩)))
                    go_roundw
                    case rel => exact ⟨v + 1, by omega, by go_num, by first | rfl | exact trivial⟩
                    case measure => simp [intOf]; omega
                  · have k4 : decide (0 ≤ zu) = false := by simpa using hz
                    go_wp2_with (first
                      | (go_at_call 15; ((with_reducible refine (D1.out).mono ?_); rintro e w8 ⟨rfl, rfl⟩))
                      | (go_at_call 15; ((with_reducible refine (D2.out).mono ?_); rintro e w8 ⟨rfl, rfl⟩)))
                    go_roundw
                    case rel => exact ⟨v + 1, by omega, by go_num, by first | rfl | exact trivial⟩
                    case measure => simp [intOf]; omega
                · go_wp2
                  go_roundw
                  case rel => exact ⟨u + 1, by omega, by go_num, by first | rfl | exact trivial⟩
                  case measure => simp [intOf]; omega
            · go_wp2
              go_roundw
              case rel => exact ⟨j + 1, by omega, by go_num, Y, PY.out.1.1, by have := PY.out.1.2; push_cast; exact this, PY.out.2⟩
              case measure => simp [intOf]; omega
      · subst hk0
        clear hsay
        go_wp2_with (go_at_call 16; ((with_reducible refine (CY.out).mono ?_); rintro e w3 ⟨v, Y, rfl, hY, hSY⟩; have HY := Lib.hid (show Wf n Y ∧ Y.a ≤ (j : Int) + 1 from ⟨hY.1, by have := hY.2; have := M1.out; omega⟩); have SY := Lib.hid hSY; clear hY hSY))
        have PY := Lib.hid (show (Wf n Y ∧ Y.a ≤ (j : Int) + 1) ∧ Sd w w3 bs Y from ⟨HY.out, SY.out⟩)
        have CD := Lib.hid fun v (hv : v < n) => CU.out w3 Y v hv PY.out.1.1 PY.out.2
        have NE := Lib.hid fun u v (hu : u < n) (hv : v < n) (hne : u ≠ v) (hn : Y.on u ≠ -1) => PY.out.1.1.apart hu hv hne hn
        go_loopw [14, 15, 16, 140, 144] (fun _ _ _ av _ W => ∃ u : Nat, u ≤ n ∧ av = .int .i64 (u : Int) ∧ W = w3) (fun _ _ _ av _ _ => n - (intOf av).toNat)
        case atStart => exact ⟨0, Nat.zero_le _, rfl, rfl⟩
        case round =>
          obtain ⟨u, hu, rfl, rfl⟩ := hrel
          by_cases hlu : u < n
          · have D1 := Lib.hid (CD.out u hlu)
            have k1 : (u : Int) < (n : Int) := by omega
            have k2 : (0 : Int) ≤ (u : Int) := by omega
            have NU := Lib.hid fun v => NE.out u v hlu
            generalize Y.on u = zu at *
            go_wp2
            go_loopw [15, 16, 144] (fun _ _ bv W => ∃ v : Nat, v ≤ u ∧ bv = .int .i64 (v : Int) ∧ W = wr) (fun _ _ bv _ => u - (intOf bv).toNat)
            case atStart => exact ⟨0, Nat.zero_le _, rfl, by first | rfl | exact trivial⟩
            case round =>
              obtain ⟨v, hv, rfl, rfl⟩ := hrel
              by_cases hlv : v < u
              · have D2 := Lib.hid (CD.out v (by omega))
                have k3 : (v : Int) < (u : Int) := by omega
                have hne := NU.out v (by omega) (by omega)
                generalize Y.on v = zv at *
                by_cases hz : 0 ≤ zu
                · have k4 : (zu == zv) = false := by simpa using hne (by omega)
                  go_wp2_with (first
                    | (go_at_call 15; ((with_reducible refine (D1.out).mono ?_); rintro e w8 ⟨rfl, rfl⟩))
                    | (go_at_call 15; ((with_reducible refine (D2.out).mono ?_); rintro e w8 ⟨rfl, rfl⟩)))
                  go_roundw
                  case rel => exact ⟨v + 1, by omega, by go_num, by first | rfl | exact trivial⟩
                  case measure => simp [intOf]; omega
                · have k4 : decide (0 ≤ zu) = false := by simpa using hz
                  go_wp2_with (first
                    | (go_at_call 15; ((with_reducible refine (D1.out).mono ?_); rintro e w8 ⟨rfl, rfl⟩))
                    | (go_at_call 15; ((with_reducible refine (D2.out).mono ?_); rintro e w8 ⟨rfl, rfl⟩)))
                  go_roundw
                  case rel => exact ⟨v + 1, by omega, by go_num, by first | rfl | exact trivial⟩
                  case measure => simp [intOf]; omega
              · go_wp2
                go_roundw
                case rel => exact ⟨u + 1, by omega, by go_num, by first | rfl | exact trivial⟩
                case measure => simp [intOf]; omega
          · go_wp2
            go_roundw
            case rel => exact ⟨j + 1, by omega, by go_num, Y, PY.out.1.1, by have := PY.out.1.2; push_cast; exact this, PY.out.2⟩
            case measure => simp [intOf]; omega
      · subst hk0
        clear hsay
        go_wp2_with (go_at_call 17; ((with_reducible refine (CBl.out).mono ?_); rintro e w3 ⟨v, Y, rfl, hY, hSY⟩; have HY := Lib.hid (show Wf n Y ∧ Y.a ≤ (j : Int) + 1 from ⟨hY.1, by have := hY.2; have := M1.out; omega⟩); have SY := Lib.hid hSY; clear hY hSY))
        have PY := Lib.hid (show (Wf n Y ∧ Y.a ≤ (j : Int) + 1) ∧ Sd w w3 bs Y from ⟨HY.out, SY.out⟩)
        have CD := Lib.hid fun v (hv : v < n) => CU.out w3 Y v hv PY.out.1.1 PY.out.2
        have NE := Lib.hid fun u v (hu : u < n) (hv : v < n) (hne : u ≠ v) (hn : Y.on u ≠ -1) => PY.out.1.1.apart hu hv hne hn
        go_loopw [14, 15, 16, 140, 144] (fun _ _ _ av _ W => ∃ u : Nat, u ≤ n ∧ av = .int .i64 (u : Int) ∧ W = w3) (fun _ _ _ av _ _ => n - (intOf av).toNat)
        case atStart => exact ⟨0, Nat.zero_le _, rfl, rfl⟩
        case round =>
          obtain ⟨u, hu, rfl, rfl⟩ := hrel
          by_cases hlu : u < n
          · have D1 := Lib.hid (CD.out u hlu)
            have k1 : (u : Int) < (n : Int) := by omega
            have k2 : (0 : Int) ≤ (u : Int) := by omega
            have NU := Lib.hid fun v => NE.out u v hlu
            generalize Y.on u = zu at *
            go_wp2
            go_loopw [15, 16, 144] (fun _ _ bv W => ∃ v : Nat, v ≤ u ∧ bv = .int .i64 (v : Int) ∧ W = wr) (fun _ _ bv _ => u - (intOf bv).toNat)
            case atStart => exact ⟨0, Nat.zero_le _, rfl, by first | rfl | exact trivial⟩
            case round =>
              obtain ⟨v, hv, rfl, rfl⟩ := hrel
              by_cases hlv : v < u
              · have D2 := Lib.hid (CD.out v (by omega))
                have k3 : (v : Int) < (u : Int) := by omega
                have hne := NU.out v (by omega) (by omega)
                generalize Y.on v = zv at *
                by_cases hz : 0 ≤ zu
                · have k4 : (zu == zv) = false := by simpa using hne (by omega)
                  go_wp2_with (first
                    | (go_at_call 15; ((with_reducible refine (D1.out).mono ?_); rintro e w8 ⟨rfl, rfl⟩))
                    | (go_at_call 15; ((with_reducible refine (D2.out).mono ?_); rintro e w8 ⟨rfl, rfl⟩)))
                  go_roundw
                  case rel => exact ⟨v + 1, by omega, by go_num, by first | rfl | exact trivial⟩
                  case measure => simp [intOf]; omega
                · have k4 : decide (0 ≤ zu) = false := by simpa using hz
                  go_wp2_with (first
                    | (go_at_call 15; ((with_reducible refine (D1.out).mono ?_); rintro e w8 ⟨rfl, rfl⟩))
                    | (go_at_call 15; ((with_reducible refine (D2.out).mono ?_); rintro e w8 ⟨rfl, rfl⟩)))
                  go_roundw
                  case rel => exact ⟨v + 1, by omega, by go_num, by first | rfl | exact trivial⟩
                  case measure => simp [intOf]; omega
              · go_wp2
                go_roundw
                case rel => exact ⟨u + 1, by omega, by go_num, by first | rfl | exact trivial⟩
                case measure => simp [intOf]; omega
          · go_wp2
            go_roundw
            case rel => exact ⟨j + 1, by omega, by go_num, Y, PY.out.1.1, by have := PY.out.1.2; push_cast; exact this, PY.out.2⟩
            case measure => simp [intOf]; omega
      · subst hk0
        clear hsay
        go_wp2_with (go_at_call 18; ((with_reducible refine (CSl.out).mono ?_); rintro e w3 ⟨v, Y, rfl, hY, hSY⟩; have HY := Lib.hid (show Wf n Y ∧ Y.a ≤ (j : Int) + 1 from ⟨hY.1, by have := hY.2; have := M1.out; omega⟩); have SY := Lib.hid hSY; clear hY hSY))
        have PY := Lib.hid (show (Wf n Y ∧ Y.a ≤ (j : Int) + 1) ∧ Sd w w3 bs Y from ⟨HY.out, SY.out⟩)
        have CD := Lib.hid fun v (hv : v < n) => CU.out w3 Y v hv PY.out.1.1 PY.out.2
        have NE := Lib.hid fun u v (hu : u < n) (hv : v < n) (hne : u ≠ v) (hn : Y.on u ≠ -1) => PY.out.1.1.apart hu hv hne hn
        go_loopw [14, 15, 16, 140, 144] (fun _ _ _ av _ W => ∃ u : Nat, u ≤ n ∧ av = .int .i64 (u : Int) ∧ W = w3) (fun _ _ _ av _ _ => n - (intOf av).toNat)
        case atStart => exact ⟨0, Nat.zero_le _, rfl, rfl⟩
        case round =>
          obtain ⟨u, hu, rfl, rfl⟩ := hrel
          by_cases hlu : u < n
          · have D1 := Lib.hid (CD.out u hlu)
            have k1 : (u : Int) < (n : Int) := by omega
            have k2 : (0 : Int) ≤ (u : Int) := by omega
            have NU := Lib.hid fun v => NE.out u v hlu
            generalize Y.on u = zu at *
            go_wp2
            go_loopw [15, 16, 144] (fun _ _ bv W => ∃ v : Nat, v ≤ u ∧ bv = .int .i64 (v : Int) ∧ W = wr) (fun _ _ bv _ => u - (intOf bv).toNat)
            case atStart => exact ⟨0, Nat.zero_le _, rfl, by first | rfl | exact trivial⟩
            case round =>
              obtain ⟨v, hv, rfl, rfl⟩ := hrel
              by_cases hlv : v < u
              · have D2 := Lib.hid (CD.out v (by omega))
                have k3 : (v : Int) < (u : Int) := by omega
                have hne := NU.out v (by omega) (by omega)
                generalize Y.on v = zv at *
                by_cases hz : 0 ≤ zu
                · have k4 : (zu == zv) = false := by simpa using hne (by omega)
                  go_wp2_with (first
                    | (go_at_call 15; ((with_reducible refine (D1.out).mono ?_); rintro e w8 ⟨rfl, rfl⟩))
                    | (go_at_call 15; ((with_reducible refine (D2.out).mono ?_); rintro e w8 ⟨rfl, rfl⟩)))
                  go_roundw
                  case rel => exact ⟨v + 1, by omega, by go_num, by first | rfl | exact trivial⟩
                  case measure => simp [intOf]; omega
                · have k4 : decide (0 ≤ zu) = false := by simpa using hz
                  go_wp2_with (first
                    | (go_at_call 15; ((with_reducible refine (D1.out).mono ?_); rintro e w8 ⟨rfl, rfl⟩))
                    | (go_at_call 15; ((with_reducible refine (D2.out).mono ?_); rintro e w8 ⟨rfl, rfl⟩)))
                  go_roundw
                  case rel => exact ⟨v + 1, by omega, by go_num, by first | rfl | exact trivial⟩
                  case measure => simp [intOf]; omega
              · go_wp2
                go_roundw
                case rel => exact ⟨u + 1, by omega, by go_num, by first | rfl | exact trivial⟩
                case measure => simp [intOf]; omega
          · go_wp2
            go_roundw
            case rel => exact ⟨j + 1, by omega, by go_num, Y, PY.out.1.1, by have := PY.out.1.2; push_cast; exact this, PY.out.2⟩
            case measure => simp [intOf]; omega
      · subst hk0
        clear hsay
        go_wp2_with (go_at_call 19; ((with_reducible refine (CEn.out).mono ?_); rintro e w3 ⟨v, Y, rfl, hY, hSY⟩; have HY := Lib.hid (show Wf n Y ∧ Y.a ≤ (j : Int) + 1 from ⟨hY.1, by have := hY.2; have := M1.out; omega⟩); have SY := Lib.hid hSY; clear hY hSY))
        have PY := Lib.hid (show (Wf n Y ∧ Y.a ≤ (j : Int) + 1) ∧ Sd w w3 bs Y from ⟨HY.out, SY.out⟩)
        have CD := Lib.hid fun v (hv : v < n) => CU.out w3 Y v hv PY.out.1.1 PY.out.2
        have NE := Lib.hid fun u v (hu : u < n) (hv : v < n) (hne : u ≠ v) (hn : Y.on u ≠ -1) => PY.out.1.1.apart hu hv hne hn
        go_loopw [14, 15, 16, 140, 144] (fun _ _ _ av _ W => ∃ u : Nat, u ≤ n ∧ av = .int .i64 (u : Int) ∧ W = w3) (fun _ _ _ av _ _ => n - (intOf av).toNat)
        case atStart => exact ⟨0, Nat.zero_le _, rfl, rfl⟩
        case round =>
          obtain ⟨u, hu, rfl, rfl⟩ := hrel
          by_cases hlu : u < n
          · have D1 := Lib.hid (CD.out u hlu)
            have k1 : (u : Int) < (n : Int) := by omega
            have k2 : (0 : Int) ≤ (u : Int) := by omega
            have NU := Lib.hid fun v => NE.out u v hlu
            generalize Y.on u = zu at *
            go_wp2
            go_loopw [15, 16, 144] (fun _ _ bv W => ∃ v : Nat, v ≤ u ∧ bv = .int .i64 (v : Int) ∧ W = wr) (fun _ _ bv _ => u - (intOf bv).toNat)
            case atStart => exact ⟨0, Nat.zero_le _, rfl, by first | rfl | exact trivial⟩
            case round =>
              obtain ⟨v, hv, rfl, rfl⟩ := hrel
              by_cases hlv : v < u
              · have D2 := Lib.hid (CD.out v (by omega))
                have k3 : (v : Int) < (u : Int) := by omega
                have hne := NU.out v (by omega) (by omega)
                generalize Y.on v = zv at *
                by_cases hz : 0 ≤ zu
                · have k4 : (zu == zv) = false := by simpa using hne (by omega)
                  go_wp2_with (first
                    | (go_at_call 15; ((with_reducible refine (D1.out).mono ?_); rintro e w8 ⟨rfl, rfl⟩))
                    | (go_at_call 15; ((with_reducible refine (D2.out).mono ?_); rintro e w8 ⟨rfl, rfl⟩)))
                  go_roundw
                  case rel => exact ⟨v + 1, by omega, by go_num, by first | rfl | exact trivial⟩
                  case measure => simp [intOf]; omega
                · have k4 : decide (0 ≤ zu) = false := by simpa using hz
                  go_wp2_with (first
                    | (go_at_call 15; ((with_reducible refine (D1.out).mono ?_); rintro e w8 ⟨rfl, rfl⟩))
                    | (go_at_call 15; ((with_reducible refine (D2.out).mono ?_); rintro e w8 ⟨rfl, rfl⟩)))
                  go_roundw
                  case rel => exact ⟨v + 1, by omega, by go_num, by first | rfl | exact trivial⟩
                  case measure => simp [intOf]; omega
              · go_wp2
                go_roundw
                case rel => exact ⟨u + 1, by omega, by go_num, by first | rfl | exact trivial⟩
                case measure => simp [intOf]; omega
          · go_wp2
            go_roundw
            case rel => exact ⟨j + 1, by omega, by go_num, Y, PY.out.1.1, by have := PY.out.1.2; push_cast; exact this, PY.out.2⟩
            case measure => simp [intOf]; omega
      · subst hk0
        clear hsay
        go_wp2_with (go_at_call 20; ((with_reducible refine (CRe.out).mono ?_); rintro e w3 ⟨v, Y, rfl, hY, hSY⟩; have HY := Lib.hid (show Wf n Y ∧ Y.a ≤ (j : Int) + 1 from ⟨hY.1, by have := hY.2; have := M1.out; omega⟩); have SY := Lib.hid hSY; clear hY hSY))
        have PY := Lib.hid (show (Wf n Y ∧ Y.a ≤ (j : Int) + 1) ∧ Sd w w3 bs Y from ⟨HY.out, SY.out⟩)
        have CD := Lib.hid fun v (hv : v < n) => CU.out w3 Y v hv PY.out.1.1 PY.out.2
        have NE := Lib.hid fun u v (hu : u < n) (hv : v < n) (hne : u ≠ v) (hn : Y.on u ≠ -1) => PY.out.1.1.apart hu hv hne hn
        go_loopw [14, 15, 16, 140, 144] (fun _ _ _ av _ W => ∃ u : Nat, u ≤ n ∧ av = .int .i64 (u : Int) ∧ W = w3) (fun _ _ _ av _ _ => n - (intOf av).toNat)
        case atStart => exact ⟨0, Nat.zero_le _, rfl, rfl⟩
        case round =>
          obtain ⟨u, hu, rfl, rfl⟩ := hrel
          by_cases hlu : u < n
          · have D1 := Lib.hid (CD.out u hlu)
            have k1 : (u : Int) < (n : Int) := by omega
            have k2 : (0 : Int) ≤ (u : Int) := by omega
            have NU := Lib.hid fun v => NE.out u v hlu
            generalize Y.on u = zu at *
            go_wp2
            go_loopw [15, 16, 144] (fun _ _ bv W => ∃ v : Nat, v ≤ u ∧ bv = .int .i64 (v : Int) ∧ W = wr) (fun _ _ bv _ => u - (intOf bv).toNat)
            case atStart => exact ⟨0, Nat.zero_le _, rfl, by first | rfl | exact trivial⟩
            case round =>
              obtain ⟨v, hv, rfl, rfl⟩ := hrel
              by_cases hlv : v < u
              · have D2 := Lib.hid (CD.out v (by omega))
                have k3 : (v : Int) < (u : Int) := by omega
                have hne := NU.out v (by omega) (by omega)
                generalize Y.on v = zv at *
                by_cases hz : 0 ≤ zu
                · have k4 : (zu == zv) = false := by simpa using hne (by omega)
                  go_wp2_with (first
                    | (go_at_call 15; ((with_reducible refine (D1.out).mono ?_); rintro e w8 ⟨rfl, rfl⟩))
                    | (go_at_call 15; ((with_reducible refine (D2.out).mono ?_); rintro e w8 ⟨rfl, rfl⟩)))
                  go_roundw
                  case rel => exact ⟨v + 1, by omega, by go_num, by first | rfl | exact trivial⟩
                  case measure => simp [intOf]; omega
                · have k4 : decide (0 ≤ zu) = false := by simpa using hz
                  go_wp2_with (first
                    | (go_at_call 15; ((with_reducible refine (D1.out).mono ?_); rintro e w8 ⟨rfl, rfl⟩))
                    | (go_at_call 15; ((with_reducible refine (D2.out).mono ?_); rintro e w8 ⟨rfl, rfl⟩)))
                  go_roundw
                  case rel => exact ⟨v + 1, by omega, by go_num, by first | rfl | exact trivial⟩
                  case measure => simp [intOf]; omega
              · go_wp2
                go_roundw
                case rel => exact ⟨u + 1, by omega, by go_num, by first | rfl | exact trivial⟩
                case measure => simp [intOf]; omega
          · go_wp2
            go_roundw
            case rel => exact ⟨j + 1, by omega, by go_num, Y, PY.out.1.1, by have := PY.out.1.2; push_cast; exact this, PY.out.2⟩
            case measure => simp [intOf]; omega
      · subst hk0
        clear hsay
        go_wp2_with (go_at_call 21; ((with_reducible refine (CTi.out).mono ?_); rintro e w3 ⟨v, Y, rfl, hY, hSY⟩; have HY := Lib.hid (show Wf n Y ∧ Y.a ≤ (j : Int) + 1 from ⟨hY.1, by have := hY.2; have := M1.out; omega⟩); have SY := Lib.hid hSY; clear hY hSY))
        have PY := Lib.hid (show (Wf n Y ∧ Y.a ≤ (j : Int) + 1) ∧ Sd w w3 bs Y from ⟨HY.out, SY.out⟩)
        have CD := Lib.hid fun v (hv : v < n) => CU.out w3 Y v hv PY.out.1.1 PY.out.2
        have NE := Lib.hid fun u v (hu : u < n) (hv : v < n) (hne : u ≠ v) (hn : Y.on u ≠ -1) => PY.out.1.1.apart hu hv hne hn
        go_loopw [14, 15, 16, 140, 144] (fun _ _ _ av _ W => ∃ u : Nat, u ≤ n ∧ av = .int .i64 (u : Int) ∧ W = w3) (fun _ _ _ av _ _ => n - (intOf av).toNat)
        case atStart => exact ⟨0, Nat.zero_le _, rfl, rfl⟩
        case round =>
          obtain ⟨u, hu, rfl, rfl⟩ := hrel
          by_cases hlu : u < n
          · have D1 := Lib.hid (CD.out u hlu)
            have k1 : (u : Int) < (n : Int) := by omega
            have k2 : (0 : Int) ≤ (u : Int) := by omega
            have NU := Lib.hid fun v => NE.out u v hlu
            generalize Y.on u = zu at *
            go_wp2
            go_loopw [15, 16, 144] (fun _ _ bv W => ∃ v : Nat, v ≤ u ∧ bv = .int .i64 (v : Int) ∧ W = wr) (fun _ _ bv _ => u - (intOf bv).toNat)
            case atStart => exact ⟨0, Nat.zero_le _, rfl, by first | rfl | exact trivial⟩
            case round =>
              obtain ⟨v, hv, rfl, rfl⟩ := hrel
              by_cases hlv : v < u
              · have D2 := Lib.hid (CD.out v (by omega))
                have k3 : (v : Int) < (u : Int) := by omega
                have hne := NU.out v (by omega) (by omega)
                generalize Y.on v = zv at *
                by_cases hz : 0 ≤ zu
                · have k4 : (zu == zv) = false := by simpa using hne (by omega)
                  go_wp2_with (first
                    | (go_at_call 15; ((with_reducible refine (D1.out).mono ?_); rintro e w8 ⟨rfl, rfl⟩))
                    | (go_at_call 15; ((with_reducible refine (D2.out).mono ?_); rintro e w8 ⟨rfl, rfl⟩)))
                  go_roundw
                  case rel => exact ⟨v + 1, by omega, by go_num, by first | rfl | exact trivial⟩
                  case measure => simp [intOf]; omega
                · have k4 : decide (0 ≤ zu) = false := by simpa using hz
                  go_wp2_with (first
                    | (go_at_call 15; ((with_reducible refine (D1.out).mono ?_); rintro e w8 ⟨rfl, rfl⟩))
                    | (go_at_call 15; ((with_reducible refine (D2.out).mono ?_); rintro e w8 ⟨rfl, rfl⟩)))
                  go_roundw
                  case rel => exact ⟨v + 1, by omega, by go_num, by first | rfl | exact trivial⟩
                  case measure => simp [intOf]; omega
              · go_wp2
                go_roundw
                case rel => exact ⟨u + 1, by omega, by go_num, by first | rfl | exact trivial⟩
                case measure => simp [intOf]; omega
          · go_wp2
            go_roundw
            case rel => exact ⟨j + 1, by omega, by go_num, Y, PY.out.1.1, by have := PY.out.1.2; push_cast; exact this, PY.out.2⟩
            case measure => simp [intOf]; omega
      · obtain ⟨n0, n1', n2, n3, n4, n5, n6, n7⟩ := hk0
        clear hsay
        have HY := Lib.hid (show Wf n X ∧ X.a ≤ (j : Int) + 1 from ⟨HW.out, by have := M1.out; omega⟩)
        go_wp2
        generalize wr.alloc (.cells #[.int .i64 z0, .int .i64 z1, .int .i64 z2, .int .u64 z3] 30) = w3 at *
        have PY := Lib.hid (show (Wf n X ∧ X.a ≤ (j : Int) + 1) ∧ Sd w w3 bs X from ⟨HY.out, HS1.out⟩)
        have CD := Lib.hid fun v (hv : v < n) => CU.out w3 X v hv PY.out.1.1 PY.out.2
        have NE := Lib.hid fun u v (hu : u < n) (hv : v < n) (hne : u ≠ v) (hn : X.on u ≠ -1) => PY.out.1.1.apart hu hv hne hn
        go_loopw [14, 15, 16, 140, 144] (fun _ _ _ av _ W => ∃ u : Nat, u ≤ n ∧ av = .int .i64 (u : Int) ∧ W = w3) (fun _ _ _ av _ _ => n - (intOf av).toNat)
        case atStart => exact ⟨0, Nat.zero_le _, rfl, rfl⟩
        case round =>
          obtain ⟨u, hu, rfl, rfl⟩ := hrel
          by_cases hlu : u < n
          · have D1 := Lib.hid (CD.out u hlu)
            have k1 : (u : Int) < (n : Int) := by omega
            have k2 : (0 : Int) ≤ (u : Int) := by omega
            have NU := Lib.hid fun v => NE.out u v hlu
            generalize X.on u = zu at *
            go_wp2
            go_loopw [15, 16, 144] (fun _ _ bv W => ∃ v : Nat, v ≤ u ∧ bv = .int .i64 (v : Int) ∧ W = wr) (fun _ _ bv _ => u - (intOf bv).toNat)
            case atStart => exact ⟨0, Nat.zero_le _, rfl, by first | rfl | exact trivial⟩
            case round =>
              obtain ⟨v, hv, rfl, rfl⟩ := hrel
              by_cases hlv : v < u
              · have D2 := Lib.hid (CD.out v (by omega))
                have k3 : (v : Int) < (u : Int) := by omega
                have hne := NU.out v (by omega) (by omega)
                generalize X.on v = zv at *
                by_cases hz : 0 ≤ zu
                · have k4 : (zu == zv) = false := by simpa using hne (by omega)
                  go_wp2_with (first
                    | (go_at_call 15; ((with_reducible refine (D1.out).mono ?_); rintro e w8 ⟨rfl, rfl⟩))
                    | (go_at_call 15; ((with_reducible refine (D2.out).mono ?_); rintro e w8 ⟨rfl, rfl⟩)))
                  go_roundw
                  case rel => exact ⟨v + 1, by omega, by go_num, by first | rfl | exact trivial⟩
                  case measure => simp [intOf]; omega
                · have k4 : decide (0 ≤ zu) = false := by simpa using hz
                  go_wp2_with (first
                    | (go_at_call 15; ((with_reducible refine (D1.out).mono ?_); rintro e w8 ⟨rfl, rfl⟩))
                    | (go_at_call 15; ((with_reducible refine (D2.out).mono ?_); rintro e w8 ⟨rfl, rfl⟩)))
                  go_roundw
                  case rel => exact ⟨v + 1, by omega, by go_num, by first | rfl | exact trivial⟩
                  case measure => simp [intOf]; omega
              · go_wp2
                go_roundw
                case rel => exact ⟨u + 1, by omega, by go_num, by first | rfl | exact trivial⟩
                case measure => simp [intOf]; omega
          · go_wp2
            go_roundw
            case rel => exact ⟨j + 1, by omega, by go_num, X, PY.out.1.1, by have := PY.out.1.2; push_cast; exact this, PY.out.2⟩
            case measure => simp [intOf]; omega
    · have C := Lib.hid (CAll.out _ _ _ hw hS)
      clear hw ha hS
      go_wp2_with (go_at_call 22; ((with_reducible refine (C.out).mono ?_); rintro e w3 ⟨rfl, hc⟩; have HCC := Lib.hid hc; clear hc))
      go_returns
      exact ⟨rfl, HCC.out⟩
end Go.Proofs.Ytaloafihbdamiaa
