/- SchedSleeps: its walk. -/
import Derived.Test.YtaloafihbdamiaaSP
import Derived.Test.YtaloafihbdamiaaVA
namespace Go.Proofs.Ytaloafihbdamiaa
open Go.ChangeShapes Go.WideShapes Go.ChangeAt Go.RowKit
theorem bytes_keep {w w' : World} {k : IntKind} {a : Option Addr} {n : Nat} {z : Nat → Int} (h : 0 < n → ∃ b o, a = some ⟨b, o, none⟩ ∧ ∀ i, i < n → w.cell? ⟨b, o + i, none⟩ = some (.int k (z i))) (c : Cha (fun _ => False) w w') :
    0 < n → ∃ b o, a = some ⟨b, o, none⟩ ∧ ∀ i, i < n → w'.cell? ⟨b, o + i, none⟩ = some (.int k (z i)) := fun hp => by
  obtain ⟨b, o, e, hz⟩ := h hp
  refine ⟨b, o, e, fun i hi => ?_⟩
  have h1 := hz i hi
  exact (World.cell?_of_block (c.old b (block_lt_of_cell h1) (fun f => f))).trans h1
set_option maxRecDepth 100000 in
set_option maxHeartbeats 4000000 in
theorem sleeps_walk (a : Option Addr) (n1 c1 np : Nat) (z : Nat → Int) (w : World) (hc1 : n1 ≤ c1) (hd1 : c1 ≤ 9223372036854775807) (ha : 0 < n1 → ∃ g o, a = some ⟨g, o, none⟩ ∧ ∀ i, i < n1 → w.cell? ⟨g, o + i, none⟩ = some (.int .u8 (z i))) (hz : ∀ i, i < n1 → 0 ≤ z i ∧ z i ≤ 255) :
    Calls Try.prog 6 #[.slice a n1 c1, .int .u8 (np : Int)] w fun e w' => e = .returned (.bool true) ∧ Cha (fun _ => False) w w' := by
  obtain ⟨k, hk⟩ : ∃ k, k = np % 4 + 1 := ⟨_, rfl⟩
  have hk4 : k ≤ 4 := by omega
  have hk1 : 1 ≤ k := by omega
  have e0 : (np : Int) % 4 = ((k - 1 : Nat) : Int) := by omega
  have e1 : IntKind.i64.wrap (((k - 1 : Nat) : Int) + 1) = (k : Int) := by rw [IntWalk.i64_in _ (by omega)]; omega
  obtain ⟨L, hL⟩ : ∃ L, L = min n1 30 := ⟨_, rfl⟩
  have hL1 : L ≤ n1 := by omega
  have hL30 : L ≤ 30 := by omega
  have mm : min (n1 : Int) 30 = (L : Int) := by omega
  have hkc : (L : Int) ≤ (c1 : Int) := by omega
  obtain ⟨t, ht⟩ : ∃ t : Nat → Int, t = fun i => if i < L then z i % 39 + 1 else 1 := ⟨_, rfl⟩
  have htl : ∀ i, i < L → t i = z i % 39 + 1 := fun i hi => by rw [ht]; exact if_pos hi
  have T1 : Hid (∀ g, 1 ≤ t g) := Lib.hid fun g => by
    rw [ht]
    show 1 ≤ if g < L then z g % 39 + 1 else 1
    split
    · have := Int.emod_nonneg (z g) (show (39 : Int) ≠ 0 by decide); omega
    · exact Int.le_refl _
  have T40 : Hid (∀ g, t g ≤ 40) := Lib.hid fun g => by
    rw [ht]
    show (if g < L then z g % 39 + 1 else 1) ≤ 40
    split
    · have := Int.emod_lt_of_pos (z g) (show (0 : Int) < 39 by decide); omega
    · decide
  have TL := Lib.hid htl
  have ZB : Hid (∀ i, i < L → 0 ≤ z i ∧ z i ≤ 255) := Lib.hid fun i hi => hz i (by omega)
  have HA : Hid (0 < L → ∃ g o, a = some ⟨g, o, none⟩ ∧ ∀ i, i < L → w.cell? ⟨g, o + i, none⟩ = some (.int .u8 (z i))) := Lib.hid fun hp => by
    obtain ⟨g, o, e, hz⟩ := ha (by omega)
    exact ⟨g, o, e, fun i hi => hz i (by omega)⟩
  have C0 : Hid (Calls Try.prog 10 #[.int .i64 (k : Int)] w fun e w' => ∃ bs, e = .returned (.tuple #[.pointer (some ⟨bs, 0, none⟩), .int .i64 0]) ∧ Sd w w' bs (Sx.ini k)) := Lib.hid (sd_new k (Cha.refl _ w) hk1 (by omega))
  have CW : Hid (∀ w1 bs X, Sd w w1 bs X → Calls Try.prog 11 #[] w1 fun e w' => e = .returned (.bool true) ∧ Sd w w' bs X) := Lib.hid fun w1 bs X h => (schawake_any w1).mono fun _ _ ⟨a, c⟩ => ⟨a, h.same c⟩
  have B0 := Lib.hid (bed_first hk1 (by omega) t)
  have CB : Hid (∀ w1 bs (i : Nat) X, i < L → Bed k i t X → Sd w w1 bs X → Calls Try.prog 12 #[.pointer (some ⟨bs, 0, none⟩), .int .i64 0] w1 fun e w' => e = .returned (.tuple #[.int .i64 (i : Int), .int .i64 0]) ∧ Sd w w' bs (X.beg 0)) := Lib.hid fun w1 bs i X hi b h => by
    have := sd_begin h 0 (by rw [b.wf.lpr]; omega) (by rw [b.wf.lq]; omega) (by rw [b.len]; omega) (by have := b.wf.qle; omega)
    rw [b.len] at this
    exact this
  have CA : Hid (∀ w1 bs (i : Nat) X, i < L → Bed k i t X → Sd w w1 bs (X.beg 0) → Calls Try.prog 13 #[.pointer (some ⟨bs, 0, none⟩), .int .i64 0, .int .i64 0] w1 fun e w' => e = .returned (.tuple #[.int .i64 2, .int .i64 (i : Int), .int .i64 0]) ∧ Sd w w' bs ((X.beg 0).act 0 0).2) := Lib.hid fun w1 bs i X hi b h => by
    obtain ⟨m1, m2, m3, m4, m5, m6, m7, m8⟩ := b.more T1.out (by omega)
    have := sd_act h m4.fine 0 0 (by rw [m4.lpr]; omega) (.inl m6) (m4.rn 0)
    rw [m1] at this
    exact this
  have CS : Hid (∀ w1 bs (i : Nat) X, i < L → Bed k i t X → Sd w w1 bs ((X.beg 0).act 0 0).2 → Calls Try.prog 18 #[.pointer (some ⟨bs, 0, none⟩), .int .i64 0, .int .u64 (z i % 39 + 1)] w1 fun e w' => e = .returned (.int .i64 0) ∧ ∃ Y, Bed k (i + 1) t Y ∧ Sd w w' bs Y) := Lib.hid fun w1 bs i X hi b h => by
    obtain ⟨m1, m2, m3, m4, m5, m6, m7, m8⟩ := b.more T1.out (by omega)
    have := sd_sleep h m5.fine 0 i (t i) (by rw [m5.lpr]; omega) m2 m3 m5.a0 (by rw [m7]; omega)
    rw [htl i hi] at this
    rw [htl i hi] at m8
    exact this.mono fun e w' ⟨a, b⟩ => ⟨a, _, m8, b⟩
  have CT : Hid (∀ w1 bs X, Sd w w1 bs X → Calls Try.prog 21 #[.pointer (some ⟨bs, 0, none⟩), .int .u64 1] w1 fun e w' => e = .returned (.tuple #[]) ∧ Sd w w' bs (X.tick 1)) := Lib.hid fun w1 bs X h => sd_tick h 1 (by decide) (by decide)
  have HE : Hid (∀ w1 bs X, Wf k X → J t X → idle k X → quiet 40 X → Sd w w1 bs X → Calls Try.prog 23 #[.pointer (some ⟨bs, 0, none⟩)] w1 fun e w' => ∃ x : Int, al X = 0 ∧ e = .returned (.tuple #[.int .u64 x, .int .i64 0, .int .i64 0]) ∧ Sd w w' bs X) := Lib.hid fun w1 bs X wf j hi q h => by
    obtain ⟨s1, s2, s3⟩ := sleeps_end wf j hi q T40.out
    have := sd_counts h (by omega)
    rw [s2, s3] at this
    exact this.mono fun e w' ⟨a, b⟩ => ⟨_, s1, a, b⟩
  have HC : Hid (∀ w1 bs X, Sd w w1 bs X → Cha (fun _ => False) w w1) := Lib.hid fun _ _ _ h => h.cha
  have HAK : Hid (∀ w1, Cha (fun _ => False) w w1 → 0 < L → ∃ b o, a = some ⟨b, o, none⟩ ∧ ∀ i, i < L → w1.cell? ⟨b, o + i, none⟩ = some (.int .u8 (z i))) := Lib.hid fun w1 c => bytes_keep HA.out c
  clear hk hL ha hz ht htl hL1
  go_enter Try.func6, Try.ntmps6
  go_wp2_with (first
    | (go_at_call 10; ((with_reducible refine (C0.out).mono ?_); rintro e w1 ⟨bs, rfl, hS⟩; have S1 := Lib.hid hS; clear hS))
    | (go_at_call 11; ((with_reducible refine (CW.out _ _ _ S1.out).mono ?_); rintro e w2 ⟨rfl, hS⟩; have S2 := Lib.hid hS; clear hS)))
  clear C0 CW S1 HA
  first | rw [e0] | skip
  clear e0
  go_loopw [9, 10, 11, 12, 13, 14, 50] (fun _ _ _ _ _ _ ix wr => ∃ i : Nat, i ≤ L ∧ ix = .int .i64 (i : Int) ∧ ∃ X, Bed k i t X ∧ Sd w wr bs X) (fun _ _ _ _ _ _ ix _ => L - (intOf ix).toNat)
  case atStart => exact ⟨0, Nat.zero_le _, rfl, _, B0.out, S2.out⟩
  case round =>
    clear S2 B0
    obtain ⟨i, hi, rfl, X, hB, hS⟩ := hrel
    by_cases hlt : i < L
    · obtain ⟨g, o, rfl, hz⟩ := HAK.out wr (HC.out _ _ _ hS) (by omega)
      have z1 := hz i hlt
      obtain ⟨y1, y2⟩ := ZB.out i hlt
      have D1 := Lib.hid (CB.out _ _ i X hlt hB hS)
      have D2 := Lib.hid fun w1 => CA.out w1 bs i X hlt hB
      have D3 := Lib.hid fun w1 => CS.out w1 bs i X hlt hB
      clear hz hB hS
      generalize z i = zi at *
      have u1 : 0 ≤ zi % 39 := Int.emod_nonneg _ (by decide)
      have u2 : zi % 39 < 39 := Int.emod_lt_of_pos _ (by decide)
      have k1 : IntKind.u64.wrap (zi % 39 + 1) = zi % 39 + 1 := IntWalk.u64_in _ (by omega)
      have k0 : IntKind.u64.wrap (zi % 39) = zi % 39 := IntWalk.u64_in _ (by omega)
      have k2 : (i : Int) < (L : Int) := by omega
      have k3 : (0 : Int) ≤ (i : Int) := by omega
      go_wp2_with (first
        | (go_at_call 12; ((with_reducible refine (D1.out).mono ?_); rintro e w3 ⟨rfl, hS⟩; have S3 := Lib.hid hS; clear hS))
        | (go_at_call 13; ((with_reducible refine (D2.out _ S3.out).mono ?_); rintro e w4 ⟨rfl, hS⟩; have S4 := Lib.hid hS; clear hS))
        | (go_at_call 18; ((with_reducible refine (D3.out _ S4.out).mono ?_); rintro e w5 ⟨rfl, hS⟩; have S5 := Lib.hid hS; clear hS)))
      go_roundw
      case rel => exact ⟨i + 1, by omega, by go_num, S5.out⟩
      case measure => simp [intOf]; omega
    · obtain rfl : i = L := by omega
      have HX : Hid (Bed k i t X ∧ Sd w wr bs X) := Lib.hid ⟨hB, hS⟩
      have P0 : Hid (Wf k X ∧ J t X ∧ idle k X ∧ X.gs.length = i ∧ X.clk = 0 ∧ al X = i) := Lib.hid ⟨hB.wf, hB.j, hB.id, hB.len, hB.clk, hB.alv⟩
      clear hB hS hlt hi CB CA CS T1
      go_wp2
      go_loopw [15, 16, 17, 18, 19, 20] (fun lf nv _ _ _ _ wr => ∃ (c : Nat) (X : Sx), c ≤ 41 ∧ nv = .int .u64 (c : Int) ∧ lf = .int .i64 (al X : Int) ∧ al X ≤ i ∧ Wf k X ∧ J t X ∧ idle k X ∧ X.gs.length = i ∧ X.clk = c ∧ (c = 0 ∨ quiet ((c : Int) - 1) X) ∧ Sd w wr bs X) (fun _ nv _ _ _ _ _ => 41 - (intOf nv).toNat)
      case atStart => exact ⟨0, X, by omega, rfl, by rw [P0.out.2.2.2.2.2], by rw [P0.out.2.2.2.2.2]; omega, P0.out.1, P0.out.2.1, P0.out.2.2.1, P0.out.2.2.2.1, P0.out.2.2.2.2.1, .inl rfl, HX.out.2⟩
      case round =>
        clear P0 HX X
        obtain ⟨c, X, hc, rfl, rfl, hal, hw, hj, hid, hgl, hclk, hq, hS⟩ := hrel
        by_cases hlt : c < 41
        · have PX : Hid (Wf k X ∧ J t X ∧ idle k X ∧ X.gs.length = i ∧ X.clk = c ∧ Sd w wr bs X) := Lib.hid ⟨hw, hj, hid, hgl, hclk, hS⟩
          have k9 : (c : Int) < 41 := by omega
          clear hw hj hid hgl hclk hS hq HE
          go_wp2
          go_loopw [15, 17, 18, 19, 20] (fun lf pv _ _ _ wr => ∃ (p : Nat) (X : Sx), pv = .int .i64 (p : Int) ∧ lf = .int .i64 (al X : Int) ∧ p + al X ≤ i ∧ Wf k X ∧ J t X ∧ idle k X ∧ X.gs.length = i ∧ X.clk = c ∧ Sd w wr bs X) (fun lf _ _ _ _ _ => (intOf lf).toNat)
          case atStart => exact ⟨0, X, rfl, rfl, by omega, PX.out⟩
          case round =>
            clear PX hal
            obtain ⟨p, X, rfl, rfl, hpl, hw, hj, hid, hgl, hclk, hS⟩ := hrel
            obtain ⟨v, hv⟩ : ∃ v, v = p % k := ⟨_, rfl⟩
            have hvk : v < k := by rw [hv]; exact Nat.mod_lt _ (by omega)
            have ev : (p : Int) % (k : Int) = (v : Int) := by rw [hv]; simp
            have et : (p : Int).tmod (k : Int) = (v : Int) := by rw [Int.tmod_eq_emod_of_nonneg (by omega)]; exact ev
            have k5 : (0 : Int) < (k : Int) := by omega
            have C := sd_act hS hw.fine v (p : Int) (by rw [hw.lpr]; exact hvk) (.inl (hid v hvk)) (hw.rn v)
            clear hv
            rcases sleeps_act hw hj hid hvk (p : Int) with ⟨g, e, hgl2, htg, hon, hgl3, w2, j2, i2, l2, c2, al2⟩ | ⟨e, w2, j2, i2, l2, c2, al2, q2⟩
            · rw [e] at C
              rw [hgl] at hgl2
              obtain ⟨b, o, rfl, hz⟩ := HAK.out wr (HC.out _ _ _ hS) (by omega)
              have hgk : g < i := hgl2
              have HK2 := Lib.hid fun w1 (h : Sd w w1 bs (X.act v (p : Int)).2) => HAK.out w1 (HC.out _ _ _ h)
              obtain ⟨y1, y2⟩ := ZB.out g hgk
              have tz := TL.out g hgk
              have D : Hid (∀ w1, Sd w w1 bs (X.act v (p : Int)).2 → w1.cell? ⟨b, o + g, none⟩ = some (.int .u8 (z g)) ∧ Calls Try.prog 19 #[.pointer (some ⟨bs, 0, none⟩), .int .i64 (v : Int)] w1 fun e w' => e = .returned (.int .i64 0) ∧ Sd w w' bs ((X.act v (p : Int)).2.stp v (3, false))) := Lib.hid fun w1 h => by
                obtain ⟨b', o', e', hz'⟩ := HK2.out w1 h (by omega)
                injection e' with e'
                injection e' with e1' e2' _
                subst e1' e2'
                exact ⟨hz' g hgk, sd_end h v g (by rw [(hw.act hvk (p : Int)).lpr]; exact hvk) hon hgl3⟩
              have C : Hid (Calls Try.prog 13 #[.pointer (some ⟨bs, 0, none⟩), .int .i64 (v : Int), .int .i64 (p : Int)] wr fun e w' => e = .returned (.tuple #[.int .i64 2, .int .i64 (g : Int), .int .i64 0]) ∧ Sd w w' bs (X.act v (p : Int)).2) := Lib.hid C
              rw [hclk] at htg
              obtain ⟨A, hA⟩ : ∃ A, A = al X := ⟨_, rfl⟩
              have hA2 : al ((X.act v (p : Int)).2.stp v (3, false)) = A - 1 := by omega
              rw [← hA] at hpl ⊢
              have PX : Hid (Wf k ((X.act v (p : Int)).2.stp v (3, false)) ∧ J t ((X.act v (p : Int)).2.stp v (3, false)) ∧ idle k ((X.act v (p : Int)).2.stp v (3, false)) ∧ ((X.act v (p : Int)).2.stp v (3, false)).gs.length = i ∧ ((X.act v (p : Int)).2.stp v (3, false)).clk = c ∧ al ((X.act v (p : Int)).2.stp v (3, false)) = A - 1) := Lib.hid ⟨w2, j2, i2, l2.trans hgl, c2.trans hclk, hA2⟩
              have hA1 : 1 ≤ A := by omega
              clear hw hj hid hgl hclk hS w2 j2 i2 l2 c2 al2 hA2 hA e hz hon hgl3 hgl2 HK2
              generalize (X.act v (p : Int)).2.stp v (3, false) = Y at *
              generalize (X.act v (p : Int)).2 = Z at *
              generalize z g = zi at *
              rw [tz] at htg
              have u1 : 0 ≤ zi % 39 := Int.emod_nonneg _ (by decide)
              have u2 : zi % 39 < 39 := Int.emod_lt_of_pos _ (by decide)
              have k1 : IntKind.u64.wrap (zi % 39 + 1) = zi % 39 + 1 := IntWalk.u64_in _ (by omega)
              have k0 : IntKind.u64.wrap (zi % 39) = zi % 39 := IntWalk.u64_in _ (by omega)
              have k2 : (g : Int) < (i : Int) := by omega
              have k3 : (0 : Int) ≤ (g : Int) := by omega
              have k4 : decide ((g : Int) < 0) = false := by simp
              have k6 : decide ((i : Int) ≤ (g : Int)) = false := by simp; omega
              have k7 : decide ((c : Int) < zi % 39 + 1) = false := by simp; omega
              have k8 : IntKind.i64.wrap ((A : Int) - 1) = ((A - 1 : Nat) : Int) := by rw [IntWalk.i64_in _ (by omega)]; omega
              go_wp2_with (first
                | (go_at_call 13; ((with_reducible refine (C.out).mono ?_); rintro e w3 ⟨rfl, hS⟩; obtain ⟨z1, cc⟩ := D.out _ hS; have D2 := Lib.hid cc; clear hS cc))
                | (go_at_call 19; ((with_reducible refine (D2.out).mono ?_); rintro e w4 ⟨rfl, hS⟩; have S4 := Lib.hid hS; clear hS)))
              go_roundw
              case rel => exact ⟨p + 1, Y, by go_num, by rw [PX.out.2.2.2.2.2], by rw [PX.out.2.2.2.2.2]; omega, PX.out.1, PX.out.2.1, PX.out.2.2.1, PX.out.2.2.2.1, PX.out.2.2.2.2.1, S4.out⟩
              case measure => simp [intOf]; omega
            · rw [e] at C
              have C : Hid (Calls Try.prog 13 #[.pointer (some ⟨bs, 0, none⟩), .int .i64 (v : Int), .int .i64 (p : Int)] wr fun e w' => e = .returned (.tuple #[.int .i64 1, .int .i64 0, .int .i64 0]) ∧ Sd w w' bs (X.act v (p : Int)).2) := Lib.hid C
              rw [hclk] at q2
              have PX : Hid (Wf k (X.act v (p : Int)).2 ∧ J t (X.act v (p : Int)).2 ∧ idle k (X.act v (p : Int)).2 ∧ (X.act v (p : Int)).2.gs.length = i ∧ (X.act v (p : Int)).2.clk = c ∧ al (X.act v (p : Int)).2 = al X ∧ quiet c (X.act v (p : Int)).2) := Lib.hid ⟨w2, j2, i2, l2.trans hgl, c2.trans hclk, al2, q2⟩
              clear hw hj hid hgl hclk hS w2 j2 i2 l2 c2 al2 e q2
              generalize (X.act v (p : Int)).2 = Y at *
              have T : Hid (∀ w1, Sd w w1 bs Y → Calls Try.prog 21 #[.pointer (some ⟨bs, 0, none⟩), .int .u64 1] w1 fun e w' => e = .returned (.tuple #[]) ∧ Sd w w' bs (Y.tick 1)) := Lib.hid fun w1 h => CT.out w1 bs Y h
              have hck : (Y.tick 1).clk = ((c + 1 : Nat) : Int) := by
                show Y.clk + min 1 (1099511627776 - Y.clk) = _
                rw [PX.out.2.2.2.2.1]
                omega
              have HT : Hid (Wf k (Y.tick 1) ∧ J t (Y.tick 1) ∧ idle k (Y.tick 1) ∧ (Y.tick 1).gs.length = i ∧ (Y.tick 1).clk = ((c + 1 : Nat) : Int) ∧ al (Y.tick 1) = al X ∧ quiet c (Y.tick 1)) := by
                obtain ⟨q1, q2, q3, q4, q5, q6, q7⟩ := PX.out
                exact Lib.hid ⟨q1.tick 1, ⟨q2.tm, fun g hg hs => by have := q2.rd g hg hs; rw [hck]; rw [q5] at this; push_cast; omega, q2.st⟩, q3, q4, hck, q6, q7⟩
              have k1 : IntKind.u64.wrap ((c : Int) + 1) = (c : Int) + 1 := IntWalk.u64_in _ (by omega)
              clear PX hck
              generalize al X = A at *
              generalize Y.tick 1 = U at *
              go_wp2_with (first
                | (go_at_call 13; ((with_reducible refine (C.out).mono ?_); rintro e w3 ⟨rfl, hS⟩; have S3 := Lib.hid hS; clear hS))
                | (go_at_call 21; ((with_reducible refine (T.out _ S3.out).mono ?_); rintro e w4 ⟨rfl, hS⟩; have S4 := Lib.hid hS; clear hS)))
              go_roundw
              case rel => exact ⟨c + 1, U, by omega, by go_num, by rw [HT.out.2.2.2.2.2.1], by rw [HT.out.2.2.2.2.2.1]; omega, HT.out.1, HT.out.2.1, HT.out.2.2.1, HT.out.2.2.2.1, HT.out.2.2.2.2.1, .inr (by have := HT.out.2.2.2.2.2.2; rw [show ((c + 1 : Nat) : Int) - 1 = (c : Int) by omega]; exact this), S4.out⟩
              case measure => simp [intOf]; omega
        · obtain rfl : c = 41 := by omega
          have hq2 : quiet 40 X := by
            rcases hq with hq | hq
            · cases hq
            · exact hq
          have C := Lib.hid (HE.out _ _ X hw hj hid hq2 hS)
          clear hw hj hid hgl hclk hq hq2 hS HE
          generalize al X = A at *
          go_wp2_with (go_at_call 23; ((with_reducible refine (C.out).mono ?_); rintro e w3 ⟨x, rfl, rfl, hS⟩; have S3 := Lib.hid hS; clear hS))
          go_returns
          exact ⟨rfl, HC.out _ _ _ S3.out⟩
end Go.Proofs.Ytaloafihbdamiaa
