/- SchedFair: its walk. -/
import Derived.Test.YtaloafihbdamiaaSX
namespace Go.Proofs.Ytaloafihbdamiaa
open Go.ChangeShapes Go.WideShapes Go.ChangeAt Go.RowKit
def IntA (b k : Nat) (z : Nat → Int) : Asn := fun w F => Ints 3 w b k z ∧ F b ∧ ∀ i, F i → i < w.heap.size
theorem fit_int {b k : Nat} {z : Nat → Int} : Fit (IntA b k z) := ⟨fun ⟨h, f, o⟩ c hs => ⟨h.cha c (hs b f), f, fun i x => Nat.lt_of_lt_of_le (o i x) c.size⟩, fun ⟨_, _, o⟩ => o⟩
/-- A scheduler and a slice of ints, made since w0. -/
def Sf (w0 w : World) (bs b k : Nat) (X : Sx) (z : Nat → Int) : Prop := ∃ bq bt b3, Mine w0 (Star (ScA bs bq bt b3 X) (IntA b k z)) w
section
variable {w0 w w' : World} {bs b k : Nat} {X : Sx} {z : Nat → Int}
theorem sf_new (h : Sd w0 w bs X) (k : Nat) : Sf w0 (w.alloc (.cells (fcells k fun _ => .int .i64 0) 3)) bs w.heap.size k X (fun _ => 0) := by
  obtain ⟨bq, bt, b3, m⟩ := h
  exact ⟨bq, bt, b3, m.star fit_sc fit_int ⟨fun i => i = w.heap.size, ⟨heap_alloc_new w _, rfl, fun i e => by subst e; show _ < (w.heap.push _).size; simp⟩, (Cha.refl _ w).alloc _, fun i e => by omega⟩⟩
theorem Sf.cha (h : Sf w0 w bs b k X z) : Cha (fun _ => False) w0 w := by obtain ⟨_, _, _, m⟩ := h; exact m.cha
theorem Sf.cells (h : Sf w0 w bs b k X z) : (∀ i, i < k → w.cell? ⟨b, i, none⟩ = some (.int .i64 (z i))) ∧ ∀ i, w.frozen? ⟨b, i, none⟩ = false := by
  obtain ⟨_, _, _, F, ⟨F1, F2, _, q, _⟩, _⟩ := h
  exact ⟨fun i hi => q.1.cell hi, fun i => q.1.free i⟩
theorem Sf.put (h : Sf w0 w bs b k X z) (g : Nat) (v : Int) : Sf w0 (w.setCell ⟨b, g, none⟩ (.int .i64 v)) bs b k X (up z g v) := by
  obtain ⟨bq, bt, b3, m⟩ := h
  refine ⟨bq, bt, b3, m.goes fun F q => Star.right fit_sc fit_int q fun F1 ⟨a, f, o⟩ => ?_⟩
  have cc := (Cha.refl F1 w).setCell (p := ⟨b, g, none⟩) (fun _ => f) (.int .i64 v)
  exact ⟨F1, ⟨a.set g v, f, fun i x => Nat.lt_of_lt_of_le (o i x) cc.size⟩, cc, fun _ x => .inl x⟩
theorem sf_act (h : Sf w0 w bs b k X z) (f : Fine 1000 X) (p : Nat) (s : Int) (hp : p < X.pr.length) (hn : X.on p = -1 ∨ 0 ≤ X.on p) (hr : 0 ≤ X.runs p) :
    Calls Try.prog 13 #[.pointer (some ⟨bs, 0, none⟩), .int .i64 (p : Int), .int .i64 s] w fun e w' => e = .returned (.tuple #[.int .i64 (X.act p s).1.1, .int .i64 (X.act p s).1.2, .int .i64 0]) ∧ Sf w0 w' bs b k (X.act p s).2 z := by
  obtain ⟨bq, bt, b3, m⟩ := h
  exact (m.step fun F q => Star.stepL fit_sc fit_int q fun F1 q1 => act_any q1 f p s hp hn hr).mono fun _ _ ⟨a, c⟩ => ⟨a, bq, bt, b3, c⟩
end
theorem made_one (v : Value) (hv : v.cells = #[v]) (m : Nat) : madeCells v.cells (m * 1) = fcells m fun _ => v := by
  rw [Nat.mul_one, hv]
  unfold madeCells fcells
  congr 1
  funext x
  show (#[v])[x % 1]! = _
  rw [Nat.mod_one]
  rfl
theorem info3' : (Try.prog.info? 3).map (fun i => (i.zero, i.size, i.bytes)) = some (some (.int .i64 0), 1, 8) := by kernel_rfl
theorem mk_ints (m : Nat) (hm : m ≤ 1000000) (W : World) : (Instr.makeSlice 43 (.int .i64 (m : Int)) (.int .i64 (m : Int))).run Try.prog W = .ok (.slice (some ⟨W.heap.size, 0, none⟩) m m) (W.alloc (.cells (fcells m fun _ => .int .i64 0) 3)) := by
  obtain ⟨i, hi, hz, hs, hb⟩ := info_parts info3'
  have h := run_make (P := Try.prog) W 43 3 i _ Try.underlying43 hi hz .i64 .i64 (m : Int) (m : Int) (by omega) (by omega) (by rw [hb]; omega) (by omega)
  rw [hs, Int.toNat_natCast, made_one _ rfl] at h
  exact h
theorem nz_le {X : Sx} {z : Nat → Int} {i : Nat} (h : ∀ x, 0 ≤ z x ∧ z x ≤ i) (x : Nat) : 0 ≤ nz X z i x ∧ nz X z i x ≤ i := by
  unfold nz
  split
  · unfold up
    split
    · omega
    · exact h x
  · exact h x
set_option maxHeartbeats 4000000 in
theorem fair_walk (n m : Nat) (w : World) : Calls Try.prog 4 #[.int .u8 (n : Int), .int .u16 (m : Int)] w fun e w' => e = .returned (.bool true) ∧ Cha (fun _ => False) w w' := by
  have C0 : Hid (Calls Try.prog 10 #[.int .i64 1] w fun e w' => ∃ bs, e = .returned (.tuple #[.pointer (some ⟨bs, 0, none⟩), .int .i64 0]) ∧ Sd w w' bs (fB 0)) := Lib.hid (sd_new 1 (Cha.refl _ w) (by decide) (by decide))
  have CW : Hid (∀ w1 bs X, Sd w w1 bs X → Calls Try.prog 11 #[] w1 fun e w' => e = .returned (.bool true) ∧ Sd w w' bs X) := Lib.hid fun w1 bs X h => (schawake_any w1).mono fun _ _ ⟨a, c⟩ => ⟨a, h.same c⟩
  obtain ⟨k, hk⟩ : ∃ k, k = n % 20 + 1 := ⟨_, rfl⟩
  have hk20 : k ≤ 20 := by omega
  have hk1 : 1 ≤ k := by omega
  obtain ⟨M, hM⟩ : ∃ M, M = m % 3000 := ⟨_, rfl⟩
  have hM3 : M ≤ 3000 := by omega
  have e0 : (n : Int) % 20 = ((k - 1 : Nat) : Int) := by omega
  have e1 : IntKind.i64.wrap (((k - 1 : Nat) : Int) + 1) = (k : Int) := by rw [IntWalk.i64_in _ (by omega)]; omega
  have e2 : (m : Int) % 3000 = (M : Int) := by omega
  have C1 : Hid (∀ w1 bs (j : Nat), j < k → Sd w w1 bs (fB j) → Calls Try.prog 12 #[.pointer (some ⟨bs, 0, none⟩), .int .i64 0] w1 fun e w' => e = .returned (.tuple #[.int .i64 (j : Int), .int .i64 0]) ∧ Sd w w' bs (fB (j + 1))) := Lib.hid fun w1 bs j hj h => by
    obtain ⟨o1, o2, -⟩ := ok_fk (k := j) (by omega)
    have f := wf_fB j (by omega)
    have := sd_begin h 0 (by rw [f.lpr]; decide) (by rw [f.lq]; decide) (by omega) (by omega)
    rw [o1] at this
    exact this
  have HM := Lib.hid fun W => mk_ints k (by omega) W
  have HS := Lib.hid fun w1 bs (h : Sd w w1 bs (fB k)) => sf_new h k
  have F0 := Lib.hid (fr_first hk20)
  have C2 : Hid (∀ w1 bs b (i : Nat) (z : Nat → Int) X O, Fr k i z X O → Sf w w1 bs b k X z → Calls Try.prog 13 #[.pointer (some ⟨bs, 0, none⟩), .int .i64 0, .int .i64 0] w1 fun e w' => e = .returned (.tuple #[.int .i64 (X.act 0 0).1.1, .int .i64 (X.act 0 0).1.2, .int .i64 0]) ∧ Sf w w' bs b k (X.act 0 0).2 z) := Lib.hid fun w1 bs b i z X O f h =>
    sf_act h f.wf.fine 0 0 (by rw [f.wf.lpr]; decide) (by
      by_cases c : X.on 0 = -1
      · exact .inl c
      · obtain ⟨g, e, -⟩ := f.wf.on (p := 0) (by decide) c
        exact .inr (by omega)) (f.wf.rn 0)
  have C3 := Lib.hid fun i (z : Nat → Int) X O (f : Fr k i z X O) => f.step hk1
  have HN := Lib.hid fun X (z : Nat → Int) (i : Nat) (h : ∀ x : Nat, 0 ≤ z x ∧ z x ≤ ((i : Nat) : Int)) => nz_le (X := X) h
  have HP := Lib.hid fun w1 bs b X (z : Nat → Int) (g : Nat) (v : Int) (h : Sf w w1 bs b k X z) => h.put g v
  have HZ := Lib.hid fun w1 bs b X (z : Nat → Int) (h : Sf w w1 bs b k X z) => h.cells
  have HC : Hid (∀ w1 bs b X (z : Nat → Int), Sf w w1 bs b k X z → Cha (fun _ => False) w w1) := Lib.hid fun _ _ _ _ _ h => h.cha
  have HN3 : Hid (∀ (X : Sx) (z : Nat → Int) (i : Nat), (X.act 0 0).1.1 = 3 → nz X z i = up z (X.act 0 0).1.2.toNat ((i : Nat) : Int)) := Lib.hid fun X z i h => by unfold nz; rw [if_pos h]
  have HN4 : Hid (∀ (X : Sx) (z : Nat → Int) (i : Nat), (X.act 0 0).1.1 ≠ 3 → nz X z i = z) := Lib.hid fun X z i h => by unfold nz; rw [if_neg h]
  clear hk hM
  go_enter Try.func4, Try.ntmps4
  go_wp2_with (first
    | (go_at_call 10; ((with_reducible refine (C0.out).mono ?_); rintro e w1 ⟨bs, rfl, hS⟩; have S1 := Lib.hid hS; clear hS))
    | (go_at_call 11; ((with_reducible refine (CW.out _ _ _ S1.out).mono ?_); rintro e w2 ⟨rfl, hS⟩; have S2 := Lib.hid hS; clear hS)))
  clear C0 CW S1
  rw [e0]
  clear e0
  go_loopw [33] (fun i wr => ∃ j : Nat, j ≤ k ∧ i = .int .i64 (j : Int) ∧ Sd w wr bs (fB j)) (fun i _ => k - (intOf i).toNat)
  case atStart => exact ⟨0, Nat.zero_le _, rfl, S2.out⟩
  case round =>
    clear S2
    obtain ⟨j, hj, rfl, hS⟩ := hrel
    by_cases hlt : j < k
    · have C := Lib.hid (C1.out _ _ j hlt hS)
      clear hS
      go_wp2_with (go_at_call 12; ((with_reducible refine (C.out).mono ?_); rintro e w3 ⟨rfl, hS⟩; have S3 := Lib.hid hS; clear hS))
      go_roundw
      case rel => exact ⟨j + 1, by omega, by go_num, S3.out⟩
      case measure => simp [intOf]; omega
    · obtain rfl : k = j := by omega
      have S3 := Lib.hid (HS.out _ _ hS)
      clear hS hlt hj C1 HS
      go_wp2_with (rw [HM.out])
      generalize wr.heap.size = b at *
      go_loopw [9, 10, 11, 12, 13, 66] (fun ix _ _ _ _ _ wr => ∃ i : Nat, i ≤ M ∧ ix = .int .i64 (i : Int) ∧ ∃ (z : Nat → Int) (X : Sx) (O : List Nat), Fr k i z X O ∧ (∀ x : Nat, 0 ≤ z x ∧ z x ≤ ((i : Nat) : Int)) ∧ Sf w wr bs b k X z) (fun ix _ _ _ _ _ _ => M - (intOf ix).toNat)
      case atStart => exact ⟨0, Nat.zero_le _, rfl, _, _, _, F0.out, fun _ => ⟨Int.le_refl _, Int.le_refl _⟩, S3.out⟩
      case round =>
        clear S3 F0
        obtain ⟨i, hi, rfl, z, X, O, hF, hz, hS⟩ := hrel
        by_cases hlt : i < M
        · have C := Lib.hid (C2.out _ _ _ _ _ _ _ hF hS)
          obtain ⟨s1, s2, ⟨O', s3⟩, s4⟩ := C3.out _ _ _ _ hF
          have hz2 := HN.out X z i hz
          have ZN : Hid (∀ x : Nat, 0 ≤ nz X z i x ∧ nz X z i x ≤ ((i + 1 : Nat) : Int)) := Lib.hid fun x => by have := hz2 x; push_cast; omega
          have ZB : Hid (∀ x : Nat, x < k → 0 ≤ nz X z i x ∧ nz X z i x ≤ (i : Int) ∧ (i : Int) - nz X z i x ≤ 18 * (k : Int)) := Lib.hid fun x hx => ⟨(hz2 x).1, (hz2 x).2, s4 x hx⟩
          have FR := Lib.hid s3
          by_cases h3 : (X.act 0 0).1.1 = 3
          · obtain ⟨g, hg, hgk⟩ := s2 h3
            have hnz := HN3.out X z i h3
            rw [hg, Int.toNat_natCast] at hnz
            rw [h3, hg] at C
            rw [hnz] at ZN ZB FR
            have k4 : (g : Int) < (k : Int) := by omega
            have PP := Lib.hid fun w1 h => HP.out w1 bs b (X.act 0 0).2 z g i h
            clear hF hS hz hz2 s1 s2 s3 s4 h3 hg hnz
            generalize (X.act 0 0).2 = X' at *
            go_wp2_with (go_at_call 13; ((with_reducible refine (C.out).mono ?_); rintro e w4 ⟨rfl, hS⟩; obtain ⟨q1, q2⟩ := HZ.out _ _ _ _ _ hS; have q3 := q1 g hgk; have SN := Lib.hid (PP.out _ hS); clear hS q1))
            have ZC := Lib.hid (HZ.out _ _ _ _ _ SN.out)
            clear q3
            go_loop [13, 66] (fun _ ix => ∃ h : Nat, h ≤ k ∧ ix = .int .i64 (h : Int)) (fun _ ix => k - (intOf ix).toNat)
            case atStart => exact ⟨0, Nat.zero_le _, rfl⟩
            case round =>
              obtain ⟨h, hh, rfl⟩ := hrel
              by_cases hlt2 : h < k
              · have zh := (ZC.out.1 h hlt2)
                obtain ⟨zb1, zb2, zb3⟩ := ZB.out h hlt2
                have e5 : IntKind.i64.wrap ((i : Int) - (up z g (i : Int)) h) = (i : Int) - (up z g (i : Int)) h := IntWalk.i64_in _ (by omega)
                have e6 : IntKind.i64.wrap ((k : Int) * 18) = (k : Int) * 18 := IntWalk.i64_in _ (by omega)
                have e7 : decide ((k : Int) * 18 < (i : Int) - (up z g (i : Int)) h) = false := by simp; omega
                have k1 : (h : Int) < (k : Int) := by omega
                have k2 : (0 : Int) ≤ (h : Int) := by omega
                go_wp2
                go_round
                case rel => exact ⟨h + 1, by omega, by go_num⟩
                case measure => simp [intOf]; omega
              · obtain rfl : h = k := by omega
                go_wp2
                go_roundw
                case rel => exact ⟨i + 1, by omega, by go_num, _, _, _, FR.out, ZN.out, SN.out⟩
                case measure => simp [intOf]; omega
          · have h4 : ((X.act 0 0).1.1 == 3) = false := by simpa using h3
            have h5 : ((X.act 0 0).1.1 == 1) = false := by simpa using s1
            have hnz := HN4.out X z i h3
            rw [hnz] at ZN ZB FR
            clear hF hS hz hz2 s1 s2 s3 s4 h3 hnz
            generalize (X.act 0 0).2 = X' at *
            generalize (X.act 0 0).1.1 = a1 at *
            generalize (X.act 0 0).1.2 = a2 at *
            go_wp2_with (go_at_call 13; ((with_reducible refine (C.out).mono ?_); rintro e w4 ⟨rfl, hS⟩; have SN := Lib.hid hS; clear hS))
            have ZC := Lib.hid (HZ.out _ _ _ _ _ SN.out)
            go_loop [13, 66] (fun _ ix => ∃ h : Nat, h ≤ k ∧ ix = .int .i64 (h : Int)) (fun _ ix => k - (intOf ix).toNat)
            case atStart => exact ⟨0, Nat.zero_le _, rfl⟩
            case round =>
              obtain ⟨h, hh, rfl⟩ := hrel
              by_cases hlt2 : h < k
              · have zh := (ZC.out.1 h hlt2)
                obtain ⟨zb1, zb2, zb3⟩ := ZB.out h hlt2
                have e5 : IntKind.i64.wrap ((i : Int) - z h) = (i : Int) - z h := IntWalk.i64_in _ (by omega)
                have e6 : IntKind.i64.wrap ((k : Int) * 18) = (k : Int) * 18 := IntWalk.i64_in _ (by omega)
                have e7 : decide ((k : Int) * 18 < (i : Int) - z h) = false := by simp; omega
                have k1 : (h : Int) < (k : Int) := by omega
                have k2 : (0 : Int) ≤ (h : Int) := by omega
                go_wp2
                go_round
                case rel => exact ⟨h + 1, by omega, by go_num⟩
                case measure => simp [intOf]; omega
              · obtain rfl : h = k := by omega
                go_wp2
                go_roundw
                case rel => exact ⟨i + 1, by omega, by go_num, _, _, _, FR.out, ZN.out, SN.out⟩
                case measure => simp [intOf]; omega
        · have hC := Lib.hid (HC.out _ _ _ _ _ hS)
          clear hF hS hz
          go_wp2
          go_returns
          exact ⟨rfl, hC.out⟩
end Go.Proofs.Ytaloafihbdamiaa
