/- SchedOnce: the law's own 'all'. -/
import Derived.Test.YtaloafihbdamiaaSP
import Derived.Test.YtaloafihbdamiaaVC
namespace Go.Proofs.Ytaloafihbdamiaa
open Go.ChangeShapes Go.WideShapes Go.ChangeAt Go.RowKit
def BoA (b : Nat) (sn : Nat → Bool) : Asn := fun w F => FRow 76 w b 64 (fun i => .bool (sn i)) ∧ F b ∧ ∀ i, F i → i < w.heap.size
theorem fit_bo {b : Nat} {sn : Nat → Bool} : Fit (BoA b sn) := ⟨fun ⟨h, f, o⟩ c hs => ⟨c.row h (hs b f), f, fun i x => Nat.lt_of_lt_of_le (o i x) c.size⟩, fun ⟨_, _, o⟩ => o⟩
def Sb (w0 w : World) (bs b : Nat) (X : Sx) (sn : Nat → Bool) : Prop := ∃ bq bt b3, Mine w0 (Star (ScA bs bq bt b3 X) (BoA b sn)) w
section
variable {w0 w w' : World} {bs b : Nat} {X : Sx} {sn : Nat → Bool}
theorem sb_new (h : Sd w0 w bs X) : Sb w0 (w.alloc (.cells (fcells 64 fun _ => .bool false) 76)) bs w.heap.size X (fun _ => false) := by
  obtain ⟨bq, bt, b3, m⟩ := h
  exact ⟨bq, bt, b3, m.star fit_sc fit_bo ⟨fun i => i = w.heap.size, ⟨heap_alloc_new w _, rfl, fun i e => by subst e; show _ < (w.heap.push _).size; simp⟩, (Cha.refl _ w).alloc _, fun i e => by omega⟩⟩
theorem Sb.cha (h : Sb w0 w bs b X sn) : Cha (fun _ => False) w0 w := by obtain ⟨_, _, _, m⟩ := h; exact m.cha
theorem Sb.cells (h : Sb w0 w bs b X sn) : (∀ i, i < 64 → w.cell? ⟨b, i, none⟩ = some (.bool (sn i))) ∧ ∀ i, w.frozen? ⟨b, i, none⟩ = false := by
  obtain ⟨_, _, _, F, ⟨F1, F2, _, q, _⟩, _⟩ := h
  exact ⟨fun i hi => q.1.cell hi, fun i => q.1.free i⟩
theorem Sb.put (h : Sb w0 w bs b X sn) (g : Nat) : Sb w0 (w.setCell ⟨b, g, none⟩ (.bool true)) bs b X (fun i => if i = g then true else sn i) := by
  obtain ⟨bq, bt, b3, m⟩ := h
  refine ⟨bq, bt, b3, m.goes fun F q => Star.right fit_sc fit_bo q fun F1 ⟨a, f, o⟩ => ?_⟩
  have cc := (Cha.refl F1 w).setCell (p := ⟨b, g, none⟩) (fun _ => f) (.bool true)
  refine ⟨F1, ⟨(a.set (i := g) (.bool true)).congr fun i _ => ?_, f, fun i x => Nat.lt_of_lt_of_le (o i x) cc.size⟩, cc, fun _ x => .inl x⟩
  show (if i = g then Value.bool true else Value.bool (sn i)) = Value.bool (if i = g then true else sn i)
  split <;> rfl
theorem Sb.step {X' : Sx} {f : FuncId} {args : Array Value} {v : Ending} (h : Sb w0 w bs b X sn) (k : ∀ bq bt b3 F, ScA bs bq bt b3 X w F → Calls Try.prog f args w fun e w' => e = v ∧ Goes (ScA bs bq bt b3 X') w w' F) : Calls Try.prog f args w fun e w' => e = v ∧ Sb w0 w' bs b X' sn := by
  obtain ⟨bq, bt, b3, m⟩ := h
  exact (m.step fun F q => Star.stepL fit_sc fit_bo q fun F1 q1 => k bq bt b3 F1 q1).mono fun _ _ ⟨a, c⟩ => ⟨a, bq, bt, b3, c⟩
theorem Sb.look {f : FuncId} {args : Array Value} {v : Ending} (h : Sb w0 w bs b X sn) (k : ∀ bq bt b3 F, ScA bs bq bt b3 X w F → Calls Try.prog f args w fun e w' => e = v ∧ Cha (fun _ => False) w w') : Calls Try.prog f args w fun e w' => e = v ∧ Sb w0 w' bs b X sn := by
  obtain ⟨bq, bt, b3, m⟩ := h
  exact (m.look (fit_sc.star fit_bo) fun F ⟨F1, F2, q, r⟩ => k bq bt b3 F1 q).mono fun _ _ ⟨a, c⟩ => ⟨a, bq, bt, b3, c⟩
theorem Sb.see {f : FuncId} {args : Array Value} {v : Ending} (h : Sb w0 w bs b X sn) (k : ∀ bq bt b3 F, ScA bs bq bt b3 X w F → Calls Try.prog f args w fun e w' => e = v ∧ w = w') : Calls Try.prog f args w fun e w' => e = v ∧ w = w' := by
  obtain ⟨bq, bt, b3, F, ⟨F1, F2, q, r⟩, -⟩ := h
  exact k bq bt b3 F1 q
end
/-- Who was seen is dead. -/
def Seen (X : Sx) (sn : Nat → Bool) : Prop := ∀ g, sn g = true → (X.gs.getD g (0, false)).1 = 3
/-- Is one of the first processors at work? -/
def some_on (X : Sx) (p : Nat) : Bool := (List.range p).any fun q => decide (0 ≤ X.on q)
theorem some_on_zero (X : Sx) : some_on X 0 = false := rfl
theorem some_on_succ (X : Sx) (p : Nat) : some_on X (p + 1) = (some_on X p || decide (0 ≤ X.on p)) := by
  unfold some_on
  rw [List.range_succ, List.any_append]
  simp
theorem some_on_no {X : Sx} {p : Nat} (h : some_on X p = false) : ∀ q, q < p → ¬ 0 ≤ X.on q := fun q hq => by
  unfold some_on at h
  have := (List.any_eq_false.1 h) q (List.mem_range.2 hq)
  simpa using this
theorem some_on_yes {X : Sx} {p : Nat} (h : some_on X p = true) : ∃ q, q < p ∧ 0 ≤ X.on q := by
  unfold some_on at h
  obtain ⟨q, hq, h2⟩ := List.any_eq_true.1 h
  exact ⟨q, List.mem_range.1 hq, by simpa using h2⟩
set_option maxRecDepth 100000 in
set_option maxHeartbeats 4000000 in
theorem all_walk (n : Nat) (X : Sx) (w0 w : World) (bs : Nat) (h8 : n ≤ 8) (hw : Wf n X) (hS : Sd w0 w bs X) :
    Calls Try.prog 22 #[.pointer (some ⟨bs, 0, none⟩), .int .i64 (n : Int)] w fun e w' => e = .returned (.bool true) ∧ Cha (fun _ => False) w0 w' := by
  have S0 := Lib.hid (sb_new hS)
  have CC : Hid (∀ w1 b Y sn, Wf n Y → Sb w0 w1 bs b Y sn → Calls Try.prog 23 #[.pointer (some ⟨bs, 0, none⟩)] w1 fun e w' => ∃ c m : Int, e = .returned (.tuple #[.int .u64 c, .int .i64 (ab Y : Nat), .int .i64 m]) ∧ Sb w0 w' bs b Y sn) := Lib.hid fun w1 b Y sn wf h =>
    (h.look fun bq bt b3 F q => counts_any q (by have := wf.tle; omega)).mono fun e w' ⟨a, k⟩ => ⟨Y.clk, ((many Y.P : Nat) : Int), by rw [a, able_ab], k⟩
  have CU : Hid (∀ w1 b Y sn (p : Nat), p < n → Wf n Y → Sb w0 w1 bs b Y sn → Calls Try.prog 15 #[.pointer (some ⟨bs, 0, none⟩), .int .i64 (p : Int)] w1 fun e w' => e = .returned (.int .i64 (Y.on p)) ∧ w1 = w') := Lib.hid fun w1 b Y sn p hp wf h => h.see fun bq bt b3 F q => current_any q p (by rw [wf.lpr]; exact hp)
  have CI : Hid (∀ w1 b Y sn (p : Nat), p < n → Wf n Y → Y.on p = -1 → Sb w0 w1 bs b Y sn → Calls Try.prog 19 #[.pointer (some ⟨bs, 0, none⟩), .int .i64 (p : Int)] w1 fun e w' => e = .returned (.int .i64 4) ∧ Sb w0 w' bs b Y sn) := Lib.hid fun w1 b Y sn p hp wf ho h => h.look fun bq bt b3 F q => end_of _ _ (stop_idle q p 3 false (by rw [wf.lpr]; exact hp) ho) ⟨_, rfl⟩
  have CE : Hid (∀ w1 b Y sn (p g : Nat), p < n → Wf n Y → Y.on p = (g : Int) → g < Y.gs.length → Sb w0 w1 bs b Y sn → Calls Try.prog 19 #[.pointer (some ⟨bs, 0, none⟩), .int .i64 (p : Int)] w1 fun e w' => e = .returned (.int .i64 0) ∧ Sb w0 w' bs b (Y.stp p (3, false)) sn) := Lib.hid fun w1 b Y sn p g hp wf ho hg h => h.step fun bq bt b3 F q => end_of _ _ (stop_any q p g 3 false (by rw [wf.lpr]; exact hp) ho hg) ⟨_, rfl⟩
  have CA : Hid (∀ w1 b Y sn (p : Nat), p < n → Wf n Y → Y.on p = -1 → Sb w0 w1 bs b Y sn → Calls Try.prog 13 #[.pointer (some ⟨bs, 0, none⟩), .int .i64 (p : Int), .int .i64 0] w1 fun e w' => e = .returned (.tuple #[.int .i64 (Y.act p 0).1.1, .int .i64 (Y.act p 0).1.2, .int .i64 0]) ∧ Sb w0 w' bs b (Y.act p 0).2 sn) := Lib.hid fun w1 b Y sn p hp wf ho h => h.step fun bq bt b3 F q => act_any q wf.fine p 0 (by rw [wf.lpr]; exact hp) (.inl ho) (wf.rn p)
  have CG : Hid (∀ w1 b Y sn (g : Nat), g < Y.gs.length → (Y.gs.getD g (0, false)).1 = 1 → Sb w0 w1 bs b Y sn → Calls Try.prog 14 #[.pointer (some ⟨bs, 0, none⟩), .int .i64 (g : Int)] w1 fun e w' => e = .returned (.int .i64 1) ∧ w1 = w') := Lib.hid fun w1 b Y sn g hg hs h => by
    have := h.see fun bq bt b3 F q => state_any q g hg
    rw [hs] at this; exact this
  have HP := Lib.hid fun w1 b Y sn (g : Nat) (h : Sb w0 w1 bs b Y sn) => h.put g
  have HZ := Lib.hid fun w1 b Y sn (h : Sb w0 w1 bs b Y sn) => h.cells
  have HC : Hid (∀ w1 b Y sn, Sb w0 w1 bs b Y sn → Cha (fun _ => False) w0 w1) := Lib.hid fun _ _ _ _ h => h.cha
  have HW := Lib.hid hw
  have hn1 := hw.n1
  have HA := Lib.hid (al_le hw)
  have EB : Hid ((#[Value.bool false, .bool false, .bool false, .bool false, .bool false, .bool false, .bool false, .bool false, .bool false, .bool false, .bool false, .bool false, .bool false, .bool false, .bool false, .bool false, .bool false, .bool false, .bool false, .bool false, .bool false, .bool false, .bool false, .bool false, .bool false, .bool false, .bool false, .bool false, .bool false, .bool false, .bool false, .bool false, .bool false, .bool false, .bool false, .bool false, .bool false, .bool false, .bool false, .bool false, .bool false, .bool false, .bool false, .bool false, .bool false, .bool false, .bool false, .bool false, .bool false, .bool false, .bool false, .bool false, .bool false, .bool false, .bool false, .bool false, .bool false, .bool false, .bool false, .bool false, .bool false, .bool false, .bool false, .bool false] : Array Value) = fcells 64 fun _ => .bool false) := Lib.hid (by kernel_rfl)
  clear hw hS
  go_enter Try.func22, Try.ntmps22
  have C0 := Lib.hid (CC.out _ _ X _ HW.out S0.out)
  go_wp2_with (go_at_call 23; (rw [EB.out]; (with_reducible refine (C0.out).mono ?_); rintro e w1 ⟨c0, m0, rfl, hS⟩; have S1 := Lib.hid hS; clear hS))
  generalize w.heap.size = b at *
  clear S0 C0
  go_loopw [9, 10, 11, 12, 13, 14, 15, 16, 17, 18, 28, 31, 56, 76] (fun gv _ _ _ _ _ _ _ _ _ rv _ _ _ wr => ∃ (r got : Nat) (Y : Sx) (sn : Nat → Bool), rv = .int .i64 (r : Int) ∧ gv = .int .i64 (got : Int) ∧ Wf n Y ∧ Seen Y sn ∧ ab X ≤ ab Y + got ∧ got + al Y ≤ 64 ∧ al Y + r ≤ 65 ∧ (r = 0 ∨ ∃ q, q < n ∧ Y.on q ≠ -1) ∧ Sb w0 wr bs b Y sn) (fun _ _ _ _ _ _ _ _ _ _ rv _ _ _ _ => 140 - (intOf rv).toNat)
  case atStart => exact ⟨0, 0, X, _, rfl, rfl, HW.out, (fun g h => absurd h Bool.false_ne_true), Nat.le_refl _, by have := HA.out; omega, by have := HA.out; omega, .inl rfl, S1.out⟩
  case round =>
    clear S1 HW
    obtain ⟨r, got, Y, sn, rfl, rfl, hw, hsn, hab, hgot, hal, hbz, hS⟩ := hrel
    have hr : (r : Int) < 140 := by omega
    have PX : Hid (Wf n Y ∧ Seen Y sn ∧ ab X ≤ ab Y + got ∧ got + al Y ≤ 64 ∧ al Y + r ≤ 65 ∧ (r = 0 ∨ ∃ q, q < n ∧ Y.on q ≠ -1) ∧ Sb w0 wr bs b Y sn) := Lib.hid ⟨hw, hsn, hab, hgot, hal, hbz, hS⟩
    have hr65 : r ≤ 65 := by omega
    clear hw hsn hab hgot hal hbz hS
    go_wp2
    go_loopw [9, 10, 11, 31] (fun gv _ _ pv wr => ∃ (p got : Nat) (Y : Sx) (sn : Nat → Bool), p ≤ n ∧ pv = .int .i64 (p : Int) ∧ gv = .int .i64 (got : Int) ∧ Wf n Y ∧ Seen Y sn ∧ ab X ≤ ab Y + got ∧ got + al Y ≤ 64 ∧ al Y + r ≤ 65 ∧ (∀ q, q < p → Y.on q = -1) ∧ (r = 0 ∨ (∃ q, p ≤ q ∧ q < n ∧ Y.on q ≠ -1) ∨ al Y + r ≤ 64) ∧ Sb w0 wr bs b Y sn) (fun _ _ _ pv _ => n - (intOf pv).toNat)
    case atStart =>
      obtain ⟨x1, x2, x3, x4, x5, x6, x7⟩ := PX.out
      exact ⟨0, got, Y, sn, Nat.zero_le _, rfl, rfl, x1, x2, x3, x4, x5, (fun q hq => absurd hq (Nat.not_lt_zero _)), x6.imp id fun ⟨q, a, c⟩ => .inl ⟨q, Nat.zero_le _, a, c⟩, x7⟩
    case round =>
      clear PX
      obtain ⟨p, got, Y, sn, hp, rfl, rfl, hw, hsn, hab, hgot, hal, hlo, hbz, hS⟩ := hrel
      by_cases hlt : p < n
      · have C := Lib.hid (CU.out _ _ Y sn p hlt hw hS)
        have k1 : (p : Int) < (n : Int) := by omega
        have k2 : (0 : Int) ≤ (p : Int) := by omega
        by_cases ho : Y.on p = -1
        · have D := Lib.hid fun w1 => CI.out w1 b Y sn p hlt hw ho
          have PX : Hid (Wf n Y ∧ Seen Y sn ∧ ab X ≤ ab Y + got ∧ got + al Y ≤ 64 ∧ al Y + r ≤ 65 ∧ (∀ q, q < p + 1 → Y.on q = -1) ∧ (r = 0 ∨ (∃ q, p + 1 ≤ q ∧ q < n ∧ Y.on q ≠ -1) ∨ al Y + r ≤ 64) ∧ Sb w0 wr bs b Y sn) := Lib.hid ⟨hw, hsn, hab, hgot, hal, (fun q hq => by
            by_cases e : q = p
            · rw [e]; exact ho
            · exact hlo q (by omega)), (by
            rcases hbz with h | ⟨q, h1, h2, h3⟩ | h
            · exact .inl h
            · refine .inr (.inl ⟨q, ?_, h2, h3⟩)
              by_cases e : q = p
              · rw [e] at h3; exact absurd ho h3
              · omega
            · exact .inr (.inr h)), hS⟩
          rw [ho] at C
          clear hw hsn hab hgot hal hlo hbz hS ho D
          go_wp2_with (go_at_call 15; ((with_reducible refine (C.out).mono ?_); rintro e w2 ⟨rfl, rfl⟩))
          go_roundw
          case rel =>
            obtain ⟨x1, x2, x3, x4, x5, x6, x7, x8⟩ := PX.out
            exact ⟨p + 1, got, Y, sn, by omega, by go_num, rfl, x1, x2, x3, x4, x5, x6, x7, x8⟩
          case measure => simp [intOf]; omega
        · obtain ⟨g, hg, hgl, hgs⟩ := hw.on hlt ho
          have g64 : g < 64 := by have := hw.g64; omega
          have hsg : sn g = false := by
            cases hh : sn g with
            | false => rfl
            | true => have := hsn g hh; rw [hgs] at this; exact absurd this (by decide)
          obtain ⟨e1, e2, e3, e4, e5, e6, e7⟩ := ended hw hlt hg hgl hgs
          rw [hg] at C
          have D := Lib.hid fun w1 => CE.out w1 b Y (fun i => if i = g then true else sn i) p g hlt hw hg hgl
          have PP := Lib.hid (HP.out wr b Y sn g hS)
          obtain ⟨z1, z2⟩ := HZ.out _ _ _ _ hS
          have z3 := z1 g g64
          rw [hsg] at z3
          have hA1 : 1 ≤ al Y := by omega
          have PX : Hid (Wf n (Y.stp p (3, false)) ∧ Seen (Y.stp p (3, false)) (fun i => if i = g then true else sn i) ∧ ab X ≤ ab (Y.stp p (3, false)) + (got + 1) ∧ got + 1 + al (Y.stp p (3, false)) ≤ 64 ∧ al (Y.stp p (3, false)) + r ≤ 64 ∧ (∀ q, q < p + 1 → (Y.stp p (3, false)).on q = -1)) := Lib.hid ⟨e1, (fun i hi => by
            by_cases c : i = g
            · rw [c]; exact e5
            · have hi : (if i = g then true else sn i) = true := hi
              rw [if_neg c] at hi; exact e4 i (hsn i hi)), by omega, by omega, by omega, (fun q hq => by
            rw [e7 q]
            split
            · rfl
            · exact hlo q (by omega))⟩
          have kg : (g : Int) < 64 := by omega
          have kg0 : (0 : Int) ≤ (g : Int) := by omega
          have kw : IntKind.i64.wrap ((got : Int) + 1) = ((got + 1 : Nat) : Int) := by rw [IntWalk.i64_in _ (by omega)]; push_cast; rfl
          clear hw hsn hab hgot hal hlo hbz hS ho hg hgl hgs e1 e2 e3 e4 e5 e6 e7 z1 hsg hA1
          generalize Y.stp p (3, false) = Z at *
          go_wp2_with (first
            | (go_at_call 15; ((with_reducible refine (C.out).mono ?_); rintro e w2 ⟨rfl, rfl⟩))
            | (go_at_call 19; ((with_reducible refine (D.out _ PP.out).mono ?_); rintro e w3 ⟨rfl, hS⟩; have S3 := Lib.hid hS; clear hS)))
          go_roundw
          case rel =>
            obtain ⟨x1, x2, x3, x4, x5, x6⟩ := PX.out
            exact ⟨p + 1, got + 1, Z, _, by omega, by go_num, rfl, x1, x2, x3, x4, by omega, x6, .inr (.inr x5), S3.out⟩
          case measure => simp [intOf]; omega
      · obtain rfl : p = n := by omega
        have PX : Hid (Wf p Y ∧ Seen Y sn ∧ ab X ≤ ab Y + got ∧ got + al Y ≤ 64 ∧ al Y + r ≤ 64 ∧ (∀ q, q < p → Y.on q = -1) ∧ Sb w0 wr bs b Y sn) := Lib.hid ⟨hw, hsn, hab, hgot, (by
          rcases hbz with h | ⟨q, h1, h2, h3⟩ | h
          · have := al_le hw; omega
          · omega
          · exact h), hlo, hS⟩
        have hgot2 : got ≤ 64 := by omega
        clear hw hsn hab hgot hal hlo hbz hS hlt hp
        go_wp2
        go_loopw [13, 14, 15, 16, 56] (fun _ _ _ _ pv wr => ∃ (q : Nat) (Y : Sx), q ≤ p ∧ pv = .int .i64 (q : Int) ∧ Wf p Y ∧ Seen Y sn ∧ ab X ≤ ab Y + got ∧ got + al Y ≤ 64 ∧ al Y + r ≤ 64 ∧ (∀ v, q ≤ v → v < p → Y.on v = -1) ∧ (q = 0 ∨ (Y.on (q - 1) = -1 → ∀ F : Int → Nat, wt F Y.Q.1 Y.Q.2 = 0)) ∧ Sb w0 wr bs b Y sn) (fun _ _ _ _ pv _ => p - (intOf pv).toNat)
        case atStart =>
          obtain ⟨x1, x2, x3, x4, x5, x6, x7⟩ := PX.out
          exact ⟨0, Y, Nat.zero_le _, rfl, x1, x2, x3, x4, x5, (fun v _ hv => x6 v hv), .inl rfl, x7⟩
        case round =>
          clear PX
          obtain ⟨q, Y, hq, rfl, hw, hsn, hab, hgot, hal, hid, hno, hS⟩ := hrel
          by_cases hlt : q < p
          · have ho := hid q (Nat.le_refl _) hlt
            have C := CA.out _ _ Y sn q hlt hw ho hS
            obtain ⟨⟨a1, a2, a3, a4, -⟩, ac⟩ := acted hw hlt 0 ho
            have k1 : (q : Int) < (p : Int) := by omega
            have k2 : (0 : Int) ≤ (q : Int) := by omega
            have PX : Hid (Wf p (Y.act q 0).2 ∧ Seen (Y.act q 0).2 sn ∧ ab X ≤ ab (Y.act q 0).2 + got ∧ got + al (Y.act q 0).2 ≤ 64 ∧ al (Y.act q 0).2 + r ≤ 64 ∧ (∀ v, q + 1 ≤ v → v < p → (Y.act q 0).2.on v = -1) ∧ (q + 1 = 0 ∨ ((Y.act q 0).2.on (q + 1 - 1) = -1 → ∀ F : Int → Nat, wt F (Y.act q 0).2.Q.1 (Y.act q 0).2.Q.2 = 0))) := Lib.hid ⟨a1, (fun g hg => a2.dead g (hsn g hg)), (by have := a2.abl; omega), (by rw [a2.alv]; exact hgot), (by rw [a2.alv]; exact hal), (fun v h1 h2 => by rw [a3 v (by omega)]; exact hid v (by omega) h2), .inr a4⟩
            rcases ac with ⟨g, e, -, hg, hs⟩ | e
            · rw [e] at C
              have D := Lib.hid fun w1 => CG.out w1 b (Y.act q 0).2 sn g hg hs
              have C : Hid (Calls Try.prog 13 #[.pointer (some ⟨bs, 0, none⟩), .int .i64 (q : Int), .int .i64 0] wr fun e w' => e = .returned (.tuple #[.int .i64 2, .int .i64 (g : Int), .int .i64 0]) ∧ Sb w0 w' bs b (Y.act q 0).2 sn) := Lib.hid C
              clear hw hsn hab hgot hal hid hno hS ho a1 a2 a3 a4 e hg hs
              generalize (Y.act q 0).2 = Z at *
              go_wp2_with (first
                | (go_at_call 13; ((with_reducible refine (C.out).mono ?_); rintro e w2 ⟨rfl, hS⟩; have S2 := Lib.hid hS; clear hS))
                | (go_at_call 14; ((with_reducible refine (D.out _ S2.out).mono ?_); rintro e w3 ⟨rfl, rfl⟩)))
              go_roundw
              case rel =>
                obtain ⟨x1, x2, x3, x4, x5, x6, x7⟩ := PX.out
                exact ⟨q + 1, Z, by omega, by go_num, x1, x2, x3, x4, x5, x6, x7, S2.out⟩
              case measure => simp [intOf]; omega
            · rw [e] at C
              have C : Hid (Calls Try.prog 13 #[.pointer (some ⟨bs, 0, none⟩), .int .i64 (q : Int), .int .i64 0] wr fun e w' => e = .returned (.tuple #[.int .i64 1, .int .i64 0, .int .i64 0]) ∧ Sb w0 w' bs b (Y.act q 0).2 sn) := Lib.hid C
              clear hw hsn hab hgot hal hid hno hS ho a1 a2 a3 a4 e
              generalize (Y.act q 0).2 = Z at *
              go_wp2_with (go_at_call 13; ((with_reducible refine (C.out).mono ?_); rintro e w2 ⟨rfl, hS⟩; have S2 := Lib.hid hS; clear hS))
              go_roundw
              case rel =>
                obtain ⟨x1, x2, x3, x4, x5, x6, x7⟩ := PX.out
                exact ⟨q + 1, Z, by omega, by go_num, x1, x2, x3, x4, x5, x6, x7, S2.out⟩
              case measure => simp [intOf]; omega
          · obtain rfl : q = p := by omega
            have HB := Lib.hid fun v => some_on_succ Y v
            have CD := Lib.hid fun v (hv : v < q) => CU.out wr b Y sn v hv hw hS
            have hnw : some_on Y q = false → ab Y = 0 := fun h => none_ready hw (fun v hv => by
              apply Classical.byContradiction
              intro c
              obtain ⟨i, hi, -⟩ := hw.on hv c
              exact some_on_no h v hv (by omega)) (by
              rcases hno with h0 | h1
              · omega
              · refine h1 ?_
                apply Classical.byContradiction
                intro c
                obtain ⟨i, hi, -⟩ := hw.on (p := q - 1) (by omega) c
                exact some_on_no h (q - 1) (by omega) (by omega))
            have PX : Hid (Wf q Y ∧ Seen Y sn ∧ ab X ≤ ab Y + got ∧ got + al Y ≤ 64 ∧ al Y + (r + 1) ≤ 65 ∧ (some_on Y q = true → ∃ v, v < q ∧ Y.on v ≠ -1) ∧ (some_on Y q = false → ab Y = 0) ∧ Sb w0 wr bs b Y sn) := Lib.hid ⟨hw, hsn, hab, hgot, by omega, (fun h => by
              obtain ⟨v, h1, h2⟩ := some_on_yes h
              exact ⟨v, h1, by omega⟩), hnw, hS⟩
            have CF := Lib.hid fun w1 => CC.out w1 b Y sn hw
            clear hw hsn hab hgot hal hid hno hS hlt hq hnw
            go_wp2
            go_loopw [17, 18, 76] (fun bv _ vv W => ∃ v : Nat, v ≤ q ∧ vv = .int .i64 (v : Int) ∧ bv = .bool (some_on Y v) ∧ W = wr) (fun _ _ vv _ => q - (intOf vv).toNat)
            case atStart => exact ⟨0, Nat.zero_le _, rfl, rfl, rfl⟩
            case round =>
              obtain ⟨v, hv, rfl, rfl, rfl⟩ := hrel
              by_cases hlt : v < q
              · have k1 : (v : Int) < (q : Int) := by omega
                have k2 : (0 : Int) ≤ (v : Int) := by omega
                have C := Lib.hid (CD.out v hlt)
                have hsu := HB.out v
                cases hb : some_on Y v with
                | true =>
                  rw [hb] at hsu
                  have hsu : some_on Y (v + 1) = true := hsu
                  go_wp2
                  go_roundw
                  case rel => exact ⟨v + 1, by omega, by go_num, by rw [hsu], by first | rfl | exact trivial⟩
                  case measure => simp [intOf]; omega
                | false =>
                  rw [hb] at hsu
                  have hsu : some_on Y (v + 1) = decide (0 ≤ Y.on v) := hsu
                  generalize Y.on v = z at *
                  go_wp2_with (go_at_call 15; ((with_reducible refine (C.out).mono ?_); rintro e w2 ⟨rfl, rfl⟩))
                  go_roundw
                  case rel => exact ⟨v + 1, by omega, by go_num, by rw [hsu], by first | rfl | exact trivial⟩
                  case measure => simp [intOf]; omega
              · obtain rfl : v = q := by omega
                cases hb : some_on Y v with
                | true =>
                  go_wp2
                  go_roundw
                  case rel =>
                    obtain ⟨x1, x2, x3, x4, x5, x6, x7, x8⟩ := PX.out
                    exact ⟨r + 1, got, Y, sn, by go_num, rfl, x1, x2, x3, x4, x5, .inr (x6 hb), x8⟩
                  case measure => simp [intOf]; omega
                | false =>
                  have C := Lib.hid (CF.out _ PX.out.2.2.2.2.2.2.2)
                  have h0 := PX.out.2.2.2.2.2.2.1 hb
                  have h1 := PX.out.2.2.1
                  rw [h0] at C
                  have h1 : ab X ≤ got := by omega
                  clear PX h0
                  generalize ab X = A at *
                  go_wp2_with (go_at_call 23; ((with_reducible refine (C.out).mono ?_); rintro e w2 ⟨c1, m1, rfl, hS⟩; have S2 := Lib.hid hS; clear hS))
                  go_returns
                  exact ⟨by first | (rw [decide_eq_true h1]; rfl) | (rw [decide_eq_true (show (A : Int) ≤ (got : Int) by omega)]; rfl) | (simp [h1]), HC.out _ _ _ _ S2.out⟩
end Go.Proofs.Ytaloafihbdamiaa
