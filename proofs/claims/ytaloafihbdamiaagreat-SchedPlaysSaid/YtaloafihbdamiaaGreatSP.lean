/- A scheduler that was made since a world; awake; SchedNone. -/
import Derived.Test.YtaloafihbdamiaaGreatSO
namespace Go.Proofs.YtaloafihbdamiaaGreat
open Go.ChangeShapes Go.WideShapes Go.ChangeAt Go.RowKit
/-- A scheduler at bs, made since w0. -/
def Sd (w0 w : World) (bs : Nat) (X : Sx) : Prop := ∃ bq bt b3, Mine w0 (ScA bs bq bt b3 X) w
section
variable {w0 w w' : World} {bs : Nat} {X : Sx}
theorem Sd.cha (h : Sd w0 w bs X) : Cha (fun _ => False) w0 w := by obtain ⟨bq, bt, b3, m⟩ := h; exact m.cha
theorem Sd.same (h : Sd w0 w bs X) (c : Cha (fun _ => False) w w') : Sd w0 w' bs X := by obtain ⟨bq, bt, b3, m⟩ := h; exact ⟨bq, bt, b3, m.same fit_sc c⟩
theorem sd_is {X' : Sx} (h : Sd w0 w bs X) (e : X = X') : Sd w0 w bs X' := e ▸ h
theorem Sd.step {X' : Sx} {f : FuncId} {args : Array Value} {v : Ending} (h : Sd w0 w bs X) (k : ∀ bq bt b3 F, ScA bs bq bt b3 X w F → Calls Tryz.prog f args w fun e w' => e = v ∧ Goes (ScA bs bq bt b3 X') w w' F) : Calls Tryz.prog f args w fun e w' => e = v ∧ Sd w0 w' bs X' := by
  obtain ⟨bq, bt, b3, m⟩ := h
  exact (m.step fun F q => k bq bt b3 F q).mono fun _ _ ⟨a, b⟩ => ⟨a, bq, bt, b3, b⟩
theorem Sd.look {f : FuncId} {args : Array Value} {v : Ending} (h : Sd w0 w bs X) (k : ∀ bq bt b3 F, ScA bs bq bt b3 X w F → Calls Tryz.prog f args w fun e w' => e = v ∧ Cha (fun _ => False) w w') : Calls Tryz.prog f args w fun e w' => e = v ∧ Sd w0 w' bs X := by
  obtain ⟨bq, bt, b3, m⟩ := h
  exact (m.look fit_sc fun F q => k bq bt b3 F q).mono fun _ _ ⟨a, b⟩ => ⟨a, bq, bt, b3, b⟩
theorem Sd.see {f : FuncId} {args : Array Value} {v : Ending} (h : Sd w0 w bs X) (k : ∀ bq bt b3 F, ScA bs bq bt b3 X w F → Calls Tryz.prog f args w fun e w' => e = v ∧ w = w') : Calls Tryz.prog f args w fun e w' => e = v ∧ w = w' := by
  obtain ⟨bq, bt, b3, F, q, -⟩ := h
  exact k bq bt b3 F q
theorem sd_new (n : Nat) (hc : Cha (fun _ => False) w0 w) (h1 : 1 ≤ n) (h2 : n ≤ 8) : Calls Tryz.prog 4 #[.int .i64 (n : Int)] w fun e w' => ∃ bs, e = .returned (.tuple #[.pointer (some ⟨bs, 0, none⟩), .int .i64 0]) ∧ Sd w0 w' bs (Sx.ini n) :=
  (schnew_ok n w h1 h2).mono fun _ _ ⟨bs, bq, bt, b3, a, m⟩ => ⟨bs, a, bq, bt, b3, Mine.before hc m⟩
theorem sd_begin (h : Sd w0 w bs X) (p : Nat) (hp : p < X.pr.length) (hq : p < X.Q.1.length) (hg : X.gs.length < 64) (hA : X.Q.2.length ≤ 1000) :
    Calls Tryz.prog 18 #[.pointer (some ⟨bs, 0, none⟩), .int .i64 (p : Int)] w fun e w' => e = .returned (.tuple #[.int .i64 (X.gs.length : Nat), .int .i64 0]) ∧ Sd w0 w' bs (X.beg p) :=
  h.step fun _ _ _ _ q => begin_any q p hp hq hg (by omega)
theorem sd_full (h : Sd w0 w bs X) (p : Nat) (hp : p < X.pr.length) (hg : X.gs.length = 64) :
    Calls Tryz.prog 18 #[.pointer (some ⟨bs, 0, none⟩), .int .i64 (p : Int)] w fun e w' => e = .returned (.tuple #[.int .i64 0, .int .i64 3]) ∧ w = w' := h.see fun _ _ _ _ q => begin_full q p hp hg
theorem sd_act (h : Sd w0 w bs X) (f : Fine 1000 X) (p : Nat) (s : Int) (hp : p < X.pr.length) (hn : X.on p = -1 ∨ 0 ≤ X.on p) (hr : 0 ≤ X.runs p) :
    Calls Tryz.prog 19 #[.pointer (some ⟨bs, 0, none⟩), .int .i64 (p : Int), .int .i64 s] w fun e w' => e = .returned (.tuple #[.int .i64 (X.act p s).1.1, .int .i64 (X.act p s).1.2, .int .i64 0]) ∧ Sd w0 w' bs (X.act p s).2 :=
  h.step fun _ _ _ _ q => act_any q f p s hp hn hr
theorem sd_current (h : Sd w0 w bs X) (p : Nat) (hp : p < X.pr.length) : Calls Tryz.prog 10 #[.pointer (some ⟨bs, 0, none⟩), .int .i64 (p : Int)] w fun e w' => e = .returned (.int .i64 (X.on p)) ∧ w = w' := h.see fun _ _ _ _ q => current_any q p hp
theorem sd_state (h : Sd w0 w bs X) (g : Nat) (hg : g < X.gs.length) : Calls Tryz.prog 12 #[.pointer (some ⟨bs, 0, none⟩), .int .i64 (g : Int)] w fun e w' => e = .returned (.int .i64 (X.gs.getD g (0, false)).1) ∧ w = w' := h.see fun _ _ _ _ q => state_any q g hg
theorem sd_yield (h : Sd w0 w bs X) (p : Nat) (hp : p < X.pr.length) (hn : 0 ≤ X.on p) (hA : X.Q.2.length ≤ 1000) : Calls Tryz.prog 22 #[.pointer (some ⟨bs, 0, none⟩), .int .i64 (p : Int)] w fun e w' => e = .returned (.int .i64 0) ∧ Sd w0 w' bs (X.yld p) := h.step fun _ _ _ _ q => yield_any q p hp hn (by omega)
theorem sd_yield_idle (h : Sd w0 w bs X) (p : Nat) (hp : p < X.pr.length) (hn : X.on p = -1) : Calls Tryz.prog 22 #[.pointer (some ⟨bs, 0, none⟩), .int .i64 (p : Int)] w fun e w' => e = .returned (.int .i64 4) ∧ w = w' := h.see fun _ _ _ _ q => yield_idle q p hp hn
theorem sd_block (h : Sd w0 w bs X) (p g : Nat) (hp : p < X.pr.length) (hn : X.on p = (g : Int)) (hg : g < X.gs.length) : Calls Tryz.prog 24 #[.pointer (some ⟨bs, 0, none⟩), .int .i64 (p : Int)] w fun e w' => e = .returned (.int .i64 0) ∧ Sd w0 w' bs (X.stp p (2, false)) := h.step fun _ _ _ _ q => block_of _ _ (stop_any q p g 2 false hp hn hg) ⟨_, rfl⟩
theorem sd_block_idle (h : Sd w0 w bs X) (p : Nat) (hp : p < X.pr.length) (hn : X.on p = -1) : Calls Tryz.prog 24 #[.pointer (some ⟨bs, 0, none⟩), .int .i64 (p : Int)] w fun e w' => e = .returned (.int .i64 4) ∧ Sd w0 w' bs X := h.look fun _ _ _ _ q => block_of _ _ (stop_idle q p 2 false hp hn) ⟨_, rfl⟩
theorem sd_block_bad (h : Sd w0 w bs X) (p : Int) (hp : p < 0 ∨ (X.pr.length : Int) ≤ p) : Calls Tryz.prog 24 #[.pointer (some ⟨bs, 0, none⟩), .int .i64 p] w fun e w' => e = .returned (.int .i64 1) ∧ Sd w0 w' bs X := h.look fun _ _ _ _ q => block_of _ _ (stop_bad q p 2 false hp) ⟨_, rfl⟩
theorem sd_end (h : Sd w0 w bs X) (p g : Nat) (hp : p < X.pr.length) (hn : X.on p = (g : Int)) (hg : g < X.gs.length) : Calls Tryz.prog 28 #[.pointer (some ⟨bs, 0, none⟩), .int .i64 (p : Int)] w fun e w' => e = .returned (.int .i64 0) ∧ Sd w0 w' bs (X.stp p (3, false)) := h.step fun _ _ _ _ q => end_of _ _ (stop_any q p g 3 false hp hn hg) ⟨_, rfl⟩
theorem sd_end_idle (h : Sd w0 w bs X) (p : Nat) (hp : p < X.pr.length) (hn : X.on p = -1) : Calls Tryz.prog 28 #[.pointer (some ⟨bs, 0, none⟩), .int .i64 (p : Int)] w fun e w' => e = .returned (.int .i64 4) ∧ Sd w0 w' bs X := h.look fun _ _ _ _ q => end_of _ _ (stop_idle q p 3 false hp hn) ⟨_, rfl⟩
theorem sd_sleep (h : Sd w0 w bs X) (f : Fine 1000 X) (p g : Nat) (t : Int) (hp : p < X.pr.length) (hn : X.on p = (g : Int)) (hg : g < X.gs.length) (ha : 0 ≤ X.a) (ha2 : X.a < 2 ^ 63) :
    Calls Tryz.prog 26 #[.pointer (some ⟨bs, 0, none⟩), .int .i64 (p : Int), .int .u64 t] w fun e w' => e = .returned (.int .i64 0) ∧ Sd w0 w' bs (X.slp p t) :=
  h.step fun _ _ _ _ q => sleep_any q f.neat p g t hp (by rw [f.lp]; exact hp) hn hg (by have := f.mny; omega) ha ha2
theorem sd_sleep_idle (h : Sd w0 w bs X) (p : Nat) (t : Int) (hp : p < X.pr.length) (hn : X.on p = -1) : Calls Tryz.prog 26 #[.pointer (some ⟨bs, 0, none⟩), .int .i64 (p : Int), .int .u64 t] w fun e w' => e = .returned (.int .i64 4) ∧ w = w' := h.see fun _ _ _ _ q => sleep_idle q p t hp hn
theorem sd_ready (h : Sd w0 w bs X) (p g : Nat) (hp : p < X.pr.length) (hq : p < X.Q.1.length) (hg : g < X.gs.length) (hs : X.gs.getD g (0, false) = (2, false)) (hA : X.Q.2.length ≤ 1000) :
    Calls Tryz.prog 30 #[.pointer (some ⟨bs, 0, none⟩), .int .i64 (p : Int), .int .i64 (g : Int)] w fun e w' => e = .returned (.int .i64 0) ∧ Sd w0 w' bs (X.rdy p g) := h.step fun _ _ _ _ q => ready_any q p g hp hq hg hs (by omega)
theorem sd_ready_busy (h : Sd w0 w bs X) (p g : Nat) (hp : p < X.pr.length) (hg : g < X.gs.length) (hs : X.gs.getD g (0, false) ≠ (2, false)) : Calls Tryz.prog 30 #[.pointer (some ⟨bs, 0, none⟩), .int .i64 (p : Int), .int .i64 (g : Int)] w fun e w' => e = .returned (.int .i64 4) ∧ w = w' := h.see fun _ _ _ _ q => ready_busy q p g hp hg hs
theorem sd_ready_not (h : Sd w0 w bs X) (p : Nat) (g : Int) (hp : p < X.pr.length) (hg : g < 0 ∨ (X.gs.length : Int) ≤ g) : Calls Tryz.prog 30 #[.pointer (some ⟨bs, 0, none⟩), .int .i64 (p : Int), .int .i64 g] w fun e w' => e = .returned (.int .i64 4) ∧ w = w' := h.see fun _ _ _ _ q => ready_not q p g hp hg
theorem sd_tick (h : Sd w0 w bs X) (n : Int) (hn : 0 ≤ n) (hn2 : n ≤ 18446744073709551615) : Calls Tryz.prog 32 #[.pointer (some ⟨bs, 0, none⟩), .int .u64 n] w fun e w' => e = .returned (.tuple #[]) ∧ Sd w0 w' bs (X.tick n) := h.step fun _ _ _ _ q => tick_any q n hn hn2
theorem sd_counts (h : Sd w0 w bs X) (hm : many X.P ≤ 1024) : Calls Tryz.prog 8 #[.pointer (some ⟨bs, 0, none⟩)] w fun e w' => e = .returned (.tuple #[.int .u64 X.clk, .int .i64 (able X.gs : Nat), .int .i64 (many X.P : Nat)]) ∧ Sd w0 w' bs X := h.look fun _ _ _ _ q => counts_any q hm
end
/-- A state without timers. -/
theorem fine_plain {n : Nat} {X : Sx} (h1 : 1 ≤ n) (e1 : X.pr.length = n) (e2 : X.Q.1.length = n) (e3 : X.P = List.replicate n []) (e4 : X.a = 0) (e5 : X.Q.2.length ≤ 1000) : Fine 1000 X :=
  ⟨by omega, by omega, by rw [e3, List.length_replicate]; omega, by rw [e3, e4]; exact neat_new n, by rw [e3]; unfold many; simp, (fun p L hp x hx => by
    rw [e3, List.getElem?_replicate] at hp
    split at hp
    · rw [← Option.some.inj hp] at hx; cases hx
    · exact absurd hp (by simp)), e5⟩
/-- The states of awake. -/
def a0 : Sx := Sx.ini 2
def a1 : Sx := a0.beg 0
def a2 : Sx := a1.beg 0
def a3 : Sx := (a2.act 0 0).2
def a4 : Sx := (a3.act 1 0).2
theorem schawake_any (w : World) : Calls Tryz.prog 6 #[] w fun e w' => e = .returned (.bool true) ∧ Cha (fun _ => False) w w' := by
  have C0 : Hid (Calls Tryz.prog 4 #[.int .i64 2] w fun e w' => ∃ bs, e = .returned (.tuple #[.pointer (some ⟨bs, 0, none⟩), .int .i64 0]) ∧ Sd w w' bs a0) := Lib.hid (sd_new 2 (Cha.refl _ w) (by decide) (by decide))
  have C1 : Hid (∀ w1 bs, Sd w w1 bs a0 → Calls Tryz.prog 18 #[.pointer (some ⟨bs, 0, none⟩), .int .i64 0] w1 fun e w' => e = .returned (.tuple #[.int .i64 0, .int .i64 0]) ∧ Sd w w' bs a1) := Lib.hid fun w1 bs h => sd_begin h 0 (by decide) (by decide) (by decide) (by decide)
  have C2 : Hid (∀ w1 bs, Sd w w1 bs a1 → Calls Tryz.prog 18 #[.pointer (some ⟨bs, 0, none⟩), .int .i64 0] w1 fun e w' => e = .returned (.tuple #[.int .i64 1, .int .i64 0]) ∧ Sd w w' bs a2) := Lib.hid fun w1 bs h => sd_begin h 0 (by decide) (by decide) (by decide) (by decide)
  have C3 : Hid (∀ w1 bs, Sd w w1 bs a2 → Calls Tryz.prog 19 #[.pointer (some ⟨bs, 0, none⟩), .int .i64 0, .int .i64 0] w1 fun e w' => e = .returned (.tuple #[.int .i64 2, .int .i64 1, .int .i64 0]) ∧ Sd w w' bs a3) := Lib.hid fun w1 bs h =>
    sd_act h (fine_plain (n := 2) (by decide) rfl rfl rfl rfl (by decide)) 0 0 (by decide) (.inl rfl) (by decide)
  have C4 : Hid (∀ w1 bs, Sd w w1 bs a3 → Calls Tryz.prog 19 #[.pointer (some ⟨bs, 0, none⟩), .int .i64 1, .int .i64 0] w1 fun e w' => e = .returned (.tuple #[.int .i64 2, .int .i64 0, .int .i64 0]) ∧ Sd w w' bs a4) := Lib.hid fun w1 bs h =>
    sd_act h (fine_plain (n := 2) (by decide) rfl rfl rfl rfl (by decide)) 1 0 (by decide) (.inl rfl) (by decide)
  have C5 : Hid (∀ w1 bs, Sd w w1 bs a4 → Calls Tryz.prog 10 #[.pointer (some ⟨bs, 0, none⟩), .int .i64 1] w1 fun e w' => e = .returned (.int .i64 0) ∧ w1 = w') := Lib.hid fun w1 bs h => sd_current h 1 (by decide)
  have HC : Hid (∀ w1 bs X, Sd w w1 bs X → Cha (fun _ => False) w w1) := Lib.hid fun _ _ _ h => h.cha
  go_enter Tryz.func6, Tryz.ntmps6
  go_wp2_with (first
    | (go_at_call 4; ((with_reducible refine (C0.out).mono ?_); rintro e w1 ⟨bs, rfl, hS⟩; have S1 := Lib.hid hS; clear hS))
    | (go_at_call 18; ((with_reducible refine (C1.out _ _ S1.out).mono ?_); rintro e w2 ⟨rfl, hS⟩; have S2 := Lib.hid hS; clear hS))
    | (go_at_call 18; ((with_reducible refine (C2.out _ _ S2.out).mono ?_); rintro e w3 ⟨rfl, hS⟩; have S3 := Lib.hid hS; clear hS))
    | (go_at_call 19; ((with_reducible refine (C3.out _ _ S3.out).mono ?_); rintro e w4 ⟨rfl, hS⟩; have S4 := Lib.hid hS; clear hS))
    | (go_at_call 19; ((with_reducible refine (C4.out _ _ S4.out).mono ?_); rintro e w5 ⟨rfl, hS⟩; have S5 := Lib.hid hS; clear hS))
    | (go_at_call 10; ((with_reducible refine (C5.out _ _ S5.out).mono ?_); rintro e w6 ⟨rfl, rfl⟩)))
  go_returns
  exact ⟨rfl, HC.out _ _ _ S5.out⟩
end Go.Proofs.YtaloafihbdamiaaGreat
