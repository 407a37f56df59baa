/- A stack that the law itself has made; awake. -/
import Derived.Test.YteienclklmjhdaaO
namespace Go.Proofs.Yteienclklmjhdaa
open Go.ChangeShapes Go.WideShapes Go.ChangeAt Go.RowKit
variable {w W W' : World} {bs : Nat} {s : St}

def Live (w W : World) (bs : Nat) (s : St) : Prop := ∃ F bw bm, Sk W F bs bw bm s ∧ Cha (fun _ => False) w W ∧ ∀ i, F i → w.heap.size ≤ i
theorem Live.cha (h : Live w W bs s) : Cha (fun _ => False) w W := by obtain ⟨_, _, _, _, c, _⟩ := h; exact c
theorem Live.ok (h : Live w W bs s) : Ok s := by obtain ⟨_, _, _, q, _, _⟩ := h; exact q.ok
theorem Live.same (h : Live w W bs s) (c : Cha (fun _ => False) W W') : Live w W' bs s := by
  obtain ⟨F, bw, bm, q, c1, n⟩ := h
  exact ⟨F, bw, bm, q.same c, c1.trans c, n⟩
theorem Live.step {f : FuncId} {args : Array Value} {v : Ending} {s' : St} (h : Live w W bs s) (k : ∀ F bw bm, Sk W F bs bw bm s → Calls Try.prog f args W fun e W' => e = v ∧ Left W W' F bs s') :
    Calls Try.prog f args W fun e W' => e = v ∧ Live w W' bs s' := by
  obtain ⟨F, bw, bm, q, c1, n⟩ := h
  refine (k F bw bm q).mono fun e W' ⟨he, F2, bw2, bm2, q2, c2, n2⟩ => ⟨he, F2, bw2, bm2, q2, c1.over c2 fun i hi => .inr (n i hi), fun i hi => ?_⟩
  rcases n2 i hi with e | e
  · exact n i e
  · exact Nat.le_trans c1.size e
theorem Live.look {f : FuncId} {args : Array Value} {v : Ending} (h : Live w W bs s) (k : ∀ F bw bm, Sk W F bs bw bm s → Calls Try.prog f args W fun e W' => e = v ∧ Cha (fun _ => False) W W') :
    Calls Try.prog f args W fun e W' => e = v ∧ Live w W' bs s := by
  have h' := h
  obtain ⟨F, bw, bm, q, c1, n⟩ := h
  exact (k F bw bm q).mono fun e W' ⟨he, c⟩ => ⟨he, h'.same c⟩
theorem live_new (h : Cha (fun _ => False) w W) : Calls Try.prog 8 #[] W fun e W' => ∃ bs, e = .returned (.pointer (some ⟨bs, 0, none⟩)) ∧ Live w W' bs St.new :=
  (new_any W).mono fun _ _ ⟨bs, bw, bm, F, he, q, c, n⟩ => ⟨bs, he, F, bw, bm, q, h.trans c, fun i hi => Nat.le_trans h.size (n i hi)⟩
theorem live_push (h : Live w W bs s) (n : Nat) (hn : n ≤ 32) (hl : s.fs.length < 64) : Calls Try.prog 11 #[.pointer (some ⟨bs, 0, none⟩), .int .i64 (n : Int)] W fun e W' => e = .returned (.int .i64 0) ∧ Live w W' bs (s.push n) :=
  h.step fun _ _ _ q => push_in q n hn hl
theorem live_pushR (h : Live w W bs s) (a : Int) : Calls Try.prog 11 #[.pointer (some ⟨bs, 0, none⟩), .int .i64 a] W fun e W' => e = .returned (.int .i64 (s.pushR a).1) ∧ Live w W' bs (s.pushR a).2 :=
  h.step fun _ _ _ q => push_any q a
theorem live_pop (h : Live w W bs s) : Calls Try.prog 13 #[.pointer (some ⟨bs, 0, none⟩)] W fun e W' => e = .returned (.int .i64 s.popR.1) ∧ Live w W' bs s.popR.2 :=
  h.step fun _ _ _ q => pop_any q
theorem live_set (h : Live w W bs s) (b i v : Int) (h0 : 0 ≤ v) (h1 : v ≤ 18446744073709551615) : Calls Try.prog 15 #[.pointer (some ⟨bs, 0, none⟩), .int .i64 b, .int .i64 i, .int .u64 v] W fun e W' => e = .returned (.int .i64 (s.set b i v).1) ∧ Live w W' bs (s.set b i v).2 :=
  h.step fun _ _ _ q => set_word q b i v h0 h1
theorem live_store (h : Live w W bs s) (b i v : Int) (h0 : 0 ≤ v) (h1 : v ≤ 18446744073709551615) : Calls Try.prog 19 #[.pointer (some ⟨bs, 0, none⟩), .int .i64 b, .int .i64 i, .int .u64 v] W fun e W' => e = .returned (.int .i64 (s.store b i v).1) ∧ Live w W' bs (s.store b i v).2 :=
  h.step fun _ _ _ q => store_word q b i v h0 h1
theorem live_link (h : Live w W bs s) (b i t k : Int) : Calls Try.prog 17 #[.pointer (some ⟨bs, 0, none⟩), .int .i64 b, .int .i64 i, .int .i64 t, .int .i64 k] W fun e W' => e = .returned (.int .i64 (s.link b i t k).1) ∧ Live w W' bs (s.link b i t k).2 :=
  h.step fun _ _ _ q => link_any q b i t k
theorem live_get (h : Live w W bs s) (b i : Int) : Calls Try.prog 21 #[.pointer (some ⟨bs, 0, none⟩), .int .i64 b, .int .i64 i] W fun e W' => e = .returned (wordV (s.get b i).1 (s.get b i).2) ∧ Live w W' bs s :=
  h.look fun _ _ _ q => get_any q b i
theorem live_load (h : Live w W bs s) (b i : Int) : Calls Try.prog 23 #[.pointer (some ⟨bs, 0, none⟩), .int .i64 b, .int .i64 i] W fun e W' => e = .returned (wordV (s.load b i).1 (s.load b i).2) ∧ Live w W' bs s :=
  h.look fun _ _ _ q => load_word q b i
theorem live_counts (h : Live w W bs s) : Calls Try.prog 25 #[.pointer (some ⟨bs, 0, none⟩)] W fun e W' => e = .returned (.tuple #[.int .i64 (s.fs.length : Nat), .int .i64 (s.n : Nat), .int .i64 s.cop]) ∧ Live w W' bs s :=
  h.look fun _ _ _ q => counts_any q

def pushes (s : St) (n : Nat) : Nat → St
  | 0 => s
  | k + 1 => (pushes s n k).push n
theorem push_fs (s : St) (n : Nat) : (s.push n).fs = n :: s.fs := by unfold St.push; split <;> rfl
theorem pushes_fs (s : St) (n : Nat) : ∀ k, (pushes s n k).fs = List.replicate k n ++ s.fs
  | 0 => rfl
  | k + 1 => by unfold pushes; rw [push_fs, pushes_fs s n k]; rfl
theorem pushes_len (s : St) (n k : Nat) : (pushes s n k).fs.length = k + s.fs.length := by rw [pushes_fs]; simp

def a1 : St := St.new.push 2
def a2 : St := (a1.set 0 0 7).2
def a3 : St := a2.push 1
def a4 : St := (a3.link 0 0 1 0).2
set_option maxRecDepth 100000 in
theorem awake_any (h : Cha (fun _ => False) w W) : Calls Try.prog 10 #[] W fun e W' => e = .returned (.bool true) ∧ Cha (fun _ => False) w W' := by
  have C0 := Lib.hid (live_new h)
  have C1 : Hid (∀ bs W, Live w W bs St.new → Calls Try.prog 11 #[.pointer (some ⟨bs, 0, none⟩), .int .i64 2] W fun e W' => e = .returned (.int .i64 0) ∧ Live w W' bs a1) := Lib.hid fun bs W h => live_push h 2 (by omega) (by decide)
  have C2 : Hid (∀ bs W, Live w W bs a1 → Calls Try.prog 15 #[.pointer (some ⟨bs, 0, none⟩), .int .i64 0, .int .i64 0, .int .u64 7] W fun e W' => e = .returned (.int .i64 0) ∧ Live w W' bs a2) := Lib.hid fun bs W h => by
    have := live_set h 0 0 7 (by omega) (by omega)
    rwa [show (a1.set 0 0 7).1 = 0 by decide +kernel] at this
  have C3 : Hid (∀ bs W, Live w W bs a2 → Calls Try.prog 11 #[.pointer (some ⟨bs, 0, none⟩), .int .i64 1] W fun e W' => e = .returned (.int .i64 0) ∧ Live w W' bs a3) := Lib.hid fun bs W h => live_push h 1 (by omega) (by decide +kernel)
  have C4 : Hid (∀ bs W, Live w W bs a3 → Calls Try.prog 17 #[.pointer (some ⟨bs, 0, none⟩), .int .i64 0, .int .i64 0, .int .i64 1, .int .i64 0] W fun e W' => e = .returned (.int .i64 0) ∧ Live w W' bs a4) := Lib.hid fun bs W h => by
    have := live_link h 0 0 1 0
    rwa [show (a3.link 0 0 1 0).1 = 0 by decide +kernel] at this
  have hl4 : a4.fs.length = 2 := by decide +kernel
  have C5 : Hid (∀ bs W j, j < 40 → Live w W bs (pushes a4 2 j) → Calls Try.prog 11 #[.pointer (some ⟨bs, 0, none⟩), .int .i64 2] W fun e W' => e = .returned (.int .i64 0) ∧ Live w W' bs (pushes a4 2 (j + 1))) := Lib.hid fun bs W j hj h => live_push h 2 (by omega) (by rw [pushes_len, hl4]; omega)
  have C6 : Hid (∀ bs W, Live w W bs (pushes a4 2 40) → Calls Try.prog 23 #[.pointer (some ⟨bs, 0, none⟩), .int .i64 40, .int .i64 0] W fun e W' => e = .returned (.tuple #[.int .u64 7, .int .i64 0]) ∧ Live w W' bs (pushes a4 2 40)) := Lib.hid fun bs W h => by
    have := live_load h 40 0
    rwa [show (pushes a4 2 40).load 40 0 = (7, 0) by decide +kernel] at this
  have C7 : Hid (∀ bs W, Live w W bs (pushes a4 2 40) → Calls Try.prog 25 #[.pointer (some ⟨bs, 0, none⟩)] W fun e W' => e = .returned (.tuple #[.int .i64 42, .int .i64 128, .int .i64 1]) ∧ Live w W' bs (pushes a4 2 40)) := Lib.hid fun bs W h => by
    have := live_counts h
    rwa [show (pushes a4 2 40).n = 128 by decide +kernel, show (pushes a4 2 40).cop = 1 by decide +kernel, pushes_len, hl4] at this
  clear hl4 h
  go_enter Try.func10, Try.ntmps10
  go_wp2_with (first
    | (go_at_call 8; ((with_reducible refine (C0.out).mono ?_); rintro e w1 ⟨bs, rfl, h⟩; have D1 := Lib.hid (C1.out _ _ h); clear h))
    | (go_at_call 11; ((with_reducible refine (D1.out).mono ?_); rintro e w2 ⟨rfl, h⟩; have D2 := Lib.hid (C2.out _ _ h); clear h))
    | (go_at_call 15; ((with_reducible refine (D2.out).mono ?_); rintro e w3 ⟨rfl, h⟩; have D3 := Lib.hid (C3.out _ _ h); clear h))
    | (go_at_call 11; ((with_reducible refine (D3.out).mono ?_); rintro e w4 ⟨rfl, h⟩; have D4 := Lib.hid (C4.out _ _ h); clear h))
    | (go_at_call 17; ((with_reducible refine (D4.out).mono ?_); rintro e w5 ⟨rfl, h⟩; have H5 := Lib.hid h; clear h)))
  go_loopw [30] (fun i wr => ∃ j : Nat, j ≤ 40 ∧ i = .int .i64 (j : Int) ∧ Live w wr bs (pushes a4 2 j)) (fun i _ => 40 - (intOf i).toNat)
  case atStart => exact ⟨0, by omega, rfl, H5.out⟩
  case round =>
    clear H5 D1 D2 D3 D4
    obtain ⟨j, hj, rfl, hL⟩ := hrel
    by_cases hlt : j < 40
    · have D := Lib.hid (C5.out bs wr j hlt hL)
      clear hL
      go_wp2_with (go_at_call 11; ((with_reducible refine (D.out).mono ?_); rintro e w2 ⟨rfl, h⟩; have H2 := Lib.hid h; clear h))
      go_roundw
      case rel => exact ⟨j + 1, by omega, by congr 1, H2.out⟩
      case measure => simp [intOf]; omega
    · obtain rfl : j = 40 := by omega
      have D := Lib.hid (C6.out bs wr hL)
      clear hL
      go_wp2_with (first
        | (go_at_call 23; ((with_reducible refine (D.out).mono ?_); rintro e w2 ⟨rfl, h⟩; have D7 := Lib.hid (C7.out _ _ h); clear h))
        | (go_at_call 25; ((with_reducible refine (D7.out).mono ?_); rintro e w3 ⟨rfl, h⟩; have D8 := Lib.hid h.cha; clear h)))
      go_ret
      exact ⟨rfl, D8.out⟩
end Go.Proofs.Yteienclklmjhdaa
