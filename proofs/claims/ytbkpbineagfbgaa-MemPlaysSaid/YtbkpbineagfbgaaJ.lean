/- Layer 3's calls on a memory that a law itself has made; awake. -/
import Derived.Test.YtbkpbineagfbgaaI
namespace Go.Proofs.Ytbkpbineagfbgaa
open Go.ChangeShapes Go.WideShapes Go.ChangeAt Go.RowKit

theorem Chg.over {S : Nat → Prop} {w a b : World} (h : Chg (fun _ => False) w a) (k : Chg S a b) (hs : ∀ i, S i → w.heap.size ≤ i) : Chg (fun _ => False) w b :=
  ⟨k.os.trans h.os, k.out.trans h.out, Nat.le_trans h.size k.size, fun i hi _ => (k.old i (Nat.lt_of_lt_of_le hi h.size) (fun c => by have := hs i c; omega)).trans (h.old i hi (fun x => x)), fun x => (k.fr x).trans (h.fr x)⟩
theorem Zer.reset {n : Nat} {st wd : Nat → Int} (h : Zer n st wd) (b k : Nat) (s : Int) : Zer n (rst st b k s) (rwd wd b k) := fun a ha hs => by
  unfold rst at hs
  unfold rwd
  by_cases c : b ≤ a / 64 ∧ a / 64 < b + k
  · rw [if_pos c]
  · rw [if_neg c]; rw [if_neg c] at hs; exact h a ha hs

/-- A memory that lies in blocks that were made since w. -/
structure Own (w W : World) (bm bp n : Nat) (st wd : Nat → Int) : Prop where
  mem : Mem W bm bp n st wd
  zer : Zer n st wd
  chg : Chg (fun _ => False) w W
  new : w.heap.size ≤ bp ∧ w.heap.size ≤ bm
variable {w W : World} {bm bp n : Nat} {st wd : Nat → Int}
theorem Own.same {W' : World} (h : Own w W bm bp n st wd) (c : Chg (fun _ => False) W W') : Own w W' bm bp n st wd :=
  ⟨h.mem.chg c (fun x => x) (fun x => x), h.zer, h.chg.trans c, h.new⟩
theorem Own.turn {W' : World} {st' wd' : Nat → Int} (h : Own w W bm bp n st wd) (m : Mem W' bm bp n st' wd') (z : Zer n st' wd') (c : Chg (· = bp) W W') : Own w W' bm bp n st' wd' :=
  ⟨m, z, h.chg.over c (fun _ hi => hi ▸ h.new.1), h.new⟩

def zro : Nat → Int := fun _ => 0
/-- New's memory. -/
def Fresh (w W : World) (n : Nat) (bm bp : Nat) : Prop := Own w W bm bp n zro zro
theorem own_new (n : Nat) (w W : World) (hW : Chg (fun _ => False) w W) (h1 : 1 ≤ n) (h2 : n ≤ 4096) : Calls Try.prog 9 #[.int .i64 (n : Int)] W fun e W' =>
    ∃ bm bp, e = .returned (.tuple #[.pointer (some ⟨bm, 0, none⟩), .int .i64 0]) ∧ Own w W' bm bp n zro zro :=
  (new_ok n W h1 h2).mono fun e W' ⟨he, hm⟩ => ⟨_, _, he, hm.mem, fun _ _ _ => rfl, hW.trans hm.chg, by have := hW.size; omega⟩
theorem own_map (b k : Nat) (h : Own w W bm bp n st wd) (hk : 1 ≤ k) (hb : b + k ≤ n) (hall : allB st b [0] k = true) : Calls Try.prog 17 #[.pointer (some ⟨bm, 0, none⟩), .int .i64 (b : Int), .int .i64 (k : Int)] W fun e W' =>
    e = .returned (.int .i64 0) ∧ Own w W' bm bp n (rst st b k 1) (rwd wd b k) :=
  (map_ok b k h.mem hk hb hall).mono fun _ _ ⟨he, hm, hc⟩ => ⟨he, h.turn hm (h.zer.reset _ _ _) hc⟩
theorem own_unmap (b k : Nat) (h : Own w W bm bp n st wd) (hk : 1 ≤ k) (hb : b + k ≤ n) (hall : allB st b [1, 2] k = true) : Calls Try.prog 22 #[.pointer (some ⟨bm, 0, none⟩), .int .i64 (b : Int), .int .i64 (k : Int)] W fun e W' =>
    e = .returned (.int .i64 0) ∧ Own w W' bm bp n (rst st b k 0) (rwd wd b k) :=
  (unmap_ok b k h.mem hk hb hall).mono fun _ _ ⟨he, hm, hc⟩ => ⟨he, h.turn hm (h.zer.reset _ _ _) hc⟩
theorem own_release (b k : Nat) (h : Own w W bm bp n st wd) (hk : 1 ≤ k) (hb : b + k ≤ n) (hall : allB st b [1] k = true) : Calls Try.prog 23 #[.pointer (some ⟨bm, 0, none⟩), .int .i64 (b : Int), .int .i64 (k : Int)] W fun e W' =>
    e = .returned (.int .i64 0) ∧ Own w W' bm bp n (rst st b k 2) (rwd wd b k) :=
  (release_ok b k h.mem hk hb hall).mono fun _ _ ⟨he, hm, hc⟩ => ⟨he, h.turn hm (h.zer.reset _ _ _) hc⟩
theorem own_store (a : Nat) (v : Int) (h : Own w W bm bp n st wd) (ha : There n st a) : Calls Try.prog 18 #[.pointer (some ⟨bm, 0, none⟩), .int .i64 (a : Int), .int .u64 v] W fun e W' =>
    e = .returned (.int .i64 0) ∧ Own w W' bm bp n (upd st (a / 64) 1) (upd wd a v) :=
  (store_yes a v h.mem h.zer ha).mono fun _ _ ⟨he, hm, hc⟩ => ⟨he, h.turn hm (h.zer.write _ _) hc⟩
theorem own_load (a : Nat) (h : Own w W bm bp n st wd) (ha : There n st a) : Calls Try.prog 20 #[.pointer (some ⟨bm, 0, none⟩), .int .i64 (a : Int)] W fun e W' =>
    e = .returned (.tuple #[.int .u64 (wd a), .int .i64 0]) ∧ Own w W' bm bp n (upd st (a / 64) 1) wd :=
  (load_yes a h.mem h.zer ha).mono fun _ _ ⟨he, hm, hc⟩ => ⟨he, h.turn hm (h.zer.touch _) hc⟩
theorem own_load_no (a : Int) (h : Own w W bm bp n st wd) (ha : a < 0 ∨ ¬ There n st a.toNat) : Calls Try.prog 20 #[.pointer (some ⟨bm, 0, none⟩), .int .i64 a] W fun e W' =>
    e = .returned (.tuple #[.int .u64 0, .int .i64 6]) ∧ Own w W' bm bp n st wd :=
  (load_no a h.mem ha).mono fun _ _ ⟨he, hc⟩ => ⟨he, h.same hc⟩
theorem own_hit (a : Nat) (o v : Int) (h : Own w W bm bp n st wd) (ha : There n st a) (ho : wd a = o) : Calls Try.prog 21 #[.pointer (some ⟨bm, 0, none⟩), .int .i64 (a : Int), .int .u64 o, .int .u64 v] W fun e W' =>
    e = .returned (.tuple #[.bool true, .int .i64 0]) ∧ Own w W' bm bp n (upd st (a / 64) 1) (upd wd a v) :=
  (cas_hit a o v h.mem h.zer ha ho).mono fun _ _ ⟨he, hm, hc⟩ => ⟨he, h.turn hm (h.zer.write _ _) hc⟩
theorem own_miss (a : Nat) (o v : Int) (h : Own w W bm bp n st wd) (ha : There n st a) (ho : wd a ≠ o) : Calls Try.prog 21 #[.pointer (some ⟨bm, 0, none⟩), .int .i64 (a : Int), .int .u64 o, .int .u64 v] W fun e W' =>
    e = .returned (.tuple #[.bool false, .int .i64 0]) ∧ Own w W' bm bp n (upd st (a / 64) 1) wd :=
  (cas_miss a o v h.mem h.zer ha ho).mono fun _ _ ⟨he, hm, hc⟩ => ⟨he, h.turn hm (h.zer.touch _) hc⟩
theorem own_congr {st' wd' : Nat → Int} (h : Own w W bm bp n st wd) (hs : ∀ p, p < n → st p = st' p) (hw : ∀ a, a < n * 64 → wd a = wd' a) : Own w W bm bp n st' wd' :=
  ⟨h.mem.congr hs hw, fun a ha hp => by rw [← hw a ha]; exact h.zer a ha (by rw [hs _ (by omega)]; exact hp), h.chg, h.new⟩

set_option maxHeartbeats 1000000 in
/-- awake is true: a page is mapped, written, released, read. -/
theorem awake_any (w : World) : Calls Try.prog 11 #[] w fun e w' => e = .returned (.bool true) ∧ Chg (fun _ => False) w w' := by
  have A9 : Calls Try.prog 9 #[.int .i64 2] w fun e W' => ∃ bm bp, e = .returned (.tuple #[.pointer (some ⟨bm, 0, none⟩), .int .i64 0]) ∧ Own w W' bm bp 2 zro zro := own_new 2 w w (Chg.refl _ _) (by omega) (by omega)
  have A9 := Lib.hid A9
  have A17 : ∀ (W : World) (bm bp : Nat), Own w W bm bp 2 zro zro → Calls Try.prog 17 #[.pointer (some ⟨bm, 0, none⟩), .int .i64 0, .int .i64 1] W fun e W' => e = .returned (.int .i64 0) ∧ Own w W' bm bp 2 (rst zro 0 1 1) (rwd zro 0 1) :=
    fun W bm bp h => own_map 0 1 h (by omega) (by omega) (by decide +kernel)
  have A17 := Lib.hid A17
  have A18 : ∀ (W : World) (bm bp : Nat), Own w W bm bp 2 (rst zro 0 1 1) (rwd zro 0 1) → Calls Try.prog 18 #[.pointer (some ⟨bm, 0, none⟩), .int .i64 63, .int .u64 7] W fun e W' => e = .returned (.int .i64 0) ∧ Own w W' bm bp 2 (rst zro 0 1 1) (upd (rwd zro 0 1) 63 7) :=
    fun W bm bp h => (own_store 63 7 h ⟨by omega, by decide +kernel⟩).mono fun _ _ ⟨he, h⟩ => ⟨he, own_congr h (by decide +kernel) (fun _ _ => rfl)⟩
  have A18 := Lib.hid A18
  have A20 : ∀ (W : World) (bm bp : Nat), Own w W bm bp 2 (rst zro 0 1 1) (upd (rwd zro 0 1) 63 7) → Calls Try.prog 20 #[.pointer (some ⟨bm, 0, none⟩), .int .i64 63] W fun e W' => e = .returned (.tuple #[.int .u64 7, .int .i64 0]) ∧ Own w W' bm bp 2 (rst zro 0 1 1) (upd (rwd zro 0 1) 63 7) :=
    fun W bm bp h => (own_load 63 h ⟨by omega, by decide +kernel⟩).mono fun _ _ ⟨he, h⟩ => ⟨he, own_congr h (by decide +kernel) (fun _ _ => rfl)⟩
  have A20 := Lib.hid A20
  have B20 : ∀ (W : World) (bm bp : Nat), Own w W bm bp 2 (rst zro 0 1 1) (upd (rwd zro 0 1) 63 7) → Calls Try.prog 20 #[.pointer (some ⟨bm, 0, none⟩), .int .i64 64] W fun e W' => e = .returned (.tuple #[.int .u64 0, .int .i64 6]) ∧ Own w W' bm bp 2 (rst zro 0 1 1) (upd (rwd zro 0 1) 63 7) :=
    fun W bm bp h => own_load_no 64 h (.inr (fun c => absurd c.2 (by decide +kernel)))
  have B20 := Lib.hid B20
  have A23 : ∀ (W : World) (bm bp : Nat), Own w W bm bp 2 (rst zro 0 1 1) (upd (rwd zro 0 1) 63 7) → Calls Try.prog 23 #[.pointer (some ⟨bm, 0, none⟩), .int .i64 0, .int .i64 1] W fun e W' => e = .returned (.int .i64 0) ∧ Own w W' bm bp 2 (rst (rst zro 0 1 1) 0 1 2) (rwd (upd (rwd zro 0 1) 63 7) 0 1) :=
    fun W bm bp h => own_release 0 1 h (by omega) (by omega) (by decide +kernel)
  have A23 := Lib.hid A23
  have A15 : ∀ (W : World) (bm bp : Nat), Own w W bm bp 2 (rst (rst zro 0 1 1) 0 1 2) (rwd (upd (rwd zro 0 1) 63 7) 0 1) → Calls Try.prog 15 #[.pointer (some ⟨bm, 0, none⟩), .int .i64 0] W fun e W' => e = .returned (.int .i64 2) ∧ W = W' :=
    fun W bm bp h => state_yes 0 h.mem (by omega)
  have A15 := Lib.hid A15
  go_enter Try.func11, Try.ntmps11
  go_wp2_with (first
    | (go_at_call 9; ((with_reducible refine (A9.out).mono ?_); rintro e w1 ⟨bm, bp, rfl, h⟩; have H9 := Lib.hid h; clear h))
    | (go_at_call 17; ((with_reducible refine (A17.out _ _ _ H9.out).mono ?_); rintro e w1 ⟨rfl, h⟩; have H17 := Lib.hid h; clear h))
    | (go_at_call 18; ((with_reducible refine (A18.out _ _ _ H17.out).mono ?_); rintro e w1 ⟨rfl, h⟩; have H18 := Lib.hid h; clear h))
    | (go_at_call 20; ((with_reducible refine (A20.out _ _ _ H18.out).mono ?_); rintro e w1 ⟨rfl, h⟩; have H20 := Lib.hid h; clear h))
    | (go_at_call 20; ((with_reducible refine (B20.out _ _ _ H20.out).mono ?_); rintro e w1 ⟨rfl, h⟩; have H21 := Lib.hid h; clear h))
    | (go_at_call 23; ((with_reducible refine (A23.out _ _ _ H21.out).mono ?_); rintro e w1 ⟨rfl, h⟩; have H23 := Lib.hid h; clear h))
    | (go_at_call 15; ((with_reducible refine (A15.out _ _ _ H23.out).mono ?_); rintro e w1 ⟨rfl, rfl⟩)))
  go_ret
  exact ⟨rfl, H23.out.chg⟩
end Go.Proofs.Ytbkpbineagfbgaa
