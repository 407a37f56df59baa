/- Layer 4's calls on a map that a law itself has made; awake; PagesFixed. -/
import Derived.Test.YtgglcfmnhiakcaaL
namespace Go.Proofs.Ytgglcfmnhiakcaa
open Go.ChangeShapes Go.WideShapes Go.ChangeAt Go.RowKit

theorem alloc_says {w : World} {bm bp n : Nat} {us us' : Nat → Bool} {k b r : Int} (c : Alc n us k b r us') (hk2 : k ≤ 9223372036854775807) (h : Pg 83 w bm bp n us) :
    Calls Try.prog 13 #[.pointer (some ⟨bm, 0, none⟩), .int .i64 k] w (Says 83 bm bp n us' w (.tuple #[.int .i64 b, .int .i64 r])) := by
  refine (alloc_any k w h hk2).mono ?_
  rintro e w' (⟨h1, h2, h3⟩ | ⟨h1, h2, h3, h4⟩ | ⟨h1, x, h2, h3, h4, h5⟩)
  · cases c with
    | arg _ => exact ⟨h2, h.same h3, h3.wide⟩
    | full g _ => omega
    | ok x g _ => omega
  · cases c with
    | arg _ => omega
    | full g _ => exact ⟨h3, h.same h4, h4.wide⟩
    | ok x g g2 => rw [g2] at h2; cases h2
  · cases c with
    | arg _ => omega
    | full g g2 => rw [g2] at h2; cases h2
    | ok y g g2 => rw [g2] at h2; cases h2; exact ⟨h3, h4, h5⟩

/-- A map that lies in blocks that were made since w. -/
structure Ow (w W : World) (bm bp n : Nat) (us : Nat → Bool) : Prop where
  pg : Pg 83 W bm bp n us
  cha : Cha (fun _ => False) w W
  new : w.heap.size ≤ bm ∧ w.heap.size ≤ bp
variable {w W : World} {bm bp n : Nat} {us us' : Nat → Bool}
theorem Ow.same {W' : World} (h : Ow w W bm bp n us) (c : Cha (fun _ => False) W W') : Ow w W' bm bp n us := ⟨h.pg.same c, h.cha.trans c, h.new⟩
theorem Ow.turn {W' : World} (h : Ow w W bm bp n us) (m : Pg 83 W' bm bp n us') (c : Cha (· = bp) W W') : Ow w W' bm bp n us' := ⟨m, h.cha.over c fun _ hi => .inr (hi ▸ h.new.2), h.new⟩
theorem Ow.congr (h : Ow w W bm bp n us) (he : ∀ i, i < n → us i = us' i) : Ow w W bm bp n us' := ⟨h.pg.congr he, h.cha, h.new⟩
theorem ow_new (n : Nat) (h0 : Cha (fun _ => False) w W) (h1 : 1 ≤ n) (h2 : n ≤ 4096) : Calls Try.prog 10 #[.int .i64 (n : Int)] W fun e W' => ∃ bm bp, e = .returned (.tuple #[.pointer (some ⟨bm, 0, none⟩), .int .i64 0]) ∧ Ow w W' bm bp n nou :=
  (new_ok n W h1 h2).mono fun e W' ⟨he, hm⟩ => ⟨_, _, he, hm.pg, h0.trans hm.cha, by have := h0.size; omega, by have := h0.size; omega⟩
theorem ow_alloc {k b r : Int} (c : Alc n us k b r us') (hk2 : k ≤ 9223372036854775807) (h : Ow w W bm bp n us) : Calls Try.prog 13 #[.pointer (some ⟨bm, 0, none⟩), .int .i64 k] W fun e W' => e = .returned (.tuple #[.int .i64 b, .int .i64 r]) ∧ Ow w W' bm bp n us' :=
  (alloc_says c hk2 h.pg).mono fun _ _ ⟨he, hm, hc⟩ => ⟨he, h.turn hm hc⟩
theorem ow_take {b k r : Int} (c : Chn n us b k true r us') (hk : k ≤ 9223372036854775807) (h : Ow w W bm bp n us) : Calls Try.prog 15 #[.pointer (some ⟨bm, 0, none⟩), .int .i64 b, .int .i64 k] W fun e W' => e = .returned (.int .i64 r) ∧ Ow w W' bm bp n us' :=
  (take_any c hk h.pg).mono fun _ _ ⟨he, hm, hc⟩ => ⟨he, h.turn hm hc⟩
theorem ow_free {b k r : Int} (c : Chn n us b k false r us') (hk : k ≤ 9223372036854775807) (h : Ow w W bm bp n us) : Calls Try.prog 17 #[.pointer (some ⟨bm, 0, none⟩), .int .i64 b, .int .i64 k] W fun e W' => e = .returned (.int .i64 r) ∧ Ow w W' bm bp n us' :=
  (free_any c hk h.pg).mono fun _ _ ⟨he, hm, hc⟩ => ⟨he, h.turn hm hc⟩
theorem ow_used (x : Int) {b : Bool} (hb : usd us n x = b) (h : Ow w W bm bp n us) : Calls Try.prog 20 #[.pointer (some ⟨bm, 0, none⟩), .int .i64 x] W fun e W' => e = .returned (.bool b) ∧ W = W' :=
  (used_any x h.pg).mono fun _ _ ⟨he, hw⟩ => ⟨by rw [he, hb], hw⟩

def u1 : Nat → Bool := fil nou 0 3 true
def u2 : Nat → Bool := fil u1 3 2 true
def u3 : Nat → Bool := fil u2 0 3 false
theorem a1 : Alc 8 nou 3 0 0 u1 := .ok (0, 8) (by omega) (by decide +kernel)
theorem a2 : Alc 8 u1 2 3 0 u2 := .ok (3, 5) (by omega) (by decide +kernel)
theorem a3 : Chn 8 u2 0 3 false 0 u3 := .ok 0 3 rfl rfl (by omega) (by omega) (by decide +kernel)
theorem a4 : Chn 8 u3 0 1 false 5 u3 := .state 0 1 0 rfl rfl (by omega) (by omega) (by decide +kernel)

set_option maxRecDepth 100000 in
set_option maxHeartbeats 2000000 in
theorem awake_any (w : World) : Calls Try.prog 12 #[] w fun e w' => e = .returned (.bool true) ∧ Cha (fun _ => False) w w' := by
  have A10 : Calls Try.prog 10 #[.int .i64 8] w fun e W' => ∃ bm bp, e = .returned (.tuple #[.pointer (some ⟨bm, 0, none⟩), .int .i64 0]) ∧ Ow w W' bm bp 8 nou := ow_new 8 (Cha.refl _ w) (by omega) (by omega)
  have A10 := Lib.hid A10
  have A13 := Lib.hid fun (W : World) (bm bp : Nat) (h : Ow w W bm bp 8 nou) => ow_alloc a1 (by omega) h
  have B13 := Lib.hid fun (W : World) (bm bp : Nat) (h : Ow w W bm bp 8 u1) => ow_alloc a2 (by omega) h
  have A17 := Lib.hid fun (W : World) (bm bp : Nat) (h : Ow w W bm bp 8 u2) => ow_free a3 (by omega) h
  have B17 := Lib.hid fun (W : World) (bm bp : Nat) (h : Ow w W bm bp 8 u3) => ow_free a4 (by omega) h
  have A20 := Lib.hid fun (W : World) (bm bp : Nat) (h : Ow w W bm bp 8 u3) => ow_used 4 (b := true) (by decide +kernel) h
  have B20 := Lib.hid fun (W : World) (bm bp : Nat) (h : Ow w W bm bp 8 u3) => ow_used 5 (b := false) (by decide +kernel) h
  go_enter Try.func12, Try.ntmps12
  go_wp2_with (first
    | (go_at_call 10; ((with_reducible refine (A10.out).mono ?_); rintro e w1 ⟨bm, bp, rfl, h⟩; have H10 := Lib.hid h; clear h))
    | (go_at_call 13; ((with_reducible refine (A13.out _ _ _ H10.out).mono ?_); rintro e w1 ⟨rfl, h⟩; have H13 := Lib.hid h; clear h))
    | (go_at_call 13; ((with_reducible refine (B13.out _ _ _ H13.out).mono ?_); rintro e w1 ⟨rfl, h⟩; have H23 := Lib.hid h; clear h))
    | (go_at_call 17; ((with_reducible refine (A17.out _ _ _ H23.out).mono ?_); rintro e w1 ⟨rfl, h⟩; have H17 := Lib.hid h; clear h))
    | (go_at_call 17; ((with_reducible refine (B17.out _ _ _ H17.out).mono ?_); rintro e w1 ⟨rfl, h⟩; have H27 := Lib.hid h; clear h))
    | (go_at_call 20; ((with_reducible refine (A20.out _ _ _ H27.out).mono ?_); rintro e w1 ⟨rfl, rfl⟩))
    | (go_at_call 20; ((with_reducible refine (B20.out _ _ _ H27.out).mono ?_); rintro e w1 ⟨rfl, rfl⟩)))
  go_ret
  exact ⟨rfl, H27.out.cha⟩

/-! ### PagesFixed -/
def u4 : Nat → Bool := fil u3 0 2 true
theorem b1 : Alc 8 u3 4 0 3 u3 := .full (by omega) (by decide +kernel)
theorem b2 : Alc 8 u3 2 0 0 u4 := .ok (0, 3) (by omega) (by decide +kernel)
theorem b3 : Alc 8 u4 0 0 1 u4 := .arg (by omega)
theorem b4 : Chn 8 u4 2 1 false 5 u4 := .state 2 1 0 rfl rfl (by omega) (by omega) (by decide +kernel)
theorem b5 : Chn 8 u4 7 2 true 1 u4 := .arg (by omega)
theorem rows4 : rows u4 8 = [(2, 1), (5, 3)] := by decide +kernel
theorem cnt4 : cntF (isU u4 8) 8 = 4 := by decide +kernel
theorem mx4 : mxL (rows u4 8) = 3 := by decide +kernel
theorem pairs_lit (W : World) (t : TypeId) : Pairs (W.alloc (.cells #[.int .i64 2, .int .i64 1, .int .i64 5, .int .i64 3] t)) (.slice (some ⟨W.heap.size, 0, none⟩) 2 2) [(2, 1), (5, 3)] := by
  refine ⟨_, _, rfl, fun _ => ⟨W.heap.size, rfl, fun i x hx => ?_⟩⟩
  match i, hx with
  | 0, hx => cases hx; exact ⟨by rw [World.cell?_alloc_new]; rfl, by rw [World.cell?_alloc_new]; rfl⟩
  | 1, hx => cases hx; exact ⟨by rw [World.cell?_alloc_new]; rfl, by rw [World.cell?_alloc_new]; rfl⟩
  | i + 2, hx => simp at hx
theorem pairs_cha {W W' : World} {B : Nat} {v : Value} {l : List (Nat × Nat)} (h : W.ownsRow B 55 2 v l.length (rcs l)) (c : Cha (fun _ => False) W W') : Pairs W' v l := pairs_of_own (owns_cha h c (fun _ _ x => x))

set_option maxRecDepth 100000 in
set_option maxHeartbeats 4000000 in
theorem fixed_walk (w : World) : Calls Try.prog 6 #[] w fun e w' => e = .returned (.bool true) ∧ Cha (fun _ => False) w w' := by
  have A10 : Calls Try.prog 10 #[.int .i64 8] w fun e W' => ∃ bm bp, e = .returned (.tuple #[.pointer (some ⟨bm, 0, none⟩), .int .i64 0]) ∧ Ow w W' bm bp 8 nou := ow_new 8 (Cha.refl _ w) (by omega) (by omega)
  have A10 := Lib.hid A10
  have B10 := Lib.hid fun W => new_bad 0 W (by omega)
  have C10 := Lib.hid fun W => new_bad 4097 W (by omega)
  have A13 := Lib.hid fun (W : World) (bm bp : Nat) (h : Ow w W bm bp 8 nou) => ow_alloc a1 (by omega) h
  have B13 := Lib.hid fun (W : World) (bm bp : Nat) (h : Ow w W bm bp 8 u1) => ow_alloc a2 (by omega) h
  have C13 := Lib.hid fun (W : World) (bm bp : Nat) (h : Ow w W bm bp 8 u3) => ow_alloc b1 (by omega) h
  have D13 := Lib.hid fun (W : World) (bm bp : Nat) (h : Ow w W bm bp 8 u3) => ow_alloc b2 (by omega) h
  have E13 := Lib.hid fun (W : World) (bm bp : Nat) (h : Ow w W bm bp 8 u4) => ow_alloc b3 (by omega) h
  have A17 := Lib.hid fun (W : World) (bm bp : Nat) (h : Ow w W bm bp 8 u2) => ow_free a3 (by omega) h
  have B17 := Lib.hid fun (W : World) (bm bp : Nat) (h : Ow w W bm bp 8 u4) => ow_free b4 (by omega) h
  have A15 := Lib.hid fun (W : World) (bm bp : Nat) (h : Ow w W bm bp 8 u4) => ow_take b5 (by omega) h
  have A20 := Lib.hid fun (W : World) (bm bp : Nat) (h : Ow w W bm bp 8 u4) => ow_used (-1) (b := true) (by decide +kernel) h
  have B20 := Lib.hid fun (W : World) (bm bp : Nat) (h : Ow w W bm bp 8 u4) => ow_used 8 (b := true) (by decide +kernel) h
  have A22 : Hid (∀ (W : World) (bm bp : Nat), Ow w W bm bp 8 u4 → Calls Try.prog 22 #[.pointer (some ⟨bm, 0, none⟩), .int .i64 (-1)] W fun e W' => ∃ v, e = .returned (.tuple #[v, .bool true]) ∧ W'.ownsRow W.heap.size 55 2 v [(2, 1), (5, 3)].length (rcs [(2, 1), (5, 3)]) ∧ Ow w W' bm bp 8 u4) :=
    Lib.hid fun W bm bp h => (runs_any W h.pg).mono fun e W' ⟨v, he, ho, hc⟩ => ⟨v, he, by rw [rows4] at ho; exact ho, h.same hc⟩
  have A18 : Hid (∀ (W : World) (bm bp : Nat), Ow w W bm bp 8 u4 → Calls Try.prog 18 #[.pointer (some ⟨bm, 0, none⟩)] W fun e W' => e = .returned (.tuple #[.int .i64 4, .int .i64 3]) ∧ Cha (fun _ => False) W W') :=
    Lib.hid fun W bm bp h => (counts_any bm bp 8 u4 W h.pg).mono fun e W' ⟨he, hc⟩ => ⟨by rw [he, cnt4, mx4]; rfl, hc⟩
  have A12 := Lib.hid awake_any
  have A23 : Hid (∀ (W : World) (v u : Value), Pairs W v [(2, 1), (5, 3)] → Pairs W u [(2, 1), (5, 3)] → Calls Try.prog 23 #[v, u] W fun e w' => e = .returned (.bool true) ∧ Cha (fun _ => False) W w') := Lib.hid fun W v u h1 h2 => same_any (by decide) h1 h2
  go_enter Try.func6, Try.ntmps6
  go_wp2_with (first
    | (go_at_call 10; ((with_reducible refine (A10.out).mono ?_); rintro e w1 ⟨bm, bp, rfl, h⟩; have H10 := Lib.hid h; clear h))
    | (go_at_call 10; ((with_reducible refine (B10.out _).mono ?_); rintro e w1 ⟨rfl, rfl⟩))
    | (go_at_call 10; ((with_reducible refine (C10.out _).mono ?_); rintro e w1 ⟨rfl, rfl⟩))
    | (go_at_call 13; ((with_reducible refine (A13.out _ _ _ H10.out).mono ?_); rintro e w1 ⟨rfl, h⟩; have H13 := Lib.hid h; clear h))
    | (go_at_call 13; ((with_reducible refine (B13.out _ _ _ H13.out).mono ?_); rintro e w1 ⟨rfl, h⟩; have H23 := Lib.hid h; clear h))
    | (go_at_call 17; ((with_reducible refine (A17.out _ _ _ H23.out).mono ?_); rintro e w1 ⟨rfl, h⟩; have H17 := Lib.hid h; clear h))
    | (go_at_call 13; ((with_reducible refine (C13.out _ _ _ H17.out).mono ?_); rintro e w1 ⟨rfl, h⟩; have H33 := Lib.hid h; clear h))
    | (go_at_call 13; ((with_reducible refine (D13.out _ _ _ H33.out).mono ?_); rintro e w1 ⟨rfl, h⟩; have H43 := Lib.hid h; clear h))
    | (go_at_call 13; ((with_reducible refine (E13.out _ _ _ H43.out).mono ?_); rintro e w1 ⟨rfl, h⟩; have H53 := Lib.hid h; clear h))
    | (go_at_call 22; ((with_reducible refine (A22.out _ _ _ H53.out).mono ?_); rintro e w5 ⟨v, rfl, ho, h⟩; have HO := Lib.hid ho; have H22 := Lib.hid h; clear ho h))
    | (go_at_call 18; ((with_reducible refine (A18.out _ _ _ H22.out).mono ?_); rintro e w6 ⟨rfl, hc⟩; have H18 := Lib.hid (H22.out.same hc); have HO2 := Lib.hid (owns_cha HO.out hc (fun _ _ x => x)); clear hc))
    | (go_at_call 12; ((with_reducible refine (A12.out _).mono ?_); rintro e w7 ⟨rfl, hc⟩; have H12 := Lib.hid (H18.out.same hc); have HO3 := Lib.hid (owns_cha HO2.out hc (fun _ _ x => x)); clear hc))
    | (go_at_call 23; ((with_reducible refine (A23.out _ _ _ (pairs_cha HO3.out ((Cha.refl _ _).alloc _)) (pairs_lit _ _)).mono ?_); rintro e w8 ⟨rfl, hc⟩; have H63 := Lib.hid (H12.out.same (((Cha.refl _ _).alloc _).trans hc)); clear hc))
    | (go_at_call 17; ((with_reducible refine (B17.out _ _ _ H63.out).mono ?_); rintro e w1 ⟨rfl, h⟩; have H73 := Lib.hid h; clear h))
    | (go_at_call 15; ((with_reducible refine (A15.out _ _ _ H73.out).mono ?_); rintro e w1 ⟨rfl, h⟩; have H83 := Lib.hid h; clear h))
    | (go_at_call 20; ((with_reducible refine (A20.out _ _ _ H83.out).mono ?_); rintro e w1 ⟨rfl, rfl⟩))
    | (go_at_call 20; ((with_reducible refine (B20.out _ _ _ H83.out).mono ?_); rintro e w1 ⟨rfl, rfl⟩)))
  go_ret
  exact ⟨rfl, H83.out.cha⟩
end Go.Proofs.Ytgglcfmnhiakcaa
