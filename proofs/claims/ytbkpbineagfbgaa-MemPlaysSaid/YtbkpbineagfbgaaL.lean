/- MemSwaps: of any swaps just those are done whose old word stands there. -/
import Derived.Test.YtbkpbineagfbgaaK
import Derived.Deep.QuietTactic
import Derived.BigQuiet
namespace Go.Proofs.Ytbkpbineagfbgaa
open Go.ChangeShapes Go.WideShapes Go.ChangeAt Go.RowKit

theorem Own.drewN {w W : World} {bm bp n : Nat} {st wd : Nat → Int} (h : Own w W bm bp n st wd) (k : Nat) : Own w (W.drewN k) bm bp n st wd :=
  ⟨⟨h.mem.head, h.mem.body, h.mem.ne, h.mem.pos, h.mem.le, h.mem.rng⟩, h.zer, ⟨h.chg.os, h.chg.out, h.chg.size, h.chg.old, h.chg.fr⟩, h.new⟩
theorem Chg.cell {w W : World} (h : Chg (fun _ => False) w W) {b o : Nat} {v : Value} (hc : w.cell? ⟨b, o, none⟩ = some v) : W.cell? ⟨b, o, none⟩ = some v := by
  have hb := block_lt_of_cell hc
  have e := h.old b hb (fun x => x)
  simpa [World.cell?, e] using hc

/-- The start of a law over one page. -/
theorem swaps_new (w : World) : Calls Try.prog 9 #[.int .i64 1] w fun e W' => ∃ bm bp, e = .returned (.tuple #[.pointer (some ⟨bm, 0, none⟩), .int .i64 0]) ∧ Own w W' bm bp 1 zro zro := own_new 1 w w (Chg.refl _ _) (by omega) (by omega)
theorem swaps_map (w W : World) (bm bp : Nat) (h : Own w W bm bp 1 zro zro) : Calls Try.prog 17 #[.pointer (some ⟨bm, 0, none⟩), .int .i64 0, .int .i64 1] W fun e W' => e = .returned (.int .i64 0) ∧ Own w W' bm bp 1 one zro :=
  (own_map 0 1 h (by omega) (by omega) (by decide +kernel)).mono fun _ _ ⟨he, h⟩ => ⟨he, own_congr h (fun p hp => by unfold rst one; rw [if_pos (by omega)]) (fun a ha => by unfold rwd zro; rw [if_pos (by omega)])⟩
theorem swaps_hit (w W : World) (bm bp : Nat) (wd : Nat → Int) (o v : Int) (h : Own w W bm bp 1 one wd) (ho : wd 5 = o) : Calls Try.prog 21 #[.pointer (some ⟨bm, 0, none⟩), .int .i64 5, .int .u64 o, .int .u64 v] W fun e W' =>
    e = .returned (.tuple #[.bool true, .int .i64 0]) ∧ Own w W' bm bp 1 one (upd wd 5 v) :=
  (own_hit 5 o v h ⟨by omega, .inl rfl⟩ ho).mono fun _ _ ⟨he, h⟩ => ⟨he, by rwa [upd_one] at h⟩
theorem swaps_miss (w W : World) (bm bp : Nat) (wd : Nat → Int) (o v : Int) (h : Own w W bm bp 1 one wd) (ho : wd 5 ≠ o) : Calls Try.prog 21 #[.pointer (some ⟨bm, 0, none⟩), .int .i64 5, .int .u64 o, .int .u64 v] W fun e W' =>
    e = .returned (.tuple #[.bool false, .int .i64 0]) ∧ Own w W' bm bp 1 one wd :=
  (own_miss 5 o v h ⟨by omega, .inl rfl⟩ ho).mono fun _ _ ⟨he, h⟩ => ⟨he, by rwa [upd_one] at h⟩
theorem swaps_load (w W : World) (bm bp : Nat) (wd : Nat → Int) (x : Int) (h : Own w W bm bp 1 one wd) (hx : wd 5 = x) : Calls Try.prog 20 #[.pointer (some ⟨bm, 0, none⟩), .int .i64 5] W fun e W' =>
    e = .returned (.tuple #[.int .u64 x, .int .i64 0]) ∧ Own w W' bm bp 1 one wd :=
  (own_load 5 h ⟨by omega, .inl rfl⟩).mono fun _ _ ⟨he, h⟩ => ⟨hx ▸ he, by rwa [upd_one] at h⟩

set_option maxRecDepth 100000 in
set_option maxHeartbeats 2000000 in
theorem swaps_none (s0 s1 : Option Addr) (n0 c0 n1 c1 : Nat) (w : World) (h : n0 = 0 ∨ n1 = 0) (hn0 : n0 ≤ 9223372036854775807) (hn1 : n1 ≤ 9223372036854775807) :
    Calls Try.prog 7 #[.slice s0 n0 c0, .slice s1 n1 c1] w fun e w' => e = .returned (.bool true) ∧ Chg (fun _ => False) w w' := by
  have A9 := Lib.hid (swaps_new w)
  have A11 := Lib.hid awake_any
  have A17 := Lib.hid (swaps_map w)
  have AH := Lib.hid (swaps_hit w)
  have AM := Lib.hid (swaps_miss w)
  have AL := Lib.hid (swaps_load w)
  by_cases h0 : n0 = 0
  · subst h0
    clear h
    go_enter Try.func7, Try.ntmps7
    go_wp2_with (first
      | (go_at_call 9; ((with_reducible refine (A9.out).mono ?_); rintro e w1 ⟨bm, bp, rfl, h⟩; have H9 := Lib.hid h; clear h))
      | (go_at_call 11; ((with_reducible refine (A11.out _).mono ?_); rintro e w1 ⟨rfl, h⟩; have H11 := Lib.hid (H9.out.same h); clear h))
      | (go_at_call 17; ((with_reducible refine (A17.out _ _ _ H11.out).mono ?_); rintro e w1 ⟨rfl, h⟩; have H17 := Lib.hid h; clear h)))
    refine wp_loop_rounds 1 ?_
    rw [rounds_succ]
    go_wp2
    go_ret
    exact ⟨rfl, H17.out.chg⟩
  · obtain rfl : n1 = 0 := by omega
    have hpos : 0 < n0 := by omega
    clear h h0
    go_enter Try.func7, Try.ntmps7
    go_wp2_with (first
      | (go_at_call 9; ((with_reducible refine (A9.out).mono ?_); rintro e w1 ⟨bm, bp, rfl, h⟩; have H9 := Lib.hid h; clear h))
      | (go_at_call 11; ((with_reducible refine (A11.out _).mono ?_); rintro e w1 ⟨rfl, h⟩; have H11 := Lib.hid (H9.out.same h); clear h))
      | (go_at_call 17; ((with_reducible refine (A17.out _ _ _ H11.out).mono ?_); rintro e w1 ⟨rfl, h⟩; have H17 := Lib.hid h; clear h)))
    refine wp_loop_rounds 1 ?_
    rw [rounds_succ]
    go_wp2
    go_ret
    exact ⟨rfl, H17.out.chg⟩

set_option maxRecDepth 100000 in
set_option maxHeartbeats 4000000 in
theorem swaps_walk (b0 o0 n0 c0 b1 o1 n1 c1 : Nat) (z0 z1 : Nat → Int) (w : World) (hn0 : n0 ≤ 9223372036854775807) (hn1 : n1 ≤ 9223372036854775807)
    (h0 : ∀ i, i < n0 → w.cell? ⟨b0, o0 + i, none⟩ = some (.int .u8 (z0 i)) ∧ 0 ≤ z0 i ∧ z0 i ≤ 255) (h1 : ∀ i, i < n1 → w.cell? ⟨b1, o1 + i, none⟩ = some (.int .u8 (z1 i)) ∧ 0 ≤ z1 i ∧ z1 i ≤ 255) :
    Calls Try.prog 7 #[.slice (some ⟨b0, o0, none⟩) n0 c0, .slice (some ⟨b1, o1, none⟩) n1 c1] w fun e w' => e = .returned (.bool true) ∧ Chg (fun _ => False) w w' := by
  have A9 := Lib.hid (swaps_new w)
  have A11 := Lib.hid awake_any
  have A17 := Lib.hid (swaps_map w)
  have AH := Lib.hid (swaps_hit w)
  have AM := Lib.hid (swaps_miss w)
  have AL := Lib.hid (swaps_load w)
  have K0 := Lib.hid h0
  have K1 := Lib.hid h1
  clear h0 h1
  go_enter Try.func7, Try.ntmps7
  go_wp2_with (first
    | (go_at_call 9; ((with_reducible refine (A9.out).mono ?_); rintro e w1 ⟨bm, bp, rfl, h⟩; have H9 := Lib.hid h; clear h))
    | (go_at_call 11; ((with_reducible refine (A11.out _).mono ?_); rintro e w1 ⟨rfl, h⟩; have H11 := Lib.hid (H9.out.same h); clear h))
    | (go_at_call 17; ((with_reducible refine (A17.out _ _ _ H11.out).mono ?_); rintro e w1 ⟨rfl, h⟩; have H17 := Lib.hid h; clear h)))
  go_loopw [7, 8] (fun x i wr => ∃ (j : Nat) (wd : Nat → Int), (j ≤ n0 ∧ j ≤ n1) ∧ x = .int .u64 (wd 5) ∧ i = .int .i64 (j : Int) ∧ Own w wr bm bp 1 one wd) (fun _ i _ => n0 - (intOf i).toNat)
  case atStart => exact ⟨0, _, ⟨Nat.zero_le _, Nat.zero_le _⟩, rfl, rfl, H17.out⟩
  case round =>
    obtain ⟨j, wd, ⟨hj0, hj1⟩, rfl, rfl, hO⟩ := hrel
    have HO := Lib.hid hO
    clear hO
    by_cases hlt : j < n0 ∧ j < n1
    · obtain ⟨hl0, hl1⟩ := hlt
      obtain ⟨k0, p0, q0⟩ := K0.out j hl0
      obtain ⟨k1, p1, q1⟩ := K1.out j hl1
      have k0 := HO.out.chg.cell k0
      have k1 := HO.out.chg.cell k1
      obtain ⟨x, hx⟩ : ∃ x, wd 5 = x := ⟨_, rfl⟩
      have HX := Lib.hid hx
      rw [hx]
      clear hx
      obtain ⟨o, ho⟩ : ∃ o, z0 j % 4 = o := ⟨_, rfl⟩
      obtain ⟨v, hv⟩ : ∃ v, z1 j % 4 = v := ⟨_, rfl⟩
      have p2 : 0 ≤ o := by omega
      have p3 : 0 ≤ v := by omega
      have p4 : o ≤ 3 := by omega
      have p5 : v ≤ 3 := by omega
      by_cases hxo : x = o
      · subst hxo
        go_wp2
        go_quiet (fail)
        go_wp2_with (first
          | (go_at_call 21; ((with_reducible refine (AH.out _ _ _ wd x v (HO.out.drewN _) HX.out).mono ?_); rintro e w2 ⟨rfl, h⟩; have H21 := Lib.hid h; clear h))
          | (go_at_call 20; ((with_reducible refine (AL.out _ _ _ _ v H21.out (upd_same _ _ _)).mono ?_); rintro e w3 ⟨rfl, h⟩; have H20 := Lib.hid h; clear h)))
        go_roundw
        case rel => exact ⟨j + 1, _, ⟨by omega, by omega⟩, by rw [upd_same], by go_num, H20.out⟩
        case measure => simp [intOf]; omega
      · have HN := Lib.hid (show wd 5 ≠ o by rw [HX.out]; exact hxo)
        have hob : (o == x) = false := by simpa using fun h => hxo h.symm
        clear hxo
        go_wp2
        go_quiet (fail)
        go_wp2_with (first
          | (go_at_call 21; ((with_reducible refine (AM.out _ _ _ wd o v (HO.out.drewN _) HN.out).mono ?_); rintro e w2 ⟨rfl, h⟩; have H21 := Lib.hid h; clear h))
          | (go_at_call 20; ((with_reducible refine (AL.out _ _ _ _ x H21.out HX.out).mono ?_); rintro e w3 ⟨rfl, h⟩; have H20 := Lib.hid h; clear h)))
        go_roundw
        case rel => exact ⟨j + 1, _, ⟨by omega, by omega⟩, by rw [HX.out], by go_num, H20.out⟩
        case measure => simp [intOf]; omega
    · by_cases h0 : j < n0
      · obtain rfl : j = n1 := by omega
        clear hlt
        go_wp2
        go_ret
        exact ⟨rfl, HO.out.chg⟩
      · obtain rfl : j = n0 := by omega
        clear hlt h0
        go_wp2
        go_ret
        exact ⟨rfl, HO.out.chg⟩
end Go.Proofs.Ytbkpbineagfbgaa
