/- MarkOften: its walk. -/
import Derived.Test.YtllefljimkmbhaaXJ
import Derived.Test.YtllefljimkmbhaaAB
import Derived.Deep.CutBlock
namespace Go.Proofs.Ytllefljimkmbhaa
open Go.ChangeShapes Go.WideShapes Go.ChangeAt Go.RowKit
variable {w0 W W' : World} {F : Nat → Prop} {bg bd : Nat} {g : Gr}

theorem live_twice {K K2 : Nat → Prop} (h : Inv g K) (h2 : Inv g.cycled K2) (hp : g.ph = 0) : g.cycled.cycled.live = g.cycled.live := by
  have a := h.cycled hp
  have b := h2.cycled (a 0).1
  unfold Gr.live
  rw [cycled_kept.n]
  refine cnt_congr fun i _ _ => ?_
  have : g.cycled.cycled.col i ≠ 0 ↔ g.cycled.col i ≠ 0 := by rw [(b i).2, (a i).2, cycled_kept.reach]
  rw [Bool.eq_iff_iff, bne_iff_ne, bne_iff_ne]
  exact this
theorem mk_row (W : World) : (Instr.makeSlice 59 (.int .i64 1) (.int .i64 1)).run Try.prog W = .ok (.slice (some ⟨W.heap.size, 0, none⟩) 1 1) (W.alloc (.cells #[.slice none 0 0] 50)) := by
  obtain ⟨i, hi, hz, hs, hb⟩ := info_parts slE_ok.inf
  have hb : i.bytes = 24 := hb
  have hs : i.size = 1 := hs
  have h := run_make (P := Try.prog) W 59 50 i _ Try.underlying59 hi hz .i64 .i64 1 1 (by omega) (by omega) (by rw [hb]; omega) (by omega)
  have e : madeCells slE.z.cells (1 * 1) = #[.slice none 0 0] := by kernel_rfl
  rw [hs, show Int.toNat 1 = 1 from rfl, e] at h
  exact h
set_option maxRecDepth 100000 in
set_option maxHeartbeats 8000000 in
theorem often_walk (s : Option Addr) (len c : Nat) (w : World) (hlen : len ≤ 9223372036854775807) (hcap : c ≤ 9223372036854775807) (hlc : len ≤ c)
    (hs : 0 < len → ∃ (b o : Nat), s = some ⟨b, o, none⟩ ∧ ∀ i, i < len → ∃ z0 z1 z2 z3, OpAt w b (o + i * 4) z0 z1 z2 z3) :
    Calls Try.prog 7 #[.slice s len c] w fun e w' => e = .returned (.bool true) ∧ Cha (fun _ => False) w w' := by
  have A9 := Lib.hid (m9 (Cha.refl (fun _ => False) w))
  have A11 : Hid (∀ bg W1, Mine w (PgA bg Gr.new) W1 → Calls Try.prog 11 #[] ((W1.alloc (.cells #[.slice none 0 0] 50)).alloc (.cells #[.slice (some ⟨W1.heap.size, 0, none⟩) 1 1, .slice none 0 0] 61)) fun e W' => e = .returned (.bool true) ∧ Mine w (Duo bg (W1.heap.size + 1) Gr.new) W') := Lib.hid fun bg W1 h => by
    have h2 := duo_new h
    exact (awake_any _).mono fun _ _ ⟨a, c⟩ => ⟨a, h2.same (fit_duo _ _ _) c⟩
  have HS := Lib.hid hs
  clear hs
  obtain ⟨m, hm⟩ : ∃ m, min len 120 = m := ⟨_, rfl⟩
  have hml : m ≤ len := by omega
  have hmi : (if (120 : Int) < (len : Int) then (120 : Int) else (len : Int)) = (m : Int) := by split <;> omega
  have hm1 : m ≤ 120 := by omega
  go_enter Try.func7, Try.ntmps7
  go_wp2_with (first
    | (rw [mk_row])
    | (go_at_call 9; ((with_reducible refine (A9.out).mono ?_); rintro e w1 ⟨bg, rfl, h⟩; have B11 := Lib.hid (A11.out _ _ h); clear h A9))
    | (go_at_call 11; ((with_reducible refine (B11.out).mono ?_); rintro e w2 ⟨rfl, h⟩; have H2 := Lib.hid h; clear h A11 B11)))
  have fit := Lib.hid (fit_duo bg (w1.heap.size + 1))
  generalize w1.heap.size + 1 = bd at *
  have HM : Hid (∀ W gr z0 z1 z2 z3, gr.n < 4000 → gr.roots.length ≤ 4000 → Mine w (Duo bg bd gr) W → Calls Try.prog 32 #[.pointer (some ⟨bg, 0, none⟩), .pointer (some ⟨bd, 0, none⟩), opV z0 z1 z2 z3] W fun e W' => e = .returned (.bool true) ∧ Mine w (Duo bg bd (gr.change z0 z1 z2 z3)) W') := Lib.hid fun W gr z0 z1 z2 z3 hn hr h => mchange h hn hr z0 z1 z2 z3
  have HC : Hid (∀ W gr, gr.ph = 0 → gr.n ≤ 4096 → gr.roots.length ≤ 8192 → Mine w (Duo bg bd gr) W → Calls Try.prog 34 #[.pointer (some ⟨bg, 0, none⟩), .pointer (some ⟨bd, 0, none⟩)] W fun e W' => e = .returned (.bool true) ∧ Mine w (Duo bg bd gr.cycled) W' ∧ gr.cycled.ph = 0 ∧ gr.cycled.n = gr.n ∧ gr.cycled.roots = gr.roots ∧ gr.cycled.cycled.live = gr.cycled.live) := Lib.hid fun W gr hp hn hr h => by
    obtain ⟨K, hi⟩ := mduo_inv h
    refine (cycle_any h hp hn hr).mono fun e W' ⟨a, b⟩ => ⟨a, b, (hi.cycled hp 0).1, cycled_kept.n, cycled_kept.roots, ?_⟩
    obtain ⟨K2, h2⟩ := mduo_inv b
    exact live_twice hi h2 hp
  have H26 : Hid (∀ W gr, gr.ph = 0 → Mine w (Duo bg bd gr) W → Calls Try.prog 26 #[.pointer (some ⟨bg, 0, none⟩)] W fun e W' => e = .returned (.tuple #[.int .i64 0, .int .i64 gr.cyc, .int .i64 gr.live]) ∧ Mine w (Duo bg bd gr) W') := Lib.hid fun W gr hp h => by
    have := mcounts h
    rw [hp] at this
    exact this
  clear hm hmi
  go_loopw [29] (fun i wr => ∃ j : Nat, j ≤ m ∧ i = .int .i64 (j : Int) ∧ ∃ gr, gr.n ≤ j ∧ gr.roots.length ≤ j ∧ gr.ph = 0 ∧ Mine w (Duo bg bd gr) wr) (fun i _ => m - (intOf i).toNat)
  case atStart => exact ⟨0, Nat.zero_le _, rfl, Gr.new, Nat.le_refl _, Nat.le_refl _, rfl, H2.out⟩
  case round =>
    clear H2
    obtain ⟨j, hj, rfl, gr, hn, hr, hp, hD⟩ := hrel
    by_cases hlt : j < m
    · obtain ⟨b, o, rfl, hz⟩ := HS.out (by omega)
      obtain ⟨z0, z1, z2, z3, hop⟩ := hz j (by omega)
      have hop := hop.cha hD.cha
      have HR := Lib.hid hop.cells
      have HB := Lib.hid (hD.same (fit_duo _ _ _) ((Cha.refl (fun _ => False) wr).alloc (.cells #[.int .i64 z0, .int .i64 z1, .int .i64 z2, .int .i64 z3] 29)))
      clear hz hop hD HS
      go_upto_block 2 with (refine wpList_load_mid rfl 29 (.tmp 32) rfl b (o + j * 4) rfl _ _ HR.out Try.underlying29 rfl (by kernel_rfl) ?_)
      have C1 := Lib.hid (HM.out _ gr z0 z1 z2 z3 (by omega) (by omega) HB.out)
      obtain ⟨s1, s2, s3, _, _⟩ := change_size (g := gr) z0 z1 z2 z3
      generalize gr.change z0 z1 z2 z3 = g1 at *
      refine (C1.out).mono ?_
      rintro e w3 ⟨rfl, h⟩
      have D1 := Lib.hid (HC.out _ g1 (by omega) (by omega) (by omega) h)
      have H3 := Lib.hid h
      clear h C1 HB HR HM HC H26
      by_cases h19 : Int.tmod (j : Int) 20 = 19
      · have h19b : (Int.tmod (j : Int) 20 == 19) = true := by simpa using h19
        clear H3
        go_wp2_with (go_at_call 34; ((with_reducible refine (D1.out).mono ?_); rintro e w4 ⟨rfl, h, k1, k2, k3, _⟩; have H4 := Lib.hid h; clear h))
        go_roundw
        case rel => exact ⟨j + 1, hlt, rfl, g1.cycled, by omega, by rw [k3]; omega, k1, H4.out⟩
        case measure => simp [intOf]; omega
      · have h19b : (Int.tmod (j : Int) 20 == 19) = false := by simpa using h19
        clear D1
        go_wp2
        go_roundw
        case rel => exact ⟨j + 1, hlt, rfl, g1, by omega, by omega, by omega, H3.out⟩
        case measure => simp [intOf]; omega
    · obtain rfl : j = m := by omega
      have D1 := Lib.hid (HC.out _ gr hp (by omega) (by omega) hD)
      clear hD
      go_wp2_with (first
        | (go_at_call 34; ((with_reducible refine (D1.out).mono ?_); rintro e w4 ⟨rfl, h, k1, k2, k3, k4⟩; have D2 := Lib.hid (H26.out _ _ k1 h); clear h D1))
        | (go_at_call 26; ((with_reducible refine (D2.out).mono ?_); rintro e w5 ⟨rfl, h⟩; have D3 := Lib.hid (HC.out _ _ k1 (by omega) (by rw [k3]; omega) h); clear h D2))
        | (go_at_call 34; ((with_reducible refine (D3.out).mono ?_); rintro e w6 ⟨rfl, h, l1, l2, l3, l4⟩; have D4 := Lib.hid (H26.out _ _ l1 h); clear h D3))
        | (go_at_call 26; ((with_reducible refine (D4.out).mono ?_); rintro e w7 ⟨rfl, h⟩; rw [k4]; have H7 := Lib.hid h; clear h D4)))
      go_returns
      exact ⟨rfl, H7.out.cha⟩
end Go.Proofs.Ytllefljimkmbhaa
