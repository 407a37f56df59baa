/- MemPlays: whatever the script, both memories answer the same. -/
import Derived.Test.YtbkpbineagfbgaaAG
import Derived.Deep.QuietTactic
import Derived.BigQuiet
namespace Go.Proofs.Ytbkpbineagfbgaa
open Go.ChangeShapes Go.WideShapes Go.ChangeAt Go.RowKit

/-- A page's state, 0 of one that there isn't. -/
def sv (st : Nat → Int) (n : Nat) (x : Int) : Int := if 0 ≤ x ∧ x < n then st x.toNat else 0
theorem state_all (x : Int) {w : World} {bm bp n : Nat} {st wd : Nat → Int} (h : Mem w bm bp n st wd) : Calls Try.prog 15 #[.pointer (some ⟨bm, 0, none⟩), .int .i64 x] w fun e w' => e = .returned (.int .i64 (sv st n x)) ∧ w' = w := by
  unfold sv
  by_cases c : 0 ≤ x ∧ x < n
  · rw [if_pos c]
    obtain ⟨x, rfl⟩ : ∃ x' : Nat, x = (x' : Int) := ⟨x.toNat, by omega⟩
    exact (state_yes x h (by omega)).mono fun _ _ ⟨he, e⟩ => ⟨he, e.symm⟩
  · rw [if_neg c]
    exact (state_no x h (by omega)).mono fun _ _ ⟨he, e⟩ => ⟨he, e.symm⟩
theorem rstate_all (x : Int) {W : World} {T : Nat → Prop} {br bs bw n : Nat} {st wd : Nat → Int} {ws : Nat → Value} {bl : Nat → Nat} (h : Ref W T br bs bw n st wd ws bl) : Calls Try.prog 16 #[.pointer (some ⟨br, 0, none⟩), .int .i64 x] W fun e w' => e = .returned (.int .i64 (sv st n x)) ∧ w' = W := by
  unfold sv
  by_cases c : 0 ≤ x ∧ x < n
  · rw [if_pos c]
    obtain ⟨x, rfl⟩ : ∃ x' : Nat, x = (x' : Int) := ⟨x.toNat, by omega⟩
    exact (rstate_yes x h (by omega)).mono fun _ _ ⟨he, e⟩ => ⟨he, e.symm⟩
  · rw [if_neg c]
    exact (rstate_no x h (by omega)).mono fun _ _ ⟨he, e⟩ => ⟨he, e.symm⟩
variable {w W : World} {bm bp br n : Nat} {T : Nat → Prop} {st wd : Nat → Int}
theorem Two.drewN (h : Two w W bm bp br n T st wd) (k : Nat) : Two w (W.drewN k) bm bp br n T st wd :=
  (Half.same h (⟨rfl, rfl, Nat.le_refl _, fun _ _ _ => rfl, fun _ => rfl⟩ : Chg (fun _ => False) W (W.drewN k))).1
/-- What is asked behind a call. -/
structure Asks (W : World) (bm br n : Nat) (st : Nat → Int) : Prop where
  s15 : ∀ k x, Calls Try.prog 15 #[.pointer (some ⟨bm, 0, none⟩), .int .i64 x] (W.drewN k) fun e w' => e = .returned (.int .i64 (sv st n x)) ∧ w' = W.drewN k
  s16 : ∀ k x, Calls Try.prog 16 #[.pointer (some ⟨br, 0, none⟩), .int .i64 x] (W.drewN k) fun e w' => e = .returned (.int .i64 (sv st n x)) ∧ w' = W.drewN k
  s14 : ∀ k x, Calls Try.prog 14 #[.pointer (some ⟨br, 0, none⟩), .int .i64 x] (W.drewN k) fun e w' => e = .returned (.int .i64 (cnt st x n : Nat)) ∧ w' = W.drewN k
theorem Two.asks (h : Two w W bm bp br n T st wd) : Asks W bm br n st := by
  refine ⟨fun k x => state_all x (h.drewN k).mem, fun k x => ?_, fun k x => ?_⟩
  · obtain ⟨bs, bw, ws, bl, hr⟩ := (h.drewN k).ref
    exact rstate_all x hr
  · obtain ⟨bs, bw, ws, bl, hr⟩ := (h.drewN k).ref
    exact (rcount_any x hr).mono fun _ _ ⟨he, e⟩ => ⟨he, e.symm⟩

/-- The start: both memories are new. -/
theorem two_new (n : Nat) (w w1 w2 : World) (h1 : Made w w1 n) (h2 : RMade w1 w2 n) : Two w w2 (w.heap.size + 1) w.heap.size (w1.heap.size + 2) n (fun i => w1.heap.size ≤ i ∧ i < w1.heap.size + 3) zro zro := by
  obtain ⟨bs, bw, ws, bl, hr, hc⟩ := h2
  have hl := h1.mem.lt
  have hs := h1.chg.size
  exact ⟨h1.mem.chg hc (fun x => x) (fun x => x), fun _ _ _ => rfl, (h1.chg.trans hc).cha, by omega, ⟨bs, bw, ws, bl, hr⟩, by omega, by omega, fun i hi => by omega⟩

set_option maxRecDepth 100000 in
set_option maxHeartbeats 2000000 in
theorem plays_bad (p : Int) (v : Value) (w : World) (hp : p < 1 ∨ 4096 < p) : Calls Try.prog 3 #[.int .i64 p, v] w fun e w' => e = .returned (.bool true) ∧ Cha (fun _ => False) w w' := by
  have A9 := Lib.hid (new_bad p w hp)
  have A10 := Lib.hid fun w => rnew_bad p w hp
  have A11 := Lib.hid awake_any
  clear hp
  go_enter Try.func3, Try.ntmps3
  go_wp2_with (first
    | (go_at_call 9; ((with_reducible refine (A9.out).mono ?_); rintro e w1 ⟨rfl, rfl⟩))
    | (go_at_call 10; ((with_reducible refine (A10.out _).mono ?_); rintro e w1 ⟨rfl, rfl⟩))
    | (go_at_call 11; ((with_reducible refine (A11.out _).mono ?_); rintro e w1 ⟨rfl, h⟩; have H11 := Lib.hid h; clear h)))
  go_ret
  exact ⟨rfl, H11.out.cha⟩

/-- An operation of the script. -/
structure OpAt (w : World) (b o : Nat) (z0 z1 z2 z3 z4 z5 : Int) : Prop where
  cells : w.rangeAt b o [.int .i64 z0, .int .i64 z1, .int .i64 z2, .int .i64 z3, .int .u64 z4, .int .u64 z5]
  lo : -9223372036854775808 ≤ z1
  h1 : z1 ≤ 9223372036854775807
  h2 : z2 ≤ 9223372036854775807
  h3 : z3 ≤ 9223372036854775807
theorem OpAt.cha {w W : World} {b o : Nat} {z0 z1 z2 z3 z4 z5 : Int} (h : OpAt w b o z0 z1 z2 z3 z4 z5) (c : Cha (fun _ => False) w W) : OpAt W b o z0 z1 z2 z3 z4 z5 := by
  refine ⟨fun j v hv => ?_, h.lo, h.h1, h.h2, h.h3⟩
  have h1 := h.cells j v hv
  have hb := block_lt_of_cell h1
  have e := c.old b hb (fun x => x)
  simpa [World.cell?, e] using h1

set_option maxRecDepth 100000 in
set_option maxHeartbeats 8000000 in
theorem plays_walk (p : Nat) (s : Option Addr) (len c : Nat) (w : World) (hp1 : 1 ≤ p) (hp2 : p ≤ 4096) (hlen : len ≤ 9223372036854775807)
    (hs : 0 < len → ∃ (b o : Nat), s = some ⟨b, o, none⟩ ∧ ∀ i, i < len → ∃ z0 z1 z2 z3 z4 z5, OpAt w b (o + i * 6) z0 z1 z2 z3 z4 z5) :
    Calls Try.prog 3 #[.int .i64 (p : Int), .slice s len c] w fun e w' => e = .returned (.bool true) ∧ Cha (fun _ => False) w w' := by
  have A9 := Lib.hid (new_ok p w hp1 hp2)
  have A10 := Lib.hid fun w => rnew_ok p w hp1 hp2
  have A11 := Lib.hid awake_any
  have HS := Lib.hid hs
  clear hs
  go_enter Try.func3, Try.ntmps3
  go_wp2_with (first
    | (go_at_call 9; ((with_reducible refine (A9.out).mono ?_); rintro e w1 ⟨rfl, h⟩; have H9 := Lib.hid h; clear h))
    | (go_at_call 10; ((with_reducible refine (A10.out _).mono ?_); rintro e w2 ⟨rfl, h⟩; have H10 := Lib.hid (two_new _ _ _ _ H9.out h); clear h))
    | (go_at_call 11; ((with_reducible refine (A11.out _).mono ?_); rintro e w3 ⟨rfl, h⟩; have H11 := Lib.hid (Half.same H10.out h).1; clear h)))
  have H12 : Hid (Two w w3 (w.heap.size + 1) w.heap.size (w1.heap.size + 2) p (fun i => w1.heap.size ≤ i ∧ i < w1.heap.size + 3) zro zro) := H11
  clear A9 A10 A11 H9 H10 H11
  generalize w1.heap.size + 2 = br at *
  obtain ⟨bp, hbp⟩ : ∃ bp, bp = w.heap.size := ⟨_, rfl⟩
  have H13 : Hid (∃ T, Two w w3 (w.heap.size + 1) bp br p T zro zro) := Lib.hid ⟨_, by rw [hbp]; exact H12.out⟩
  clear H12 hbp
  generalize w.heap.size + 1 = bm at *
  go_loopw [41] (fun i wr => ∃ (j : Nat) (T : Nat → Prop) (st wd : Nat → Int), j ≤ len ∧ i = .int .i64 (j : Int) ∧ Two w wr bm bp br p T st wd) (fun i _ => len - (intOf i).toNat)
  case atStart => exact H13.out.elim fun T h => ⟨0, T, _, _, Nat.zero_le _, rfl, h⟩
  case round =>
    clear H13
    obtain ⟨j, T, st, wd, hj, rfl, hT⟩ := hrel
    by_cases hlt : j < len
    · obtain ⟨b, o, rfl, hz⟩ := HS.out (by omega)
      obtain ⟨z0, z1, z2, z3, z4, z5, hop⟩ := hz j hlt
      have hop := hop.cha hT.chg
      have hr := hop.cells
      have HT := Lib.hid hT
      have C1 := Lib.hid (play_any z0 z1 z2 z3 z4 z5 hop.lo hop.h1 hop.h2 hop.h3 (Half.same hT ((Chg.refl _ wr).alloc #[.int .i64 z0, .int .i64 z1, .int .i64 z2, .int .i64 z3, .int .u64 z4, .int .u64 z5] 33)).1)
      clear hz hT hop
      have HR := Lib.hid hr
      clear hr
      have hsz : wr.heap.size < (wr.alloc (.cells #[.int .i64 z0, .int .i64 z1, .int .i64 z2, .int .i64 z3, .int .u64 z4, .int .u64 z5] 33)).heap.size := by show _ < (Array.push _ _).size; simp
      have hg1 : ¬ (wr.heap.size = bp ∨ T wr.heap.size) := fun c => by
        rcases c with c | c
        · have := HT.out.mem.lt; omega
        · obtain ⟨bs, bw, ws, bl, hr⟩ := HT.out.ref
          have := hr.lt _ c; omega
      have KX : Hid (∀ W', Cha (fun i => i = bp ∨ T i) (wr.alloc (.cells #[.int .i64 z0, .int .i64 z1, .int .i64 z2, .int .i64 z3, .int .u64 z4, .int .u64 z5] 33)) W' → W'.cell? ⟨wr.heap.size, 1, none⟩ = some (.int .i64 z1)) := Lib.hid fun W' hc =>
        cell_of_row W' _ 1 _ 33 _ ((hc.old _ hsz hg1).trans (heap_alloc_new wr _))
      clear hsz hg1
      go_wp2_with (first
        | (refine wpList_load_mid rfl 33 (.tmp 43) rfl b (o + j * 6) rfl _ _ HR.out Try.underlying33 rfl (by kernel_rfl) ?_)
        | (go_at_call 12; ((with_reducible refine (C1.out).mono ?_); rintro e w5 ⟨rfl, T', st', wd', hN, hc⟩; have k1 := KX.out _ hc; have HN := Lib.hid hN; have A13 := Lib.hid (counts_any hN.mem); have HA := Lib.hid hN.asks; clear hN hc))
        | (go_at_call 13; ((with_reducible refine (A13.out).mono ?_); rintro e w6 ⟨rfl, rfl⟩)))
      go_quiet ((first
        | (go_at_call 14; exact Calls.quiet_of_same (HA.out.s14 _ _))
        | (go_at_call 15; exact Calls.quiet_of_same (HA.out.s15 _ _))
        | (go_at_call 16; exact Calls.quiet_of_same (HA.out.s16 _ _))))
      go_wp2
      go_roundw
      case rel => exact ⟨j + 1, T', st', wd', by omega, by go_num, HN.out.drewN _⟩
      case measure => simp [intOf]; omega
    · obtain rfl : j = len := by omega
      have HC := Lib.hid hT.chg
      clear hT
      go_wp2
      go_ret
      exact ⟨rfl, HC.out⟩
end Go.Proofs.Ytbkpbineagfbgaa
