/- PagesPlays: whatever the script, both maps answer the same. -/
import Derived.Test.YtgglcfmnhiakcaaN
import Derived.Deep.RegionHeld3
import Derived.BigQuiet
namespace Go.Proofs.Ytgglcfmnhiakcaa
open Go.ChangeShapes Go.WideShapes Go.ChangeAt Go.RowKit

/-- The program's map (in state us) and the document's (in state us'), in blocks that are new since w. -/
structure Bo (w W : World) (bm bp br bq n : Nat) (us us' : Nat → Bool) : Prop where
  pg : Pg 83 W bm bp n us
  rg : Pg 85 W br bq n us'
  cha : Cha (fun _ => False) w W
  new : w.heap.size ≤ bm ∧ w.heap.size ≤ bp ∧ w.heap.size ≤ br ∧ w.heap.size ≤ bq
  far : bm ≠ bq ∧ bp ≠ br ∧ bp ≠ bq
variable {w W W' : World} {bm bp br bq n : Nat} {us us' us2 : Nat → Bool}
theorem Bo.same (h : Bo w W bm bp br bq n us us') (c : Cha (fun _ => False) W W') : Bo w W' bm bp br bq n us us' := ⟨h.pg.same c, h.rg.same c, h.cha.trans c, h.new, h.far⟩
theorem Bo.turn (h : Bo w W bm bp br bq n us us') (m : Pg 83 W' bm bp n us2) (c : Cha (· = bp) W W') : Bo w W' bm bp br bq n us2 us' :=
  ⟨m, h.rg.cha c (fun e => h.far.2.1 e.symm) (fun e => h.far.2.2 e.symm), h.cha.over c (fun i hi => .inr (by have := h.new; omega)), h.new, h.far⟩
theorem Bo.rturn (h : Bo w W bm bp br bq n us us') (m : Pg 85 W' br bq n us2) (c : Cha (· = bq) W W') : Bo w W' bm bp br bq n us us2 :=
  ⟨h.pg.cha c h.far.1 h.far.2.2, m, h.cha.over c (fun i hi => .inr (by have := h.new; omega)), h.new, h.far⟩
/-- Changes of the two maps alone. -/
def Bq (bp bq : Nat) (W W' : World) : Prop := Cha (fun i => i = bp ∨ i = bq) W W'
theorem bq_l {bp bq : Nat} (c : Cha (· = bp) W W') : Bq bp bq W W' := c.mono fun _ _ e => .inl e
theorem bq_r {bp bq : Nat} (c : Cha (· = bq) W W') : Bq bp bq W W' := c.mono fun _ _ e => .inr e

theorem bo_alloc {k b r : Int} (c : Alc n us k b r us2) (hk : k ≤ 9223372036854775807) (h : Bo w W bm bp br bq n us us) : Calls Try.prog 13 #[.pointer (some ⟨bm, 0, none⟩), .int .i64 k] W fun e W' => e = .returned (.tuple #[.int .i64 b, .int .i64 r]) ∧ Bo w W' bm bp br bq n us2 us ∧ Bq bp bq W W' :=
  (alloc_says c hk h.pg).mono fun _ _ ⟨he, hm, hc⟩ => ⟨he, h.turn hm hc, bq_l hc⟩
theorem bo_ralloc {k b r : Int} (c : Alc n us k b r us2) (hk : k ≤ 9223372036854775807) (h : Bo w W bm bp br bq n us2 us) : Calls Try.prog 14 #[.pointer (some ⟨br, 0, none⟩), .int .i64 k] W fun e W' => e = .returned (.tuple #[.int .i64 b, .int .i64 r]) ∧ Bo w W' bm bp br bq n us2 us2 ∧ Bq bp bq W W' :=
  (ralloc_any k h.rg hk c).mono fun _ _ ⟨he, hm, hc⟩ => ⟨he, h.rturn hm hc, bq_r hc⟩
theorem bo_take {k b r : Int} (c : Chn n us b k true r us2) (hk : k ≤ 9223372036854775807) (h : Bo w W bm bp br bq n us us) : Calls Try.prog 15 #[.pointer (some ⟨bm, 0, none⟩), .int .i64 b, .int .i64 k] W fun e W' => e = .returned (.int .i64 r) ∧ Bo w W' bm bp br bq n us2 us ∧ Bq bp bq W W' :=
  (take_any c hk h.pg).mono fun _ _ ⟨he, hm, hc⟩ => ⟨he, h.turn hm hc, bq_l hc⟩
theorem bo_free {k b r : Int} (c : Chn n us b k false r us2) (hk : k ≤ 9223372036854775807) (h : Bo w W bm bp br bq n us us) : Calls Try.prog 17 #[.pointer (some ⟨bm, 0, none⟩), .int .i64 b, .int .i64 k] W fun e W' => e = .returned (.int .i64 r) ∧ Bo w W' bm bp br bq n us2 us ∧ Bq bp bq W W' :=
  (free_any c hk h.pg).mono fun _ _ ⟨he, hm, hc⟩ => ⟨he, h.turn hm hc, bq_l hc⟩
theorem bo_turn {k b r : Int} {v : Bool} (c : Chn n us b k v r us2) (hk : k ≤ 9223372036854775807) (h : Bo w W bm bp br bq n us2 us) : Calls Try.prog 16 #[.pointer (some ⟨br, 0, none⟩), .int .i64 b, .int .i64 k, .bool v] W fun e W' => e = .returned (.int .i64 r) ∧ Bo w W' bm bp br bq n us2 us2 ∧ Bq bp bq W W' :=
  (turn_any c hk h.rg).mono fun _ _ ⟨he, hm, hc⟩ => ⟨he, h.rturn hm hc, bq_r hc⟩
/-- What is asked behind a call. -/
structure Asks (W : World) (bm br n : Nat) (us : Nat → Bool) : Prop where
  s20 : ∀ k x, Calls Try.prog 20 #[.pointer (some ⟨bm, 0, none⟩), .int .i64 x] (W.drewN k) fun e w' => e = .returned (.bool (usd us n x)) ∧ w' = W.drewN k
  s21 : ∀ k x, Calls Try.prog 21 #[.pointer (some ⟨br, 0, none⟩), .int .i64 x] (W.drewN k) fun e w' => e = .returned (.bool (usd us n x)) ∧ w' = W.drewN k
theorem Bo.drewN (h : Bo w W bm bp br bq n us us') (k : Nat) : Bo w (W.drewN k) bm bp br bq n us us' := h.same ((Cha.refl _ _).drewN k)
theorem Bo.asks (h : Bo w W bm bp br bq n us us) : Asks W bm br n us :=
  ⟨fun k x => (used_any x (h.drewN k).pg).mono fun _ _ ⟨he, e⟩ => ⟨he, e.symm⟩, fun k x => (isused_any x (h.drewN k).rg).mono fun _ _ ⟨he, e⟩ => ⟨he, e.symm⟩⟩

set_option maxRecDepth 100000 in
set_option maxHeartbeats 2000000 in
theorem plays_bad (p : Int) (v : Value) (w : World) (hp : p < 1 ∨ 4096 < p) : Calls Try.prog 3 #[.int .i64 p, v] w fun e w' => e = .returned (.bool true) ∧ Cha (fun _ => False) w w' := by
  have A10 := Lib.hid (new_bad p w hp)
  have A11 := Lib.hid fun w => rnew_bad p w hp
  have A12 := Lib.hid awake_any
  clear hp
  go_enter Try.func3, Try.ntmps3
  go_wp2_with (first
    | (go_at_call 10; ((with_reducible refine (A10.out).mono ?_); rintro e w1 ⟨rfl, rfl⟩))
    | (go_at_call 11; ((with_reducible refine (A11.out _).mono ?_); rintro e w1 ⟨rfl, rfl⟩))
    | (go_at_call 12; ((with_reducible refine (A12.out _).mono ?_); rintro e w1 ⟨rfl, h⟩; have H12 := Lib.hid h; clear h)))
  go_ret
  exact ⟨rfl, H12.out⟩

theorem bo_start (n : Nat) (w w1 w2 : World) (h1 : Made 83 w w1 n) (h2 : Made 85 w1 w2 n) : Bo w w2 (w.heap.size + 1) w.heap.size (w1.heap.size + 1) w1.heap.size n nou nou :=
  ⟨h1.pg.same h2.cha, h2.pg, h1.cha.trans h2.cha, by have := h1.size; omega, by have := h1.size; omega⟩

set_option maxRecDepth 100000 in
set_option maxHeartbeats 8000000 in
theorem plays_walk (p : Nat) (s : Option Addr) (len c : Nat) (w : World) (hp1 : 1 ≤ p) (hp2 : p ≤ 4096) (hs : Script w s len) :
    Calls Try.prog 3 #[.int .i64 (p : Int), .slice s len c] w fun e w' => e = .returned (.bool true) ∧ Cha (fun _ => False) w w' := by
  have A10 := Lib.hid (new_ok p w hp1 hp2)
  have A11 := Lib.hid fun w => rnew_ok p w hp1 hp2
  have A12 := Lib.hid awake_any
  have HS := Lib.hid hs
  have hlen := hs.1
  clear hs
  go_enter Try.func3, Try.ntmps3
  go_wp2_with (first
    | (go_at_call 10; ((with_reducible refine (A10.out).mono ?_); rintro e w1 ⟨rfl, h⟩; have H10 := Lib.hid h; clear h))
    | (go_at_call 11; ((with_reducible refine (A11.out _).mono ?_); rintro e w2 ⟨rfl, h⟩; have H11 := Lib.hid (bo_start _ _ _ _ H10.out h); clear h))
    | (go_at_call 12; ((with_reducible refine (A12.out _).mono ?_); rintro e w3 ⟨rfl, h⟩; have H12 := Lib.hid (H11.out.same h); clear h)))
  clear A10 A11 A12 H10 H11
  generalize w1.heap.size + 1 = br at *
  generalize w1.heap.size = bq at *
  obtain ⟨bp, hbp⟩ : ∃ bp, bp = w.heap.size := ⟨_, rfl⟩
  have H13 : Hid (Bo w w3 (w.heap.size + 1) bp br bq p nou nou) := Lib.hid (by rw [hbp]; exact H12.out)
  clear H12 hbp
  generalize w.heap.size + 1 = bm at *
  go_loopw [50] (fun i wr => ∃ (j : Nat) (us : Nat → Bool), j ≤ len ∧ i = .int .i64 (j : Int) ∧ Bo w wr bm bp br bq p us us) (fun i _ => len - (intOf i).toNat)
  case atStart => exact ⟨0, _, Nat.zero_le _, rfl, H13.out⟩
  case round =>
    clear H13
    obtain ⟨j, us, hj, rfl, hT⟩ := hrel
    by_cases hlt : j < len
    · obtain ⟨b, o, rfl, hz⟩ := HS.out.2 (by omega)
      obtain ⟨z0, z1, z2, hop⟩ := hz j hlt
      have hop := hop.cha hT.cha
      have HR := Lib.hid hop.cells
      have l1 := hop.l1
      have l2 := hop.l2
      have h1 := hop.h1
      have h2 := hop.h2
      have HT := Lib.hid (hT.same ((Cha.refl _ wr).alloc (.cells #[.int .i64 z0, .int .i64 z1, .int .i64 z2] 32)))
      have hsz : wr.heap.size < (wr.alloc (.cells #[.int .i64 z0, .int .i64 z1, .int .i64 z2] 32)).heap.size := by show _ < (Array.push _ _).size; simp
      have hg1 : ¬ (wr.heap.size = bp ∨ wr.heap.size = bq) := by
        have := hT.pg.lt; have := hT.rg.lt; omega
      have KX : Hid (∀ W', Bq bp bq (wr.alloc (.cells #[.int .i64 z0, .int .i64 z1, .int .i64 z2] 32)) W' → W'.cell? ⟨wr.heap.size, 1, none⟩ = some (.int .i64 z1) ∧ W'.cell? ⟨wr.heap.size, 2, none⟩ = some (.int .i64 z2)) := Lib.hid fun W' hc => by
        have e := (hc.old _ hsz hg1).trans (heap_alloc_new wr _)
        exact ⟨cell_of_row W' _ 1 _ 32 _ e, cell_of_row W' _ 2 _ 32 _ e⟩
      clear hz hop hT hg1 hsz
      by_cases hk0 : z0 = 0
      · subst hk0
        obtain ⟨x, r, us2, hA⟩ := Alc.ex p us z2
        have M := Lib.hid fun (W : World) h => bo_alloc (w := w) (W := W) (bm := bm) (bp := bp) (br := br) (bq := bq) hA h2 h
        have R := Lib.hid fun (W : World) h => bo_ralloc (w := w) (W := W) (bm := bm) (bp := bp) (br := br) (bq := bq) hA h2 h
        clear hA
        go_wp2_with (first
          | (refine wpList_load_mid rfl 32 (.tmp 52) rfl b (o + j * 3) rfl _ _ HR.out Try.underlying32 rfl (by kernel_rfl) ?_)
          | (go_at_call 13; ((with_reducible refine (M.out _ HT.out).mono ?_); rintro e w5 ⟨rfl, hN, hc⟩; obtain ⟨k1, k2⟩ := KX.out _ hc; have HN := Lib.hid hN; have HC := Lib.hid hc; clear hN hc))
          | (go_at_call 14; ((with_reducible refine (R.out _ HN.out).mono ?_); rintro e w6 ⟨rfl, hN, hc⟩; have HM := Lib.hid hN; have HD := Lib.hid (HC.out.trans hc); obtain ⟨q1, q2⟩ := KX.out _ HD.out; clear hN hc))
          | (go_at_call 18; ((with_reducible refine (counts_any _ _ _ _ _ HM.out.pg).mono ?_); rintro e w7 ⟨rfl, hc⟩; have HE := Lib.hid (HM.out.same hc); have HA := Lib.hid HE.out.asks; obtain ⟨p1, p2⟩ := KX.out _ (HD.out.trans hc.wide); clear hc))
          | (go_at_call 19; ((with_reducible refine (rcounts_any HE.out.rg).mono ?_); rintro e w8 ⟨rfl, rfl⟩)))
        go_quiet ((first
          | (go_at_call 20; exact Calls.quiet_of_same (HA.out.s20 _ _))
          | (go_at_call 21; exact Calls.quiet_of_same (HA.out.s21 _ _))))
        go_wp2
        go_roundw
        case rel => exact ⟨j + 1, us2, by omega, by go_num, HE.out.drewN _⟩
        case measure => simp [intOf]; omega
      · by_cases hk1 : z0 = 1
        · subst hk1
          obtain ⟨r, us2, hA⟩ := Chn.ex p us z1 z2 true
          have M := Lib.hid fun (W : World) h => bo_take (w := w) (W := W) (bm := bm) (bp := bp) (br := br) (bq := bq) hA h2 h
          have R := Lib.hid fun (W : World) h => bo_turn (w := w) (W := W) (bm := bm) (bp := bp) (br := br) (bq := bq) hA h2 h
          clear hA
          go_wp2_with (refine wpList_load_mid rfl 32 (.tmp 52) rfl b (o + j * 3) rfl _ _ HR.out Try.underlying32 rfl (by kernel_rfl) ?_)
          generalize wr.heap.size = g at *
          generalize hWb : wr.alloc (.cells #[.int .i64 1, .int .i64 z1, .int .i64 z2] 32) = Wb at *
          clear hWb
          obtain ⟨k1, k2⟩ := KX.out Wb.drew (show Bq bp bq Wb Wb.drew from (Cha.refl _ Wb).drew)
          have HT2 := Lib.hid (HT.out.same ((Cha.refl _ Wb).drew))
          have KY : Hid (∀ W', Bq bp bq Wb.drew W' → W'.cell? ⟨g, 1, none⟩ = some (.int .i64 z1) ∧ W'.cell? ⟨g, 2, none⟩ = some (.int .i64 z2)) := Lib.hid fun W' hc => KX.out W' (show Bq bp bq Wb W' from ((Cha.refl _ Wb).drew).trans hc)
          go_region_held3 (fun w' => w'.cell? ⟨g, 1, none⟩ = some (.int .i64 z1) ∧ w'.cell? ⟨g, 2, none⟩ = some (.int .i64 z2))
            (first
              | go_keep
              | exact ⟨k1, k2⟩
              | exact KY.out _ (by assumption))
            (first
              | (go_at_call 15; refine (M.out Wb.drew HT2.out).mono ?_; rintro e5 w5 ⟨rfl, hH, hD⟩)
              | (go_at_call 16; refine (R.out w5 hH).mono ?_; rintro e6 w6 ⟨rfl, hN, hD2⟩; have hD3 : Bq bp bq Wb.drew w6 := hD.trans hD2))
          all_goals
            have HM := Lib.hid hN
            have HD : Hid (Bq bp bq Wb w6) := Lib.hid (show Cha _ Wb w6 from ((Cha.refl _ Wb).drew).trans hD3)
            clear hN hD3 hD2 hD hH
            go_wp2_with (first
              | (go_at_call 18; ((with_reducible refine (counts_any _ _ _ _ _ HM.out.pg).mono ?_); rintro e w7 ⟨rfl, hc⟩; have HE := Lib.hid (HM.out.same hc); have HA := Lib.hid HE.out.asks; obtain ⟨p1, p2⟩ := KX.out _ (HD.out.trans hc.wide); clear hc))
              | (go_at_call 19; ((with_reducible refine (rcounts_any HE.out.rg).mono ?_); rintro e w8 ⟨rfl, rfl⟩)))
            go_quiet ((first
              | (go_at_call 20; exact Calls.quiet_of_same (HA.out.s20 _ _))
              | (go_at_call 21; exact Calls.quiet_of_same (HA.out.s21 _ _))))
            go_wp2
            go_roundw
            case rel => exact ⟨j + 1, us2, by omega, by go_num, HE.out.drewN _⟩
            case measure => simp [intOf]; omega
        · by_cases hk2 : z0 = 2
          · subst hk2
            obtain ⟨r, us2, hA⟩ := Chn.ex p us z1 z2 false
            have M := Lib.hid fun (W : World) h => bo_free (w := w) (W := W) (bm := bm) (bp := bp) (br := br) (bq := bq) hA h2 h
            have R := Lib.hid fun (W : World) h => bo_turn (w := w) (W := W) (bm := bm) (bp := bp) (br := br) (bq := bq) hA h2 h
            clear hA
            go_wp2_with (refine wpList_load_mid rfl 32 (.tmp 52) rfl b (o + j * 3) rfl _ _ HR.out Try.underlying32 rfl (by kernel_rfl) ?_)
            generalize wr.heap.size = g at *
            generalize hWb : wr.alloc (.cells #[.int .i64 2, .int .i64 z1, .int .i64 z2] 32) = Wb at *
            clear hWb
            obtain ⟨k1, k2⟩ := KX.out Wb.drew (show Bq bp bq Wb Wb.drew from (Cha.refl _ Wb).drew)
            have HT2 := Lib.hid (HT.out.same ((Cha.refl _ Wb).drew))
            have KY : Hid (∀ W', Bq bp bq Wb.drew W' → W'.cell? ⟨g, 1, none⟩ = some (.int .i64 z1) ∧ W'.cell? ⟨g, 2, none⟩ = some (.int .i64 z2)) := Lib.hid fun W' hc => KX.out W' (show Bq bp bq Wb W' from ((Cha.refl _ Wb).drew).trans hc)
            go_region_held3 (fun w' => w'.cell? ⟨g, 1, none⟩ = some (.int .i64 z1) ∧ w'.cell? ⟨g, 2, none⟩ = some (.int .i64 z2))
              (first
                | go_keep
                | exact ⟨k1, k2⟩
                | exact KY.out _ (by assumption))
              (first
                | (go_at_call 17; refine (M.out Wb.drew HT2.out).mono ?_; rintro e5 w5 ⟨rfl, hH, hD⟩)
                | (go_at_call 16; refine (R.out w5 hH).mono ?_; rintro e6 w6 ⟨rfl, hN, hD2⟩; have hD3 : Bq bp bq Wb.drew w6 := hD.trans hD2))
            all_goals
              have HM := Lib.hid hN
              have HD : Hid (Bq bp bq Wb w6) := Lib.hid (show Cha _ Wb w6 from ((Cha.refl _ Wb).drew).trans hD3)
              clear hN hD3 hD2 hD hH
              go_wp2_with (first
                | (go_at_call 18; ((with_reducible refine (counts_any _ _ _ _ _ HM.out.pg).mono ?_); rintro e w7 ⟨rfl, hc⟩; have HE := Lib.hid (HM.out.same hc); have HA := Lib.hid HE.out.asks; obtain ⟨p1, p2⟩ := KX.out _ (HD.out.trans hc.wide); clear hc))
                | (go_at_call 19; ((with_reducible refine (rcounts_any HE.out.rg).mono ?_); rintro e w8 ⟨rfl, rfl⟩)))
              go_quiet ((first
                | (go_at_call 20; exact Calls.quiet_of_same (HA.out.s20 _ _))
                | (go_at_call 21; exact Calls.quiet_of_same (HA.out.s21 _ _))))
              go_wp2
              go_roundw
              case rel => exact ⟨j + 1, us2, by omega, by go_num, HE.out.drewN _⟩
              case measure => simp [intOf]; omega
          · have HM : Hid (Bo w (wr.alloc (.cells #[.int .i64 z0, .int .i64 z1, .int .i64 z2] 32)) bm bp br bq p us us) := HT
            have HD : Hid (Bq bp bq (wr.alloc (.cells #[.int .i64 z0, .int .i64 z1, .int .i64 z2] 32)) (wr.alloc (.cells #[.int .i64 z0, .int .i64 z1, .int .i64 z2] 32))) := Lib.hid (Cha.refl _ _)
            go_wp2_with (first
              | (refine wpList_load_mid rfl 32 (.tmp 52) rfl b (o + j * 3) rfl _ _ HR.out Try.underlying32 rfl (by kernel_rfl) ?_)
              | (go_at_call 18; ((with_reducible refine (counts_any _ _ _ _ _ HM.out.pg).mono ?_); rintro e w7 ⟨rfl, hc⟩; have HE := Lib.hid (HM.out.same hc); have HA := Lib.hid HE.out.asks; obtain ⟨p1, p2⟩ := KX.out _ (HD.out.trans hc.wide); clear hc))
              | (go_at_call 19; ((with_reducible refine (rcounts_any HE.out.rg).mono ?_); rintro e w8 ⟨rfl, rfl⟩)))
            go_quiet ((first
              | (go_at_call 20; exact Calls.quiet_of_same (HA.out.s20 _ _))
              | (go_at_call 21; exact Calls.quiet_of_same (HA.out.s21 _ _))))
            go_wp2
            go_roundw
            case rel => exact ⟨j + 1, us, by omega, by go_num, HE.out.drewN _⟩
            case measure => simp [intOf]; omega
    · have HC := Lib.hid hT.cha
      have HT := Lib.hid hT
      have hl := rws_length (g := isU us p) (p + 1)
      obtain rfl : j = len := by omega
      clear hT HC
      go_wp2_with (first
        | (go_at_call 22; ((with_reducible refine (runs_any _ HT.out.pg).mono ?_); rintro e w5 ⟨v, rfl, ho, hc⟩; have HT2 := Lib.hid (HT.out.same hc); have HO := Lib.hid ho; clear ho hc))
        | (go_at_call 24; ((with_reducible refine (rruns_any HT2.out.rg).mono ?_); rintro e w6 ⟨u, rfl, ho, hc⟩; have HT3 := Lib.hid (HT2.out.same hc); have HU := Lib.hid (pairs_of_own ho); have HV := Lib.hid (pairs_cha HO.out hc); clear ho hc))
        | (go_at_call 23; ((with_reducible refine (same_any (by unfold rows; omega) HV.out HU.out).mono ?_); rintro e w7 ⟨rfl, hc⟩; have HT4 := Lib.hid (HT3.out.same hc); clear hc)))
      go_ret
      exact ⟨rfl, HT4.out.cha⟩
end Go.Proofs.Ytgglcfmnhiakcaa
