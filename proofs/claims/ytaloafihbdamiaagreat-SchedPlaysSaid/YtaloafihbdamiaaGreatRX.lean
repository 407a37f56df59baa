/- SchedPlays: its walk. -/
import Derived.Test.YtaloafihbdamiaaGreatRW
import Derived.Test.YtaloafihbdamiaaGreatAC
import Derived.Deep.CutBlock
import Derived.Deep.MidRow
namespace Go.Proofs.YtaloafihbdamiaaGreat
open Go.ChangeShapes Go.WideShapes Go.ChangeAt Go.RowKit
section
variable {w0 w W W' : World} {bs bd gb n : Nat} {N : Int} {X : Sx}
theorem getD_rep {α : Type} (n : Nat) (x d : α) (p : Nat) : (List.replicate n x).getD p d = if p < n then x else d := by
  simp only [List.getD, List.getElem?_replicate]
  split <;> rfl
theorem rel_new (h1 : 1 ≤ n) (h8 : n ≤ 8) : Rel n 0 (Sx.ini n) [] (List.replicate n 0) := by
  refine ⟨match_new n, ⟨0, good_ini n⟩, wf_ini h1 h8, ⟨by show _ = (List.replicate n ((-1 : Int), (0 : Int))).length; simp, fun p => ?_, fun p => ?_, fun p hp => ?_⟩, fun s hs => (by cases hs), Int.le_refl _⟩
  · rw [getD_rep]; split <;> exact Int.le_refl _
  · rw [getD_rep]; split <;> exact Int.le_refl _
  · refine absurd ?_ hp
    show ((List.replicate n ((-1 : Int), (0 : Int))).getD p (-1, 0)).1 = -1
    rw [getD_rep]; split <;> rfl
theorem du_new {bq bt b3 br bt2 : Nat} (h1 : 1 ≤ n) (h8 : n ≤ 8) (h : Mine w (ScA bs bq bt b3 (Sx.ini n)) W) (k : Mine W (DcA bd br bt2 n (dx (Sx.ini n) [] (List.replicate n 0))) W') : Do w bs bd n 0 (Sx.ini n) W' := by
  obtain ⟨F, ⟨F1, F2, a, b, d⟩, c⟩ := h.star fit_sc fit_dc k
  exact ⟨bq, bt, b3, br, bt2, F, ⟨F1, F2, a, ⟨[], _, rel_new h1 h8, b⟩, d⟩, c⟩
theorem cell_of_cha {w W : World} (c : Cha (fun _ => False) w W) {a : Addr} {v : Value} (h : w.cell? a = some v) : W.cell? a = some v := by
  have hb := block_lt_of_cell h
  have e := c.old a.block hb (fun x => x)
  simpa [World.cell?, e] using h
/-- What is asked behind a call. -/
theorem q_all {g2 : Nat} {z0 z1 z2 z3 : Int} (h : Du w0 bs bd n g2 #[.int .i64 z0, .int .i64 z1, .int .i64 z2, .int .u64 z3] N X W) : ∃ bt2 a c,
    (∀ V, Cha (fun _ => False) W V → V.cell? ⟨bd, 6, none⟩ = some (.int .u64 X.clk) ∧ V.cell? ⟨bd, 5, none⟩ = some (.pointer (some ⟨bt2, 0, none⟩)) ∧ V.cell? ⟨bt2, 1, none⟩ = some (.slice a (many X.P) c) ∧ V.cell? ⟨g2, 1, none⟩ = some (.int .i64 z1) ∧ V.cell? ⟨g2, 2, none⟩ = some (.int .i64 z2)) ∧
    (∀ V, Cha (fun _ => False) W V → Calls Tryz.prog 9 #[.pointer (some ⟨bd, 0, none⟩)] V fun e w' => e = .returned (.int .i64 (able X.gs : Nat)) ∧ Cha (fun _ => False) W w') ∧
    (∀ V, Cha (fun _ => False) W V → Calls Tryz.prog 10 #[.pointer (some ⟨bs, 0, none⟩), .int .i64 z1] V fun e w' => e = .returned (.int .i64 (X.curR z1)) ∧ Cha (fun _ => False) W w') ∧
    (∀ V, Cha (fun _ => False) W V → Calls Tryz.prog 11 #[.pointer (some ⟨bd, 0, none⟩), .int .i64 z1] V fun e w' => e = .returned (.int .i64 (X.curR z1)) ∧ Cha (fun _ => False) W w') ∧
    (∀ V, Cha (fun _ => False) W V → Calls Tryz.prog 12 #[.pointer (some ⟨bs, 0, none⟩), .int .i64 z2] V fun e w' => e = .returned (.int .i64 (X.stR z2)) ∧ Cha (fun _ => False) W w') ∧
    ∀ V, Cha (fun _ => False) W V → Calls Tryz.prog 13 #[.pointer (some ⟨bd, 0, none⟩), .int .i64 z2] V fun e w' => e = .returned (.int .i64 (X.stR z2)) ∧ Cha (fun _ => False) W w' := by
  obtain ⟨bt2, a, c, q1, q2, q3⟩ := r_cells h
  have q4 := h.at 1 (u := .int .i64 z1) rfl
  have q5 := h.at 2 (u := .int .i64 z2) rfl
  exact ⟨bt2, a, c, fun V k => ⟨cell_of_cha k q1, cell_of_cha k q2, cell_of_cha k q3, cell_of_cha k q4, cell_of_cha k q5⟩,
    fun V k => (r_able (h.same k)).mono fun _ _ ⟨x, y⟩ => ⟨x, k.trans y⟩,
    fun V k => (l_cur (h.same k) z1).mono fun _ _ ⟨x, y⟩ => ⟨x, by rw [← y]; exact k⟩,
    fun V k => (r_cur (h.same k) z1).mono fun _ _ ⟨x, y⟩ => ⟨x, by rw [← y]; exact k⟩,
    fun V k => (l_st (h.same k) z2).mono fun _ _ ⟨x, y⟩ => ⟨x, by rw [← y]; exact k⟩,
    fun V k => (r_st (h.same k) z2).mono fun _ _ ⟨x, y⟩ => ⟨x, by rw [← y]; exact k⟩⟩
theorem plays_bad (p : Int) (v : Value) (w : World) (hp : p < 1 ∨ 8 < p) : Calls Tryz.prog 3 #[.int .i64 p, v] w fun e w' => e = .returned (.bool true) ∧ Cha (fun _ => False) w w' := by
  have A9 := Lib.hid (schnew_bad p w hp)
  have A10 := Lib.hid fun w => dhb_bad p w hp
  have A11 := Lib.hid schawake_any
  clear hp
  go_enter Tryz.func3, Tryz.ntmps3
  go_wp2_with (first
    | (go_at_call 4; ((with_reducible refine (A9.out).mono ?_); rintro e w1 ⟨rfl, rfl⟩))
    | (go_at_call 5; ((with_reducible refine (A10.out _).mono ?_); rintro e w2 ⟨rfl, rfl⟩))
    | (go_at_call 6; ((with_reducible refine (A11.out _).mono ?_); rintro e w3 ⟨rfl, h⟩; have H3 := Lib.hid h; clear h)))
  go_ret
  exact ⟨rfl, H3.out⟩
set_option maxRecDepth 100000 in
set_option maxHeartbeats 8000000 in
theorem plays_walk (n : Nat) (s : Option Addr) (len c : Nat) (w : World) (hn1 : 1 ≤ n) (hn2 : n ≤ 8) (hlen : len * 32 ≤ 140737488351232)
    (hs : 0 < len → ∃ (b o : Nat), s = some ⟨b, o, none⟩ ∧ ∀ i, i < len → ∃ z0 z1 z2 z3, OpAt4 w b (o + i * 4) z0 z1 z2 z3) :
    Calls Tryz.prog 3 #[.int .i64 (n : Int), .slice s len c] w fun e w' => e = .returned (.bool true) ∧ Cha (fun _ => False) w w' := by
  have A9 := Lib.hid (schnew_ok n w hn1 hn2)
  have A10 := Lib.hid fun w => dnew_ok n w hn1 hn2
  have A11 := Lib.hid schawake_any
  have HDU := Lib.hid fun (W W' : World) (bs bq bt b3 bd br bt2 : Nat) (a : Mine w (ScA bs bq bt b3 (Sx.ini n)) W) (b : Mine W (DcA bd br bt2 n (dx (Sx.ini n) [] (List.replicate n 0))) W') => du_new hn1 hn2 a b
  have HS := Lib.hid hs
  clear hs
  go_enter Tryz.func3, Tryz.ntmps3
  go_wp2_with (first
    | (go_at_call 4; ((with_reducible refine (A9.out).mono ?_); rintro e w1 ⟨bs, bq, bt, b3, rfl, h⟩; have H1 := Lib.hid h; clear h))
    | (go_at_call 5; ((with_reducible refine (A10.out _).mono ?_); rintro e w2 ⟨bd, br, bt2, rfl, h⟩; have H2 := Lib.hid (HDU.out _ _ _ _ _ _ _ _ _ H1.out h); clear h))
    | (go_at_call 6; ((with_reducible refine (A11.out _).mono ?_); rintro e w3 ⟨rfl, h⟩; have H3 := Lib.hid (H2.out.same h); clear h)))
  clear A9 A10 A11 H1 H2 HDU
  go_loopw [42] (fun i wr => ∃ j : Nat, j ≤ len ∧ i = .int .i64 (j : Int) ∧ ∃ X, Do w bs bd n (j : Int) X wr) (fun i _ => len - (intOf i).toNat)
  case atStart => exact ⟨0, Nat.zero_le _, rfl, _, H3.out⟩
  case round =>
    clear H3
    obtain ⟨j, hj, rfl, X, hD⟩ := hrel
    by_cases hlt : j < len
    · obtain ⟨b, o, rfl, hz⟩ := HS.out (by omega)
      obtain ⟨z0, z1, z2, z3, hop⟩ := hz j hlt
      have hop := hop.cha hD.cha
      have HR := Lib.hid hop.cells
      have t0 := hop.l3
      have t1 := hop.h3
      have C7 := Lib.hid fun W g2 c2 (h : Du w bs bd n g2 c2 (j : Int) X W) => one_any h (by omega) z0 z1 z2 z3 t0 t1
      have HB := Lib.hid (hD.box #[.int .i64 z0, .int .i64 z1, .int .i64 z2, .int .u64 z3])
      have HE : Hid (∀ X' W V g2 c2, Du w bs bd n g2 c2 ((j : Int) + 1) X' W → Cha (fun _ => False) W V → ∃ X, Do w bs bd n ((j + 1 : Nat) : Int) X V) := Lib.hid fun X' W V g2 c2 h c => ⟨X', h.drop.same c⟩
      clear hz hop hD t0 t1
      go_upto_block 2 with (refine wpList_load_mid rfl 33 (.tmp 44) rfl b (o + j * 4) rfl _ _ HR.out Tryz.underlying33 rfl (by kernel_rfl) ?_)
      go_wp2_with (first
        | (go_at_call 7; ((with_reducible refine (C7.out _ _ _ HB.out).mono ?_); rintro e w4 ⟨rfl, X', hX⟩; have H4 := Lib.hid hX; clear hX))
        | (go_at_call 8; ((with_reducible refine (l_counts H4.out).mono ?_); rintro e w5 ⟨rfl, hX⟩; have H5 := Lib.hid hX; clear hX)))
      obtain ⟨bt2, a, c5, KC, D9, D10, D11, D12, D13⟩ := q_all H5.out
      have KC := Lib.hid KC
      have D9 := Lib.hid D9
      have D10 := Lib.hid D10
      have D11 := Lib.hid D11
      have D12 := Lib.hid D12
      have D13 := Lib.hid D13
      have HG := Lib.hid fun V => HE.out X' w5 V _ _ H5.out
      clear H4 H5 HE HB C7
      generalize X'.clk = ck at *
      generalize X'.curR z1 = cu at *
      generalize X'.stR z2 = sx at *
      generalize able X'.gs = ab at *
      generalize many X'.P = mn at *
      generalize wr.heap.size = g at *
      obtain ⟨f1, f2, f3, f4, f5⟩ := KC.out _ (Cha.refl _ w5)
      go_region_held3 (fun w' => w'.cell? ⟨bd, 6, none⟩ = some (.int .u64 ck) ∧ w'.cell? ⟨bd, 5, none⟩ = some (.pointer (some ⟨bt2, 0, none⟩)) ∧ w'.cell? ⟨bt2, 1, none⟩ = some (.slice a mn c5) ∧ w'.cell? ⟨g, 1, none⟩ = some (.int .i64 z1) ∧ w'.cell? ⟨g, 2, none⟩ = some (.int .i64 z2))
        (first
          | go_keep
          | exact ⟨f1, f2, f3, f4, f5⟩
          | exact KC.out _ (by assumption))
        (first
          | (go_at_call 9; refine (D9.out _ (by first | exact Cha.refl _ _ | exact (Cha.refl _ _).drew | exact (Cha.refl _ _).drewN _)).mono ?_; rintro e6 w6 ⟨rfl, hc6⟩)
          | (go_at_call 10; refine (D10.out _ hc6).mono ?_; rintro e7 w7 ⟨rfl, hc7⟩)
          | (go_at_call 11; refine (D11.out _ hc7).mono ?_; rintro e8 w8 ⟨rfl, hc8⟩)
          | (go_at_call 12; refine (D12.out _ hc8).mono ?_; rintro e9 w9 ⟨rfl, hc9⟩)
          | (go_at_call 13; refine (D13.out _ hc9).mono ?_; rintro e10 w10 ⟨rfl, hc10⟩))
      all_goals
        have HL := Lib.hid (HG.out _ hc10)
        clear hc6 hc7 hc8 hc9 hc10
        go_wp2
        go_roundw
        case rel => exact ⟨j + 1, by omega, by go_num, HL.out⟩
        case measure => simp [intOf]; omega
    · obtain rfl : j = len := by omega
      have HQ := Lib.hid hD.cha
      clear hD
      go_wp2
      go_ret
      exact ⟨rfl, HQ.out⟩
end
end Go.Proofs.YtaloafihbdamiaaGreat
