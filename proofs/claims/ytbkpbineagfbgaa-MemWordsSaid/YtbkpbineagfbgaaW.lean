/- MemWords: what was stored last at a word is loaded from it; a copy is what stood there. -/
import Derived.Test.YtbkpbineagfbgaaV
import Derived.Test.YtbkpbineagfbgaaL
namespace Go.Proofs.Ytbkpbineagfbgaa
open Go.ChangeShapes Go.WideShapes Go.ChangeAt Go.RowKit

theorem zero41 (w : World) : (zeroValue 41).run Try.prog w = .ok (.agg (rcells 512 zro)) w := by kernel_rfl
theorem alloc41 (w : World) : (Instr.alloc 41 true (.tuple #[])).run Try.prog w = .ok (.pointer (some ⟨w.heap.size, 0, none⟩)) (w.alloc (.cells (rcells 512 zro) 41)) := by
  have h := zero41 w
  simp [Instr.alloc, h, newVar, newRow, Value.cells]
theorem wpList_array {ops : Array Oper} {rest : List Oper} {op : Oper} {a : Act} {w : World} {Q : Exit → Act → World → Prop} (hgd : op.guard = none) (ho : op.op = .alloc 41) (c : Array Value) (hc : Hid (c = rcells 512 zro))
    (h : wpList Try.prog ops Q rest (a.put op.dst (.pointer (some ⟨w.heap.size, 0, none⟩))) (w.alloc (.cells c 41))) : wpList Try.prog ops Q (op :: rest) a w :=
  wpList_plain hgd fun _ hK => by
    have k := alloc41 w
    rw [← hc.out] at k
    unfold Oper.wp execOp
    simp only [ho, Sem.run_bind, k, Result.andThen_ok]
    exact hK _ _ h

/-- The memory, and the words that the law itself has kept. -/
structure Kept (w W : World) (bm bp g : Nat) (wd r : Nat → Int) : Prop where
  own : Own w W bm bp 8 one wd
  row : Row 41 W g 512 r
  ne : g ≠ bp ∧ g ≠ bm
  new : w.heap.size ≤ g
variable {w W : World} {bm bp g : Nat} {wd r : Nat → Int}
theorem Kept.turn {W' : World} {wd' : Nat → Int} (h : Kept w W bm bp g wd r) (m : Mem W' bm bp 8 one wd') (z : Zer 8 one wd') (c : Chg (· = bp) W W') : Kept w W' bm bp g wd' r :=
  ⟨h.own.turn m z c, h.row.chg c h.ne.1, h.ne, h.new⟩
theorem kept_store (a : Nat) (v : Int) (h : Kept w W bm bp g wd r) (ha : a < 512) : Calls Try.prog 18 #[.pointer (some ⟨bm, 0, none⟩), .int .i64 (a : Int), .int .u64 v] W fun e W' => e = .returned (.int .i64 0) ∧ Kept w W' bm bp g (upd wd a v) r :=
  (store_yes a v h.own.mem h.own.zer ⟨by omega, .inl rfl⟩).mono fun _ _ ⟨he, hm, hc⟩ => ⟨he, h.turn (by rwa [upd_one] at hm) (by have := h.own.zer.write a v; rwa [upd_one] at this) hc⟩
theorem kept_load (a : Nat) (h : Kept w W bm bp g wd r) (ha : a < 512) : Calls Try.prog 20 #[.pointer (some ⟨bm, 0, none⟩), .int .i64 (a : Int)] W fun e W' => e = .returned (.tuple #[.int .u64 (wd a), .int .i64 0]) ∧ Kept w W' bm bp g wd r :=
  (load_yes a h.own.mem h.own.zer ⟨by omega, .inl rfl⟩).mono fun _ _ ⟨he, hm, hc⟩ => ⟨he, h.turn (by rwa [upd_one] at hm) h.own.zer hc⟩
theorem allB_one (b : Nat) : ∀ k, allB one b [1, 2] k = true := fun k => (allB_iff k).2 fun _ _ => by unfold one; simp
theorem wst_all (b k : Nat) : wst one b k = one := by funext p; unfold wst one; rw [if_neg (by omega)]
theorem kept_copy (q : Nat) (h : Kept w W bm bp g wd r) (hq : q ≤ 100) : Calls Try.prog 19 #[.pointer (some ⟨bm, 0, none⟩), .int .i64 (q : Int), .int .i64 0, .int .i64 400] W fun e W' => e = .returned (.int .i64 0) ∧ Kept w W' bm bp g (cpy wd q 0 400) r :=
  (copy_ok q 0 400 h.own.mem h.own.zer (by omega) ⟨by omega, allB_one _ _⟩ ⟨by omega, allB_one _ _⟩).mono fun _ _ ⟨he, hm, hc⟩ =>
    ⟨he, h.turn (by rwa [wst_all, wst_all] at hm) (fun a _ hs => absurd rfl hs) hc⟩
theorem Kept.setRow (h : Kept w W bm bp g wd r) (i : Nat) (v : Int) : Kept w (W.setCell ⟨g, i, none⟩ (.int .u64 v)) bm bp g wd (upd r i v) :=
  ⟨⟨h.own.mem.setOther h.ne.2 h.ne.1 _, h.own.zer, h.own.chg.setCell (fun hl => absurd hl (by have := h.new; show ¬ g < _; omega)) _, h.own.new⟩, h.row.set v, h.ne, h.new⟩

set_option maxRecDepth 100000 in
set_option maxHeartbeats 4000000 in
theorem words_walk (s : Option Addr) (n c : Nat) (a1 : Int) (w : World) (hn : n ≤ 9223372036854775807) (l1 : 0 ≤ a1) (u1 : a1 ≤ 255)
    (h0 : 0 < n → ∃ (b o : Nat) (z : Nat → Int), s = some ⟨b, o, none⟩ ∧ ∀ i, i < n → w.cell? ⟨b, o + i, none⟩ = some (.int .u16 (z i)) ∧ 0 ≤ z i ∧ z i ≤ 65535) :
    Calls Try.prog 4 #[.slice s n c, .int .u8 a1] w fun e w' => e = .returned (.bool true) ∧ Chg (fun _ => False) w w' := by
  obtain ⟨q, hq, hq4⟩ : ∃ q : Nat, a1 % 100 + 1 = (q : Int) ∧ q ≤ 100 := ⟨(a1 % 100 + 1).toNat, by omega, by omega⟩
  have hq0 : 1 ≤ q := by omega
  have A9 : Calls Try.prog 9 #[.int .i64 8] w fun e W' => ∃ bm bp, e = .returned (.tuple #[.pointer (some ⟨bm, 0, none⟩), .int .i64 0]) ∧ Own w W' bm bp 8 zro zro := own_new 8 w w (Chg.refl _ _) (by omega) (by omega)
  have A9 := Lib.hid A9
  have A11 := Lib.hid awake_any
  have A17 : ∀ (W : World) (bm bp : Nat), Own w W bm bp 8 zro zro → Calls Try.prog 17 #[.pointer (some ⟨bm, 0, none⟩), .int .i64 0, .int .i64 8] W fun e W' => e = .returned (.int .i64 0) ∧ Own w W' bm bp 8 one zro :=
    fun W bm bp h => (own_map 0 8 h (by omega) (by omega) (by decide +kernel)).mono fun _ _ ⟨he, h⟩ => ⟨he, own_congr h (fun p hp => by unfold rst one; rw [if_pos (by omega)]) (fun a ha => by unfold rwd zro; rw [if_pos (by omega)])⟩
  have A17 := Lib.hid A17
  obtain ⟨ca, hca0⟩ : ∃ ca, ca = rcells 512 zro := ⟨_, rfl⟩
  have hca := Lib.hid hca0
  clear hca0
  have H0 := Lib.hid h0
  have HQ := Lib.hid hq
  clear h0 hq
  go_enter Try.func4, Try.ntmps4
  go_wp2_with (first
    | (go_at_call 9; ((with_reducible refine (A9.out).mono ?_); rintro e w1 ⟨bm, bp, rfl, h⟩; have H9 := Lib.hid h; clear h))
    | (go_at_call 11; ((with_reducible refine (A11.out _).mono ?_); rintro e w1 ⟨rfl, h⟩; have H11 := Lib.hid (H9.out.same h); clear h))
    | (go_at_call 17; ((with_reducible refine (A17.out _ _ _ H11.out).mono ?_); rintro e w1 ⟨rfl, h⟩; have H17 := Lib.hid h; clear h))
    | (refine wpList_array rfl rfl ca hca ?_))
  have K0 : Hid (Kept w (w1.alloc (.cells ca 41)) bm bp w1.heap.size zro zro) := Lib.hid ⟨H17.out.same ((Chg.refl _ _).alloc _ _), by rw [hca.out]; exact heap_alloc_new w1 _, by have := H17.out.mem.lt; omega, H17.out.chg.size⟩
  generalize w1.heap.size = g at *
  go_loopw [38] (fun i wr => ∃ (j : Nat) (wd : Nat → Int), j ≤ n ∧ i = .int .i64 (j : Int) ∧ Kept w wr bm bp g wd wd) (fun i _ => n - (intOf i).toNat)
  case atStart => exact ⟨0, _, Nat.zero_le _, rfl, K0.out⟩
  case round =>
    clear K0
    obtain ⟨j, wd, hj, rfl, hK⟩ := hrel
    by_cases hlt : j < n
    · obtain ⟨b, o, z, rfl, hz⟩ := H0.out (by omega)
      obtain ⟨hc, z0, z1⟩ := hz j hlt
      have hc := hK.own.chg.cell hc
      obtain ⟨x, hx, hx4⟩ : ∃ x : Nat, z j % 400 = (x : Int) ∧ x < 400 := ⟨(z j % 400).toNat, by omega, by omega⟩
      have C1 := Lib.hid (kept_store x ((j : Int) + 1) hK (by omega))
      clear hz hK
      go_wp2_with (go_at_call 18; ((with_reducible refine (C1.out).mono ?_); rintro e w2 ⟨rfl, hk⟩; have hr := hk.row.cell (i := x) (by omega); have hrf := hk.row.free x; have HK := Lib.hid (hk.setRow x ((j : Int) + 1)); clear hk))
      go_roundw
      case rel => exact ⟨j + 1, _, by omega, by go_num, HK.out⟩
      case measure => simp [intOf]; omega
    · obtain rfl : j = n := by omega
      have C1 := Lib.hid (kept_copy q hK hq4)
      have hq := HQ.out
      clear hK
      go_wp2_with (go_at_call 19; ((with_reducible refine (C1.out).mono ?_); rintro e w2 ⟨rfl, hk⟩; have HK := Lib.hid hk; clear hk))
      clear hq
      go_loopw [12] (fun i wx => ∃ i' : Nat, i' ≤ 400 ∧ i = .int .i64 (i' : Int) ∧ Kept w wx bm bp g (cpy wd q 0 400) wd) (fun i _ => 400 - (intOf i).toNat)
      case atStart => exact ⟨0, Nat.zero_le _, rfl, HK.out⟩
      case round =>
        clear HK
        obtain ⟨i, hi, rfl, hK⟩ := hrel
        by_cases hlt2 : i < 400
        · have C := kept_load (i + q) hK (by omega)
          have e : cpy wd q 0 400 (i + q) = wd i := by unfold cpy; rw [if_pos (by omega)]; congr 1; omega
          rw [e, Int.natCast_add] at C
          have C := Lib.hid C
          clear hK e
          obtain ⟨x, hx⟩ : ∃ x, x = wd i := ⟨_, rfl⟩
          rw [← hx] at C
          have HX := Lib.hid hx
          clear hx
          go_wp2_with (go_at_call 20; ((with_reducible refine (C.out).mono ?_); rintro e w3 ⟨rfl, hk⟩; have hr := hk.row.cell (i := i) (by omega); rw [← HX.out] at hr; have HK := Lib.hid hk; clear hk))
          go_roundw
          case rel => exact ⟨i + 1, by omega, by go_num, HK.out⟩
          case measure => simp [intOf]; omega
        · obtain rfl : i = 400 := by omega
          have C := kept_load 0 hK (by omega)
          have e : cpy wd q 0 400 0 = wd 0 := by unfold cpy; rw [if_neg (by omega)]
          rw [e] at C
          obtain ⟨x, hx⟩ : ∃ x, x = wd 0 := ⟨_, rfl⟩
          rw [← hx] at C
          have C : Calls Try.prog 20 #[.pointer (some ⟨bm, 0, none⟩), .int .i64 0] _ _ := C
          have C := Lib.hid C
          have HX := Lib.hid hx
          clear hK e hx
          go_wp2_with (go_at_call 20; ((with_reducible refine (C.out).mono ?_); rintro e w3 ⟨rfl, hk⟩; have hr := hk.row.cell (i := 0) (by omega); rw [← HX.out] at hr; have HK := Lib.hid hk; clear hk))
          go_ret
          exact ⟨rfl, HK.out.own.chg⟩
end Go.Proofs.Ytbkpbineagfbgaa
