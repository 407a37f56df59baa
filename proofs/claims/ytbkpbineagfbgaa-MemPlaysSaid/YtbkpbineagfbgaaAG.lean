/- play: one call to both memories. -/
import Derived.Test.YtbkpbineagfbgaaAF
import Derived.Deep.RegionHeld3
import Derived.Deep.DeepCutAuto
namespace Go.Proofs.Ytbkpbineagfbgaa
open Go.ChangeShapes Go.WideShapes Go.ChangeAt Go.RowKit
variable {w W W0 : World} {bm bp br n : Nat} {T : Nat → Prop} {st wd : Nat → Int}

/-- Behind a call to both. -/
def Went (w W W' : World) (bm bp br n : Nat) (T : Nat → Prop) : Prop := ∃ T' st' wd', Two w W' bm bp br n T' st' wd' ∧ Cha (fun i => i = bp ∨ T i) W W'
theorem went_of {W1 W5 W6 : World} (c0 : Cha (fun i => i = bp ∨ T i) W W1) (c1 : Cha (fun i => i = bp ∨ T i) W1 W5) (h : Next w W5 W6 bm bp br n T st wd) : Went w W W6 bm bp br n T := by
  obtain ⟨T', h1, h2, _⟩ := h
  exact ⟨T', st, wd, h1, (c0.trans c1).trans (h2.mono fun i _ hi => .inr hi)⟩
theorem next_cha {W1 W5 W6 : World} (c1 : Cha (fun i => i = bp ∨ T i) W1 W5) (h : Next w W5 W6 bm bp br n T st wd) : Cha (fun i => i = bp ∨ T i) W1 W6 := by
  obtain ⟨T', h1, h2, _⟩ := h
  exact c1.trans (h2.mono fun i _ hi => .inr hi)

/-- The call, in a block of its own. -/
def opCells (kd a b nn o v : Int) : Array Value := #[.int .i64 kd, .int .i64 a, .int .i64 b, .int .i64 nn, .int .u64 o, .int .u64 v]

set_option maxRecDepth 100000 in
set_option maxHeartbeats 4000000 in
theorem play_map (a b nn o v : Int) (hb2 : b ≤ 9223372036854775807) (h : Two w W bm bp br n T st wd) :
    Calls Try.prog 12 #[.pointer (some ⟨bm, 0, none⟩), .pointer (some ⟨br, 0, none⟩), .agg #[.int .i64 0, .int .i64 a, .int .i64 b, .int .i64 nn, .int .u64 o, .int .u64 v]] W fun e W' => e = .returned (.bool true) ∧ Went w W W' bm bp br n T := by
  obtain ⟨r, st', wd', M, R⟩ := pair_map a b hb2 h
  have M := Lib.hid M
  have R := Lib.hid R
  have c0 : Cha (fun i => i = bp ∨ T i) W (W.alloc (.cells #[.int .i64 0, .int .i64 a, .int .i64 b, .int .i64 nn, .int .u64 o, .int .u64 v] 33)) := ((Chg.refl _ W).alloc _ _).cha
  have h1 : Two w (W.alloc (.cells #[.int .i64 0, .int .i64 a, .int .i64 b, .int .i64 nn, .int .u64 o, .int .u64 v] 33)).drew bm bp br n T st wd := (Half.same h (((Chg.refl _ W).alloc _ _).drew)).1
  have hrow := heap_alloc_new W (.cells #[.int .i64 0, .int .i64 a, .int .i64 b, .int .i64 nn, .int .u64 o, .int .u64 v] 33)
  have hlt := h.mem.lt
  have hg1 : ¬ (W.heap.size = bp ∨ T W.heap.size) := fun c => by
    rcases c with c | c
    · omega
    · obtain ⟨bs, bw, ws, bl, hr⟩ := h.ref
      have := hr.lt _ c; omega
  have hsz : W.heap.size < (W.alloc (.cells #[.int .i64 0, .int .i64 a, .int .i64 b, .int .i64 nn, .int .u64 o, .int .u64 v] 33)).drew.heap.size := by show _ < (Array.push _ _).size; simp
  have C0 := Lib.hid c0
  have H1 := Lib.hid h1
  have KX : Hid (∀ W', Cha (fun i => i = bp ∨ T i) (W.alloc (.cells #[.int .i64 0, .int .i64 a, .int .i64 b, .int .i64 nn, .int .u64 o, .int .u64 v] 33)).drew W' → W'.cell? ⟨W.heap.size, 1, none⟩ = some (.int .i64 a) ∧ W'.cell? ⟨W.heap.size, 2, none⟩ = some (.int .i64 b)) := Lib.hid fun W' hc => by
    have e := (hc.old _ hsz hg1).trans hrow
    exact ⟨cell_of_row W' _ 1 _ 33 _ e, cell_of_row W' _ 2 _ 33 _ e⟩
  clear c0 h1 h hg1 hsz hrow hlt
  go_enter Try.func12, Try.ntmps12
  go_wp2
  generalize W.heap.size = g at *
  generalize hWb : W.alloc (.cells #[.int .i64 0, .int .i64 a, .int .i64 b, .int .i64 nn, .int .u64 o, .int .u64 v] 33) = Wb at *
  clear hWb
  obtain ⟨k1, k2⟩ := KX.out Wb.drew (Cha.refl _ _)
  go_region_held3 (fun w' => w'.cell? ⟨g, 1, none⟩ = some (.int .i64 a) ∧ w'.cell? ⟨g, 2, none⟩ = some (.int .i64 b))
    (first
      | go_keep
      | exact ⟨k1, k2⟩
      | exact KX.out _ (by assumption))
    (first
      | (go_at_call 17; refine (M.out Wb.drew H1.out).mono ?_; rintro e5 w5 ⟨rfl, hH, hD⟩; have hD5 : Cha (fun i => i = bp ∨ T i) Wb.drew w5 := hD.mono fun i _ e => .inl e)
      | (go_at_call 24; refine (R.out w5 hH).mono ?_; rintro e6 w6 ⟨rfl, hN⟩; have hD6 := next_cha hD5 hN))
  all_goals
    go_wp2
    go_ret
    exact ⟨rfl, went_of (C0.out.trans ((Chg.refl _ Wb).drew.cha)) hD5 hN⟩
set_option maxRecDepth 100000 in
set_option maxHeartbeats 4000000 in
theorem play_unmap (a b nn o v : Int) (hb2 : b ≤ 9223372036854775807) (h : Two w W bm bp br n T st wd) :
    Calls Try.prog 12 #[.pointer (some ⟨bm, 0, none⟩), .pointer (some ⟨br, 0, none⟩), .agg #[.int .i64 1, .int .i64 a, .int .i64 b, .int .i64 nn, .int .u64 o, .int .u64 v]] W fun e W' => e = .returned (.bool true) ∧ Went w W W' bm bp br n T := by
  obtain ⟨r, st', wd', M, R⟩ := pair_unmap a b hb2 h
  have M := Lib.hid M
  have R := Lib.hid R
  have c0 : Cha (fun i => i = bp ∨ T i) W (W.alloc (.cells #[.int .i64 1, .int .i64 a, .int .i64 b, .int .i64 nn, .int .u64 o, .int .u64 v] 33)) := ((Chg.refl _ W).alloc _ _).cha
  have h1 : Two w (W.alloc (.cells #[.int .i64 1, .int .i64 a, .int .i64 b, .int .i64 nn, .int .u64 o, .int .u64 v] 33)).drew bm bp br n T st wd := (Half.same h (((Chg.refl _ W).alloc _ _).drew)).1
  have hrow := heap_alloc_new W (.cells #[.int .i64 1, .int .i64 a, .int .i64 b, .int .i64 nn, .int .u64 o, .int .u64 v] 33)
  have hlt := h.mem.lt
  have hg1 : ¬ (W.heap.size = bp ∨ T W.heap.size) := fun c => by
    rcases c with c | c
    · omega
    · obtain ⟨bs, bw, ws, bl, hr⟩ := h.ref
      have := hr.lt _ c; omega
  have hsz : W.heap.size < (W.alloc (.cells #[.int .i64 1, .int .i64 a, .int .i64 b, .int .i64 nn, .int .u64 o, .int .u64 v] 33)).drew.heap.size := by show _ < (Array.push _ _).size; simp
  have C0 := Lib.hid c0
  have H1 := Lib.hid h1
  have KX : Hid (∀ W', Cha (fun i => i = bp ∨ T i) (W.alloc (.cells #[.int .i64 1, .int .i64 a, .int .i64 b, .int .i64 nn, .int .u64 o, .int .u64 v] 33)).drew W' → W'.cell? ⟨W.heap.size, 1, none⟩ = some (.int .i64 a) ∧ W'.cell? ⟨W.heap.size, 2, none⟩ = some (.int .i64 b)) := Lib.hid fun W' hc => by
    have e := (hc.old _ hsz hg1).trans hrow
    exact ⟨cell_of_row W' _ 1 _ 33 _ e, cell_of_row W' _ 2 _ 33 _ e⟩
  clear c0 h1 h hg1 hsz hrow hlt
  go_enter Try.func12, Try.ntmps12
  go_wp2
  generalize W.heap.size = g at *
  generalize hWb : W.alloc (.cells #[.int .i64 1, .int .i64 a, .int .i64 b, .int .i64 nn, .int .u64 o, .int .u64 v] 33) = Wb at *
  clear hWb
  obtain ⟨k1, k2⟩ := KX.out Wb.drew (Cha.refl _ _)
  go_region_held3 (fun w' => w'.cell? ⟨g, 1, none⟩ = some (.int .i64 a) ∧ w'.cell? ⟨g, 2, none⟩ = some (.int .i64 b))
    (first
      | go_keep
      | exact ⟨k1, k2⟩
      | exact KX.out _ (by assumption))
    (first
      | (go_at_call 22; refine (M.out Wb.drew H1.out).mono ?_; rintro e5 w5 ⟨rfl, hH, hD⟩; have hD5 : Cha (fun i => i = bp ∨ T i) Wb.drew w5 := hD.mono fun i _ e => .inl e)
      | (go_at_call 25; refine (R.out w5 hH).mono ?_; rintro e6 w6 ⟨rfl, hN⟩; have hD6 := next_cha hD5 hN))
  all_goals
    go_wp2
    go_ret
    exact ⟨rfl, went_of (C0.out.trans ((Chg.refl _ Wb).drew.cha)) hD5 hN⟩
set_option maxRecDepth 100000 in
set_option maxHeartbeats 4000000 in
theorem play_release (a b nn o v : Int) (hb2 : b ≤ 9223372036854775807) (h : Two w W bm bp br n T st wd) :
    Calls Try.prog 12 #[.pointer (some ⟨bm, 0, none⟩), .pointer (some ⟨br, 0, none⟩), .agg #[.int .i64 2, .int .i64 a, .int .i64 b, .int .i64 nn, .int .u64 o, .int .u64 v]] W fun e W' => e = .returned (.bool true) ∧ Went w W W' bm bp br n T := by
  obtain ⟨r, st', wd', M, R⟩ := pair_release a b hb2 h
  have M := Lib.hid M
  have R := Lib.hid R
  have c0 : Cha (fun i => i = bp ∨ T i) W (W.alloc (.cells #[.int .i64 2, .int .i64 a, .int .i64 b, .int .i64 nn, .int .u64 o, .int .u64 v] 33)) := ((Chg.refl _ W).alloc _ _).cha
  have h1 : Two w (W.alloc (.cells #[.int .i64 2, .int .i64 a, .int .i64 b, .int .i64 nn, .int .u64 o, .int .u64 v] 33)).drew bm bp br n T st wd := (Half.same h (((Chg.refl _ W).alloc _ _).drew)).1
  have hrow := heap_alloc_new W (.cells #[.int .i64 2, .int .i64 a, .int .i64 b, .int .i64 nn, .int .u64 o, .int .u64 v] 33)
  have hlt := h.mem.lt
  have hg1 : ¬ (W.heap.size = bp ∨ T W.heap.size) := fun c => by
    rcases c with c | c
    · omega
    · obtain ⟨bs, bw, ws, bl, hr⟩ := h.ref
      have := hr.lt _ c; omega
  have hsz : W.heap.size < (W.alloc (.cells #[.int .i64 2, .int .i64 a, .int .i64 b, .int .i64 nn, .int .u64 o, .int .u64 v] 33)).drew.heap.size := by show _ < (Array.push _ _).size; simp
  have C0 := Lib.hid c0
  have H1 := Lib.hid h1
  have KX : Hid (∀ W', Cha (fun i => i = bp ∨ T i) (W.alloc (.cells #[.int .i64 2, .int .i64 a, .int .i64 b, .int .i64 nn, .int .u64 o, .int .u64 v] 33)).drew W' → W'.cell? ⟨W.heap.size, 1, none⟩ = some (.int .i64 a) ∧ W'.cell? ⟨W.heap.size, 2, none⟩ = some (.int .i64 b)) := Lib.hid fun W' hc => by
    have e := (hc.old _ hsz hg1).trans hrow
    exact ⟨cell_of_row W' _ 1 _ 33 _ e, cell_of_row W' _ 2 _ 33 _ e⟩
  clear c0 h1 h hg1 hsz hrow hlt
  go_enter Try.func12, Try.ntmps12
  go_wp2
  generalize W.heap.size = g at *
  generalize hWb : W.alloc (.cells #[.int .i64 2, .int .i64 a, .int .i64 b, .int .i64 nn, .int .u64 o, .int .u64 v] 33) = Wb at *
  clear hWb
  obtain ⟨k1, k2⟩ := KX.out Wb.drew (Cha.refl _ _)
  go_region_held3 (fun w' => w'.cell? ⟨g, 1, none⟩ = some (.int .i64 a) ∧ w'.cell? ⟨g, 2, none⟩ = some (.int .i64 b))
    (first
      | go_keep
      | exact ⟨k1, k2⟩
      | exact KX.out _ (by assumption))
    (first
      | (go_at_call 23; refine (M.out Wb.drew H1.out).mono ?_; rintro e5 w5 ⟨rfl, hH, hD⟩; have hD5 : Cha (fun i => i = bp ∨ T i) Wb.drew w5 := hD.mono fun i _ e => .inl e)
      | (go_at_call 26; refine (R.out w5 hH).mono ?_; rintro e6 w6 ⟨rfl, hN⟩; have hD6 := next_cha hD5 hN))
  all_goals
    go_wp2
    go_ret
    exact ⟨rfl, went_of (C0.out.trans ((Chg.refl _ Wb).drew.cha)) hD5 hN⟩
set_option maxRecDepth 100000 in
set_option maxHeartbeats 4000000 in
theorem play_load (a b nn o v : Int) (ha : -9223372036854775808 ≤ a) (ha2 : a ≤ 9223372036854775807) (h : Two w W bm bp br n T st wd) :
    Calls Try.prog 12 #[.pointer (some ⟨bm, 0, none⟩), .pointer (some ⟨br, 0, none⟩), .agg #[.int .i64 3, .int .i64 a, .int .i64 b, .int .i64 nn, .int .u64 o, .int .u64 v]] W fun e W' => e = .returned (.bool true) ∧ Went w W W' bm bp br n T := by
  obtain ⟨x, r, st', wd', M, R⟩ := pair_load a ha ha2 h
  have M := Lib.hid M
  have R := Lib.hid R
  have c0 : Cha (fun i => i = bp ∨ T i) W (W.alloc (.cells #[.int .i64 3, .int .i64 a, .int .i64 b, .int .i64 nn, .int .u64 o, .int .u64 v] 33)) := ((Chg.refl _ W).alloc _ _).cha
  have h1 : Two w (W.alloc (.cells #[.int .i64 3, .int .i64 a, .int .i64 b, .int .i64 nn, .int .u64 o, .int .u64 v] 33)) bm bp br n T st wd := (Half.same h ((Chg.refl _ W).alloc _ _)).1
  have hrow := heap_alloc_new W (.cells #[.int .i64 3, .int .i64 a, .int .i64 b, .int .i64 nn, .int .u64 o, .int .u64 v] 33)
  have hlt := h.mem.lt
  have hg1 : ¬ (W.heap.size = bp ∨ T W.heap.size) := fun c => by
    rcases c with c | c
    · omega
    · obtain ⟨bs, bw, ws, bl, hr⟩ := h.ref
      have := hr.lt _ c; omega
  have hsz : W.heap.size < (W.alloc (.cells #[.int .i64 3, .int .i64 a, .int .i64 b, .int .i64 nn, .int .u64 o, .int .u64 v] 33)).heap.size := by show _ < (Array.push _ _).size; simp
  have C0 := Lib.hid c0
  have H1 := Lib.hid h1
  have KX : Hid (∀ W', Cha (fun i => i = bp ∨ T i) (W.alloc (.cells #[.int .i64 3, .int .i64 a, .int .i64 b, .int .i64 nn, .int .u64 o, .int .u64 v] 33)) W' → W'.cell? ⟨W.heap.size, 1, none⟩ = some (.int .i64 a) ∧ True) := Lib.hid fun W' hc => by
    have e := (hc.old _ hsz hg1).trans hrow
    exact ⟨cell_of_row W' _ 1 _ 33 _ e, trivial⟩
  clear c0 h1 h hg1 hsz hrow hlt
  go_enter Try.func12, Try.ntmps12
  have k0 := KX.out _ (Cha.refl _ _)
  obtain ⟨k1, _⟩ := k0
  go_wp2_with (first
    | (go_at_call 20; ((with_reducible refine (M.out _ H1.out).mono ?_); rintro e5 w5 ⟨rfl, hH, hD⟩; have hD5 : Cha (fun i => i = bp ∨ T i) _ w5 := hD.mono fun i _ e => .inl e; obtain ⟨j1, _⟩ := KX.out _ hD5; have HH := Lib.hid hH; have HD := Lib.hid hD5; clear hH hD hD5))
    | (go_at_call 27; ((with_reducible refine (R.out w5 HH.out).mono ?_); rintro e6 w6 ⟨rfl, hN⟩; have HN := Lib.hid hN; clear hN)))
  go_ret
  exact ⟨rfl, went_of C0.out HD.out HN.out⟩
set_option maxRecDepth 100000 in
set_option maxHeartbeats 4000000 in
theorem play_store (a b nn o v : Int) (ha : -9223372036854775808 ≤ a) (ha2 : a ≤ 9223372036854775807) (h : Two w W bm bp br n T st wd) :
    Calls Try.prog 12 #[.pointer (some ⟨bm, 0, none⟩), .pointer (some ⟨br, 0, none⟩), .agg #[.int .i64 4, .int .i64 a, .int .i64 b, .int .i64 nn, .int .u64 o, .int .u64 v]] W fun e W' => e = .returned (.bool true) ∧ Went w W W' bm bp br n T := by
  obtain ⟨r, st', wd', M, R⟩ := pair_store a v ha ha2 h
  have M := Lib.hid M
  have R := Lib.hid R
  have c0 : Cha (fun i => i = bp ∨ T i) W (W.alloc (.cells #[.int .i64 4, .int .i64 a, .int .i64 b, .int .i64 nn, .int .u64 o, .int .u64 v] 33)) := ((Chg.refl _ W).alloc _ _).cha
  have h1 : Two w (W.alloc (.cells #[.int .i64 4, .int .i64 a, .int .i64 b, .int .i64 nn, .int .u64 o, .int .u64 v] 33)).drew bm bp br n T st wd := (Half.same h (((Chg.refl _ W).alloc _ _).drew)).1
  have hrow := heap_alloc_new W (.cells #[.int .i64 4, .int .i64 a, .int .i64 b, .int .i64 nn, .int .u64 o, .int .u64 v] 33)
  have hlt := h.mem.lt
  have hg1 : ¬ (W.heap.size = bp ∨ T W.heap.size) := fun c => by
    rcases c with c | c
    · omega
    · obtain ⟨bs, bw, ws, bl, hr⟩ := h.ref
      have := hr.lt _ c; omega
  have hsz : W.heap.size < (W.alloc (.cells #[.int .i64 4, .int .i64 a, .int .i64 b, .int .i64 nn, .int .u64 o, .int .u64 v] 33)).drew.heap.size := by show _ < (Array.push _ _).size; simp
  have C0 := Lib.hid c0
  have H1 := Lib.hid h1
  have KX : Hid (∀ W', Cha (fun i => i = bp ∨ T i) (W.alloc (.cells #[.int .i64 4, .int .i64 a, .int .i64 b, .int .i64 nn, .int .u64 o, .int .u64 v] 33)).drew W' → W'.cell? ⟨W.heap.size, 1, none⟩ = some (.int .i64 a) ∧ W'.cell? ⟨W.heap.size, 5, none⟩ = some (.int .u64 v)) := Lib.hid fun W' hc => by
    have e := (hc.old _ hsz hg1).trans hrow
    exact ⟨cell_of_row W' _ 1 _ 33 _ e, cell_of_row W' _ 5 _ 33 _ e⟩
  clear c0 h1 h hg1 hsz hrow hlt
  go_enter Try.func12, Try.ntmps12
  go_wp2
  generalize W.heap.size = g at *
  generalize hWb : W.alloc (.cells #[.int .i64 4, .int .i64 a, .int .i64 b, .int .i64 nn, .int .u64 o, .int .u64 v] 33) = Wb at *
  clear hWb
  obtain ⟨k1, k5⟩ := KX.out Wb.drew (Cha.refl _ _)
  go_region_held3 (fun w' => w'.cell? ⟨g, 1, none⟩ = some (.int .i64 a) ∧ w'.cell? ⟨g, 5, none⟩ = some (.int .u64 v))
    (first
      | go_keep
      | exact ⟨k1, k5⟩
      | exact KX.out _ (by assumption))
    (first
      | (go_at_call 18; refine (M.out Wb.drew H1.out).mono ?_; rintro e5 w5 ⟨rfl, hH, hD⟩; have hD5 : Cha (fun i => i = bp ∨ T i) Wb.drew w5 := hD.mono fun i _ e => .inl e)
      | (go_at_call 28; refine (R.out w5 hH).mono ?_; rintro e6 w6 ⟨rfl, hN⟩; have hD6 := next_cha hD5 hN))
  all_goals
    go_wp2
    go_ret
    exact ⟨rfl, went_of (C0.out.trans ((Chg.refl _ Wb).drew.cha)) hD5 hN⟩
set_option maxRecDepth 100000 in
set_option maxHeartbeats 4000000 in
theorem play_cas (a b nn o v : Int) (ha : -9223372036854775808 ≤ a) (ha2 : a ≤ 9223372036854775807) (h : Two w W bm bp br n T st wd) :
    Calls Try.prog 12 #[.pointer (some ⟨bm, 0, none⟩), .pointer (some ⟨br, 0, none⟩), .agg #[.int .i64 5, .int .i64 a, .int .i64 b, .int .i64 nn, .int .u64 o, .int .u64 v]] W fun e W' => e = .returned (.bool true) ∧ Went w W W' bm bp br n T := by
  obtain ⟨x, r, st', wd', M, R⟩ := pair_cas a o v ha ha2 h
  have M := Lib.hid M
  have R := Lib.hid R
  have c0 : Cha (fun i => i = bp ∨ T i) W (W.alloc (.cells #[.int .i64 5, .int .i64 a, .int .i64 b, .int .i64 nn, .int .u64 o, .int .u64 v] 33)) := ((Chg.refl _ W).alloc _ _).cha
  have h1 : Two w (W.alloc (.cells #[.int .i64 5, .int .i64 a, .int .i64 b, .int .i64 nn, .int .u64 o, .int .u64 v] 33)) bm bp br n T st wd := (Half.same h ((Chg.refl _ W).alloc _ _)).1
  have hrow := heap_alloc_new W (.cells #[.int .i64 5, .int .i64 a, .int .i64 b, .int .i64 nn, .int .u64 o, .int .u64 v] 33)
  have hlt := h.mem.lt
  have hg1 : ¬ (W.heap.size = bp ∨ T W.heap.size) := fun c => by
    rcases c with c | c
    · omega
    · obtain ⟨bs, bw, ws, bl, hr⟩ := h.ref
      have := hr.lt _ c; omega
  have hsz : W.heap.size < (W.alloc (.cells #[.int .i64 5, .int .i64 a, .int .i64 b, .int .i64 nn, .int .u64 o, .int .u64 v] 33)).heap.size := by show _ < (Array.push _ _).size; simp
  have C0 := Lib.hid c0
  have H1 := Lib.hid h1
  have KX : Hid (∀ W', Cha (fun i => i = bp ∨ T i) (W.alloc (.cells #[.int .i64 5, .int .i64 a, .int .i64 b, .int .i64 nn, .int .u64 o, .int .u64 v] 33)) W' → W'.cell? ⟨W.heap.size, 1, none⟩ = some (.int .i64 a) ∧ W'.cell? ⟨W.heap.size, 4, none⟩ = some (.int .u64 o) ∧ W'.cell? ⟨W.heap.size, 5, none⟩ = some (.int .u64 v)) := Lib.hid fun W' hc => by
    have e := (hc.old _ hsz hg1).trans hrow
    exact ⟨cell_of_row W' _ 1 _ 33 _ e, cell_of_row W' _ 4 _ 33 _ e, cell_of_row W' _ 5 _ 33 _ e⟩
  clear c0 h1 h hg1 hsz hrow hlt
  go_enter Try.func12, Try.ntmps12
  have k0 := KX.out _ (Cha.refl _ _)
  obtain ⟨k1, k4, k5⟩ := k0
  go_wp2_with (first
    | (go_at_call 21; ((with_reducible refine (M.out _ H1.out).mono ?_); rintro e5 w5 ⟨rfl, hH, hD⟩; have hD5 : Cha (fun i => i = bp ∨ T i) _ w5 := hD.mono fun i _ e => .inl e; obtain ⟨j1, j4, j5⟩ := KX.out _ hD5; have HH := Lib.hid hH; have HD := Lib.hid hD5; clear hH hD hD5))
    | (go_at_call 29; ((with_reducible refine (R.out w5 HH.out).mono ?_); rintro e6 w6 ⟨rfl, hN⟩; have HN := Lib.hid hN; clear hN)))
  go_ret
  exact ⟨rfl, went_of C0.out HD.out HN.out⟩
set_option maxRecDepth 100000 in
set_option maxHeartbeats 4000000 in
theorem play_copy (a b nn o v : Int) (hn2 : nn ≤ 9223372036854775807) (h : Two w W bm bp br n T st wd) :
    Calls Try.prog 12 #[.pointer (some ⟨bm, 0, none⟩), .pointer (some ⟨br, 0, none⟩), .agg #[.int .i64 6, .int .i64 a, .int .i64 b, .int .i64 nn, .int .u64 o, .int .u64 v]] W fun e W' => e = .returned (.bool true) ∧ Went w W W' bm bp br n T := by
  obtain ⟨r, st', wd', M, R⟩ := pair_copy a b nn hn2 h
  have M := Lib.hid M
  have R := Lib.hid R
  have c0 : Cha (fun i => i = bp ∨ T i) W (W.alloc (.cells #[.int .i64 6, .int .i64 a, .int .i64 b, .int .i64 nn, .int .u64 o, .int .u64 v] 33)) := ((Chg.refl _ W).alloc _ _).cha
  have h1 : Two w (W.alloc (.cells #[.int .i64 6, .int .i64 a, .int .i64 b, .int .i64 nn, .int .u64 o, .int .u64 v] 33)).drew bm bp br n T st wd := (Half.same h (((Chg.refl _ W).alloc _ _).drew)).1
  have hrow := heap_alloc_new W (.cells #[.int .i64 6, .int .i64 a, .int .i64 b, .int .i64 nn, .int .u64 o, .int .u64 v] 33)
  have hlt := h.mem.lt
  have hg1 : ¬ (W.heap.size = bp ∨ T W.heap.size) := fun c => by
    rcases c with c | c
    · omega
    · obtain ⟨bs, bw, ws, bl, hr⟩ := h.ref
      have := hr.lt _ c; omega
  have hsz : W.heap.size < (W.alloc (.cells #[.int .i64 6, .int .i64 a, .int .i64 b, .int .i64 nn, .int .u64 o, .int .u64 v] 33)).drew.heap.size := by show _ < (Array.push _ _).size; simp
  have C0 := Lib.hid c0
  have H1 := Lib.hid h1
  have KX : Hid (∀ W', Cha (fun i => i = bp ∨ T i) (W.alloc (.cells #[.int .i64 6, .int .i64 a, .int .i64 b, .int .i64 nn, .int .u64 o, .int .u64 v] 33)).drew W' → W'.cell? ⟨W.heap.size, 1, none⟩ = some (.int .i64 a) ∧ W'.cell? ⟨W.heap.size, 2, none⟩ = some (.int .i64 b) ∧ W'.cell? ⟨W.heap.size, 3, none⟩ = some (.int .i64 nn)) := Lib.hid fun W' hc => by
    have e := (hc.old _ hsz hg1).trans hrow
    exact ⟨cell_of_row W' _ 1 _ 33 _ e, cell_of_row W' _ 2 _ 33 _ e, cell_of_row W' _ 3 _ 33 _ e⟩
  clear c0 h1 h hg1 hsz hrow hlt
  go_enter Try.func12, Try.ntmps12
  go_wp2
  generalize W.heap.size = g at *
  generalize hWb : W.alloc (.cells #[.int .i64 6, .int .i64 a, .int .i64 b, .int .i64 nn, .int .u64 o, .int .u64 v] 33) = Wb at *
  clear hWb
  obtain ⟨k1, k2, k3⟩ := KX.out Wb.drew (Cha.refl _ _)
  go_region_held3 (fun w' => w'.cell? ⟨g, 1, none⟩ = some (.int .i64 a) ∧ w'.cell? ⟨g, 2, none⟩ = some (.int .i64 b) ∧ w'.cell? ⟨g, 3, none⟩ = some (.int .i64 nn))
    (first
      | go_keep
      | exact ⟨k1, k2, k3⟩
      | exact KX.out _ (by assumption))
    (first
      | (go_at_call 19; refine (M.out Wb.drew H1.out).mono ?_; rintro e5 w5 ⟨rfl, hH, hD⟩; have hD5 : Cha (fun i => i = bp ∨ T i) Wb.drew w5 := hD.mono fun i _ e => .inl e)
      | (go_at_call 30; refine (R.out w5 hH).mono ?_; rintro e6 w6 ⟨rfl, hN⟩; have hD6 := next_cha hD5 hN))
  all_goals
    go_wp2
    go_ret
    exact ⟨rfl, went_of (C0.out.trans ((Chg.refl _ Wb).drew.cha)) hD5 hN⟩

theorem play_else (kd a b nn o v : Int) (h0 : ¬ kd = 0) (h1 : ¬ kd = 1) (h2 : ¬ kd = 2) (h3 : ¬ kd = 3) (h4 : ¬ kd = 4) (h5 : ¬ kd = 5) (h6 : ¬ kd = 6) (h : Two w W bm bp br n T st wd) :
    Calls Try.prog 12 #[.pointer (some ⟨bm, 0, none⟩), .pointer (some ⟨br, 0, none⟩), .agg #[.int .i64 kd, .int .i64 a, .int .i64 b, .int .i64 nn, .int .u64 o, .int .u64 v]] W fun e W' => e = .returned (.bool true) ∧ Went w W W' bm bp br n T := by
  have hw : Went w W (W.alloc (.cells #[.int .i64 kd, .int .i64 a, .int .i64 b, .int .i64 nn, .int .u64 o, .int .u64 v] 33)) bm bp br n T := ⟨T, st, wd, (Half.same h ((Chg.refl _ W).alloc _ _)).1, ((Chg.refl _ W).alloc _ _).cha⟩
  have HW := Lib.hid hw
  clear hw h
  go_enter Try.func12, Try.ntmps12
  go_wp2
  go_ret
  exact ⟨rfl, HW.out⟩
theorem play_any (kd a b nn o v : Int) (ha : -9223372036854775808 ≤ a) (ha2 : a ≤ 9223372036854775807) (hb2 : b ≤ 9223372036854775807) (hn2 : nn ≤ 9223372036854775807) (h : Two w W bm bp br n T st wd) :
    Calls Try.prog 12 #[.pointer (some ⟨bm, 0, none⟩), .pointer (some ⟨br, 0, none⟩), .agg #[.int .i64 kd, .int .i64 a, .int .i64 b, .int .i64 nn, .int .u64 o, .int .u64 v]] W fun e W' => e = .returned (.bool true) ∧ Went w W W' bm bp br n T := by
  by_cases h0 : kd = 0
  · subst h0; exact play_map a b nn o v hb2 h
  by_cases h1 : kd = 1
  · subst h1; exact play_unmap a b nn o v hb2 h
  by_cases h2 : kd = 2
  · subst h2; exact play_release a b nn o v hb2 h
  by_cases h3 : kd = 3
  · subst h3; exact play_load a b nn o v ha ha2 h
  by_cases h4 : kd = 4
  · subst h4; exact play_store a b nn o v ha ha2 h
  by_cases h5 : kd = 5
  · subst h5; exact play_cas a b nn o v ha ha2 h
  by_cases h6 : kd = 6
  · subst h6; exact play_copy a b nn o v hn2 h
  exact play_else kd a b nn o v h0 h1 h2 h3 h4 h5 h6 h
end Go.Proofs.Ytbkpbineagfbgaa
