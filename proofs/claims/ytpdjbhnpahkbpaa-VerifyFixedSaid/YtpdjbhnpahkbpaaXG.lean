/- VerifyFixed: the walk. -/
import Derived.Test.YtpdjbhnpahkbpaaXF
namespace Go.Proofs.Ytpdjbhnpahkbpaa
set_option linter.unusedVariables false
open Go.ChangeShapes Go.WideShapes Go.ChangeAt Go.RowKit
theorem i64_small {z : Int} (h : -1000 ≤ z ∧ z ≤ 1000) : I64 z := ⟨by omega, by omega⟩
/-- A program of a function with one int slot, whose code lies somewhere: made in two blocks more. -/
theorem fx_prog {w : World} {g n : Nat} {co : List IZ} (h : RdS 6 RdIns (· < w.heap.size) w (.slice (some ⟨g, 0, none⟩) n n) co) (hc : CapC w (some ⟨g, 0, none⟩) n) :
    HasP ((w.drew.alloc (.cells #[.int .i64 0] 64)).alloc (.cells #[.int .i64 0, .slice (some ⟨w.heap.size, 0, none⟩) 1 1, .slice none 0 0, .slice (some ⟨g, 0, none⟩) n n] 55)) (.agg #[.slice none 0 0, .slice none 0 0, .slice (some ⟨w.heap.size + 1, 0, none⟩) 1 1]) (fxP co) ∧
    CapP ((w.drew.alloc (.cells #[.int .i64 0] 64)).alloc (.cells #[.int .i64 0, .slice (some ⟨w.heap.size, 0, none⟩) 1 1, .slice none 0 0, .slice (some ⟨g, 0, none⟩) n n] 55)) (some ⟨w.heap.size + 1, 0, none⟩) 1 := by
  have A := alloc2 w.drew (.cells #[.int .i64 0] 64) (.cells #[.int .i64 0, .slice (some ⟨w.heap.size, 0, none⟩) 1 1, .slice none 0 0, .slice (some ⟨g, 0, none⟩) n n] 55)
  have C : Cha (fun _ => False) w ((w.drew.alloc (.cells #[.int .i64 0] 64)).alloc (.cells #[.int .i64 0, .slice (some ⟨w.heap.size, 0, none⟩) 1 1, .slice none 0 0, .slice (some ⟨g, 0, none⟩) n n] 55)) := ((Cha.refl _ w).drew.alloc _).alloc _
  have k2 := h.inss (B' := (· < ((w.drew.alloc (.cells #[.int .i64 0] 64)).alloc (.cells #[.int .i64 0, .slice (some ⟨w.heap.size, 0, none⟩) 1 1, .slice none 0 0, .slice (some ⟨g, 0, none⟩) n n] 55)).heap.size)) C (fun _ f => f.elim) (fun _ hi => Nat.lt_of_lt_of_le hi C.size)
  have k3 := hc.cha C
  have k1 := ints_block (xs := [0]) A.1 rfl (fun x hx => by
    have e0 : x = 0 := by simpa using hx
    subst e0
    exact ⟨by omega, by omega⟩) (by decide)
  obtain ⟨k4, k5⟩ := fns_block (xs := [(⟨0, [0], [], co⟩, .slice (some ⟨w.heap.size, 0, none⟩) 1 1, .slice none 0 0, .slice (some ⟨g, 0, none⟩) n n)]) A.2 rfl (fun x hx => by
    obtain rfl : x = (⟨0, [0], [], co⟩, .slice (some ⟨w.heap.size, 0, none⟩) 1 1, .slice none 0 0, .slice (some ⟨g, 0, none⟩) n n) := by simpa using hx
    exact ⟨i64_small (by show -1000 ≤ (0 : Int) ∧ (0 : Int) ≤ 1000; omega), k1, RdS.nil _ _ _ _, k2, fun a n c e => by injection e; omega, fun a n c e => by injection e with e1 e2 e3; subst e1 e2; exact k3⟩) (by show 1 ≤ _; omega)
  exact ⟨⟨_, _, _, rfl, RdS.nil _ _ _ _, RdS.nil _ _ _ _, k4⟩, k5⟩
def fxF : FZ := ⟨0, [], [], [⟨36, 0, 0, 0, 0, []⟩]⟩
theorem fx_c1 (w : World) : Calls Try.prog 24 #[.agg #[.slice none 0 0, .slice none 0 0, .slice none 0 0]] w (SaysF w ⟨16, -1, 0⟩) := by
  have hq : CapP w none 0 := ⟨fun b o e => (nomatch e), fun b o e => (nomatch e)⟩
  have h := check_c (W := w) (p := ⟨[], [], []⟩) ⟨_, _, _, rfl, RdS.nil _ _ _ _, RdS.nil _ _ _ _, RdS.nil _ _ _ _⟩ hq
  rw [show chkZ ⟨[], [], []⟩ = ⟨16, -1, 0⟩ from ft_eq (by decide +kernel)] at h
  exact h
section
variable {w : World} {g : Nat}
theorem fx_c2 {fi : List Int} {lv : Value} {e f a : Int} (R : RdS 4 RdFn (· < w.heap.size) w (.slice (some ⟨g, 0, none⟩) 1 1) [fxF]) (Q : CapP w (some ⟨g, 0, none⟩) 1) (hl : RdS 1 RdI (· < w.heap.size) w lv fi) (hz : chkZ ⟨[⟨false, fi⟩], [], [fxF]⟩ = ⟨e, f, a⟩) :
    Calls Try.prog 24 #[.agg #[.slice (some ⟨w.heap.size, 0, none⟩) 1 1, .slice none 0 0, .slice (some ⟨g, 0, none⟩) 1 1]] (w.alloc (.cells #[.bool false, lv] 69)) (SaysF (w.alloc (.cells #[.bool false, lv] 69)) ⟨e, f, a⟩) := by
  have C := (Cha.refl (fun _ => False) w).alloc (.cells #[.bool false, lv] 69)
  have A := heap_alloc_new w (.cells #[.bool false, lv] 69)
  have k := tys_block (xs := [(⟨false, fi⟩, lv)]) A rfl (fun x hx => by
    obtain rfl : x = (⟨false, fi⟩, lv) := by simpa using hx
    exact hl.ints C (fun _ f => f.elim) (fun _ hi => Nat.lt_of_lt_of_le hi C.size)) (by show 1 ≤ _; omega)
  have h := check_c (W := w.alloc (.cells #[.bool false, lv] 69)) (p := ⟨[⟨false, fi⟩], [], [fxF]⟩) ⟨_, _, _, rfl, k, RdS.nil _ _ _ _, R.fns C (fun _ f => f.elim) (fun _ hi => Nat.lt_of_lt_of_le hi C.size)⟩ (Q.cha C)
  rw [hz] at h
  exact h
theorem fx_c4 (R : RdS 4 RdFn (· < w.heap.size) w (.slice (some ⟨g, 0, none⟩) 1 1) [fxF]) (Q : CapP w (some ⟨g, 0, none⟩) 1) :
    Calls Try.prog 24 #[.agg #[.slice none 0 0, .slice (some ⟨w.heap.size, 0, none⟩) 2 2, .slice (some ⟨g, 0, none⟩) 1 1]] (w.alloc (.cells #[.int .i64 0, .int .i64 2] 64)) (SaysF (w.alloc (.cells #[.int .i64 0, .int .i64 2] 64)) ⟨15, -1, 1⟩) := by
  have C := (Cha.refl (fun _ => False) w).alloc (.cells #[.int .i64 0, .int .i64 2] 64)
  have A := heap_alloc_new w (.cells #[.int .i64 0, .int .i64 2] 64)
  have k := ints_block (xs := [0, 2]) A rfl (fun x hx => by
    have hx : x = 0 ∨ x = 2 := by simpa using hx
    exact i64_small (by omega)) (by decide)
  have h := check_c (W := w.alloc (.cells #[.int .i64 0, .int .i64 2] 64)) (p := ⟨[], [0, 2], [fxF]⟩) ⟨_, _, _, rfl, RdS.nil _ _ _ _, k, R.fns C (fun _ f => f.elim) (fun _ hi => Nat.lt_of_lt_of_le hi C.size)⟩ (Q.cha C)
  rw [show chkZ ⟨[], [0, 2], [fxF]⟩ = ⟨15, -1, 1⟩ from ft_eq (by decide +kernel)] at h
  exact h
theorem fx_c5 : Calls Try.prog 24 #[.agg #[.slice none 0 0, .slice none 0 0, .slice (some ⟨w.heap.size, 0, none⟩) 1 1]] (w.alloc (.cells #[.int .i64 0, .slice none 0 0, .slice none 0 0, .slice none 0 0] 55)) (SaysF (w.alloc (.cells #[.int .i64 0, .slice none 0 0, .slice none 0 0, .slice none 0 0] 55)) ⟨7, 0, 0⟩) := by
  have A := heap_alloc_new w (.cells #[.int .i64 0, .slice none 0 0, .slice none 0 0, .slice none 0 0] 55)
  obtain ⟨k4, k5⟩ := fns_block (xs := [((⟨0, [], [], []⟩ : FZ), .slice none 0 0, .slice none 0 0, .slice none 0 0)]) A rfl (fun x hx => by
    obtain rfl : x = ((⟨0, [], [], []⟩ : FZ), .slice none 0 0, .slice none 0 0, .slice none 0 0) := by simpa using hx
    exact ⟨i64_small (by show -1000 ≤ (0 : Int) ∧ (0 : Int) ≤ 1000; omega), RdS.nil _ _ _ _, RdS.nil _ _ _ _, RdS.nil _ _ _ _, fun a n c e => by injection e; omega, fun a n c e => by injection e with e1 e2 e3; subst e1 e2; exact fun b o e => by cases e⟩) (by show 1 ≤ _; omega)
  have h := check_c (W := w.alloc (.cells #[.int .i64 0, .slice none 0 0, .slice none 0 0, .slice none 0 0] 55)) (p := ⟨[], [], [⟨0, [], [], []⟩]⟩) ⟨_, _, _, rfl, RdS.nil _ _ _ _, RdS.nil _ _ _ _, k4⟩ k5
  rw [show chkZ ⟨[], [], [⟨0, [], [], []⟩]⟩ = ⟨7, 0, 0⟩ from ft_eq (by decide +kernel)] at h
  exact h
/-- The blocks that are made behind the loop. -/
def fxT (w : World) : List Obj := [.cells #[.int .i64 36, .int .i64 0, .int .i64 0, .int .i64 0, .int .u64 0, .slice none 0 0] 52, .cells #[.int .i64 0, .slice none 0 0, .slice none 0 0, .slice (some ⟨w.heap.size, 0, none⟩) 1 1] 55, .cells #[.int .i64 17] 64, .cells #[.bool false, .slice (some ⟨w.heap.size + 1 + 1, 0, none⟩) 1 1] 69]
theorem fx_tail (w : World) : (RdS 4 RdFn (· < (allocs w (fxT w)).heap.size) (allocs w (fxT w)) (.slice (some ⟨w.heap.size + 1, 0, none⟩) 1 1) [fxF] ∧ CapP (allocs w (fxT w)) (some ⟨w.heap.size + 1, 0, none⟩) 1) ∧ RdS 1 RdI (· < (allocs w (fxT w)).heap.size) (allocs w (fxT w)) (.slice (some ⟨w.heap.size + 1 + 1, 0, none⟩) 1 1) [17] ∧
    (allocs w (fxT w)).heap[w.heap.size + 1 + 1 + 1]? = some (.cells #[.bool false, .slice (some ⟨w.heap.size + 1 + 1, 0, none⟩) 1 1] 69 (0, 0)) := by
  obtain ⟨_, A⟩ := allocs_at (fxT w) w
  have k1 := ints_block (xs := [17]) (A 2 _ rfl) rfl (fun x hx => by
    have e0 : x = 17 := by simpa using hx
    exact i64_small (by omega)) (by decide)
  obtain ⟨k2, k3⟩ := inss_block (xs := [(⟨36, 0, 0, 0, 0, []⟩, .slice none 0 0)]) (A 0 _ rfl) rfl (fun x hx => by
    obtain rfl : x = (⟨36, 0, 0, 0, 0, []⟩, .slice none 0 0) := by simpa using hx
    exact .nil (i64_small (by omega)) (i64_small (by omega)) (i64_small (by omega)) (i64_small (by omega)) (by decide)) (by decide)
  obtain ⟨k4, k5⟩ := fns_block (xs := [(fxF, .slice none 0 0, .slice none 0 0, .slice (some ⟨w.heap.size + 0, 0, none⟩) 1 1)]) (A 1 _ rfl) rfl (fun x hx => by
    obtain rfl : x = (fxF, .slice none 0 0, .slice none 0 0, .slice (some ⟨w.heap.size + 0, 0, none⟩) 1 1) := by simpa using hx
    exact ⟨i64_small (by show -1000 ≤ (0 : Int) ∧ (0 : Int) ≤ 1000; omega), RdS.nil _ _ _ _, RdS.nil _ _ _ _, k2, fun a n c e => by injection e; omega, fun a n c e => by injection e with e1 e2 e3; subst e1 e2; exact k3⟩) (by show 1 ≤ _; omega)
  exact ⟨⟨k4, k5⟩, k1, A 3 _ rfl⟩
end
set_option maxRecDepth 100000 in
set_option maxHeartbeats 8000000 in
theorem vfixed_walk (W : World) : Calls Try.prog 14 #[] W fun e w' => e = .returned (.bool true) ∧ Cha (fun _ => False) W w' := by
  have FX := Lib.hid (fx_all W)
  have C5 := Lib.hid (fx_blocks W).1
  simp only [allocs, fxL, List.foldl_cons, List.foldl_nil] at FX C5
  have HB0 : Hid ((((((((((((((((((((((W.alloc (.cells #[.int .i64 36, .int .i64 0, .int .i64 0, .int .i64 0, .int .u64 0, .slice none 0 0] 52)).alloc (.cells #[.int .i64 36, .int .i64 0, .int .i64 0, .int .i64 0, .int .u64 0, .slice none 0 0] 52)).alloc (.cells #[.int .i64 1, .int .i64 1, .int .i64 0, .int .i64 0, .int .u64 0, .slice none 0 0, .int .i64 36, .int .i64 0, .int .i64 0, .int .i64 0, .int .u64 0, .slice none 0 0] 52)).alloc (.cells #[.int .i64 2, .int .i64 0, .int .i64 0, .int .i64 1, .int .u64 0, .slice none 0 0, .int .i64 36, .int .i64 0, .int .i64 0, .int .i64 0, .int .u64 0, .slice none 0 0] 52)).alloc (.cells #[.int .i64 24, .int .i64 5, .int .i64 0, .int .i64 0, .int .u64 0, .slice none 0 0] 52)).alloc (.cells #[.int .i64 0, .int .i64 0, .int .i64 0, .int .i64 0, .int .u64 0, .slice none 0 0, .int .i64 36, .int .i64 0, .int .i64 0, .int .i64 0, .int .u64 0, .slice none 0 0] 52)).alloc (.cells #[.int .i64 53, .int .i64 0, .int .i64 0, .int .i64 0, .int .u64 0, .slice none 0 0, .int .i64 36, .int .i64 0, .int .i64 0, .int .i64 0, .int .u64 0, .slice none 0 0] 52)).alloc (.cells #[.int .i64 35, .int .i64 1, .int .i64 0, .int .i64 0, .int .u64 0, .slice none 0 0, .int .i64 36, .int .i64 0, .int .i64 0, .int .i64 0, .int .u64 0, .slice none 0 0] 52)).alloc (.cells #[.int .i64 26, .int .i64 0, .int .i64 0, .int .i64 0, .int .u64 0, .slice none 0 0, .int .i64 36, .int .i64 0, .int .i64 0, .int .i64 0, .int .u64 0, .slice none 0 0] 52)).alloc (.cells #[.int .i64 42, .int .i64 0, .int .i64 0, .int .i64 0, .int .u64 0, .slice none 0 0, .int .i64 36, .int .i64 0, .int .i64 0, .int .i64 0, .int .u64 0, .slice none 0 0] 52)).alloc (.cells #[.int .i64 0] 3)).alloc (.cells #[.int .i64 45, .int .i64 0, .int .i64 0, .int .i64 0, .int .u64 0, .slice (some ⟨W.heap.size + 1 + 1 + 1 + 1 + 1 + 1 + 1 + 1 + 1 + 1, 0, none⟩) 1 1, .int .i64 36, .int .i64 0, .int .i64 0, .int .i64 0, .int .u64 0, .slice none 0 0] 52)).alloc (.cells #[.int .i64 33, .int .i64 0, .int .i64 0, .int .i64 0, .int .u64 0, .slice none 0 0, .int .i64 36, .int .i64 0, .int .i64 0, .int .i64 0, .int .u64 0, .slice none 0 0] 52)).alloc (.cells #[.int .i64 0] 3)).alloc (.cells #[.int .i64 36, .int .i64 0, .int .i64 0, .int .i64 0, .int .u64 0, .slice (some ⟨W.heap.size + 1 + 1 + 1 + 1 + 1 + 1 + 1 + 1 + 1 + 1 + 1 + 1 + 1, 0, none⟩) 1 1] 52)).alloc (.cells #[.int .i64 15, .int .i64 0, .int .i64 0, .int .i64 0, .int .u64 0, .slice none 0 0, .int .i64 36, .int .i64 0, .int .i64 0, .int .i64 0, .int .u64 0, .slice none 0 0] 52)).alloc (.cells #[.int .i64 49, .int .i64 0, .int .i64 0, .int .i64 0, .int .u64 0, .slice none 0 0, .int .i64 36, .int .i64 0, .int .i64 0, .int .i64 0, .int .u64 0, .slice none 0 0] 52)).alloc (.cells #[.int .i64 47, .int .i64 0, .int .i64 0, .int .i64 0, .int .u64 1, .slice none 0 0, .int .i64 36, .int .i64 0, .int .i64 0, .int .i64 0, .int .u64 0, .slice none 0 0] 52)).alloc (.cells #[.int .i64 1, .int .i64 0, .int .i64 0, .int .i64 0, .int .u64 0, .slice none 0 0] 52)).alloc (.cells #[.slice (some ⟨W.heap.size + 1, 0, none⟩) 1 1, .slice (some ⟨W.heap.size + 1 + 1, 0, none⟩) 2 2, .slice (some ⟨W.heap.size + 1 + 1 + 1, 0, none⟩) 2 2, .slice (some ⟨W.heap.size + 1 + 1 + 1 + 1, 0, none⟩) 1 1, .slice (some ⟨W.heap.size + 1 + 1 + 1 + 1 + 1, 0, none⟩) 2 2, .slice (some ⟨W.heap.size + 1 + 1 + 1 + 1 + 1 + 1, 0, none⟩) 2 2, .slice (some ⟨W.heap.size + 1 + 1 + 1 + 1 + 1 + 1 + 1, 0, none⟩) 2 2, .slice (some ⟨W.heap.size + 1 + 1 + 1 + 1 + 1 + 1 + 1 + 1, 0, none⟩) 2 2, .slice (some ⟨W.heap.size + 1 + 1 + 1 + 1 + 1 + 1 + 1 + 1 + 1, 0, none⟩) 2 2, .slice (some ⟨W.heap.size + 1 + 1 + 1 + 1 + 1 + 1 + 1 + 1 + 1 + 1 + 1, 0, none⟩) 2 2, .slice (some ⟨W.heap.size + 1 + 1 + 1 + 1 + 1 + 1 + 1 + 1 + 1 + 1 + 1 + 1, 0, none⟩) 2 2, .slice (some ⟨W.heap.size + 1 + 1 + 1 + 1 + 1 + 1 + 1 + 1 + 1 + 1 + 1 + 1 + 1 + 1, 0, none⟩) 1 1, .slice (some ⟨W.heap.size + 1 + 1 + 1 + 1 + 1 + 1 + 1 + 1 + 1 + 1 + 1 + 1 + 1 + 1 + 1, 0, none⟩) 2 2, .slice (some ⟨W.heap.size + 1 + 1 + 1 + 1 + 1 + 1 + 1 + 1 + 1 + 1 + 1 + 1 + 1 + 1 + 1 + 1, 0, none⟩) 2 2, .slice (some ⟨W.heap.size + 1 + 1 + 1 + 1 + 1 + 1 + 1 + 1 + 1 + 1 + 1 + 1 + 1 + 1 + 1 + 1 + 1, 0, none⟩) 2 2, .slice (some ⟨W.heap.size + 1 + 1 + 1 + 1 + 1 + 1 + 1 + 1 + 1 + 1 + 1 + 1 + 1 + 1 + 1 + 1 + 1 + 1, 0, none⟩) 1 1] 53)).alloc (.cells #[.int .i64 0, .int .i64 0, .int .i64 0, .int .i64 11, .int .i64 0, .int .i64 0, .int .i64 8, .int .i64 0, .int .i64 0, .int .i64 12, .int .i64 0, .int .i64 0, .int .i64 9, .int .i64 0, .int .i64 0, .int .i64 9, .int .i64 0, .int .i64 0, .int .i64 13, .int .i64 0, .int .i64 0, .int .i64 14, .int .i64 0, .int .i64 0, .int .i64 10, .int .i64 0, .int .i64 0, .int .i64 16, .int .i64 0, .int .i64 0, .int .i64 15, .int .i64 0, .int .i64 0, .int .i64 16, .int .i64 0, .int .i64 0, .int .i64 10, .int .i64 0, .int .i64 0, .int .i64 10, .int .i64 0, .int .i64 0, .int .i64 8, .int .i64 0, .int .i64 0, .int .i64 7, .int .i64 0, .int .i64 0] 37)).heap[W.heap.size]? = some (.cells #[.int .i64 36, .int .i64 0, .int .i64 0, .int .i64 0, .int .u64 0, .slice none 0 0] 52 (0, 0))) := Lib.hid ((fx_blocks W).2 0 _ rfl)
  go_enter Try.func14, Try.ntmps14
  go_wp2
  generalize (((((((((((((((((((((W.alloc (.cells #[.int .i64 36, .int .i64 0, .int .i64 0, .int .i64 0, .int .u64 0, .slice none 0 0] 52)).alloc (.cells #[.int .i64 36, .int .i64 0, .int .i64 0, .int .i64 0, .int .u64 0, .slice none 0 0] 52)).alloc (.cells #[.int .i64 1, .int .i64 1, .int .i64 0, .int .i64 0, .int .u64 0, .slice none 0 0, .int .i64 36, .int .i64 0, .int .i64 0, .int .i64 0, .int .u64 0, .slice none 0 0] 52)).alloc (.cells #[.int .i64 2, .int .i64 0, .int .i64 0, .int .i64 1, .int .u64 0, .slice none 0 0, .int .i64 36, .int .i64 0, .int .i64 0, .int .i64 0, .int .u64 0, .slice none 0 0] 52)).alloc (.cells #[.int .i64 24, .int .i64 5, .int .i64 0, .int .i64 0, .int .u64 0, .slice none 0 0] 52)).alloc (.cells #[.int .i64 0, .int .i64 0, .int .i64 0, .int .i64 0, .int .u64 0, .slice none 0 0, .int .i64 36, .int .i64 0, .int .i64 0, .int .i64 0, .int .u64 0, .slice none 0 0] 52)).alloc (.cells #[.int .i64 53, .int .i64 0, .int .i64 0, .int .i64 0, .int .u64 0, .slice none 0 0, .int .i64 36, .int .i64 0, .int .i64 0, .int .i64 0, .int .u64 0, .slice none 0 0] 52)).alloc (.cells #[.int .i64 35, .int .i64 1, .int .i64 0, .int .i64 0, .int .u64 0, .slice none 0 0, .int .i64 36, .int .i64 0, .int .i64 0, .int .i64 0, .int .u64 0, .slice none 0 0] 52)).alloc (.cells #[.int .i64 26, .int .i64 0, .int .i64 0, .int .i64 0, .int .u64 0, .slice none 0 0, .int .i64 36, .int .i64 0, .int .i64 0, .int .i64 0, .int .u64 0, .slice none 0 0] 52)).alloc (.cells #[.int .i64 42, .int .i64 0, .int .i64 0, .int .i64 0, .int .u64 0, .slice none 0 0, .int .i64 36, .int .i64 0, .int .i64 0, .int .i64 0, .int .u64 0, .slice none 0 0] 52)).alloc (.cells #[.int .i64 0] 3)).alloc (.cells #[.int .i64 45, .int .i64 0, .int .i64 0, .int .i64 0, .int .u64 0, .slice (some ⟨W.heap.size + 1 + 1 + 1 + 1 + 1 + 1 + 1 + 1 + 1 + 1, 0, none⟩) 1 1, .int .i64 36, .int .i64 0, .int .i64 0, .int .i64 0, .int .u64 0, .slice none 0 0] 52)).alloc (.cells #[.int .i64 33, .int .i64 0, .int .i64 0, .int .i64 0, .int .u64 0, .slice none 0 0, .int .i64 36, .int .i64 0, .int .i64 0, .int .i64 0, .int .u64 0, .slice none 0 0] 52)).alloc (.cells #[.int .i64 0] 3)).alloc (.cells #[.int .i64 36, .int .i64 0, .int .i64 0, .int .i64 0, .int .u64 0, .slice (some ⟨W.heap.size + 1 + 1 + 1 + 1 + 1 + 1 + 1 + 1 + 1 + 1 + 1 + 1 + 1, 0, none⟩) 1 1] 52)).alloc (.cells #[.int .i64 15, .int .i64 0, .int .i64 0, .int .i64 0, .int .u64 0, .slice none 0 0, .int .i64 36, .int .i64 0, .int .i64 0, .int .i64 0, .int .u64 0, .slice none 0 0] 52)).alloc (.cells #[.int .i64 49, .int .i64 0, .int .i64 0, .int .i64 0, .int .u64 0, .slice none 0 0, .int .i64 36, .int .i64 0, .int .i64 0, .int .i64 0, .int .u64 0, .slice none 0 0] 52)).alloc (.cells #[.int .i64 47, .int .i64 0, .int .i64 0, .int .i64 0, .int .u64 1, .slice none 0 0, .int .i64 36, .int .i64 0, .int .i64 0, .int .i64 0, .int .u64 0, .slice none 0 0] 52)).alloc (.cells #[.int .i64 1, .int .i64 0, .int .i64 0, .int .i64 0, .int .u64 0, .slice none 0 0] 52)).alloc (.cells #[.slice (some ⟨W.heap.size + 1, 0, none⟩) 1 1, .slice (some ⟨W.heap.size + 1 + 1, 0, none⟩) 2 2, .slice (some ⟨W.heap.size + 1 + 1 + 1, 0, none⟩) 2 2, .slice (some ⟨W.heap.size + 1 + 1 + 1 + 1, 0, none⟩) 1 1, .slice (some ⟨W.heap.size + 1 + 1 + 1 + 1 + 1, 0, none⟩) 2 2, .slice (some ⟨W.heap.size + 1 + 1 + 1 + 1 + 1 + 1, 0, none⟩) 2 2, .slice (some ⟨W.heap.size + 1 + 1 + 1 + 1 + 1 + 1 + 1, 0, none⟩) 2 2, .slice (some ⟨W.heap.size + 1 + 1 + 1 + 1 + 1 + 1 + 1 + 1, 0, none⟩) 2 2, .slice (some ⟨W.heap.size + 1 + 1 + 1 + 1 + 1 + 1 + 1 + 1 + 1, 0, none⟩) 2 2, .slice (some ⟨W.heap.size + 1 + 1 + 1 + 1 + 1 + 1 + 1 + 1 + 1 + 1 + 1, 0, none⟩) 2 2, .slice (some ⟨W.heap.size + 1 + 1 + 1 + 1 + 1 + 1 + 1 + 1 + 1 + 1 + 1 + 1, 0, none⟩) 2 2, .slice (some ⟨W.heap.size + 1 + 1 + 1 + 1 + 1 + 1 + 1 + 1 + 1 + 1 + 1 + 1 + 1 + 1, 0, none⟩) 1 1, .slice (some ⟨W.heap.size + 1 + 1 + 1 + 1 + 1 + 1 + 1 + 1 + 1 + 1 + 1 + 1 + 1 + 1 + 1, 0, none⟩) 2 2, .slice (some ⟨W.heap.size + 1 + 1 + 1 + 1 + 1 + 1 + 1 + 1 + 1 + 1 + 1 + 1 + 1 + 1 + 1 + 1, 0, none⟩) 2 2, .slice (some ⟨W.heap.size + 1 + 1 + 1 + 1 + 1 + 1 + 1 + 1 + 1 + 1 + 1 + 1 + 1 + 1 + 1 + 1 + 1, 0, none⟩) 2 2, .slice (some ⟨W.heap.size + 1 + 1 + 1 + 1 + 1 + 1 + 1 + 1 + 1 + 1 + 1 + 1 + 1 + 1 + 1 + 1 + 1 + 1, 0, none⟩) 1 1] 53)).alloc (.cells #[.int .i64 0, .int .i64 0, .int .i64 0, .int .i64 11, .int .i64 0, .int .i64 0, .int .i64 8, .int .i64 0, .int .i64 0, .int .i64 12, .int .i64 0, .int .i64 0, .int .i64 9, .int .i64 0, .int .i64 0, .int .i64 9, .int .i64 0, .int .i64 0, .int .i64 13, .int .i64 0, .int .i64 0, .int .i64 14, .int .i64 0, .int .i64 0, .int .i64 10, .int .i64 0, .int .i64 0, .int .i64 16, .int .i64 0, .int .i64 0, .int .i64 15, .int .i64 0, .int .i64 0, .int .i64 16, .int .i64 0, .int .i64 0, .int .i64 10, .int .i64 0, .int .i64 0, .int .i64 10, .int .i64 0, .int .i64 0, .int .i64 8, .int .i64 0, .int .i64 0, .int .i64 7, .int .i64 0, .int .i64 0] 37)) = w5 at *
  generalize W.heap.size = b at *
  have C0 := C5
  go_loopw [75] (fun i wr => ∃ k : Nat, k ≤ 16 ∧ i = .int .i64 (k : Int) ∧ Cha (fun _ => False) w5 wr) (fun i _ => 16 - (intOf i).toNat)
  case atStart => exact ⟨0, by omega, rfl, Cha.refl _ _⟩
  case round =>
    obtain ⟨k, hk, rfl, hC⟩ := hrel
    have HC := Lib.hid hC
    clear hC
    by_cases hlt : k < 16
    · obtain ⟨g, n, co, e, f, x, h1, h2, h3, h4, h5, h6, h7⟩ := (FX.out k hlt).cha HC.out
      have h1 : wr.cell? ⟨b + 1 + 1 + 1 + 1 + 1 + 1 + 1 + 1 + 1 + 1 + 1 + 1 + 1 + 1 + 1 + 1 + 1 + 1 + 1, k, none⟩ = some (.slice (some ⟨g, 0, none⟩) n n) := h1
      have h4 : wr.cell? ⟨b + 1 + 1 + 1 + 1 + 1 + 1 + 1 + 1 + 1 + 1 + 1 + 1 + 1 + 1 + 1 + 1 + 1 + 1 + 1 + 1, k * 3, none⟩ = some (.int .i64 e) := h4
      have h5 : wr.cell? ⟨b + 1 + 1 + 1 + 1 + 1 + 1 + 1 + 1 + 1 + 1 + 1 + 1 + 1 + 1 + 1 + 1 + 1 + 1 + 1 + 1, k * 3 + 1, none⟩ = some (.int .i64 f) := h5
      have h6 : wr.cell? ⟨b + 1 + 1 + 1 + 1 + 1 + 1 + 1 + 1 + 1 + 1 + 1 + 1 + 1 + 1 + 1 + 1 + 1 + 1 + 1 + 1, k * 3 + 2, none⟩ = some (.int .i64 x) := h6
      obtain ⟨p1, p2⟩ := fx_prog h2 h3
      have CK := Lib.hid (check_c p1 p2)
      rw [h7] at CK
      unfold SaysF at CK
      dsimp only at CK
      have KX : Hid (∀ W', Cha (fun _ => False) wr W' → W'.cell? ⟨b + 1 + 1 + 1 + 1 + 1 + 1 + 1 + 1 + 1 + 1 + 1 + 1 + 1 + 1 + 1 + 1 + 1 + 1 + 1 + 1, k * 3, none⟩ = some (.int .i64 e) ∧ W'.cell? ⟨b + 1 + 1 + 1 + 1 + 1 + 1 + 1 + 1 + 1 + 1 + 1 + 1 + 1 + 1 + 1 + 1 + 1 + 1 + 1 + 1, k * 3 + 1, none⟩ = some (.int .i64 f) ∧ W'.cell? ⟨b + 1 + 1 + 1 + 1 + 1 + 1 + 1 + 1 + 1 + 1 + 1 + 1 + 1 + 1 + 1 + 1 + 1 + 1 + 1 + 1, k * 3 + 2, none⟩ = some (.int .i64 x)) := Lib.hid fun W' c =>
        ⟨cell_cha (B := fun _ => True) c (fun _ f => f.elim) trivial h4, cell_cha (B := fun _ => True) c (fun _ f => f.elim) trivial h5, cell_cha (B := fun _ => True) c (fun _ f => f.elim) trivial h6⟩
      have ee : (e == e) = true := by simp
      have ef : (f == f) = true := by simp
      have ex : (x == x) = true := by simp
      have hk16 : (k : Int) < 16 := by omega
      have hk0 : (0 : Int) ≤ (k : Int) := Int.natCast_nonneg _
      clear h2 h3 h7 p1 p2
      go_wp2
      go_region_held3 (fun w' => w'.cell? ⟨b + 1 + 1 + 1 + 1 + 1 + 1 + 1 + 1 + 1 + 1 + 1 + 1 + 1 + 1 + 1 + 1 + 1 + 1 + 1 + 1, k * 3, none⟩ = some (.int .i64 e) ∧ w'.cell? ⟨b + 1 + 1 + 1 + 1 + 1 + 1 + 1 + 1 + 1 + 1 + 1 + 1 + 1 + 1 + 1 + 1 + 1 + 1 + 1 + 1, k * 3 + 1, none⟩ = some (.int .i64 f) ∧ w'.cell? ⟨b + 1 + 1 + 1 + 1 + 1 + 1 + 1 + 1 + 1 + 1 + 1 + 1 + 1 + 1 + 1 + 1 + 1 + 1 + 1 + 1, k * 3 + 2, none⟩ = some (.int .i64 x))
        (first
          | go_keep
          | exact ⟨h4, h5, h6⟩
          | exact KX.out _ (by assumption))
        (first
          | (go_at_call 24; refine (CK.out).mono ?_; rintro e w3 ⟨rfl, m1⟩; have m2 : Cha (fun _ => False) wr w3 := (((Cha.refl _ wr).drew.alloc _).alloc _).trans m1))
      all_goals
        go_wp2
        go_roundw
        case rel => exact ⟨k + 1, by omega, by go_num, HC.out.trans m2⟩
        case measure => simp [intOf]; omega
    · obtain rfl : k = 16 := by omega
      have hr := (HC.out.old _ (Array.getElem?_eq_some_iff.1 HB0.out).1 (fun f => f)).trans HB0.out
      have r0 := cell_of_row wr b 0 _ 52 (0, 0) hr
      have r1 := cell_of_row wr b 1 _ 52 (0, 0) hr
      have r2 := cell_of_row wr b 2 _ 52 (0, 0) hr
      have r3 := cell_of_row wr b 3 _ 52 (0, 0) hr
      have r4 := cell_of_row wr b 4 _ 52 (0, 0) hr
      have r5 := cell_of_row wr b 5 _ 52 (0, 0) hr
      obtain ⟨⟨q1, q2⟩, q3, q4⟩ := fx_tail wr
      have C6 := Lib.hid (allocs_at (fxT wr) wr).1
      have W6 : Hid (∃ w6, w6 = allocs wr (fxT wr)) := Lib.hid ⟨_, rfl⟩
      obtain ⟨w6, h6⟩ := W6.out
      rw [← h6] at q1 q2 q3 q4 C6
      have KO : Hid (∀ w, Cha (fun _ => False) w6 w → (RdS 4 RdFn (· < w.heap.size) w (.slice (some ⟨wr.heap.size + 1, 0, none⟩) 1 1) [fxF] ∧ CapP w (some ⟨wr.heap.size + 1, 0, none⟩) 1) ∧ RdS 1 RdI (· < w.heap.size) w (.slice (some ⟨wr.heap.size + 1 + 1, 0, none⟩) 1 1) [17]) := Lib.hid fun w c => ⟨⟨q1.fns c (fun _ f => f.elim) (fun _ hi => Nat.lt_of_lt_of_le hi c.size), q2.cha c⟩, q3.ints c (fun _ f => f.elim) (fun _ hi => Nat.lt_of_lt_of_le hi c.size)⟩
      have KB : Hid (∀ w, Cha (fun _ => False) w6 w → w.cell? ⟨wr.heap.size + 1 + 1 + 1, 0, none⟩ = some (.bool false) ∧ w.cell? ⟨wr.heap.size + 1 + 1 + 1, 1, none⟩ = some (.slice (some ⟨wr.heap.size + 1 + 1, 0, none⟩) 1 1)) := Lib.hid fun w c => by
        have e := (c.old _ (Array.getElem?_eq_some_iff.1 q4).1 (fun f => f)).trans q4
        exact ⟨cell_of_row w _ 0 _ 69 _ e, cell_of_row w _ 1 _ 69 _ e⟩
      have D2 : Hid (∀ w, Cha (fun _ => False) w6 w → Calls Try.prog 24 #[.agg #[.slice (some ⟨w.heap.size, 0, none⟩) 1 1, .slice none 0 0, .slice (some ⟨wr.heap.size + 1, 0, none⟩) 1 1]] (w.alloc (.cells #[.bool false, .slice none 0 0] 69)) (SaysF (w.alloc (.cells #[.bool false, .slice none 0 0] 69)) ⟨16, -1, 0⟩)) := Lib.hid fun w c => fx_c2 (KO.out w c).1.1 (KO.out w c).1.2 (RdS.nil _ _ _ _) (ft_eq (by decide +kernel))
      have D3 : Hid (∀ w, Cha (fun _ => False) w6 w → Calls Try.prog 24 #[.agg #[.slice (some ⟨w.heap.size, 0, none⟩) 1 1, .slice none 0 0, .slice (some ⟨wr.heap.size + 1, 0, none⟩) 1 1]] (w.alloc (.cells #[.bool false, .slice (some ⟨wr.heap.size + 1 + 1, 0, none⟩) 1 1] 69)) (SaysF (w.alloc (.cells #[.bool false, .slice (some ⟨wr.heap.size + 1 + 1, 0, none⟩) 1 1] 69)) ⟨10, -1, 0⟩)) := Lib.hid fun w c => fx_c2 (KO.out w c).1.1 (KO.out w c).1.2 (KO.out w c).2 (ft_eq (by decide +kernel))
      have D4 : Hid (∀ w, Cha (fun _ => False) w6 w → Calls Try.prog 24 #[.agg #[.slice none 0 0, .slice (some ⟨w.heap.size, 0, none⟩) 2 2, .slice (some ⟨wr.heap.size + 1, 0, none⟩) 1 1]] (w.alloc (.cells #[.int .i64 0, .int .i64 2] 64)) (SaysF (w.alloc (.cells #[.int .i64 0, .int .i64 2] 64)) ⟨15, -1, 1⟩)) := Lib.hid fun w c => fx_c4 (KO.out w c).1.1 (KO.out w c).1.2
      have HCW := Lib.hid (HC.out.trans C6.out)
      clear q1 q2 q3 q4 hr FX HB0 C5 hk hlt W6 KO
      simp only [allocs, fxT, List.foldl_cons, List.foldl_nil] at h6
      unfold SaysF at D2 D3 D4
      dsimp only at D2 D3 D4
      have CC : Hid (Cha (fun _ => False) w6 ((((wr.alloc (.cells #[.int .i64 36, .int .i64 0, .int .i64 0, .int .i64 0, .int .u64 0, .slice none 0 0] 52)).alloc (.cells #[.int .i64 0, .slice none 0 0, .slice none 0 0, .slice (some ⟨wr.heap.size, 0, none⟩) 1 1] 55)).alloc (.cells #[.int .i64 17] 64)).alloc (.cells #[.bool false, .slice (some ⟨wr.heap.size + 1 + 1, 0, none⟩) 1 1] 69))) := Lib.hid (by rw [h6]; exact Cha.refl _ _)
      clear h6 C6
      go_wp2_with (first
        | (go_at_call 26; ((with_reducible refine (vawake_any _).mono ?_); rintro e w7 ⟨rfl, k1⟩; have C7 := Lib.hid (CC.out.trans k1); clear k1 r0 r1 r2 r3 r4 r5))
        | (go_at_call 24; ((with_reducible refine (fx_c1 _).mono ?_); rintro e w8 ⟨rfl, k1⟩; have C8 := Lib.hid (C7.out.trans k1); clear k1))
        | (go_at_call 24; ((with_reducible refine (D2.out _ C8.out).mono ?_); rintro e w9 ⟨rfl, k1⟩; have C9 := Lib.hid ((C8.out.alloc _).trans k1); obtain ⟨kb0, kb1⟩ := KB.out _ C9.out; clear k1))
        | (go_at_call 24; ((with_reducible refine (D3.out _ C9.out).mono ?_); rintro e w10 ⟨rfl, k1⟩; have C10 := Lib.hid ((C9.out.alloc _).trans k1); clear k1 kb0 kb1))
        | (go_at_call 24; ((with_reducible refine (D4.out _ C10.out).mono ?_); rintro e w11 ⟨rfl, k1⟩; have C11 := Lib.hid ((C10.out.alloc _).trans k1); clear k1))
        | (go_at_call 24; ((with_reducible refine (fx_c5).mono ?_); rintro e w12 ⟨rfl, k1⟩; have C12 := Lib.hid ((C11.out.alloc _).trans k1); clear k1)))
      go_ret
      exact ⟨rfl, C0.out.trans (HCW.out.trans C12.out)⟩
end Go.Proofs.Ytpdjbhnpahkbpaa
