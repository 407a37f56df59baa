/- Contracts of layer 3's Copy, where nothing is copied. -/
import Derived.Test.YtbkpbineagfbgaaJ
namespace Go.Proofs.Ytbkpbineagfbgaa
open Go.ChangeShapes Go.WideShapes Go.ChangeAt Go.RowKit

/-- All of k words from a on are there. -/
def Thr (n : Nat) (st : Nat → Int) (a k : Nat) : Prop := a + k ≤ n * 64 ∧ allB st (a / 64) [1, 2] (np a k) = true

theorem copy_nil (t f k : Int) (w : World) : Calls Try.prog 19 #[.pointer none, .int .i64 t, .int .i64 f, .int .i64 k] w fun e w' => e = .returned (.int .i64 5) ∧ Chg (fun _ => False) w w' := by
  have hmf := mkfun
  have HV := (Var.new w 0).set 5
  go_enter_defers Try.func19, Try.ntmps19
  go_wp2
  refine ⟨.int .i64 5, ?_, rfl, ?_⟩
  · have := HV.cell
    simp [results, Try.results19, go_sem]
  · exact (Chg.refl _ w).alloc _ _
theorem copy_neg (b : Nat) (t f k : Int) (w : World) (hk : k < 0) : Calls Try.prog 19 #[.pointer (some ⟨b, 0, none⟩), .int .i64 t, .int .i64 f, .int .i64 k] w fun e w' => e = .returned (.int .i64 1) ∧ Chg (fun _ => False) w w' := by
  have hmf := mkfun
  have HV := (Var.new w 0).set 1
  go_enter_defers Try.func19, Try.ntmps19
  go_wp2
  refine ⟨.int .i64 1, ?_, rfl, ?_⟩
  · have := HV.cell
    simp [results, Try.results19, go_sem]
  · exact (Chg.refl _ w).alloc _ _
theorem copy_zero (b : Nat) (t f : Int) (w : World) : Calls Try.prog 19 #[.pointer (some ⟨b, 0, none⟩), .int .i64 t, .int .i64 f, .int .i64 0] w fun e w' => e = .returned (.int .i64 0) ∧ Chg (fun _ => False) w w' := by
  have hmf := mkfun
  have HV := (Var.new w 0).set 0
  go_enter_defers Try.func19, Try.ntmps19
  go_wp2
  refine ⟨.int .i64 0, ?_, rfl, ?_⟩
  · have := HV.cell
    simp [results, Try.results19, go_sem]
  · exact (Chg.refl _ w).alloc _ _

/-- need, where a word isn't there. -/
theorem need_bad (a : Int) (k : Nat) {w : World} {bm bp n : Nat} {st wd : Nat → Int} (h : Mem w bm bp n st wd) (hk : 1 ≤ k) (hk2 : (k : Int) ≤ 9223372036854775807) (ha : a < 0 ∨ ¬ Thr n st a.toNat k) :
    Calls Try.prog 38 #[.pointer (some ⟨bm, 0, none⟩), .int .i64 a, .int .i64 (k : Int)] w fun e w' => e = faults 6 ∧ Chg (fun _ => False) w w' := by
  by_cases ho : a < 0 ∨ (n : Int) * 64 - k < a
  · exact (need_out a k h hk hk2 ho).mono fun e w' ⟨h1, h2⟩ => ⟨h1, h2 ▸ Chg.refl _ _⟩
  · have e : a = (a.toNat : Int) := by omega
    have hb : a.toNat + k ≤ n * 64 := by omega
    rw [e]
    refine (need_no a.toNat k h hk hb ?_).mono fun e w' ⟨h1, h2⟩ => ⟨h1, h2 ▸ (Chg.refl _ _).alloc _ _⟩
    cases hall : allB st (a.toNat / 64) [1, 2] (np a.toNat k)
    · rfl
    · exfalso
      rcases ha with ha | ha
      · omega
      · exact ha ⟨hb, hall⟩
theorem need_good (a k : Nat) {w : World} {bm bp n : Nat} {st wd : Nat → Int} (h : Mem w bm bp n st wd) (hk : 1 ≤ k) (ha : Thr n st a k) :
    Calls Try.prog 38 #[.pointer (some ⟨bm, 0, none⟩), .int .i64 (a : Int), .int .i64 (k : Int)] w fun e w' => e = .returned (.tuple #[]) ∧ Chg (fun _ => False) w w' :=
  (need_yes a k h hk ha.1 ha.2).mono fun _ _ ⟨h1, h2⟩ => ⟨h1, h2 ▸ (Chg.refl _ _).alloc _ _⟩

theorem copy_bad (t f : Int) (k : Nat) {w : World} {bm bp n : Nat} {st wd : Nat → Int} (h : Mem w bm bp n st wd) (hk : 1 ≤ k) (hk2 : (k : Int) ≤ 9223372036854775807) (hb : (f < 0 ∨ ¬ Thr n st f.toNat k) ∨ (t < 0 ∨ ¬ Thr n st t.toNat k)) :
    Calls Try.prog 19 #[.pointer (some ⟨bm, 0, none⟩), .int .i64 t, .int .i64 f, .int .i64 (k : Int)] w fun e w' => e = .returned (.int .i64 6) ∧ Chg (fun _ => False) w w' := by
  have hmf := mkfun
  have hc : Chg (fun _ => False) w (w.alloc (.cells #[.int .i64 0] 24)) := (Chg.refl _ w).alloc _ _
  have hm : Mem (w.alloc (.cells #[.int .i64 0] 24)) bm bp n st wd := h.chg hc (fun x => x) (fun x => x)
  have HC := Lib.hid hc
  have hkz : ((k : Int) == 0) = false := by simp; omega
  by_cases hf : f < 0 ∨ ¬ Thr n st f.toNat k
  · have C1 := Lib.hid (need_bad f k hm hk hk2 hf)
    clear h hm hc hb hf
    go_enter_defers Try.func19, Try.ntmps19
    go_wp2_with (go_at_call 38; ((with_reducible refine (C1.out).mono ?_); rintro e w1 ⟨rfl, hc⟩; have HD := Lib.hid hc; clear hc))
    have hv := (Var.new w 0).chg HD.out (fun x => x)
    refine leaves_cons (f := 37) (args := #[.pointer (some ⟨w.heap.size, 0, none⟩)]) (by simp) (by simp [go_sem]) ?_
    refine (catch37_fault ⟨w.heap.size, 0, none⟩ 0 6 [] _ hv.cell hv.free hv.lt).mono ?_
    rintro e u' w'' ⟨rfl, rfl, rfl⟩
    have hv2 := ((hv.alloc (.cells #[.int .i64 6] 85)).set 6).cell
    simp [Leaves, settle, results, Try.results19, go_sem, hv2]
    exact ((HC.out.trans HD.out).alloc _ _).setCell (fun h => absurd h (by simp)) _ |>.drew
  · have hf0 : ¬ f < 0 := fun c => hf (.inl c)
    have hT : Thr n st f.toNat k := Classical.byContradiction fun c => hf (.inr c)
    have ht : t < 0 ∨ ¬ Thr n st t.toNat k := hb.resolve_left hf
    obtain ⟨f', rfl⟩ : ∃ f' : Nat, f = (f' : Int) := ⟨f.toNat, by omega⟩
    rw [Int.toNat_natCast] at hT
    have C1 := Lib.hid (need_good f' k hm hk hT)
    have C2 : ∀ W, Chg (fun _ => False) (w.alloc (.cells #[.int .i64 0] 24)) W → _ := fun W hc => need_bad t k (hm.chg hc (fun x => x) (fun x => x)) hk hk2 ht
    have C2 := Lib.hid C2
    clear h hm hc hb hf hf0 ht hT
    go_enter_defers Try.func19, Try.ntmps19
    go_wp2_with (first
      | (go_at_call 38; ((with_reducible refine (C1.out).mono ?_); rintro e w1 ⟨rfl, hc⟩; have HD := Lib.hid hc; clear hc))
      | (go_at_call 38; ((with_reducible refine (C2.out _ HD.out).mono ?_); rintro e w2 ⟨rfl, hc⟩; have HE := Lib.hid (HD.out.trans hc); clear hc)))
    have hv := (Var.new w 0).chg HE.out (fun x => x)
    refine leaves_cons (f := 37) (args := #[.pointer (some ⟨w.heap.size, 0, none⟩)]) (by simp) (by simp [go_sem]) ?_
    refine (catch37_fault ⟨w.heap.size, 0, none⟩ 0 6 [] _ hv.cell hv.free hv.lt).mono ?_
    rintro e u' w'' ⟨rfl, rfl, rfl⟩
    have hv2 := ((hv.alloc (.cells #[.int .i64 6] 85)).set 6).cell
    simp [Leaves, settle, results, Try.results19, go_sem, hv2]
    exact ((HC.out.trans HE.out).alloc _ _).setCell (fun h => absurd h (by simp)) _ |>.drew
end Go.Proofs.Ytbkpbineagfbgaa
