/- Contracts of the document's memory: Store, Cas, Turn, Map, Unmap, Release, New. -/
import Derived.Test.YtbkpbineagfbgaaY
import Derived.RegionTactic
import Derived.ChangeAlike
import Derived.StillTailTactics
namespace Go.Proofs.Ytbkpbineagfbgaa
open Go.ChangeShapes Go.WideShapes Go.ChangeAt Go.RowKit
variable {W W' : World} {S T : Nat → Prop} {br bs bw n : Nat} {st wd : Nat → Int} {ws : Nat → Value} {bl : Nat → Nat}

theorem rstore_no (a v : Int) (h : Ref W T br bs bw n st wd ws bl) (hr : -9223372036854775808 ≤ a) (hr2 : a ≤ 9223372036854775807) (ha : a < 0 ∨ ¬ RThere n st a.toNat) :
    Calls Try.prog 28 #[.pointer (some ⟨br, 0, none⟩), .int .i64 a, .int .u64 v] W fun e w' => e = .returned (.int .i64 6) ∧ W = w' := by
  have C := Lib.hid (rload_no a h hr hr2 ha)
  clear h ha
  go_enter Try.func28, Try.ntmps28
  go_wp2_with (go_at_call 27; ((with_reducible refine (C.out).mono ?_); rintro e w1 ⟨rfl, rfl⟩))
  go_ret
  exact ⟨rfl, rfl⟩
theorem rstore_yes (a : Nat) (v : Int) (h : Ref W T br bs bw n st wd ws bl) (ha : RThere n st a) :
    Calls Try.prog 28 #[.pointer (some ⟨br, 0, none⟩), .int .i64 (a : Int), .int .u64 v] W fun e w' => e = .returned (.int .i64 0) ∧ Ref w' T br bs bw n (upd st (a / 64) 1) (upd wd a v) ws bl ∧ Chg T W w' := by
  have C := Lib.hid (rload_yes a h ha)
  have hlt := ha.1
  have hl := h.le
  have HT := Lib.hid (h.page (a / 64) (by omega) ha.2).2.2.1
  clear h ha
  go_enter Try.func28, Try.ntmps28
  go_wp2_with (go_at_call 27; ((with_reducible refine (C.out).mono ?_); rintro e w1 ⟨rfl, hR, hC⟩; have k1 := hR.ptr1; have k2 := hR.cellPage (p := a / 64) (by omega) (by rw [upd_same]; omega); have k3 := hR.cellWord (a := a) hlt (by rw [upd_same]; omega); have k4 := (hR.page (a / 64) (by omega) (by rw [upd_same]; omega)).2.1.free (a % 64); have HR := Lib.hid (hR.setWord (a := a) hlt (by rw [upd_same]; omega) v); have HC := Lib.hid hC; clear hR hC))
  go_ret
  exact ⟨rfl, HR.out, HC.out.setCell (fun _ => HT.out) _⟩
theorem rcas_no (a o v : Int) (h : Ref W T br bs bw n st wd ws bl) (hr : -9223372036854775808 ≤ a) (hr2 : a ≤ 9223372036854775807) (ha : a < 0 ∨ ¬ RThere n st a.toNat) :
    Calls Try.prog 29 #[.pointer (some ⟨br, 0, none⟩), .int .i64 a, .int .u64 o, .int .u64 v] W fun e w' => e = .returned (.tuple #[.bool false, .int .i64 6]) ∧ W = w' := by
  have C := Lib.hid (rload_no a h hr hr2 ha)
  clear h ha
  go_enter Try.func29, Try.ntmps29
  go_wp2_with (go_at_call 27; ((with_reducible refine (C.out).mono ?_); rintro e w1 ⟨rfl, rfl⟩))
  go_ret2
  exact ⟨rfl, rfl⟩
theorem rcas_miss (a : Nat) (o v : Int) (h : Ref W T br bs bw n st wd ws bl) (ha : RThere n st a) (ho : wd a ≠ o) :
    Calls Try.prog 29 #[.pointer (some ⟨br, 0, none⟩), .int .i64 (a : Int), .int .u64 o, .int .u64 v] W fun e w' => e = .returned (.tuple #[.bool false, .int .i64 0]) ∧ Ref w' T br bs bw n (upd st (a / 64) 1) wd ws bl ∧ Chg T W w' := by
  have C := Lib.hid (rload_yes a h ha)
  have hob : (wd a != o) = true := by simpa using ho
  clear h ha ho
  go_enter Try.func29, Try.ntmps29
  go_wp2_with (go_at_call 27; ((with_reducible refine (C.out).mono ?_); rintro e w1 ⟨rfl, hR, hC⟩; have HR := Lib.hid hR; have HC := Lib.hid hC; clear hR hC))
  go_ret2
  exact ⟨rfl, HR.out, HC.out⟩
theorem upd_upd (st : Nat → Int) (p : Nat) : upd (upd st p 1) p 1 = upd st p 1 := by funext q; unfold upd; split <;> rfl
theorem rcas_hit (a : Nat) (o v : Int) (h : Ref W T br bs bw n st wd ws bl) (ha : RThere n st a) (ho : wd a = o) :
    Calls Try.prog 29 #[.pointer (some ⟨br, 0, none⟩), .int .i64 (a : Int), .int .u64 o, .int .u64 v] W fun e w' => e = .returned (.tuple #[.bool true, .int .i64 0]) ∧ Ref w' T br bs bw n (upd st (a / 64) 1) (upd wd a v) ws bl ∧ Chg T W w' := by
  have C := Lib.hid (rload_yes a h ha)
  have hob : (wd a != o) = false := by simpa using ho
  have C2 : ∀ W1, Ref W1 T br bs bw n (upd st (a / 64) 1) wd ws bl → Calls Try.prog 28 #[.pointer (some ⟨br, 0, none⟩), .int .i64 (a : Int), .int .u64 v] W1 fun e w' => e = .returned (.int .i64 0) ∧ Ref w' T br bs bw n (upd st (a / 64) 1) (upd wd a v) ws bl ∧ Chg T W1 w' := fun W1 h1 => by
    have := rstore_yes a v h1 ⟨ha.1, by rw [upd_same]; omega⟩
    rwa [upd_upd] at this
  have C2 := Lib.hid C2
  clear h ha ho
  go_enter Try.func29, Try.ntmps29
  go_wp2_with (first
    | (go_at_call 27; ((with_reducible refine (C.out).mono ?_); rintro e w1 ⟨rfl, hR, hC⟩; have HR := Lib.hid hR; have HC := Lib.hid hC; clear hR hC))
    | (go_at_call 28; ((with_reducible refine (C2.out _ HR.out).mono ?_); rintro e w2 ⟨rfl, hR, hC⟩; have HR2 := Lib.hid hR; have HC2 := Lib.hid (HC.out.trans hC); clear hR hC)))
  go_ret2
  exact ⟨rfl, HR2.out, HC2.out⟩

theorem turn_arg (b k f o t : Int) (h : Ref W T br bs bw n st wd ws bl) (hk : k ≤ 9223372036854775807) (hb : k < 1 ∨ b < 0 ∨ (n : Int) - k < b) :
    Calls Try.prog 43 #[.pointer (some ⟨br, 0, none⟩), .int .i64 b, .int .i64 k, .int .i64 f, .int .i64 o, .int .i64 t] W fun e w' => e = .returned (.int .i64 1) ∧ W = w' := by
  have hh := h.ptr0
  have hl := h.le
  have hp := h.pos
  clear h
  by_cases h0 : b < 0
  · clear hb
    go_enter Try.func43, Try.ntmps43
    go_wp2
    go_ret
    exact ⟨rfl, rfl⟩
  · have h0' : 0 ≤ b := by omega
    clear h0
    by_cases h1 : k < 1
    · clear hb
      go_enter Try.func43, Try.ntmps43
      go_wp2
      go_ret
      exact ⟨rfl, rfl⟩
    · have h1' : 1 ≤ k := by omega
      clear h1
      by_cases h2 : (n : Int) ≤ b
      · clear hb
        go_enter Try.func43, Try.ntmps43
        go_wp2
        go_ret
        exact ⟨rfl, rfl⟩
      · have h2' : b < n := by omega
        have h3 : (n : Int) - b < k := by omega
        clear hb h2
        go_enter Try.func43, Try.ntmps43
        go_wp2
        go_ret
        exact ⟨rfl, rfl⟩
end Go.Proofs.Ytbkpbineagfbgaa
