/- The document's queues: Bad, New, Waiting, Last, Put. -/
import Derived.Test.YteogepfolifneaaS
namespace Go.Proofs.Yteogepfolifneaa
open Go.ChangeShapes Go.WideShapes Go.ChangeAt Go.RowKit
variable {w w' W : World} {U U' T : Nat → Prop} {br bl bn on cn : Nat} {lv : Nat → Value} {va v : Value} {S : List Prc} {A N L : List Int} {x y : Int}

/-- Behind a call. -/
def RLeft (w w' : World) (U : Nat → Prop) (br bl bn on cn : Nat) (S : List Prc) (A : List Int) : Prop :=
  ∃ U' lv va, Rq w' U' br bl bn on cn lv va S A ∧ Cha (fun i => i = br ∨ i = bl ∨ i = bn) w w' ∧ (∀ i, U i → U' i) ∧ ∀ i, U' i → U i ∨ w.heap.size ≤ i
theorem RLeft.next {w1 : World} {S1 : List Prc} {A1 : List Int} (h : RLeft w w1 U br bl bn on cn S A) (k : ∀ U' lv va, Rq w1 U' br bl bn on cn lv va S A → RLeft w1 w' U' br bl bn on cn S1 A1) : RLeft w w' U br bl bn on cn S1 A1 := by
  obtain ⟨U1, lv, va, q, c, s, n⟩ := h
  obtain ⟨U2, lv2, va2, q2, c2, s2, n2⟩ := k U1 lv va q
  refine ⟨U2, lv2, va2, q2, c.trans c2, fun i hi => s2 i (s i hi), fun i hi => ?_⟩
  rcases n2 i hi with e | e
  · exact n i e
  · exact .inr (Nat.le_trans c.size e)
theorem RLeft.one (h : Rq w' U br bl bn on cn lv va S A) (c : Cha (fun i => i = br ∨ i = bl ∨ i = bn) w w') : RLeft w w' U br bl bn on cn S A := ⟨U, lv, va, h, c, fun _ h => h, fun _ h => .inl h⟩

theorem bad_yes (p g : Int) (h : Rq w U br bl bn on cn lv va S A) (hp : p < 0 ∨ (S.length : Int) ≤ p ∨ g < 0) :
    Calls Try.prog 40 #[.pointer (some ⟨br, 0, none⟩), .int .i64 p, .int .i64 g] w fun e w' => e = .returned (.bool true) ∧ w = w' := by
  have c := h.c0
  have h8 := h.k8
  clear h
  generalize S.length = n at *
  by_cases h0 : p < 0
  · clear hp
    go_enter Try.func40, Try.ntmps40
    go_wp2
    go_ret
    exact ⟨rfl, rfl⟩
  · have h1 : decide (p < 0) = false := by simpa using h0
    by_cases h2 : (n : Int) ≤ p
    · clear hp h0
      go_enter Try.func40, Try.ntmps40
      go_wp2
      go_ret
      exact ⟨rfl, rfl⟩
    · have h3 : decide ((n : Int) ≤ p) = false := by simpa using h2
      have hg : g < 0 := by omega
      clear hp h0 h2
      go_enter Try.func40, Try.ntmps40
      go_wp2
      go_ret
      exact ⟨rfl, rfl⟩
theorem bad_no (p : Nat) (g : Int) (h : Rq w U br bl bn on cn lv va S A) (hp : p < S.length) (hg : 0 ≤ g) :
    Calls Try.prog 40 #[.pointer (some ⟨br, 0, none⟩), .int .i64 (p : Int), .int .i64 g] w fun e w' => e = .returned (.bool false) ∧ w = w' := by
  have c := h.c0
  have h8 := h.k8
  clear h
  generalize S.length = n at *
  have h3 : decide ((n : Int) ≤ (p : Int)) = false := by simp; omega
  have h4 : decide (n ≤ p) = false := by simp; omega
  have h5 : decide (g < 0) = false := by simpa using hg
  have h6 : ¬ ((p : Int) < 0) := by omega
  go_enter Try.func40, Try.ntmps40
  go_wp2
  go_ret
  exact ⟨rfl, rfl⟩
theorem rwaiting_bad (p : Int) (h : Rq w U br bl bn on cn lv va S A) (hp : p < 0 ∨ (S.length : Int) ≤ p) :
    Calls Try.prog 22 #[.pointer (some ⟨br, 0, none⟩), .int .i64 p] w fun e w' => e = .returned (.tuple #[.int .i64 0, .int .i64 0]) ∧ w = w' := by
  have C := Lib.hid (bad_yes p 0 h (by omega))
  clear h hp
  go_enter Try.func22, Try.ntmps22
  go_wp2_with (go_at_call 40; ((with_reducible refine (C.out).mono ?_); rintro e w1 ⟨rfl, rfl⟩))
  go_returns
  exact ⟨rfl, rfl⟩
/-- The next ones are none, or numbers. -/
def Nums0 (S : List Prc) : Prop := ∀ (p : Nat) (x : Prc), S[p]? = some x → x.1 = -1 ∨ 0 ≤ x.1
theorem rwaiting_any (p : Nat) (h : Rq w U br bl bn on cn lv va S A) (hp : p < S.length) (hS : Nums0 S) (hl : ∀ (p : Nat) (x : Prc), S[p]? = some x → x.2.length ≤ 8) :
    Calls Try.prog 22 #[.pointer (some ⟨br, 0, none⟩), .int .i64 (p : Int)] w fun e w' => e = .returned (.tuple #[.int .i64 (cnt (S.getD p (-1, [])) : Nat), .int .i64 (A.length : Nat)]) ∧ ∃ n, w' = w.drewN n := by
  have C := Lib.hid (bad_no p 0 h hp (by omega))
  have hpx := D_get hp
  have h8 := h.k8
  generalize S.getD p (-1, []) = u at *
  obtain ⟨x, L⟩ := u
  have hx := hS p _ hpx
  have hll : L.length ≤ 8 := hl p _ hpx
  dsimp only at hx
  obtain ⟨a1, cap1, rfl, _⟩ := h.all.form
  have c0 := h.c0
  have c1 := h.c1
  have c2 := h.c2
  obtain ⟨c3, _⟩ := h.cnx hpx
  obtain ⟨c4, _⟩ := h.clx hpx
  obtain ⟨a2, cap2, h2, _⟩ := (h.prc p _ hpx).1.form
  dsimp only at h2 c3
  rw [h2] at c4
  have k3 : (p : Int) < S.length := by omega
  have k4 : (0 : Int) ≤ (p : Int) := by omega
  clear h h2 hpx hp hS hl
  generalize A.length = n at *
  generalize S.length = m at *
  have HC : Hid (x = -1 → cnt (x, L) = L.length) := Lib.hid fun e => by unfold cnt; rw [if_pos e]
  have HC2 : Hid (x ≠ -1 → cnt (x, L) = L.length + 1) := Lib.hid fun e => by unfold cnt; rw [if_neg e]
  generalize cnt (x, L) = q at *
  generalize L.length = l at *
  by_cases hx0 : x = -1
  · obtain rfl := HC.out hx0
    subst hx0
    clear hx
    go_enter Try.func22, Try.ntmps22
    go_wp2_with (go_at_call 40; ((with_reducible refine (C.out).mono ?_); rintro e w1 ⟨rfl, rfl⟩))
    go_quiet (fail)
    go_wp2
    go_returns
    exact ⟨rfl, _, rfl⟩
  · obtain rfl := HC2.out hx0
    have hx1 : 0 ≤ x := by omega
    clear hx hx0
    go_enter Try.func22, Try.ntmps22
    go_wp2_with (go_at_call 40; ((with_reducible refine (C.out).mono ?_); rintro e w1 ⟨rfl, rfl⟩))
    go_quiet (fail)
    go_wp2
    go_returns
    exact ⟨rfl, _, rfl⟩
theorem rlast_bad (g : Int) (w : World) (hg : g < 0) : Calls Try.prog 18 #[.pointer (some ⟨br, 0, none⟩), .int .i64 g] w fun e w' => e = .returned (.int .i64 1) ∧ w = w' := by
  go_enter Try.func18, Try.ntmps18
  go_wp2
  go_ret
  exact ⟨rfl, rfl⟩
theorem rlast_any (g : Int) (h : Rq w U br bl bn on cn lv va S A) (hg : 0 ≤ g) (hA : A.length + 5 ≤ 17592186044416) :
    Calls Try.prog 18 #[.pointer (some ⟨br, 0, none⟩), .int .i64 g] w fun e w' => e = .returned (.int .i64 0) ∧ RLeft w w' U br bl bn on cn S (A ++ [g]) := by
  have C := Lib.hid (behind_any g h.all (by omega))
  obtain ⟨a1, cap1, rfl, _⟩ := h.all.form
  have c2 := h.c2
  have z2 := h.free 2
  have H := Lib.hid h
  have hgl : decide (g < 0) = false := by simpa using hg
  clear h
  go_enter Try.func18, Try.ntmps18
  go_wp2_with (go_at_call 41; ((with_reducible refine (C.out).mono ?_); rintro e w1 ⟨g3, o3, cap3, rfl, k1, k2, k3, k4⟩; have H2 := Lib.hid (H.out.newl k2 k3 k4); have K1 := Lib.hid k1; have K2 := Lib.hid k2; have K3 := Lib.hid k3; have e2 := H2.out.c2; have f2 := H2.out.free 2; clear k1 k2 k3 k4))
  go_ret
  exact ⟨rfl, _, _, _, H2.out.store K1.out (fun g hg => .inr (by cases hg; rfl)), (K2.out.wide).setCell (p := ⟨br, 2, none⟩) (fun _ => .inl rfl) _, fun _ h => .inl h, fun i hi => by
    rcases hi with e | e
    · exact .inl e
    · rw [e]; exact .inr K3.out⟩
end Go.Proofs.Yteogepfolifneaa
