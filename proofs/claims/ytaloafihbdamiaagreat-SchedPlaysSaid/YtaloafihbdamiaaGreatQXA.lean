/- The document's queues: Get. -/
import Derived.Test.YtaloafihbdamiaaGreatQV
namespace Go.Proofs.YtaloafihbdamiaaGreat
open Go.ChangeShapes Go.WideShapes Go.ChangeAt Go.RowKit
variable {w w' W : World} {U U' T : Nat → Prop} {br bl bn on cn : Nat} {lv : Nat → Value} {va v : Value} {S : List Prc} {A N L : List Int} {x y : Int}

set_option maxRecDepth 100000 in
theorem rget_bad (p s : Int) (h : Rq w U br bl bn on cn lv va S A) (hp : p < 0 ∨ (S.length : Int) ≤ p) :
    Calls Tryz.prog 60 #[.pointer (some ⟨br, 0, none⟩), .int .i64 p, .int .i64 s] w fun e w' => e = .returned (.tuple #[.int .i64 0, .bool false]) ∧ w = w' := by
  have C := Lib.hid (bad_yes p 0 h (by omega))
  clear h hp
  go_enter Tryz.func60, Tryz.ntmps60
  go_wp2_with (go_at_call 57; ((with_reducible refine (C.out).mono ?_); rintro e w1 ⟨rfl, rfl⟩))
  go_returns
  exact ⟨rfl, rfl⟩
/-- What the document's Get leaves. -/
def RGot (w : World) (U : Nat → Prop) (br bl bn on cn : Nat) (S : List Prc) (A : List Int) (p f : Nat) (e : Ending) (w' : World) : Prop :=
  e = .returned (.tuple #[.int .i64 (getS S A p f).1.1, .bool (getS S A p f).1.2]) ∧ RLeft w w' U br bl bn on cn (getS S A p f).2.1 (getS S A p f).2.2
set_option maxRecDepth 100000 in
set_option maxHeartbeats 1000000 in
theorem rget_next (p : Nat) (s : Int) (f : Nat) (h : Rq w U br bl bn on cn lv va S A) (hpx : S[p]? = some (x, L)) (hx : x ≠ -1) (hx0 : 0 ≤ x) :
    Calls Tryz.prog 60 #[.pointer (some ⟨br, 0, none⟩), .int .i64 (p : Int), .int .i64 s] w (RGot w U br bl bn on cn S A p f) := by
  have hp := get_lt hpx
  have C := Lib.hid (bad_no p 0 h hp (by omega))
  have h8 := h.k8
  have c0 := h.c0
  obtain ⟨c3, z3⟩ := h.cnx hpx
  dsimp only at c3
  have k3 : (p : Int) < S.length := by omega
  have k4 : (0 : Int) ≤ (p : Int) := by omega
  have q1 := Lib.hid (h.nxt p (-1) hpx)
  unfold RGot
  rw [get_next hpx hx]
  clear h hpx hx hp
  generalize S.length = k at *
  go_enter Tryz.func60, Tryz.ntmps60
  go_wp2_with (go_at_call 57; ((with_reducible refine (C.out).mono ?_); rintro e w1 ⟨rfl, rfl⟩))
  go_returns
  exact ⟨rfl, RLeft.one q1.out ((Cha.refl _ w).setCell (p := ⟨bn, on + p, none⟩) (fun _ => .inr (.inr rfl)) _)⟩
set_option maxRecDepth 100000 in
set_option maxHeartbeats 1000000 in
theorem rget_own (p : Nat) (s : Int) (f : Nat) {g : Int} (h : Rq w U br bl bn on cn lv va S A) (hpx : S[p]? = some (-1, g :: L)) (hl : L.length ≤ 8) :
    Calls Tryz.prog 60 #[.pointer (some ⟨br, 0, none⟩), .int .i64 (p : Int), .int .i64 s] w (RGot w U br bl bn on cn S A p f) := by
  have hp := get_lt hpx
  have C := Lib.hid (bad_no p 0 h hp (by omega))
  have h8 := h.k8
  have c0 := h.c0
  have c1 := h.c1
  obtain ⟨c3, z3⟩ := h.cnx hpx
  dsimp only at c3
  obtain ⟨c4, z4⟩ := h.clx hpx
  obtain ⟨a2, cap2, hlv, -⟩ := (h.prc p _ hpx).1.form
  have hll := (h.prc p _ hpx).1
  have hown := (h.prc p _ hpx).2
  dsimp only [List.length_cons] at hlv
  rw [hlv] at c4 hll hown
  obtain ⟨gb, ob, rfl, -, hcap, hcapm, hel⟩ := hll.some (by simp)
  have ce := hel 0 (by simp)
  have ce : w.cell? ⟨gb, ob, none⟩ = some (.int .i64 g) := ce
  have hsl : ∀ w, (Instr.slice 37 (.slice (some ⟨gb, ob, none⟩) (L.length + 1) cap2) (some (.int .i64 1)) none none).run Tryz.prog w = _ := fun w => slice_from gb ob (L.length + 1) cap2 1 (by omega) w
  have hdr := hll.drop (k := 1) (by simp)
  obtain ⟨ob', hob⟩ : ∃ o', o' = if cap2 = 1 then ob else ob + 1 := ⟨_, rfl⟩
  rw [← hob, Nat.add_sub_cancel] at hdr
  rw [← hob, Nat.add_sub_cancel] at hsl
  have q1 := Lib.hid (h.put p hpx hdr (fun i hi => hown i (by cases hi; rfl))).drew
  have k3 : (p : Int) < S.length := by omega
  have k4 : (0 : Int) ≤ (p : Int) := by omega
  unfold RGot
  rw [get_own hpx]
  clear h hpx hp hlv hll hown hel hcap hcapm hdr hob
  generalize S.length = k at *
  generalize L.length = l at *
  have hl1 : decide ((0 : Int) < ((l + 1 : Nat) : Int)) = true := decide_eq_true (by omega)
  go_enter Tryz.func60, Tryz.ntmps60
  go_wp2_with (go_at_call 57; ((with_reducible refine (C.out).mono ?_); rintro e w1 ⟨rfl, rfl⟩))
  go_region
  all_goals
    go_wp2
    go_returns
    exact ⟨rfl, RLeft.one q1.out ((Cha.refl _ w).setCell (p := ⟨bl, p, none⟩) (fun _ => .inr (.inl rfl)) _).drew⟩
set_option maxRecDepth 100000 in
set_option maxHeartbeats 1000000 in
theorem rget_all (p : Nat) (s : Int) (f : Nat) {g : Int} (h : Rq w U br bl bn on cn lv va S (g :: A)) (hpx : S[p]? = some (-1, [])) (hA : A.length + 5 ≤ 17592186044416) :
    Calls Tryz.prog 60 #[.pointer (some ⟨br, 0, none⟩), .int .i64 (p : Int), .int .i64 s] w (RGot w U br bl bn on cn S (g :: A) p f) := by
  have hp := get_lt hpx
  have C := Lib.hid (bad_no p 0 h hp (by omega))
  have h8 := h.k8
  have c0 := h.c0
  have c1 := h.c1
  have c2 := h.c2
  have z2 := h.free 2
  obtain ⟨c3, z3⟩ := h.cnx hpx
  dsimp only at c3
  obtain ⟨c4, z4⟩ := h.clx hpx
  obtain ⟨a2, cap2, hlv, -⟩ := (h.prc p _ hpx).1.form
  dsimp only [List.length_nil] at hlv
  rw [hlv] at c4
  have hall := h.all
  have hallU := h.allU
  obtain ⟨a1, cap1, hva, -⟩ := h.all.form
  simp only [List.length_cons] at hva
  rw [hva] at c2 hall hallU
  obtain ⟨gb, ob, rfl, -, hcap, hcapm, hel⟩ := hall.some (by simp)
  have ce := hel 0 (by simp)
  have ce : w.cell? ⟨gb, ob, none⟩ = some (.int .i64 g) := ce
  have hsl : ∀ w, (Instr.slice 37 (.slice (some ⟨gb, ob, none⟩) (A.length + 1) cap1) (some (.int .i64 1)) none none).run Tryz.prog w = _ := fun w => slice_from gb ob (A.length + 1) cap1 1 (by omega) w
  have hdr := hall.drop (k := 1) (by simp)
  obtain ⟨ob', hob⟩ : ∃ o', o' = if cap1 = 1 then ob else ob + 1 := ⟨_, rfl⟩
  rw [← hob, Nat.add_sub_cancel] at hdr
  rw [← hob, Nat.add_sub_cancel] at hsl
  have q1 := Lib.hid (h.store hdr (fun i hi => hallU i (by cases hi; rfl)))
  have k3 : (p : Int) < S.length := by omega
  have k4 : (0 : Int) ≤ (p : Int) := by omega
  unfold RGot
  rw [get_all hpx]
  clear h hpx hp hlv hall hallU hel hcap hcapm hdr hob hva
  generalize S.length = k at *
  generalize A.length = l at *
  have hl1 : decide ((0 : Int) < ((l + 1 : Nat) : Int)) = true := decide_eq_true (by omega)
  go_enter Tryz.func60, Tryz.ntmps60
  go_wp2_with (go_at_call 57; ((with_reducible refine (C.out).mono ?_); rintro e w1 ⟨rfl, rfl⟩))
  go_returns
  exact ⟨rfl, RLeft.one q1.out ((Cha.refl _ w).setCell (p := ⟨br, 2, none⟩) (fun _ => .inl rfl) _)⟩
end Go.Proofs.YtaloafihbdamiaaGreat

namespace Go.Proofs.YtaloafihbdamiaaGreat
open Go.ChangeShapes Go.WideShapes Go.ChangeAt Go.RowKit
variable {w w' W : World} {U U' T : Nat → Prop} {br bl bn on cn : Nat} {lv : Nat → Value} {va v : Value} {S : List Prc} {A N L : List Int} {x y : Int}

/-- Where the search begins, as the document reckons it. -/
theorem rest_cases (s : Int) (k : Nat) (h1 : 1 ≤ k) (h8 : k ≤ 8) : (s.tmod k < 0 ∧ s.tmod k + k = ((s % k).toNat : Int)) ∨ (0 ≤ s.tmod k ∧ s.tmod k = ((s % k).toNat : Int)) := by
  obtain ⟨a, b, c⟩ := rest_of s k h1 h8
  by_cases h : s.tmod k < 0
  · left
    refine ⟨h, ?_⟩
    rw [← c, Int.emod_eq_of_lt (by omega) (by omega)]
  · right
    refine ⟨by omega, ?_⟩
    rw [← c, Int.add_emod_right, Int.emod_eq_of_lt (by omega) (by omega)]

end Go.Proofs.YtaloafihbdamiaaGreat
