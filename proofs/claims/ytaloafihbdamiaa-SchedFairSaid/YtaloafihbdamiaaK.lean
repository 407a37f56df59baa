/- Contracts of layer 10: Get. -/
import Derived.Test.YtaloafihbdamiaaJ
namespace Go.Proofs.Ytaloafihbdamiaa
open Go.ChangeShapes Go.WideShapes Go.ChangeAt Go.RowKit
variable {w w' W : World} {F F' T : Nat → Prop} {bq bp : Nat} {z : Nat → Int} {S : List Prc} {va : Value} {A N L L0 X : List Int} {x y : Int}

set_option maxRecDepth 100000 in
theorem slice_tail (g o n cap : Nat) (h1 : 1 ≤ n) (w : World) : (Instr.slice 43 (.slice (some ⟨g, o, none⟩) n cap) (some (.int .i64 1)) none none).run Try.prog w = .ok (.slice (some ⟨g, if cap = 1 then o else o + 1, none⟩) (n - 1) (cap - 1)) w := by
  have := run_slice_l (P := Try.prog) w 43 (some ⟨g, o, none⟩) n cap Try.underlying43 .i64 1 (by omega) (by omega)
  rw [this]
  have e : (Option.map (fun x => x.add (Int.toNat 1 * 1)) (some (⟨g, o, none⟩ : Addr))) = some ⟨g, o + 1, none⟩ := by
    show some ((⟨g, o, none⟩ : Addr).add 1) = _
    unfold Addr.add
    split <;> simp_all
  have e2 : sliced (some ⟨g, o, none⟩) (Int.toNat 1) n cap 1 = .slice (some ⟨g, if cap = 1 then o else o + 1, none⟩) (n - 1) (cap - 1) := by
    unfold sliced
    rw [e]
    show Value.slice (if cap = 1 then _ else _) (n - 1) (cap - 1) = _
    split <;> rfl
  rw [← e2]
  rfl
theorem get_none (p s : Int) (w : World) : Calls Try.prog 39 #[.pointer none, .int .i64 p, .int .i64 s] w fun e w' => e = .returned (.tuple #[.int .i64 0, .bool false]) ∧ w = w' := by
  go_enter Try.func39, Try.ntmps39
  go_wp2
  go_returns
  exact ⟨rfl, rfl⟩
theorem get_bad (p s : Int) (h : Qs w F bq bp z S va A) (hp : p < 0 ∨ (S.length : Int) ≤ p) :
    Calls Try.prog 39 #[.pointer (some ⟨bq, 0, none⟩), .int .i64 p, .int .i64 s] w fun e w' => e = .returned (.tuple #[.int .i64 0, .bool false]) ∧ w = w' := by
  have C := Lib.hid (isproc_no p h hp)
  clear h hp
  go_enter Try.func39, Try.ntmps39
  go_wp2_with (go_at_call 47; ((with_reducible refine (C.out).mono ?_); rintro e w1 ⟨rfl, rfl⟩))
  go_returns
  exact ⟨rfl, rfl⟩
/-- What Get leaves. -/
def Got (w : World) (F : Nat → Prop) (bq bp : Nat) (S : List Prc) (A : List Int) (p f : Nat) (e : Ending) (w' : World) : Prop :=
  e = .returned (.tuple #[.int .i64 (getS S A p f).1.1, .bool (getS S A p f).1.2]) ∧ Left w w' F bq bp (getS S A p f).2.1 (getS S A p f).2.2
theorem get_next {p f : Nat} (h : S[p]? = some (x, L)) (hx : x ≠ -1) : getS S A p f = ((x, true), S.set p (-1, L), A) := by
  unfold getS; rw [get_D h, if_neg hx]
theorem get_own {p f : Nat} {g : Int} (h : S[p]? = some (-1, g :: L)) : getS S A p f = ((g, true), S.set p (-1, L), A) := by
  unfold getS; rw [get_D h]; rfl
theorem get_all {p f : Nat} {g : Int} (h : S[p]? = some (-1, [])) : getS S (g :: A) p f = ((g, true), S, A) := by
  unfold getS; rw [get_D h]; rfl
theorem get_steal {p f : Nat} (h : S[p]? = some (-1, [])) : getS S [] p f = ((stealS S p f).1, (stealS S p f).2, []) := by
  unfold getS; rw [get_D h]; rfl
set_option maxRecDepth 100000 in
theorem get_any (p : Nat) (s : Int) (h : Qs w F bq bp z S va A) (hp : p < S.length) :
    Calls Try.prog 39 #[.pointer (some ⟨bq, 0, none⟩), .int .i64 (p : Int), .int .i64 s] w (Got w F bq bp S A p (s % (S.length : Int)).toNat) := by
  have C := Lib.hid (isproc_yes p h hp)
  have h8 := h.k8
  have hpx := D_get hp
  generalize S.getD p (-1, []) = u at *
  obtain ⟨x, L⟩ := u
  obtain ⟨hz, f1, hR⟩ := h.prc p _ hpx
  have hz : z (p * 11) = x := hz
  have c0 := h.ints.cell (i := p * 11) (by omega)
  rw [hz] at c0
  have c9 := h.ints.cell (i := p * 11 + 1 + 9) (by omega)
  rw [hR.len] at c9
  have k1 := h.ptr
  have k2 := h.lst
  have k3 : (p : Int) < S.length := by omega
  have Q := Lib.hid h
  have HP := Lib.hid hpx
  generalize hf : (s % (S.length : Int)).toNat = f
  have HF := Lib.hid hf
  clear hf
  unfold Got
  by_cases hx : x = -1
  · subst hx
    cases L with
    | cons g l =>
      have c9 : w.cell? ⟨bp, p * 11 + 1 + 9, none⟩ = some (.int .i64 ((l.length + 1 : Nat) : Int)) := c9
      have hl1 : decide ((0 : Int) < ((l.length + 1 : Nat) : Int)) = true := decide_eq_true (by omega)
      have C2 := Lib.hid (take_any h.ints (by omega) hR)
      rw [get_own hpx]
      have hn := hR.n8
      simp only [List.length_cons] at hn
      clear h hz hR hpx hp
      generalize l.length = ll at *
      generalize hk : S.length = k at *
      have HK := Lib.hid hk
      clear hk
      go_enter Try.func39, Try.ntmps39
      go_wp2_with (first
        | (go_at_call 47; ((with_reducible refine (C.out).mono ?_); rintro e w1 ⟨rfl, rfl⟩))
        | (go_at_call 52; ((with_reducible refine (C2.out).mono ?_); rintro e w1 ⟨rfl, hT⟩; have HT := Lib.hid hT; clear hT)))
      go_returns
      obtain ⟨z', q'⟩ := Q.out.turn HP.out (by rw [HK.out]; exact HT.out)
      exact ⟨rfl, left_more (Cha.refl F w) (fun _ h => h) (fun _ h => .inl h) q' (HT.out.cha.mono fun i _ e => by have e : i = bp := e; rw [e]; exact Q.out.fp) (fun _ h => h) (fun _ h => .inl h)⟩
    | nil =>
      have c9 : w.cell? ⟨bp, p * 11 + 1 + 9, none⟩ = some (.int .i64 0) := c9
      cases A with
      | cons g A =>
        rw [get_all hpx]
        obtain ⟨gb, o, cap, rfl, hc, hcap, _⟩ := h.all.at (i := 0) (by simp)
        have hc : w.cell? ⟨gb, o, none⟩ = some (.int .i64 g) := hc
        simp only [List.length_cons] at k2 hcap
        have hsl := slice_tail gb o (A.length + 1) cap (by omega)
        have hlt := h.all
        simp only [List.length_cons] at hlt
        have hq := Lib.hid (h.store (N := A) hlt.tail (fun i hi => h.fv i hi))
        have z1 := h.free 1
        have hl1 : decide ((0 : Int) < ((A.length + 1 : Nat) : Int)) = true := decide_eq_true (by omega)
        rw [Nat.add_sub_cancel] at hsl hq
        obtain ⟨o', ho'⟩ : ∃ o', o' = if cap = 1 then o else o + 1 := ⟨_, rfl⟩
        rw [← ho'] at hsl hq
        clear h hz hR hpx hp hcap hlt ho'
        generalize S.length = k at *
        generalize A.length = n at *
        go_enter Try.func39, Try.ntmps39
        go_wp2_with (go_at_call 47; ((with_reducible refine (C.out).mono ?_); rintro e w1 ⟨rfl, rfl⟩))
        go_returns
        exact ⟨rfl, left_more (Cha.refl F w) (fun _ h => h) (fun _ h => .inl h) hq.out ((Cha.refl F w).setCell (p := ⟨bq, 1, none⟩) (fun _ => Q.out.fq) _) (fun _ h => h) (fun _ h => .inl h)⟩
      | nil =>
        rw [get_steal hpx]
        obtain ⟨a1, cap1, rfl, _⟩ := h.all.form
        have C3 := Lib.hid (steal_any s h hpx)
        rw [HF.out] at C3
        clear h hz hR hpx hp
        generalize S.length = k at *
        go_enter Try.func39, Try.ntmps39
        go_wp2_with (first
          | (go_at_call 47; ((with_reducible refine (C.out).mono ?_); rintro e w1 ⟨rfl, rfl⟩))
          | (go_at_call 53; ((with_reducible refine (C3.out).mono ?_); rintro e w1 ⟨rfl, hL⟩; have HL := Lib.hid hL; clear hL)))
        go_returns
        exact ⟨rfl, HL.out⟩
  · rw [get_next hpx hx]
    have hx1 : (x != -1) = true := by simpa using hx
    have C2 := Lib.hid (next_any (P := p * 11) h.ints (by omega))
    rw [hz] at C2
    have q1 := Lib.hid (h.next hpx (-1))
    clear h hz hR hpx hp hx
    generalize S.length = k at *
    go_enter Try.func39, Try.ntmps39
    go_wp2_with (first
      | (go_at_call 47; ((with_reducible refine (C.out).mono ?_); rintro e w1 ⟨rfl, rfl⟩))
      | (go_at_call 48; ((with_reducible refine (C2.out).mono ?_); rintro e w1 ⟨rfl, rfl⟩)))
    go_returns
    exact ⟨rfl, left_more (Cha.refl F w) (fun _ h => h) (fun _ h => .inl h) q1.out ((Cha.refl F w).setCell (p := ⟨bp, p * 11, none⟩) (fun _ => Q.out.fp) _) (fun _ h => h) (fun _ h => .inl h)⟩
end Go.Proofs.Ytaloafihbdamiaa
