/- Contracts of layer 10: Put, Last, Waiting. -/
import Derived.Test.YtaloafihbdamiaaG
import Derived.Deep.QuietTactic
namespace Go.Proofs.Ytaloafihbdamiaa
open Go.ChangeShapes Go.WideShapes Go.ChangeAt Go.RowKit
variable {w w' W : World} {F F' T : Nat → Prop} {bq bp o cap : Nat} {z : Nat → Int} {S : List Prc} {v : Value} {A N L L0 : List Int} {x y g : Int}

theorem put_none (p g : Int) (w : World) : Calls Try.prog 36 #[.pointer none, .int .i64 p, .int .i64 g] w fun e w' => e = .returned (.int .i64 5) ∧ w = w' := by
  go_enter Try.func36, Try.ntmps36
  go_wp2
  go_ret
  exact ⟨rfl, rfl⟩
theorem put_bad (p g : Int) (h : Qs w F bq bp z S v A) (hp : p < 0 ∨ (S.length : Int) ≤ p ∨ g < 0) :
    Calls Try.prog 36 #[.pointer (some ⟨bq, 0, none⟩), .int .i64 p, .int .i64 g] w fun e w' => e = .returned (.int .i64 1) ∧ w = w' := by
  by_cases hb : p < 0 ∨ (S.length : Int) ≤ p
  · have C := Lib.hid (isproc_no p h hb)
    clear h hp hb
    go_enter Try.func36, Try.ntmps36
    go_wp2_with (go_at_call 47; ((with_reducible refine (C.out).mono ?_); rintro e w1 ⟨rfl, rfl⟩))
    go_ret
    exact ⟨rfl, rfl⟩
  · obtain ⟨q, rfl⟩ : ∃ q : Nat, p = (q : Int) := ⟨p.toNat, by omega⟩
    have C := Lib.hid (isproc_yes q h (by omega))
    have hg : g < 0 := by omega
    clear h hp hb
    go_enter Try.func36, Try.ntmps36
    go_wp2_with (go_at_call 47; ((with_reducible refine (C.out).mono ?_); rintro e w1 ⟨rfl, rfl⟩))
    go_ret
    exact ⟨rfl, rfl⟩
set_option maxRecDepth 100000 in
theorem put_any (p : Nat) (g : Int) (h : Qs w F bq bp z S v A) (hp : p < S.length) (hg : 0 ≤ g) (hA : A.length + 5 ≤ 17592186044416) :
    Calls Try.prog 36 #[.pointer (some ⟨bq, 0, none⟩), .int .i64 (p : Int), .int .i64 g] w fun e w' => e = .returned (.int .i64 0) ∧ Left w w' F bq bp (putS S A p g).1 (putS S A p g).2 := by
  have C := Lib.hid (isproc_yes p h hp)
  have h8 := h.k8
  have hpx := D_get hp
  unfold putS
  generalize S.getD p (-1, []) = u at *
  obtain ⟨x, L⟩ := u
  dsimp only
  obtain ⟨hz, f, hR⟩ := h.prc p _ hpx
  have hz : z (p * 11) = x := hz
  have hn : L.length ≤ 8 := hR.n8
  have C2 := Lib.hid (next_any (P := p * 11) h.ints (by omega))
  rw [hz] at C2
  have q1 := h.next hpx (-1)
  have q2 := q1.next (L := L) (List.getElem?_set_self hp) g
  rw [List.set_set] at q2
  have hp2 : (S.set p (g, L))[p]? = some (g, L) := List.getElem?_set_self hp
  have k1 := h.ptr
  have c0 := q1.ints.cell (i := p * 11) (by rw [set_len]; omega)
  have z0 := q1.ints.free (p * 11)
  have k3 : (p : Int) < S.length := by omega
  have cc : Cha F w ((w.setCell ⟨bp, p * 11, none⟩ (.int .i64 (-1))).setCell ⟨bp, p * 11, none⟩ (.int .i64 g)) := ((Cha.refl F w).setCell (p := ⟨bp, p * 11, none⟩) (fun _ => h.fp) _).setCell (p := ⟨bp, p * 11, none⟩) (fun _ => h.fp) _
  have CC := Lib.hid cc
  have Q2 := Lib.hid q2
  have HP2 := Lib.hid hp2
  clear h hz hR q1 q2 hp2 cc hpx hp
  have hgl : decide (g < 0) = false := by simpa using hg
  by_cases hx : x = -1
  · subst hx
    rw [if_pos rfl]
    go_enter Try.func36, Try.ntmps36
    go_wp2_with (first
      | (go_at_call 47; ((with_reducible refine (C.out).mono ?_); rintro e w1 ⟨rfl, rfl⟩))
      | (go_at_call 48; ((with_reducible refine (C2.out).mono ?_); rintro e w1 ⟨rfl, rfl⟩)))
    go_ret
    exact ⟨rfl, left_more (Cha.refl F w) (fun _ h => h) (fun _ h => .inl h) Q2.out CC.out (fun _ h => h) (fun _ h => .inl h)⟩
  · rw [if_neg hx]
    have hx1 : (x == -1) = false := by simpa using hx
    have hx2 : (x != -1) = true := by simpa using hx
    clear hx
    by_cases hl : L.length < 8
    · rw [if_pos hl]
      have C3 := Lib.hid (behind_room p x Q2.out HP2.out hl)
      rw [List.set_set] at C3
      clear hl hn
      go_enter Try.func36, Try.ntmps36
      go_wp2_with (first
        | (go_at_call 47; ((with_reducible refine (C.out).mono ?_); rintro e w1 ⟨rfl, rfl⟩))
        | (go_at_call 48; ((with_reducible refine (C2.out).mono ?_); rintro e w1 ⟨rfl, rfl⟩))
        | (go_at_call 49; ((with_reducible refine (C3.out).mono ?_); rintro e w3 ⟨rfl, hL⟩; have HL := Lib.hid hL; clear hL)))
      go_ret
      obtain ⟨F', z', v', a, b, c, d⟩ := HL.out
      exact ⟨rfl, left_more CC.out (fun _ h => h) (fun _ h => .inl h) a b c (fun i hi => d i hi)⟩
    · rw [if_neg hl]
      have C3 := Lib.hid (behind_full p x Q2.out HP2.out (by omega) hA)
      rw [List.set_set] at C3
      clear hl hn
      go_enter Try.func36, Try.ntmps36
      go_wp2_with (first
        | (go_at_call 47; ((with_reducible refine (C.out).mono ?_); rintro e w1 ⟨rfl, rfl⟩))
        | (go_at_call 48; ((with_reducible refine (C2.out).mono ?_); rintro e w1 ⟨rfl, rfl⟩))
        | (go_at_call 49; ((with_reducible refine (C3.out).mono ?_); rintro e w3 ⟨rfl, hL⟩; have HL := Lib.hid hL; clear hL)))
      go_ret
      obtain ⟨F', z', v', a, b, c, d⟩ := HL.out
      exact ⟨rfl, left_more CC.out (fun _ h => h) (fun _ h => .inl h) a b c (fun i hi => d i hi)⟩

theorem last_none (g : Int) (w : World) : Calls Try.prog 42 #[.pointer none, .int .i64 g] w fun e w' => e = .returned (.int .i64 5) ∧ w = w' := by
  go_enter Try.func42, Try.ntmps42
  go_wp2
  go_ret
  exact ⟨rfl, rfl⟩
theorem last_bad (g : Int) (w : World) (hg : g < 0) : Calls Try.prog 42 #[.pointer (some ⟨bq, 0, none⟩), .int .i64 g] w fun e w' => e = .returned (.int .i64 1) ∧ w = w' := by
  go_enter Try.func42, Try.ntmps42
  go_wp2
  go_ret
  exact ⟨rfl, rfl⟩
theorem last_any (g : Int) (h : Qs w F bq bp z S v A) (hg : 0 ≤ g) (hA : A.length + 5 ≤ 17592186044416) :
    Calls Try.prog 42 #[.pointer (some ⟨bq, 0, none⟩), .int .i64 g] w fun e w' => e = .returned (.int .i64 0) ∧ Left w w' F bq bp S (A ++ [g]) := by
  obtain ⟨a1, cap1, rfl, _⟩ := h.all.form
  have Q := Lib.hid h
  have k1 := h.lst
  have k2 := h.free 1
  have hbq := h.old _ h.fq
  have hgl : decide (g < 0) = false := by simpa using hg
  have KX : Hid (∀ W', Cha (fun i => i ≠ bq) w W' → W'.cell? ⟨bq, 1, none⟩ = some (.slice a1 A.length cap1) ∧ W'.frozen? ⟨bq, 1, none⟩ = false) := Lib.hid fun W' hc => by
    obtain ⟨e1, e2⟩ := Q.out.keeps hc 1
    exact ⟨e1.trans Q.out.lst, e2⟩
  clear h
  go_enter Try.func42, Try.ntmps42
  go_wp2_with (refine wpList_app rfl (.tmp 13) (.tmp 15) rfl (v := .slice a1 A.length cap1) (A := A) rfl (Q.out.all.cha ((Cha.refl (fun _ => False) w).alloc _) (fun _ _ f => f)) ⟨w.heap.size, 0, none⟩ 1 1 [g] rfl rfl (one_new _ _ _) Nat.zero_lt_one (by simp only [List.length_singleton]; omega) ?_; intro g3 o3 cap3 w3 hA3; obtain ⟨k5, k6⟩ := KX.out w3 (((Cha.refl _ w).alloc _).trans (hA3.cha.mono fun i _ e => (Q.out.fv i e).2.1)); have A3 := Lib.hid hA3; clear hA3)
  go_ret
  have q3 := (Q.out.same ((Cha.refl (fun _ => False) w).alloc (.cells #[.int .i64 g] 3))).app A3.out
  obtain ⟨c3, n3⟩ := Q.out.grown (Cha.refl _ _) Q.out A3.out (.slice (some ⟨g3, o3, none⟩) (A.length + [g].length) cap3)
  exact ⟨rfl, left_more (Cha.refl F w) (fun _ h => h) (fun _ h => .inl h) q3 c3 (fun _ h => .inl h) n3⟩

theorem waiting_none (p : Int) (w : World) : Calls Try.prog 37 #[.pointer none, .int .i64 p] w fun e w' => e = .returned (.tuple #[.int .i64 0, .int .i64 0]) ∧ w = w' := by
  go_enter Try.func37, Try.ntmps37
  go_wp2
  go_returns
  exact ⟨rfl, rfl⟩
theorem waiting_bad (p : Int) (h : Qs w F bq bp z S v A) (hp : p < 0 ∨ (S.length : Int) ≤ p) : Calls Try.prog 37 #[.pointer (some ⟨bq, 0, none⟩), .int .i64 p] w fun e w' => e = .returned (.tuple #[.int .i64 0, .int .i64 0]) ∧ w = w' := by
  have C := Lib.hid (isproc_no p h hp)
  clear h hp
  go_enter Try.func37, Try.ntmps37
  go_wp2_with (go_at_call 47; ((with_reducible refine (C.out).mono ?_); rintro e w1 ⟨rfl, rfl⟩))
  go_returns
  exact ⟨rfl, rfl⟩
theorem waiting_any (p : Nat) (h : Qs w F bq bp z S v A) (hp : p < S.length) : Calls Try.prog 37 #[.pointer (some ⟨bq, 0, none⟩), .int .i64 (p : Int)] w fun e w' => e = .returned (.tuple #[.int .i64 (cnt (S.getD p (-1, [])) : Nat), .int .i64 (A.length : Nat)]) ∧ ∃ n, w' = w.drewN n := by
  have C := Lib.hid (isproc_yes p h hp)
  have hpx := D_get hp
  have h8 := h.k8
  generalize S.getD p (-1, []) = u at *
  obtain ⟨x, L⟩ := u
  obtain ⟨hz, f, hR⟩ := h.prc p _ hpx
  have hz : z (p * 11) = x := hz
  have C2 : Hid (∀ n, Calls Try.prog 50 #[.pointer (some ⟨bp, p * 11, none⟩)] (w.drewN n) fun e w' => e = .returned (.int .i64 (cnt (x, L) : Nat)) ∧ w' = w.drewN n) := Lib.hid fun n => by
    have hI : Ints 85 (w.drewN n) bp (S.length * 11) z := h.ints.cha ((Cha.refl (fun _ => False) w).drewN n) (fun f => f)
    have := count_any (P := p * 11) hI (by omega) hR
    rw [hz] at this
    exact this.mono fun _ _ ⟨a, b⟩ => ⟨a, b.symm⟩
  obtain ⟨a1, cap1, rfl, _⟩ := h.all.form
  have k1 := h.ptr
  have k2 := h.lst
  have k3 : (p : Int) < S.length := by omega
  have k4 : (0 : Int) ≤ (p : Int) := by omega
  clear h hz hR hpx hp
  generalize A.length = n at *
  generalize S.length = m at *
  go_enter Try.func37, Try.ntmps37
  go_wp2_with (go_at_call 47; ((with_reducible refine (C.out).mono ?_); rintro e w1 ⟨rfl, rfl⟩))
  go_quiet ((go_at_call 50; exact Calls.quiet_of_same (C2.out _)))
  go_wp2
  go_returns
  exact ⟨rfl, _, rfl⟩
end Go.Proofs.Ytaloafihbdamiaa
