/- Layer 7's Pages, Give, Counts: contracts. -/
import Derived.Test.YtiboobaggpghjaaDoorDO
namespace Go.Proofs.YtiboobaggpghjaaDoor
open Go.ChangeShapes Go.WideShapes Go.ChangeAt Go.RowKit
variable {n pr : Nat} {F : Nat → Prop} {a : Ad} {W : World} {A : List Bk} {y : Bk}

def bareB (b k : Nat) : Bk := ⟨b, k, -2, 1, [], -1⟩
inductive Pgs7 (n : Nat) (A : List Bk) (m : Int) : List Bk → Int → Int → Prop where
  | ok (b k : Nat) : m = (k : Int) → Row n A k b → Pgs7 n A m (A ++ [bareB b k]) (b : Int) 0
  | no (r : Int) : r = 1 ∨ r = 3 → Alc n (covA A) m 0 r (covA A) → Pgs7 n A m A 0 r
theorem Pgs7.ex (n : Nat) (A : List Bk) (m : Int) : ∃ A' x r, Pgs7 n A m A' x r := by
  obtain ⟨b, r, us', c⟩ := Alc.ex n (covA A) m
  cases c with
  | arg h1 => exact ⟨_, _, _, .no 1 (.inl rfl) (.arg h1)⟩
  | full h1 h2 => exact ⟨_, _, _, .no 3 (.inr rfl) (.full h1 h2)⟩
  | ok x h1 h2 =>
    obtain ⟨k, rfl⟩ : ∃ k : Nat, m = (k : Int) := ⟨m.toNat, by omega⟩
    exact ⟨_, _, _, .ok x.1 k rfl ⟨_, .ok x h1 h2⟩⟩
theorem bare_inv (hi : Inv n pr A) {k b : Nat} (h : Row n A k b) : Inv n pr (A ++ [bareB b k]) := by
  obtain ⟨h1, h2, h3, _⟩ := h.is
  exact add_inv hi h3 h1 h2 (.inl ⟨rfl, rfl, rfl, rfl⟩) rfl
theorem Cl.bare (h : Cl n pr F a W A) {L : List Spn} (t1 : Tl W a.bt a.bm a.bp a.bs n L) {A' : List Bk} {L' : List Spn} {W' : World} (inv' : Inv n pr A') (hsub : ∀ z ∈ A', z.c ≠ -2 → z ∈ A) (hsup : ∀ z ∈ A, z.c ≠ -2 → z ∈ A') (hlen : (A'.filter nb).length = (A.filter nb).length) (ht : Tl W' a.bt a.bm a.bp a.bs n L') (hk : Lk (·.c) L' A') (hc : Cha (fun j => j = a.bp ∨ j = a.bs) W W') : Cl n pr F a W' A' ∧ Cha F W W' := by
  obtain ⟨m, m1, m2, m3⟩ := h.mp
  obtain ⟨es, kk, hmo⟩ := m1.obj
  refine ⟨h.sub inv' hsub (fun p c => hv_eq h.inv inv' (fun b => ?_) (fun _ _ _ _ => rfl)) (hc.mono (T := fun j => j = a.bp ∨ j = a.bs ∨ j = a.mb) fun j _ hj => by rcases hj with e | e; exact .inl e; exact .inr (.inl e)) (fun _ e => e) ⟨_, ht, hk⟩ ⟨m, by rw [hlen]; exact m1.cha hc (by rintro (e | e); exact map_ne t1.2.pg.body hmo e.symm; exact map_ne t1.2.sp hmo e.symm), fun z hz hzc => m2 z (hsub z hz hzc) hzc, fun x p hx => ?_⟩, hc.mono fun j _ hj => ?_⟩
  · constructor
    · rintro ⟨z, hz, e1, e2, e3⟩; exact ⟨z, hsup z hz (by omega), e1, e2, e3⟩
    · rintro ⟨z, hz, e1, e2, e3⟩; exact ⟨z, hsub z hz (by omega), e1, e2, e3⟩
  · obtain ⟨z, q1, q2, q3⟩ := m3 x p hx
    exact ⟨z, hsup z q1 q2, q2, q3⟩
  · rcases hj with e | e
    · exact e ▸ h.own.2.2.2.1
    · exact e ▸ h.own.2.2.2.2.1
/-- A place and an error are answered, and the blocks are turned, where they lie. -/
def Pres (n pr : Nat) (F : Nat → Prop) (a : Ad) (W : World) (A' : List Bk) (x r : Int) (e : Ending) (w' : World) : Prop :=
  e = .returned (.tuple #[.int .i64 x, .int .i64 r]) ∧ Cl n pr F a w' A' ∧ Cha F W w'
set_option maxHeartbeats 1000000 in
theorem pages7_any (h : Cl n pr F a W A) {m x r : Int} {A' : List Bk} (c : Pgs7 n A m A' x r) (hm : m ≤ 9223372036854775807) : Calls Tryd.prog 34 #[.pointer (some ⟨a.bc, 0, none⟩), .int .i64 m] W (Pres n pr F a W A' x r) := by
  have c0 := h.c0
  obtain ⟨L, t1, t2⟩ := h.tl
  have key : ∃ b k : Nat, ∃ t : Int, x = (b : Int) ∧ Calls Tryd.prog 55 #[.pointer (some ⟨a.bt, 0, none⟩), .int .i64 m, .int .i64 (-2)] W fun e w' => e = .returned (.tuple #[.agg #[.int .i64 (b : Int), .int .i64 (k : Int), .int .i64 t], .int .i64 r]) ∧ Cl n pr F a w' A' ∧ Cha F W w' := by
    cases c with
    | ok b k hk hrow =>
      subst hk
      refine ⟨b, k, -2, rfl, (alloc5_any (hrow.alc5 t1.1 t2 (-2)) hm t1).mono fun e w' ⟨he, ht, hc⟩ => ⟨he, ?_⟩⟩
      refine h.bare t1 (bare_inv h.inv hrow) (fun z hz hzc => ?_) (fun z hz _ => List.mem_append_left _ hz) ?_ ht (lk_add t2 (bareB b k)) hc
      · rcases List.mem_append.1 hz with hz | hz
        · exact hz
        · obtain rfl := List.mem_singleton.1 hz; exact absurd rfl hzc
      · rw [List.filter_append, List.filter_cons_of_neg (by unfold nb bareB; simp)]; simp
    | no _ hr c =>
      have c' := c
      rw [← t2.cov] at c'
      refine ⟨0, 0, 0, rfl, (alloc5_any (Alc5.no r hr c') hm t1).mono fun e w' ⟨he, ht, hc⟩ => ⟨he, ?_⟩⟩
      exact h.bare t1 h.inv (fun z hz _ => hz) (fun z hz _ => hz) rfl ht t2 hc
  obtain ⟨b, k, t, rfl, C⟩ := key
  have C := Lib.hid C
  clear h t1 t2 c
  go_enter Tryd.func34, Tryd.ntmps34
  go_wp2_with (go_at_call 55; ((with_reducible refine (C.out).mono ?_); rintro e w1 ⟨rfl, hx, hc⟩; have HX := Lib.hid (hx.same ((Cha.refl _ w1).alloc (.cells #[.int .i64 (b : Int), .int .i64 (k : Int), .int .i64 t] 78))); have HC := Lib.hid (hc.alloc (.cells #[.int .i64 (b : Int), .int .i64 (k : Int), .int .i64 t] 78)); clear hx hc))
  go_ret2
  exact ⟨rfl, HX.out, HC.out⟩

/-! ### Give -/
inductive Giv7 (A : List Bk) (x : Int) : List Bk → Int → Prop where
  | no : (∀ y ∈ A, ¬ ((y.b : Int) = x ∧ y.c = -2)) → Giv7 A x A 4
  | yes (y : Bk) : y ∈ A → (y.b : Int) = x → y.c = -2 → Giv7 A x (rem A y.b) 0
theorem Giv7.ex (A : List Bk) (x : Int) : ∃ A' r, Giv7 A x A' r := by
  by_cases e : ∃ y ∈ A, (y.b : Int) = x ∧ y.c = -2
  · obtain ⟨y, hy, e1, e2⟩ := e
    exact ⟨_, _, .yes y hy e1 e2⟩
  · exact ⟨_, _, .no fun y hy c => e ⟨y, hy, c⟩⟩
theorem give7_out (h : Cl n pr F a W A) (x : Int) (hno : ∀ y ∈ A, ¬ Cov y x) : Calls Tryd.prog 35 #[.pointer (some ⟨a.bc, 0, none⟩), .int .i64 x] W (Eres n pr F a W A 4) := by
  obtain ⟨L, t1, t2⟩ := h.tl
  have c0 := h.c0
  have C := Lib.hid (find7_no t1 (at_no (n := n) t2 hno))
  have H := Lib.hid h
  clear h t1 t2 hno
  go_enter Tryd.func35, Tryd.ntmps35
  go_wp2_with (go_at_call 46; ((with_reducible refine (C.out).mono ?_); rintro e w1 ⟨rfl, hc⟩; have HC := Lib.hid (hc.alloc (.cells #[.int .i64 0, .int .i64 0, .int .i64 0] 78)); clear hc))
  go_ret
  exact ⟨rfl, H.out.same HC.out, HC.out.wide⟩
theorem give7_cell (h : Cl n pr F a W A) (x : Int) (hy : y ∈ A) (hcv : Cov y x) (hcn : y.c ≠ -2) : Calls Tryd.prog 35 #[.pointer (some ⟨a.bc, 0, none⟩), .int .i64 x] W (Eres n pr F a W A 4) := by
  obtain ⟨L, t1, t2⟩ := h.tl
  have c0 := h.c0
  have C := Lib.hid (find7 t1 (at_yes t1.1 t2 hy hcv))
  have H := Lib.hid h
  have q1 : (y.c == -2) = false := by rw [beq_eq_false_iff_ne]; exact hcn
  clear h t1 t2 hcv hy
  go_enter Tryd.func35, Tryd.ntmps35
  go_wp2_with (go_at_call 46; ((with_reducible refine (C.out).mono ?_); rintro e w1 ⟨rfl, hc⟩; have HC := Lib.hid (hc.alloc (.cells #[.int .i64 (y.b : Int), .int .i64 (y.k : Int), .int .i64 y.c] 78)); clear hc))
  go_ret
  exact ⟨rfl, H.out.same HC.out, HC.out.wide⟩
set_option maxHeartbeats 1000000 in
theorem give7_bare (h : Cl n pr F a W A) (x : Int) (hy : y ∈ A) (hcv : Cov y x) (hcn : y.c = -2) {A' : List Bk} {r : Int} (hg : (x ≠ y.b ∧ A' = A ∧ r = 4) ∨ (x = y.b ∧ A' = rem A y.b ∧ r = 0)) : Calls Tryd.prog 35 #[.pointer (some ⟨a.bc, 0, none⟩), .int .i64 x] W (Eres n pr F a W A' r) := by
  obtain ⟨L, t1, t2⟩ := h.tl
  have c0 := h.c0
  have C := find7 t1 (at_yes t1.1 t2 hy hcv)
  rw [hcn] at C
  have C := Lib.hid C
  have hs : (⟨y.b, y.k, y.c⟩ : Spn) ∈ L := (t2 _).2 ⟨y, hy, rfl⟩
  have FR : Hid (∀ W', Cha (fun _ => False) W W' → W'.cell? ⟨a.bc, 0, none⟩ = some (.pointer (some ⟨a.bt, 0, none⟩)) ∧ Calls Tryd.prog 56 #[.pointer (some ⟨a.bt, 0, none⟩), .int .i64 x] W' fun e w' => e = .returned (.int .i64 r) ∧ Cl n pr F a w' A' ∧ Cha F W w') := Lib.hid fun W' hc => by
    have H' := h.same hc
    have t1' := t1.cha hc (fun x => x) (fun x => x) (fun x => x) (fun x => x)
    refine ⟨H'.c0, ?_⟩
    rcases hg with ⟨e, rfl, rfl⟩ | ⟨rfl, rfl, rfl⟩
    · have hb : begP L n x = (noS, false) := by
        unfold begP
        rw [if_neg]
        rintro ⟨k0, _, k2, k3⟩
        obtain ⟨q1, q2⟩ := fOf_mem k2
        obtain ⟨z, hz, ez⟩ := (t2 _).1 q1
        have q3 := has_iff.1 q2
        rw [ez] at k3 q3
        have k3 : z.b = x.toNat := k3
        have q3 : z.b ≤ x.toNat ∧ x.toNat < z.b + z.k := q3
        have := cov_one h.inv hz hy (show Cov z x from ⟨by omega, by omega⟩) hcv
        subst this
        omega
      exact (free5_no x hb t1').mono fun e w' ⟨he, hc2⟩ => ⟨he, H'.same hc2, (hc.trans hc2).wide⟩
    · refine (free5_ok ⟨y.b, y.k, y.c⟩ hs t1').mono fun e w' ⟨he, ht, hc2⟩ => ⟨he, ?_⟩
      have := H'.bare t1' (rem_inv h.inv y.b) (fun z hz _ => (mem_rem.1 hz).1) (fun z hz hzc => mem_rem.2 ⟨hz, fun e => hzc (by rw [h.inv.inj hz hy e]; exact hcn)⟩) (nb_rem0 h.inv hy hcn).symm ht (lk_rem t2 y.b) hc2
      exact ⟨this.1, hc.wide.trans this.2⟩
  clear h t1 t2 hcv hy hcn hs hg
  go_enter Tryd.func35, Tryd.ntmps35
  go_wp2_with (first
    | (go_at_call 46; ((with_reducible refine (C.out).mono ?_); rintro e w1 ⟨rfl, hc⟩; obtain ⟨g1, g2⟩ := FR.out _ (hc.alloc (.cells #[.int .i64 (y.b : Int), .int .i64 (y.k : Int), .int .i64 (-2)] 78)); have G := Lib.hid g2; clear hc g2))
    | (go_at_call 56; ((with_reducible refine (G.out).mono ?_); rintro e w2 ⟨rfl, hx, hc⟩; have HX := Lib.hid hx; have HC := Lib.hid hc; clear hx hc)))
  go_ret
  exact ⟨rfl, HX.out, HC.out⟩
theorem give7_any (h : Cl n pr F a W A) {x r : Int} {A' : List Bk} (c : Giv7 A x A' r) : Calls Tryd.prog 35 #[.pointer (some ⟨a.bc, 0, none⟩), .int .i64 x] W (Eres n pr F a W A' r) := by
  cases c with
  | no hno =>
    rcases cov_cases A x with ⟨y, hy, hc⟩ | hc
    · by_cases hcn : y.c = -2
      · exact give7_bare h x hy hc hcn (.inl ⟨fun e => hno y hy ⟨e.symm, hcn⟩, rfl, rfl⟩)
      · exact give7_cell h x hy hc hcn
    · exact give7_out h x hc
  | yes y hy e hcn =>
    have hr := h.inv.rng y hy
    exact give7_bare h x hy ⟨by omega, by omega⟩ hcn (.inr ⟨e.symm, rfl, rfl⟩)
end Go.Proofs.YtiboobaggpghjaaDoor
