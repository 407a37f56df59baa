/- Contracts of layer 7's usedAt and Find. -/
import Derived.Test.YtiboobaggpghjaaDoorDF
namespace Go.Proofs.YtiboobaggpghjaaDoor
open Go.ChangeShapes Go.WideShapes Go.ChangeAt Go.RowKit
variable {n pr : Nat} {F : Nat → Prop} {a : Ad} {W : World} {A : List Bk} {y : Bk}

/-- The block lies over the page. -/
def Cov (y : Bk) (page : Int) : Prop := (y.b : Int) ≤ page ∧ page < (y.b : Int) + (y.k : Int)
theorem at_yes {L : List Spn} {tg : Bk → Int} (hg : Good n L) (hk : Lk tg L A) {page : Int} (hy : y ∈ A) (hc : Cov y page) : atP L n page = (⟨y.b, y.k, tg y⟩, true) := by
  have hs : (⟨y.b, y.k, tg y⟩ : Spn) ∈ L := (hk _).2 ⟨y, hy, rfl⟩
  exact atP_hit hg hs hc.1 (by have := hc.2; show page - (y.b : Int) < (y.k : Int); omega)
theorem at_no {L : List Spn} {tg : Bk → Int} (hk : Lk tg L A) {page : Int} (hc : ∀ y ∈ A, ¬ Cov y page) : atP L n page = (noS, false) := by
  refine atP_miss fun s hs e => ?_
  obtain ⟨y, hy, rfl⟩ := (hk s).1 hs
  have h1 : (y.b : Int) ≤ page := e.1
  have h2 : page - (y.b : Int) < (y.k : Int) := e.2
  exact hc y hy ⟨h1, by omega⟩
theorem cov_cases (A : List Bk) (page : Int) : (∃ y ∈ A, Cov y page) ∨ ∀ y ∈ A, ¬ Cov y page := by
  by_cases e : ∃ y ∈ A, Cov y page
  · exact .inl e
  · exact .inr fun y hy c => e ⟨y, hy, c⟩
/-- No word of a used cell. -/
def NoHit (A : List Bk) (x : Int) : Prop := ∀ y i, ¬ Hit A x y i
theorem hit_cov {x : Int} {i : Nat} (h : Hit A x y i) (hi : Inv n pr A) : Cov y (x / 64) ∧ 0 ≤ x := by
  have := h.page hi
  unfold Cov
  omega
theorem hit_nb {x : Int} {i : Nat} (h : Hit A x y i) (hi : Inv n pr A) : y.c ≠ -2 := by
  intro e
  rcases hi.kind y h.mem with ⟨_, _, h3, _⟩ | ⟨h1, _⟩ | ⟨j, _, h2, _⟩
  · have := h.used; rw [h3] at this; simp at this
  · omega
  · omega
theorem cov_one {page : Int} {z : Bk} (hi : Inv n pr A) (hy : y ∈ A) (hz : z ∈ A) (h1 : Cov y page) (h2 : Cov z page) : y = z := by
  rcases hi.sep hy hz with e | e
  · exact e
  · have a1 := h1.1; have a2 := h1.2; have a3 := h2.1; have a4 := h2.2; omega
theorem find7 {L : List Spn} {page : Int} {b k : Nat} {t : Int} {ok : Bool} {bt bm bp bs : Nat} (h : Tl W bt bm bp bs n L) (e : atP L n page = (⟨b, k, t⟩, ok)) : Calls Tryd.prog 46 #[.pointer (some ⟨bt, 0, none⟩), .int .i64 page] W fun e w' => e = .returned (.tuple #[.agg #[.int .i64 (b : Int), .int .i64 (k : Int), .int .i64 t], .bool ok]) ∧ Cha (fun _ => False) W w' :=
  (find_any page h).mono fun _ _ ⟨he, hc, _⟩ => ⟨by rw [he, e]; rfl, hc⟩
theorem find7_no {L : List Spn} {page : Int} {bt bm bp bs : Nat} (h : Tl W bt bm bp bs n L) (e : atP L n page = (noS, false)) : Calls Tryd.prog 46 #[.pointer (some ⟨bt, 0, none⟩), .int .i64 page] W fun e w' => e = .returned (.tuple #[.agg #[.int .i64 0, .int .i64 0, .int .i64 0], .bool false]) ∧ Cha (fun _ => False) W w' := find7 h e
/-- By the page's block: a cell is hit, or none is. -/
theorem hit_of_cov {x : Nat} (hi : Inv n pr A) (hy : y ∈ A) (hc : Cov y ((x : Int) / 64)) : (y.u[(x - y.b * 64) / y.wd]? = some true → Hit A (x : Int) y ((x - y.b * 64) / y.wd)) ∧ (y.u[(x - y.b * 64) / y.wd]? ≠ some true → NoHit A (x : Int)) := by
  have h1 : y.b * 64 ≤ x := by have := hc.1; omega
  obtain ⟨hw, _⟩ := hi.fits hy
  have hd := Nat.div_add_mod (x - y.b * 64) y.wd
  have hm := Nat.mod_lt (x - y.b * 64) hw
  rw [Nat.mul_comm] at hd
  constructor
  · intro hu
    exact ⟨hy, hu, by omega, by omega⟩
  · intro hu z j hh
    have := cov_one hi hh.mem hy (hit_cov hh hi).1 hc
    subst this
    have q := hh.quot
    rw [Int.toNat_natCast] at q
    rw [q] at hu
    exact hu hh.used
/-- A pointer and a number are answered; blocks are made. -/
def Finds (v : Value) (W : World) (e : Ending) (w' : World) : Prop := e = .returned v ∧ Cha (fun _ => False) W w'
def nilNo : Value := .tuple #[.pointer none, .int .i64 0]
set_option maxHeartbeats 1000000 in
theorem usedAt_neg (x : Int) (hx : x < 0) : Calls Tryd.prog 43 #[.pointer (some ⟨a.bc, 0, none⟩), .int .i64 x] W (Finds nilNo W) := by
  unfold nilNo
  go_enter Tryd.func43, Tryd.ntmps43
  go_wp2
  go_ret2
  exact ⟨rfl, Cha.refl _ _⟩
set_option maxHeartbeats 1000000 in
theorem usedAt_out (h : Cl n pr F a W A) (x : Int) (hx : 0 ≤ x) (hx2 : x ≤ 9223372036854775807) (hno : ∀ y ∈ A, ¬ Cov y (x / 64)) : Calls Tryd.prog 43 #[.pointer (some ⟨a.bc, 0, none⟩), .int .i64 x] W (Finds nilNo W) := by
  obtain ⟨L, t1, t2⟩ := h.tl
  have c0 := h.c0
  have C := Lib.hid (find7_no t1 (at_no (n := n) t2 hno))
  clear h t1 t2 hno
  unfold nilNo
  go_enter Tryd.func43, Tryd.ntmps43
  go_wp2_with (go_at_call 46; ((with_reducible refine (C.out).mono ?_); rintro e w1 ⟨rfl, hc⟩; have HC := Lib.hid (hc.alloc (.cells #[.int .i64 0, .int .i64 0, .int .i64 0] 78)); clear hc))
  go_ret2
  exact ⟨rfl, HC.out⟩
set_option maxHeartbeats 1000000 in
theorem usedAt_bare (h : Cl n pr F a W A) (x : Int) (hx : 0 ≤ x) (hx2 : x ≤ 9223372036854775807) (hy : y ∈ A) (hcv : Cov y (x / 64)) (hb : y.c = -2) : Calls Tryd.prog 43 #[.pointer (some ⟨a.bc, 0, none⟩), .int .i64 x] W (Finds nilNo W) := by
  obtain ⟨L, t1, t2⟩ := h.tl
  have c0 := h.c0
  have C := find7 t1 (at_yes t1.1 t2 hy hcv)
  rw [hb] at C
  have C := Lib.hid C
  clear h t1 t2 hcv hy hb
  unfold nilNo
  go_enter Tryd.func43, Tryd.ntmps43
  go_wp2_with (go_at_call 46; ((with_reducible refine (C.out).mono ?_); rintro e w1 ⟨rfl, hc⟩; have HC := Lib.hid (hc.alloc (.cells #[.int .i64 (y.b : Int), .int .i64 (y.k : Int), .int .i64 (-2)] 78)); clear hc))
  go_ret2
  exact ⟨rfl, HC.out⟩
set_option maxHeartbeats 4000000 in
theorem usedAt_in (h : Cl n pr F a W A) (x : Nat) (hy : y ∈ A) (hcv : Cov y ((x : Int) / 64)) (hb : y.c ≠ -2) (i : Nat) (hi : (x - y.b * 64) / y.wd = i) (v : Value)
    (hv : (y.u[i]? = some true ∧ v = .tuple #[.pointer (some ⟨a.pb y.b, 0, none⟩), .int .i64 (i : Int)]) ∨ (y.u[i]? = some false ∧ v = nilNo) ∨ (y.u.length ≤ i ∧ v = nilNo)) : Calls Tryd.prog 43 #[.pointer (some ⟨a.bc, 0, none⟩), .int .i64 (x : Int)] W (Finds v W) := by
  obtain ⟨L, t1, t2⟩ := h.tl
  have c0 := h.c0
  have C := Lib.hid (find7 t1 (at_yes t1.1 t2 hy hcv))
  have H := Lib.hid h
  obtain ⟨hn, _⟩ := h.nle
  have hr := h.inv.rng y hy
  obtain ⟨f1, f2, f3, f4⟩ := h.inv.fits hy
  have hx1 : y.b * 64 ≤ x := by have := hcv.1; omega
  have hx2 : x < 262144 + 64 := by have := hcv.2; omega
  have hx0 : ¬ ((x : Int) < 0) := by omega
  obtain ⟨m, m1, m2, m3⟩ := h.mp
  have hmy := m2 y hy hb
  have hcb : (y.c == -2) = false := by rw [beq_eq_false_iff_ne]; exact hb
  have HP : Hid (∀ W', Cha (fun _ => False) W W' → Cl n pr F a W' A ∧ (Instr.lookup 64 (.map (some a.mb)) (.int .i64 (y.b : Int)) false).run Tryd.prog W' = .ok (.pointer (some ⟨a.pb y.b, 0, none⟩)) W' ∧ Bl W' (a.pb y.b) (a.ub y.b) y) :=
    Lib.hid fun W' hc => ⟨H.out.same hc, (m1.cha hc (fun x => x)).look (by omega) hmy, (H.out.bl y hy hb).cha hc (fun x => x) (fun x => x)⟩
  have hquo : ((x : Int) - (y.b : Int) * 64) / (y.wd : Int) = (i : Int) := by
    have e : ((x : Int) - (y.b : Int) * 64) = ((x - y.b * 64 : Nat) : Int) := by omega
    rw [e, ← Int.natCast_ediv, hi]
  clear h t1 t2 hcv m1 m2 m3 hmy hi
  have e1 : IntKind.i64.wrap ((x : Int) - (y.b : Int) * 64) = (x : Int) - (y.b : Int) * 64 := IntWalk.i64_in _ (by omega)
  have hnn : 0 ≤ (x : Int) - (y.b : Int) * 64 := by omega
  have e2 : Int.tdiv ((x : Int) - (y.b : Int) * 64) (y.wd : Int) = (i : Int) := by rw [Int.tdiv_eq_ediv_of_nonneg hnn, hquo]
  have hil : i ≤ 262144 + 64 := by
    have : (i : Int) ≤ ((x : Int) - (y.b : Int) * 64) := by rw [← hquo]; exact Int.ediv_le_self _ hnn
    omega
  have e3 : IntKind.i64.wrap (i : Int) = (i : Int) := IntWalk.i64_in _ (by omega)
  have hw0 : ((y.wd : Int) == 0) = false := by rw [beq_eq_false_iff_ne]; omega
  go_enter Tryd.func43, Tryd.ntmps43
  go_wp2_with (go_at_call 46; ((with_reducible refine (C.out).mono ?_); rintro e w1 ⟨rfl, hc⟩; have HC := Lib.hid (hc.alloc (.cells #[.int .i64 (y.b : Int), .int .i64 (y.k : Int), .int .i64 y.c] 78)); have hx := heap_alloc_new w1 (.cells #[.int .i64 (y.b : Int), .int .i64 (y.k : Int), .int .i64 y.c] 78); have HX := Lib.hid hx; clear hc hx))
  obtain ⟨W2, hW2⟩ : ∃ W2, W2 = w1.alloc (.cells #[.int .i64 (y.b : Int), .int .i64 (y.k : Int), .int .i64 y.c] 78) := ⟨_, rfl⟩
  rw [← hW2] at HC HX ⊢
  clear hW2
  obtain ⟨H2, l2, B2⟩ := HP.out W2.drew HC.out.drew
  have d0 := H2.c0
  have d1 := (HP.out W2 HC.out).1.c1
  have x0 := cell_of_row W2 w1.heap.size 0 _ 78 (0, 0) HX.out
  simp only [List.getElem?_toArray, List.getElem?_cons_zero] at x0
  have HB := Lib.hid B2
  have H2' := Lib.hid H2
  clear H2 B2
  go_wp2
  go_region
  obtain ⟨W3, hW3⟩ : ∃ W3, W3 = W2.drew := ⟨_, rfl⟩
  have HC3 : Hid (Cha (fun _ => False) W W3) := Lib.hid (by rw [hW3]; exact HC.out.drew)
  rw [← hW3] at HB ⊢
  clear hW3
  have c3 := HB.out.cells.2.1
  have PL : Hid (∀ m, Calls Tryd.prog 44 #[.pointer (some ⟨a.pb y.b, 0, none⟩), .int .i64 0] (W3.drewN m) (Draws (.int .i64 ((y.b : Int) * 64)) (W3.drewN m))) := Lib.hid fun m => by
    have := place_any (HB.out.cha (S := fun _ => False) ((Cha.refl _ W3).drewN m) (fun x => x) (fun x => x)) 0 (by omega) (by omega) (by omega)
    simpa using this
  go_wp2
  go_quiet ((go_at_call 44; exact Calls.quiet_of (PL.out _)))
  obtain ⟨W4, hW4⟩ : ∃ W4, W4 = W3.drewN nq := ⟨_, rfl⟩
  have HC4 : Hid (Cha (fun _ => False) W W4) := Lib.hid (by rw [hW4]; exact HC3.out.drewN nq)
  have hcd : Cha (fun _ => False) W3 W4 := by rw [hW4]; exact (Cha.refl _ W3).drewN nq
  have B4 := HB.out.cha hcd (fun x => x) (fun x => x)
  rw [← hW4]
  clear hW4 hcd c3
  have c4 := B4.cells.2.2.1
  rcases hv with ⟨hu, rfl⟩ | ⟨hu, rfl⟩ | ⟨hu, rfl⟩
  · have hmk := B4.mark hu
    have hlt := lt_of_get hu
    have hge : decide ((y.u.length : Int) ≤ (i : Int)) = false := by simp; omega
    have hge2 : decide (y.u.length ≤ i) = false := by simp; omega
    clear B4 HB hu
    generalize y.u.length = len at *
    go_wp2
    go_ret2
    exact ⟨rfl, HC4.out⟩
  · have hmk := B4.mark hu
    have hlt := lt_of_get hu
    have hge : decide ((y.u.length : Int) ≤ (i : Int)) = false := by simp; omega
    have hge2 : decide (y.u.length ≤ i) = false := by simp; omega
    clear B4 HB hu
    generalize y.u.length = len at *
    unfold nilNo
    go_wp2
    go_ret2
    exact ⟨rfl, HC4.out⟩
  · have hge : decide ((y.u.length : Int) ≤ (i : Int)) = true := by simp; omega
    have hge2 : decide (y.u.length ≤ i) = true := by simpa using hu
    clear B4 HB
    generalize y.u.length = len at *
    unfold nilNo
    go_wp2
    go_ret2
    exact ⟨rfl, HC4.out⟩

theorem usedAt_yes (h : Cl n pr F a W A) {x : Int} {i : Nat} (hh : Hit A x y i) : Calls Tryd.prog 43 #[.pointer (some ⟨a.bc, 0, none⟩), .int .i64 x] W (Finds (.tuple #[.pointer (some ⟨a.pb y.b, 0, none⟩), .int .i64 (i : Int)]) W) := by
  obtain ⟨hc, h0⟩ := hit_cov hh h.inv
  have hq := hh.quot
  obtain ⟨x, rfl⟩ : ∃ x' : Nat, x = (x' : Int) := ⟨x.toNat, by omega⟩
  rw [Int.toNat_natCast] at hq
  exact usedAt_in h x hh.mem hc (hit_nb hh h.inv) i hq _ (.inl ⟨hh.used, rfl⟩)
theorem usedAt_no (h : Cl n pr F a W A) {x : Int} (hx : x ≤ 9223372036854775807) (hn : NoHit A x) : Calls Tryd.prog 43 #[.pointer (some ⟨a.bc, 0, none⟩), .int .i64 x] W (Finds nilNo W) := by
  by_cases h0 : x < 0
  · exact usedAt_neg x h0
  · rcases cov_cases A (x / 64) with ⟨y, hy, hc⟩ | hc
    · by_cases hb : y.c = -2
      · exact usedAt_bare h x (by omega) hx hy hc hb
      · obtain ⟨x, rfl⟩ : ∃ x' : Nat, x = (x' : Int) := ⟨x.toNat, by omega⟩
        obtain ⟨k1, k2⟩ := hit_of_cov h.inv hy hc
        refine usedAt_in h x hy hc hb _ rfl _ ?_
        by_cases hl : (x - y.b * 64) / y.wd < y.u.length
        · rcases get_or hl with e | e
          · exact absurd (k1 e) (hn _ _)
          · exact .inr (.inl ⟨e, rfl⟩)
        · exact .inr (.inr ⟨by omega, rfl⟩)
    · exact usedAt_out h x (by omega) hx hc
set_option maxHeartbeats 1000000 in
theorem cfind_yes (h : Cl n pr F a W A) {x : Int} {i : Nat} (hh : Hit A x y i) : Calls Tryd.prog 25 #[.pointer (some ⟨a.bc, 0, none⟩), .int .i64 x] W (Finds (.tuple #[.int .i64 ((y.b * 64 + i * y.wd : Nat) : Int), .int .i64 (y.wd : Int), .bool true]) W) := by
  have C := Lib.hid (usedAt_yes h hh)
  obtain ⟨hn, _⟩ := h.nle
  have hr := h.inv.rng y hh.mem
  obtain ⟨f1, f2, f3, f4⟩ := h.inv.fits hh.mem
  have hi := hh.lt
  have HB : Hid (∀ W', Cha (fun _ => False) W W' → Bl W' (a.pb y.b) (a.ub y.b) y) := Lib.hid fun W' hc => (h.bl y hh.mem (hit_nb hh h.inv)).cha hc (fun x => x) (fun x => x)
  obtain ⟨v, hv⟩ : ∃ v : Int, v = ((y.b * 64 + i * y.wd : Nat) : Int) := ⟨_, rfl⟩
  have PL : Hid (∀ W', Bl W' (a.pb y.b) (a.ub y.b) y → Calls Tryd.prog 44 #[.pointer (some ⟨a.pb y.b, 0, none⟩), .int .i64 (i : Int)] W' (Draws (.int .i64 v) W')) := Lib.hid fun W' hb => by rw [hv]; exact place_any hb i (by omega) (by omega) (by omega)
  rw [← hv]
  clear h hh f4 hv
  go_enter Tryd.func25, Tryd.ntmps25
  go_wp2_with (go_at_call 43; ((with_reducible refine (C.out).mono ?_); rintro e w1 ⟨rfl, hc⟩; have HC := Lib.hid hc; clear hc))
  have hb1 := HB.out w1 HC.out
  have c3 := hb1.cells.2.1
  have HW : Hid (∀ m, Bl (w1.drewN m) (a.pb y.b) (a.ub y.b) y) := Lib.hid fun m => hb1.cha (S := fun _ => False) ((Cha.refl _ w1).drewN m) (fun x => x) (fun x => x)
  clear hb1
  go_quiet ((go_at_call 44; exact Calls.quiet_of (PL.out _ (HW.out _))))
  go_wp2
  go_ret3
  exact ⟨rfl, HC.out.drewN _⟩
theorem cfind_no (h : Cl n pr F a W A) {x : Int} (hx : x ≤ 9223372036854775807) (hn : NoHit A x) : Calls Tryd.prog 25 #[.pointer (some ⟨a.bc, 0, none⟩), .int .i64 x] W (Finds (.tuple #[.int .i64 0, .int .i64 0, .bool false]) W) := by
  have C := Lib.hid (usedAt_no h hx hn)
  unfold nilNo at C
  clear h hn
  go_enter Tryd.func25, Tryd.ntmps25
  go_wp2_with (go_at_call 43; ((with_reducible refine (C.out).mono ?_); rintro e w1 ⟨rfl, hc⟩; have HC := Lib.hid hc; clear hc))
  go_ret3
  exact ⟨rfl, HC.out⟩
/-- Used tells whether a page is covered. -/
def covI (A : List Bk) (page : Int) : Bool := A.any fun y => decide ((y.b : Int) ≤ page) && decide (page < (y.b : Int) + (y.k : Int))
theorem covI_yes {page : Int} (hy : y ∈ A) (hc : Cov y page) : covI A page = true := by
  unfold covI; rw [List.any_eq_true]; exact ⟨y, hy, by unfold Cov at hc; simpa using hc⟩
theorem covI_no {page : Int} (hc : ∀ y ∈ A, ¬ Cov y page) : covI A page = false := by
  unfold covI; rw [List.any_eq_false]; intro y hy; have := hc y hy; unfold Cov at this; simp; omega
theorem cused_any (h : Cl n pr F a W A) (page : Int) : Calls Tryd.prog 27 #[.pointer (some ⟨a.bc, 0, none⟩), .int .i64 page] W (Finds (.bool (covI A page)) W) := by
  obtain ⟨L, t1, t2⟩ := h.tl
  have c0 := h.c0
  rcases cov_cases A page with ⟨y, hy, hc⟩ | hc
  · have C := Lib.hid (find7 t1 (at_yes t1.1 t2 hy hc))
    rw [covI_yes hy hc]
    clear h t1 t2 hy hc
    go_enter Tryd.func27, Tryd.ntmps27
    go_wp2_with (go_at_call 46; ((with_reducible refine (C.out).mono ?_); rintro e w1 ⟨rfl, hc⟩; have HC := Lib.hid (hc.alloc (.cells #[.int .i64 (y.b : Int), .int .i64 (y.k : Int), .int .i64 y.c] 78)); clear hc))
    go_ret
    exact ⟨rfl, HC.out⟩
  · have C := Lib.hid (find7_no t1 (at_no (n := n) t2 hc))
    rw [covI_no hc]
    clear h t1 t2 hc
    go_enter Tryd.func27, Tryd.ntmps27
    go_wp2_with (go_at_call 46; ((with_reducible refine (C.out).mono ?_); rintro e w1 ⟨rfl, hc⟩; have HC := Lib.hid (hc.alloc (.cells #[.int .i64 0, .int .i64 0, .int .i64 0] 78)); clear hc))
    go_ret
    exact ⟨rfl, HC.out⟩
end Go.Proofs.YtiboobaggpghjaaDoor
