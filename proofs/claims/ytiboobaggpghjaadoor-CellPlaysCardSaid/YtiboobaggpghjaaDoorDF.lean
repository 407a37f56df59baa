/- Contracts of layer 7's giveBack and letGo. -/
import Derived.Test.YtiboobaggpghjaaDoorDE
import Derived.RegionTactic
import Derived.Deep.RegionHeld3
namespace Go.Proofs.YtiboobaggpghjaaDoor
open Go.ChangeShapes Go.WideShapes Go.ChangeAt Go.RowKit
variable {n pr : Nat} {F : Nat → Prop} {a : Ad} {W : World} {A : List Bk} {y : Bk}

theorem keep_iff : keep y = true ↔ y.c = -2 ∨ 0 ≤ y.h ∨ 0 < cnt y.u := by
  unfold keep
  rw [Bool.or_eq_true, Bool.or_eq_true, decide_eq_true_iff, decide_eq_true_iff, ← cnt_pos, or_assoc]
theorem give_keep (h : Cl n pr F a W A) (hy : y ∈ A) (hc : y.c ≠ -2) (hk : keep y = true) : Calls Tryd.prog 53 #[.pointer (some ⟨a.bc, 0, none⟩), .pointer (some ⟨a.pb y.b, 0, none⟩)] W fun e w' => e = .returned (.tuple #[]) ∧ W = w' := by
  obtain ⟨c0, c3, c4, c5, c6⟩ := (h.bl y hy hc).cells
  have hk2 := keep_iff.1 hk
  clear h
  by_cases h0 : 0 ≤ y.h
  · rw [decide_eq_true h0] at c6
    go_enter Tryd.func53, Tryd.ntmps53
    go_wp2
    exact bodyPost_ret (results_none rfl _ _ _) rfl ⟨rfl, rfl⟩
  · rw [decide_eq_false h0] at c6
    have h1 : decide ((0 : Int) < (cnt y.u : Int)) = true := by simp; omega
    have h2 : decide (0 < cnt y.u) = true := by simp; omega
    generalize cnt y.u = k at *
    go_enter Tryd.func53, Tryd.ntmps53
    go_wp2
    exact bodyPost_ret (results_none rfl _ _ _) rfl ⟨rfl, rfl⟩
set_option maxHeartbeats 2000000 in
theorem give_drop (h : Cl n pr F a W A) (hy : y ∈ A) (hc : y.c ≠ -2) (hk : keep y = false) : Calls Tryd.prog 53 #[.pointer (some ⟨a.bc, 0, none⟩), .pointer (some ⟨a.pb y.b, 0, none⟩)] W fun e w' => e = .returned (.tuple #[]) ∧ Cl n pr F a w' (rem A y.b) ∧ Cha (fun j => j = a.bp ∨ j = a.bs ∨ j = a.mb) W w' := by
  obtain ⟨c0, c3, c4, c5, c6⟩ := (h.bl y hy hc).cells
  have hk2 : ¬ (y.c = -2 ∨ 0 ≤ y.h ∨ 0 < cnt y.u) := fun c => by rw [keep_iff.2 c] at hk; cases hk
  have h0 : ¬ 0 ≤ y.h := fun c => hk2 (.inr (.inl c))
  have hz : cnt y.u = 0 := by
    have : ¬ 0 < cnt y.u := fun c => hk2 (.inr (.inr c))
    omega
  rw [decide_eq_false h0] at c6
  rw [hz] at c5
  have c5 : W.cell? ⟨a.pb y.b, 5, none⟩ = some (.int .i64 0) := c5
  have d0 := h.c0
  have d1 := h.c1
  obtain ⟨L, t1, t2⟩ := h.tl
  obtain ⟨m, m1, m2, m3⟩ := h.mp
  have hn := h.nle
  have hr := h.inv.rng y hy
  have hlen := nb_rem h.inv hy hc
  rw [hlen] at m1
  obtain ⟨W2, r1, p1, g1⟩ := (m1.cha (S := fun _ => False) ((Cha.refl _ W).drew) (fun x => x)).del (x := y.b) (by omega) (by rw [m2 y hy hc]; rfl) 0
  have hs : (⟨y.b, y.k, y.c⟩ : Spn) ∈ L := (t2 _).2 ⟨y, hy, rfl⟩
  have H := Lib.hid h
  have hcm : Cha (fun j => j = a.mb) W W2 := ((Cha.refl _ W).drew).trans (turned_cha g1)
  obtain ⟨es, kk, hmo⟩ := m1.obj
  have nb1 : ¬ a.bc = a.mb := map_ne h.head hmo
  have nb2 : ¬ a.pb y.b = a.mb := map_ne (h.bl y hy hc).hd hmo
  have T2 : Tl W2 a.bt a.bm a.bp a.bs n L := t1.cha hcm (map_ne t1.2.head hmo) (map_ne t1.2.pg.head hmo) (map_ne t1.2.pg.body hmo) (map_ne t1.2.sp hmo)
  have nc1 : ¬ (a.bc = a.bp ∨ a.bc = a.bs) := fun e => by
    rcases e with e | e
    · exact ty_ne h.head t1.2.pg.body (by decide) e
    · exact ty_ne h.head t1.2.sp (by decide) e
  have nc2 : ¬ (a.pb y.b = a.bp ∨ a.pb y.b = a.bs) := fun e => by
    rcases e with e | e
    · exact ty_ne (h.bl y hy hc).hd t1.2.pg.body (by decide) e
    · exact ty_ne (h.bl y hy hc).hd t1.2.sp (by decide) e
  have KY : Hid (∀ W', Cha (fun j => j = a.bp ∨ j = a.bs) W2 W' → W'.cell? ⟨a.bc, 0, none⟩ = some (.pointer (some ⟨a.bt, 0, none⟩)) ∧ W'.cell? ⟨a.pb y.b, 0, none⟩ = some (.int .i64 (y.b : Int))) := Lib.hid fun W' hc' =>
    have h1 := hcm.old _ (h.lt _ h.own.1) nb1
    have h2 := hcm.old _ (h.lt _ (h.ownb y hy hc).1) nb2
    have l1 := Nat.lt_of_lt_of_le (h.lt _ h.own.1) hcm.size
    have l2 := Nat.lt_of_lt_of_le (h.lt _ (h.ownb y hy hc).1) hcm.size
    ⟨cell_of_row W' a.bc 0 _ 66 (0, 0) (((hc'.old _ l1 nc1).trans h1).trans h.head), cell_of_row W' (a.pb y.b) 0 _ 81 (0, 0) (((hc'.old _ l2 nc2).trans h2).trans (h.bl y hy hc).hd)⟩
  obtain ⟨k1, k2⟩ := KY.out W2.drew (Cha.refl _ W2).drew
  have nmb : a.bp ≠ a.mb ∧ a.bs ≠ a.mb := ⟨map_ne t1.2.pg.body hmo, map_ne t1.2.sp hmo⟩
  have FR : Hid (∀ W', Tl W' a.bt a.bm a.bp a.bs n L → Calls Tryd.prog 56 #[.pointer (some ⟨a.bt, 0, none⟩), .int .i64 (y.b : Int)] W' fun e w' => e = .returned (.int .i64 0) ∧ Tl w' a.bt a.bm a.bp a.bs n (del y.b L) ∧ Cha (fun j => j = a.bp ∨ j = a.bs) W' w') := Lib.hid fun W' h => free5_ok ⟨y.b, y.k, y.c⟩ hs h
  have HT := Lib.hid (T2.cha ((Cha.refl (fun _ => False) W2).drew) (fun x => x) (fun x => x) (fun x => x) (fun x => x))
  have HCM := Lib.hid hcm
  have P1 := Lib.hid p1
  have FIN : Hid (∀ w', Tl w' a.bt a.bm a.bp a.bs n (del y.b L) → Cha (fun j => j = a.bp ∨ j = a.bs) W2 w' → Cl n pr F a w' (rem A y.b) ∧ Cha (fun j => j = a.bp ∨ j = a.bs ∨ j = a.mb) W w') := Lib.hid fun w' ht hcc => by
    have hall : Cha (fun j => j = a.bp ∨ j = a.bs ∨ j = a.mb) W w' := (hcm.mono fun _ _ e => .inr (.inr e)).trans (hcc.mono fun _ _ e => by rcases e with e | e; exact .inl e; exact .inr (.inl e))
    refine ⟨H.out.sub (rem_inv H.out.inv y.b) (fun z hz _ => (mem_rem.1 hz).1) (fun p c => hv_eq H.out.inv (rem_inv H.out.inv y.b) (fun b => ?_) (fun _ _ _ _ => rfl)) hall (fun j e => e) ⟨_, ht, lk_rem t2 y.b⟩ ⟨_, P1.out.cha hcc (by rintro (e | e); exact nmb.1 e.symm; exact nmb.2 e.symm), fun z hz hzc => ?_, fun x q hx => ?_⟩, hall⟩
    · constructor
      · rintro ⟨z, hz, e1, e2, e3⟩
        refine ⟨z, mem_rem.2 ⟨hz, fun e => ?_⟩, e1, e2, e3⟩
        have := H.out.inv.inj hz hy e
        subst this
        exact h0 (by omega)
      · rintro ⟨z, hz, e⟩; exact ⟨z, (mem_rem.1 hz).1, e⟩
    · obtain ⟨q1, q2⟩ := mem_rem.1 hz
      show (if z.b = y.b then none else m z.b) = _
      rw [if_neg q2, m2 z q1 hzc]
    · have hx : (if x = y.b then none else m x) = some q := hx
      by_cases e : x = y.b
      · rw [if_pos e] at hx; cases hx
      · rw [if_neg e] at hx
        obtain ⟨z, q1, q2, q3⟩ := m3 x q hx
        exact ⟨z, mem_rem.2 ⟨q1, by omega⟩, q2, q3⟩
  clear h m1 p1 g1 hcm T2 hmo t1 t2 m2 m3 hs nc1 nc2 nb1 nb2
  go_enter Tryd.func53, Tryd.ntmps53
  go_wp2
  go_region
  go_wp2
  go_region_held3 (fun w' => w'.cell? ⟨a.bc, 0, none⟩ = some (.pointer (some ⟨a.bt, 0, none⟩)) ∧ w'.cell? ⟨a.pb y.b, 0, none⟩ = some (.int .i64 (y.b : Int)))
    (first
      | go_keep
      | exact ⟨k1, k2⟩
      | exact KY.out _ (((Cha.refl _ W2).drew).trans (by assumption)))
    ((go_at_call 56; refine (FR.out W2.drew HT.out).mono ?_; rintro e5 w5 ⟨rfl, hH, hD⟩))
  all_goals
    have HH := Lib.hid hH
    have HDD : Hid (Cha (fun j => j = a.bp ∨ j = a.bs) W2 w5) := Lib.hid (((Cha.refl _ W2).drew).trans hD)
    clear hH hD
    go_wp2
    go_end0
    exact ⟨rfl, FIN.out w5 HH.out HDD.out⟩

/-! ### A processor lets a block go -/
def unhold (y : Bk) : Bk := { y with h := -1 }
theorem unhold_keeps : Keeps unhold := ⟨fun _ => rfl, fun _ => rfl, fun _ => rfl, fun _ => rfl⟩
def unh (A : List Bk) (p k : Nat) : List Bk := A.map fun x => if x.h = (p : Int) ∧ x.c = (k : Int) then unhold x else x
def letgo (A : List Bk) (p k : Nat) : List Bk := (unh A p k).filter keep
theorem of_upd {f : Bk → Bk} {z : Bk} (hi : Inv n pr A) (hy : y ∈ A) (hz : z ∈ upd A y.b f) : z = f y ∨ (z ∈ A ∧ z.b ≠ y.b) := by
  obtain ⟨w, hw, rfl⟩ := mem_upd.1 hz
  by_cases e : w.b = y.b
  · rw [if_pos e, hi.inj hw hy e]; exact .inl rfl
  · rw [if_neg e]; exact .inr ⟨hw, e⟩
theorem drp_upd {f : Bk → Bk} (hi : Inv n pr A) (hl : Live A) (kf : Keeps f) (hy : y ∈ A) : (upd A y.b f).filter keep = if keep (f y) = true then upd A y.b f else rem (upd A y.b f) y.b := by
  split
  · rename_i hk
    refine List.filter_eq_self.2 fun z hz => ?_
    rcases of_upd hi hy hz with rfl | ⟨h1, _⟩
    · exact hk
    · exact hl z h1
  · rename_i hk
    unfold rem
    refine List.filter_congr fun z hz => ?_
    rcases of_upd hi hy hz with rfl | ⟨h1, h2⟩
    · rw [kf.b]; simp; simpa using hk
    · rw [hl z h1]; simp [h2]
theorem unh_none {p k : Nat} (h : ∀ y ∈ A, ¬ (y.h = (p : Int) ∧ y.c = (k : Int))) : unh A p k = A := by
  unfold unh
  rw [List.map_congr_left (g := id) fun x hx => by rw [if_neg (h x hx)]; rfl, List.map_id]
theorem unh_upd {p k : Nat} (hi : Inv n pr A) (hy : y ∈ A) (h1 : y.h = (p : Int)) (h2 : y.c = (k : Int)) : unh A p k = upd A y.b unhold := by
  unfold unh upd
  refine List.map_congr_left fun x hx => ?_
  by_cases e : x.b = y.b
  · rw [if_pos e, hi.inj hx hy e, if_pos ⟨h1, h2⟩]
  · rw [if_neg e, if_neg]
    rintro ⟨e1, e2⟩
    exact e (hi.one x hx y hy (by omega) (by omega) (by omega))
theorem live_filter (A : List Bk) : Live (A.filter keep) := fun _ hx => (List.mem_filter.1 hx).2
/-- A class's block. -/
theorem kind_class {j : Nat} (hi : Inv n pr A) (hy : y ∈ A) (hc : y.c = (j : Int)) : j < 16 ∧ y.k = cpg j ∧ y.wd = cw j ∧ y.u.length = ccl j ∧ -1 ≤ y.h ∧ y.h < (pr : Int) := by
  rcases hi.kind y hy with ⟨e, _⟩ | ⟨e, _⟩ | ⟨i, h1, h2, h3, h4, h5, h6, h7⟩
  · omega
  · omega
  · obtain rfl : i = j := by omega
    exact ⟨h1, h3, h4, h5, h6, h7⟩
theorem unhold_inv (hi : Inv n pr A) (hy : y ∈ A) {k : Nat} (h2 : y.c = (k : Int)) : Inv n pr (upd A y.b unhold) :=
  upd_inv hi unhold_keeps (fun z hz e => by
    obtain rfl := hi.inj hz hy e
    obtain ⟨q1, q2, q3, q4, q5, q6⟩ := kind_class hi hz h2
    exact .inr (.inr ⟨k, q1, h2, q2, q3, q4, by show (-1 : Int) ≤ -1; omega, by show (-1 : Int) < _; omega⟩)) (fun z _ _ h => absurd h (by show ¬ (0 : Int) ≤ -1; omega))
theorem Cl.unhold (h : Cl n pr F a W A) (hy : y ∈ A) {p k : Nat} (hp : p < pr) (h1 : y.h = (p : Int)) (h2 : y.c = (k : Int)) :
    Cl n pr F a ((W.setCell ⟨a.hp p, k, none⟩ (.pointer none)).setCell ⟨a.pb y.b, 6, none⟩ (.bool false)) (upd A y.b unhold) ∧ Cha (fun j => j = a.pb y.b ∨ j = a.hp p) W ((W.setCell ⟨a.hp p, k, none⟩ (.pointer none)).setCell ⟨a.pb y.b, 6, none⟩ (.bool false)) := by
  have hc : y.c ≠ -2 := by omega
  have B := h.bl y hy hc
  have inv' := unhold_inv h.inv hy h2
  have c := cha2 W (a.pb y.b) (a.hp p) k 6 (.pointer none) (.bool false)
  have ne1 : a.pb y.b ≠ a.hp p := ty_ne B.hd (h.hr p hp) (by decide)
  have hv1 : ∀ p' c, ¬ (p' = p ∧ c = k) → hv a.pb A p' c = hv a.pb (upd A y.b _root_.Go.Proofs.YtiboobaggpghjaaDoor.unhold) p' c := fun p' c hne => hv_eq h.inv inv' (fun b => by
    constructor
    · rintro ⟨z, hz, e1, e2, e3⟩
      refine ⟨_, mem_upd.2 ⟨z, hz, rfl⟩, ?_⟩
      by_cases e : z.b = y.b
      · have := h.inv.inj hz hy e
        subst this
        exact absurd ⟨by omega, by omega⟩ hne
      · rw [if_neg e]; exact ⟨e1, e2, e3⟩
    · rintro ⟨z, hz, e1, e2, e3⟩
      rcases of_upd h.inv hy hz with rfl | ⟨q1, _⟩
      · have e2 : (-1 : Int) = p' := e2
        omega
      · exact ⟨z, q1, e1, e2, e3⟩) (fun _ _ _ _ => rfl)
  have hv2 : hv a.pb (upd A y.b _root_.Go.Proofs.YtiboobaggpghjaaDoor.unhold) p k = .pointer none := hv_none fun z hz e => by
    rcases of_upd h.inv hy hz with rfl | ⟨q1, q2⟩
    · have e1 : (-1 : Int) = p := e.1
      omega
    · exact q2 (h.inv.one z q1 y hy (by omega) (by omega) (by omega))
  refine ⟨h.turn hy hc unhold_keeps inv' c (fun j hj => by rcases hj with e | e; exact .inl e; exact .inr (.inr ⟨p, hp, e⟩)) ⟨?_, ?_⟩ fun p' hp' => ?_, c⟩
  · have q1 : (W.setCell ⟨a.hp p, k, none⟩ (.pointer none)).heap[a.pb y.b]? = some (.cells (bkC (a.ub y.b) y) 81 (0, 0)) := (heap_setCell_other _ _ _ _ ne1).trans B.hd
    rw [heap_setCell_same _ (a.pb y.b) 6 _ 81 (.bool false) q1]
    rfl
  · exact c.row B.us (by
      rintro (e | e)
      · exact ty_ne B.hd B.us (by decide) e.symm
      · exact ty_ne B.us (h.hr p hp) (by decide) e)
  · have R := h.hr p' hp'
    by_cases e : p' = p
    · subst e
      have q1 := R.set (i := k) (.pointer none)
      have q2 : FRow 74 ((W.setCell ⟨a.hp p', k, none⟩ (.pointer none)).setCell ⟨a.pb y.b, 6, none⟩ (.bool false)) (a.hp p') 16 _ := (heap_setCell_other _ _ _ _ (fun e => ne1 e.symm)).trans q1
      refine q2.congr fun x _ => ?_
      by_cases ex : x = k
      · rw [if_pos ex, ex, hv2]
      · rw [if_neg ex, hv1 p' x (fun c => ex c.2)]
    · have e2 : hv a.pb A p' = hv a.pb (upd A y.b _root_.Go.Proofs.YtiboobaggpghjaaDoor.unhold) p' := funext fun x => hv1 p' x (fun c => e c.1)
      rw [← e2]
      refine c.row R ?_
      rintro (e3 | e3)
      · exact ty_ne B.hd R (by decide) e3.symm
      · exact e (h.hpi p' p hp' hp e3)
set_option maxHeartbeats 2000000 in
theorem letgo_any (h : Cl n pr F a W A) (hl : Live A) (p k : Nat) (hp : p < pr) (hk : k < 16) : Calls Tryd.prog 54 #[.pointer (some ⟨a.bc, 0, none⟩), .int .i64 (p : Int), .int .i64 (k : Int)] W fun e w' => e = .returned (.tuple #[]) ∧ Cl n pr F a w' (letgo A p k) ∧ Cha F W w' := by
  have c2 := h.c2
  have h8 := h.prr
  have r1 := h.hd.cell hp
  have r2 := (h.hr p hp).cell hk
  have rf := (h.hr p hp).free k
  rcases hv_cases (pb := a.pb) h.inv p k with ⟨y, hy, q1, q2, e⟩ | ⟨hno, e⟩
  · rw [e] at r2
    have hc : y.c ≠ -2 := by omega
    have B := h.bl y hy hc
    have b6 := B.cells.2.2.2.2
    have bf := B.free 6
    have ne1 : a.pb y.b ≠ a.hp p := ty_ne B.hd (h.hr p hp) (by decide)
    have ne2 : a.bc ≠ a.hp p := ty_ne h.head (h.hr p hp) (by decide)
    have ne3 : a.hb ≠ a.hp p := ty_ne h.hd (h.hr p hp) (by decide)
    obtain ⟨H1, C1⟩ := h.unhold hy hp q1 q2
    have hu : unhold y ∈ upd A y.b unhold := mem_upd.2 ⟨y, hy, by rw [if_pos rfl]⟩
    have hd := drp_upd h.inv hl unhold_keeps hy
    rw [← unh_upd h.inv hy q1 q2] at hd
    have CF := Lib.hid (C1.mono (T := F) fun j _ hj => by rcases hj with e | e; exact e ▸ (h.ownb y hy hc).1; exact e ▸ h.ownh p hp)
    have HL := Lib.hid hd
    have G : Hid (Calls Tryd.prog 53 #[.pointer (some ⟨a.bc, 0, none⟩), .pointer (some ⟨a.pb y.b, 0, none⟩)] ((W.setCell ⟨a.hp p, k, none⟩ (.pointer none)).setCell ⟨a.pb y.b, 6, none⟩ (.bool false)) fun e w' => e = .returned (.tuple #[]) ∧ Cl n pr F a w' (letgo A p k) ∧ Cha F W w') := by
      refine Lib.hid ?_
      cases hkk : keep (unhold y)
      · refine (give_drop H1 hu hc hkk).mono fun e w' ⟨he, h2, h3⟩ => ⟨he, ?_, CF.out.trans (h3.mono fun j _ hj => ?_)⟩
        · unfold letgo
          rw [HL.out, if_neg (by rw [hkk]; simp), unh_upd h.inv hy q1 q2]; exact h2
        · rcases hj with e | e | e
          · exact e ▸ h.own.2.2.2.1
          · exact e ▸ h.own.2.2.2.2.1
          · exact e ▸ h.own.2.2.2.2.2.1
      · refine (give_keep H1 hu hc hkk).mono fun e w' ⟨he, hw⟩ => ⟨he, ?_, hw ▸ CF.out⟩
        unfold letgo
        rw [HL.out, if_pos hkk, unh_upd h.inv hy q1 q2, ← hw]; exact H1
    clear h hl H1 C1 hu hd B e q1 q2 hy hc
    generalize a.pb y.b = pby at *
    go_enter Tryd.func54, Tryd.ntmps54
    go_wp2_with (go_at_call 53; ((with_reducible refine (G.out).mono ?_); rintro e w1 ⟨rfl, hx, hy⟩; have HX := Lib.hid hx; have HY := Lib.hid hy; clear hx hy))
    go_end0
    exact ⟨rfl, HX.out, HY.out⟩
  · rw [e] at r2
    have hL : letgo A p k = A := by
      unfold letgo
      rw [unh_none hno, List.filter_eq_self.2 hl]
    rw [hL]
    have H := Lib.hid h
    clear h hl e hno hL
    go_enter Tryd.func54, Tryd.ntmps54
    go_wp2
    exact bodyPost_ret (results_none rfl _ _ _) rfl ⟨rfl, H.out, Cha.refl _ _⟩
end Go.Proofs.YtiboobaggpghjaaDoor
