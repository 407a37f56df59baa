/- Layer 7's Free and Flush: contracts. -/
import Derived.Test.YtiboobaggpghjaaDoorDN
namespace Go.Proofs.YtiboobaggpghjaaDoor
open Go.ChangeShapes Go.WideShapes Go.ChangeAt Go.RowKit
variable {n pr : Nat} {F : Nat → Prop} {a : Ad} {W : World} {A : List Bk} {y : Bk}

def freeB (i : Nat) (y : Bk) : Bk := { y with u := y.u.set i false }
theorem freeB_keeps (i : Nat) : Keeps (freeB i) := ⟨fun _ => rfl, fun _ => rfl, fun _ => rfl, fun _ => rfl⟩
def begAt (y : Bk) (i : Nat) : Int := ((y.b * 64 + i * y.wd : Nat) : Int)
/-- What Free answers: the blocks behind it, the error. -/
inductive Fre7 (A : List Bk) (x : Int) : List Bk → Int → Prop where
  | no : NoHit A x → Fre7 A x A 4
  | mid (y : Bk) (i : Nat) : Hit A x y i → x ≠ begAt y i → Fre7 A x A 4
  | yes (y : Bk) (i : Nat) : Hit A x y i → x = begAt y i → Fre7 A x ((upd A y.b (freeB i)).filter keep) 0
theorem Fre7.ex (A : List Bk) (x : Int) : ∃ A' r, Fre7 A x A' r := by
  by_cases e : ∃ y i, Hit A x y i
  · obtain ⟨y, i, h⟩ := e
    by_cases e2 : x = begAt y i
    · exact ⟨_, _, .yes y i h e2⟩
    · exact ⟨_, _, .mid y i h e2⟩
  · exact ⟨_, _, .no fun y i h => e ⟨y, i, h⟩⟩
/-- An error is answered, and the blocks are turned. -/
def Eres (n pr : Nat) (F : Nat → Prop) (a : Ad) (W : World) (A' : List Bk) (r : Int) (e : Ending) (w' : World) : Prop :=
  e = .returned (.int .i64 r) ∧ Cl n pr F a w' A' ∧ Cha F W w'
theorem free7_no (h : Cl n pr F a W A) {x : Int} (hx : x ≤ 9223372036854775807) (hn : NoHit A x) : Calls Tryd.prog 32 #[.pointer (some ⟨a.bc, 0, none⟩), .int .i64 x] W (Eres n pr F a W A 4) := by
  have C := Lib.hid (usedAt_no h hx hn)
  have H := Lib.hid h
  unfold nilNo at C
  clear h hn
  go_enter Tryd.func32, Tryd.ntmps32
  go_wp2_with (go_at_call 43; ((with_reducible refine (C.out).mono ?_); rintro e w1 ⟨rfl, hc⟩; have HC := Lib.hid hc; clear hc))
  go_ret
  exact ⟨rfl, H.out.same HC.out, HC.out.wide⟩
set_option maxHeartbeats 1000000 in
theorem free7_mid (h : Cl n pr F a W A) {x : Int} {i : Nat} (hh : Hit A x y i) (hne : x ≠ begAt y i) : Calls Tryd.prog 32 #[.pointer (some ⟨a.bc, 0, none⟩), .int .i64 x] W (Eres n pr F a W A 4) := by
  have C := Lib.hid (usedAt_yes h hh)
  have H := Lib.hid h
  obtain ⟨hn, _⟩ := h.nle
  have hr := h.inv.rng y hh.mem
  obtain ⟨f1, f2, f3, f4⟩ := h.inv.fits hh.mem
  have hi := hh.lt
  have PL : Hid (∀ W', Cha (fun _ => False) W W' → Calls Tryd.prog 44 #[.pointer (some ⟨a.pb y.b, 0, none⟩), .int .i64 (i : Int)] W' (Draws (.int .i64 (begAt y i)) W')) := Lib.hid fun W' hc => place_any ((h.bl y hh.mem (hit_nb hh h.inv)).cha hc (fun x => x) (fun x => x)) i (by omega) (by omega) (by omega)
  have hne2 : (begAt y i == x) = false := by rw [beq_eq_false_iff_ne]; exact fun e => hne e.symm
  have HNE := Lib.hid hne
  clear h hh f4 hne
  generalize begAt y i = v at *
  generalize a.pb y.b = q at *
  go_enter Tryd.func32, Tryd.ntmps32
  go_wp2_with (first
    | (go_at_call 43; ((with_reducible refine (C.out).mono ?_); rintro e w1 ⟨rfl, hc⟩; have HC := Lib.hid hc; clear hc))
    | (go_at_call 44; ((with_reducible refine (PL.out _ HC.out).mono ?_); rintro e w2 ⟨rfl, m, rfl⟩)))
  go_ret
  exact ⟨rfl, H.out.same (HC.out.drewN m), (HC.out.drewN m).wide⟩
set_option maxHeartbeats 4000000 in
theorem free7_yes (h : Cl n pr F a W A) (hl : Live A) {i : Nat} (hh : Hit A (begAt y i) y i) : Calls Tryd.prog 32 #[.pointer (some ⟨a.bc, 0, none⟩), .int .i64 (begAt y i)] W (Eres n pr F a W ((upd A y.b (freeB i)).filter keep) 0) := by
  have C := Lib.hid (usedAt_yes h hh)
  obtain ⟨hn, _⟩ := h.nle
  have hr := h.inv.rng y hh.mem
  obtain ⟨f1, f2, f3, f4⟩ := h.inv.fits hh.mem
  have hi := hh.lt
  have hcn := hit_nb hh h.inv
  have hu := hh.used
  have hy := hh.mem
  have HY := Lib.hid hy
  have PL : Hid (∀ W', Cha (fun _ => False) W W' → Calls Tryd.prog 44 #[.pointer (some ⟨a.pb y.b, 0, none⟩), .int .i64 (i : Int)] W' (Draws (.int .i64 (begAt y i)) W')) := Lib.hid fun W' hc => place_any ((h.bl y hh.mem hcn).cha hc (fun x => x) (fun x => x)) i (by omega) (by omega) (by omega)
  have hcs : ((cnt y.u : Int) - 1) = (cnt (y.u.set i false) : Int) := by
    have := cnt_set (u := y.u) (i := i) (v := false) hu
    simp at this; omega
  have hc1 : 1 ≤ cnt y.u := by
    have := cnt_set (u := y.u) (i := i) (v := false) hu
    simp at this; omega
  have hcl := cnt_le y.u
  have hub : freeB i y ∈ upd A y.b (freeB i) := mem_upd.2 ⟨y, hy, by rw [if_pos rfl]⟩
  have hd := drp_upd h.inv hl (freeB_keeps i) hy
  have hne : a.pb y.b ≠ a.ub y.b := ty_ne (h.bl y hy hcn).hd (h.bl y hy hcn).us (by decide)
  have ob := h.ownb y hy hcn
  have FACT : Hid (∀ W', Cha (fun _ => False) W W' → W'.cell? ⟨a.pb y.b, 4, none⟩ = some (.slice (some ⟨a.ub y.b, 0, none⟩) y.u.length y.u.length) ∧ W'.cell? ⟨a.pb y.b, 5, none⟩ = some (.int .i64 (cnt y.u : Int)) ∧ W'.cell? ⟨a.ub y.b, i, none⟩ = some (.bool true) ∧ W'.frozen? ⟨a.ub y.b, i, none⟩ = false ∧ W'.frozen? ⟨a.pb y.b, 5, none⟩ = false ∧
      Calls Tryd.prog 53 #[.pointer (some ⟨a.bc, 0, none⟩), .pointer (some ⟨a.pb y.b, 0, none⟩)] ((W'.setCell ⟨a.ub y.b, i, none⟩ (.bool false)).setCell ⟨a.pb y.b, 5, none⟩ (.int .i64 ((cnt y.u : Int) - 1))) fun e w' => e = .returned (.tuple #[]) ∧ Cl n pr F a w' ((upd A y.b (freeB i)).filter keep) ∧ Cha F W w') := Lib.hid fun W' hc => by
    have B := (h.bl y hy hcn).cha hc (fun x => x) (fun x => x)
    have hch := cha2 W' (a.pb y.b) (a.ub y.b) i 5 (.bool false) (.int .i64 ((cnt y.u : Int) - 1))
    have H1 := (h.same hc).marks hy hcn (freeB_keeps i) (by unfold freeB; simp) (fun _ => rfl) (B.setu (v := false) hu hcs) hch
    have CF : Cha F W ((W'.setCell ⟨a.ub y.b, i, none⟩ (.bool false)).setCell ⟨a.pb y.b, 5, none⟩ (.int .i64 ((cnt y.u : Int) - 1))) := hc.wide.trans (hch.mono fun j _ hj => by rcases hj with e | e; exact e ▸ ob.1; exact e ▸ ob.2)
    refine ⟨B.cells.2.2.1, B.cells.2.2.2.1, B.mark hu, B.us.free i, B.free 5, ?_⟩
    cases hkk : keep (freeB i y)
    · refine (give_drop H1 hub hcn hkk).mono fun e w' ⟨he, h2, h3⟩ => ⟨he, ?_, CF.trans (h3.mono fun j _ hj => ?_)⟩
      · rw [hd, if_neg (by rw [hkk]; simp)]; exact h2
      · rcases hj with e | e | e
        · exact e ▸ h.own.2.2.2.1
        · exact e ▸ h.own.2.2.2.2.1
        · exact e ▸ h.own.2.2.2.2.2.1
    · refine (give_keep H1 hub hcn hkk).mono fun e w' ⟨he, hw⟩ => ⟨he, ?_, hw ▸ CF⟩
      rw [hd, if_pos hkk, ← hw]; exact H1
  have hv : begAt y i = begAt y i := rfl
  clear h hl hh f4 hub hd hu hy hv ob hcs
  generalize begAt y i = v at *
  generalize a.pb y.b = q at *
  generalize a.ub y.b = q2 at *
  generalize cnt y.u = cc at *
  generalize y.u.length = ll at *
  go_enter Tryd.func32, Tryd.ntmps32
  go_wp2_with (first
    | (go_at_call 43; ((with_reducible refine (C.out).mono ?_); rintro e w1 ⟨rfl, hc⟩; have HC := Lib.hid hc; clear hc))
    | (go_at_call 44; ((with_reducible refine (PL.out _ HC.out).mono ?_); rintro e w2 ⟨rfl, m, rfl⟩; obtain ⟨g1, g2, g3, g4, g5, g6⟩ := FACT.out _ (HC.out.drewN m); have G := Lib.hid g6; clear g6))
    | (go_at_call 53; ((with_reducible refine (G.out).mono ?_); rintro e w3 ⟨rfl, hx, hc⟩; have H3 := Lib.hid hx; have C3 := Lib.hid hc; clear hx hc)))
  go_ret
  exact ⟨rfl, H3.out, C3.out⟩
theorem free7_any (h : Cl n pr F a W A) (hl : Live A) {x r : Int} {A' : List Bk} (c : Fre7 A x A' r) (hx : x ≤ 9223372036854775807) : Calls Tryd.prog 32 #[.pointer (some ⟨a.bc, 0, none⟩), .int .i64 x] W (Eres n pr F a W A' r) := by
  cases c with
  | no hn => exact free7_no h hx hn
  | mid y i hh hne => exact free7_mid h hh hne
  | yes y i hh he => subst he; exact free7_yes h hl hh

/-! ### Flush -/
def lgN (A : List Bk) (p : Nat) : Nat → List Bk
  | 0 => A
  | k + 1 => letgo (lgN A p k) p k
def flushed (A : List Bk) (p : Nat) : List Bk := (A.map fun x => if x.h = (p : Int) then unhold x else x).filter keep
theorem filter_map_filter {g : Bk → Bk} (hg : ∀ z, keep z = false → g z = z) (X : List Bk) : ((X.filter keep).map g).filter keep = (X.map g).filter keep := by
  induction X with
  | nil => rfl
  | cons z X ih =>
    rw [List.filter_cons]
    cases hk : keep z
    · simp only [Bool.false_eq_true, if_false]
      rw [ih, List.map_cons, List.filter_cons, hg z hk, hk]; rfl
    · simp only [if_true]
      rw [List.map_cons, List.map_cons, List.filter_cons, List.filter_cons, ih]
theorem lgN_is (hl : Live A) (p : Nat) : ∀ k, lgN A p k = (A.map fun x => if x.h = (p : Int) ∧ 0 ≤ x.c ∧ x.c < (k : Int) then unhold x else x).filter keep
  | 0 => by
    rw [List.map_congr_left (g := id) fun x _ => by rw [if_neg (by omega)]; rfl, List.map_id, List.filter_eq_self.2 hl]; rfl
  | k + 1 => by
    show letgo (lgN A p k) p k = _
    rw [lgN_is hl p k]
    unfold letgo unh
    rw [filter_map_filter (fun z hz => ?_), List.map_map]
    · congr 1
      refine List.map_congr_left fun x _ => ?_
      show (if (if x.h = (p : Int) ∧ 0 ≤ x.c ∧ x.c < (k : Int) then unhold x else x).h = (p : Int) ∧ (if x.h = (p : Int) ∧ 0 ≤ x.c ∧ x.c < (k : Int) then unhold x else x).c = (k : Int) then unhold (if x.h = (p : Int) ∧ 0 ≤ x.c ∧ x.c < (k : Int) then unhold x else x) else (if x.h = (p : Int) ∧ 0 ≤ x.c ∧ x.c < (k : Int) then unhold x else x)) = _
      by_cases e : x.h = (p : Int) ∧ 0 ≤ x.c ∧ x.c < (k : Int)
      · rw [if_pos e, if_neg, if_pos (by omega)]
        rintro ⟨e1, _⟩
        have e1 : (-1 : Int) = p := e1
        omega
      · rw [if_neg e]
        by_cases e2 : x.h = (p : Int) ∧ x.c = (k : Int)
        · rw [if_pos e2, if_pos (by omega)]
        · rw [if_neg e2, if_neg (by omega)]
    · rw [if_neg]
      rintro ⟨e, _⟩
      have := keep_iff.2 (.inr (.inl (show 0 ≤ z.h by omega)))
      rw [hz] at this; cases this
theorem lgN_all (hi : Inv n pr A) (hl : Live A) (p : Nat) : lgN A p 16 = flushed A p := by
  rw [lgN_is hl p 16]
  unfold flushed
  congr 1
  refine List.map_congr_left fun x hx => ?_
  by_cases e : x.h = (p : Int)
  · rw [if_pos e, if_pos]
    rcases hi.kind x hx with ⟨_, _, _, h⟩ | ⟨_, _, _, h⟩ | ⟨j, h1, h2, _⟩
    · omega
    · omega
    · exact ⟨e, by omega, by omega⟩
  · rw [if_neg e, if_neg (fun c => e c.1)]
theorem lgN_live (hl : Live A) (p : Nat) : ∀ k, Live (lgN A p k)
  | 0 => hl
  | _ + 1 => live_filter _
theorem flush_bad (h : Cl n pr F a W A) (p : Int) (hp : p < 0 ∨ (pr : Int) ≤ p) : Calls Tryd.prog 33 #[.pointer (some ⟨a.bc, 0, none⟩), .int .i64 p] W (Eres n pr F a W A 1) := by
  have C := Lib.hid (isProc_no h p hp)
  have H := Lib.hid h
  clear h hp
  go_enter Tryd.func33, Tryd.ntmps33
  go_wp2_with (go_at_call 50; ((with_reducible refine (C.out).mono ?_); rintro e w1 ⟨rfl, rfl⟩))
  go_ret
  exact ⟨rfl, H.out, Cha.refl _ _⟩
set_option maxHeartbeats 2000000 in
theorem flush_ok (h : Cl n pr F a W A) (hl : Live A) (p : Nat) (hp : p < pr) : Calls Tryd.prog 33 #[.pointer (some ⟨a.bc, 0, none⟩), .int .i64 (p : Int)] W (Eres n pr F a W (flushed A p) 0) := by
  have C := Lib.hid (isProc_yes h p hp)
  have c2 := h.c2
  have h8 := h.prr
  have r1 := h.hd.cell hp
  have H := Lib.hid h
  have HL := Lib.hid hl
  rw [← lgN_all h.inv hl p]
  clear h hl
  go_enter Tryd.func33, Tryd.ntmps33
  go_wp2_with (go_at_call 50; ((with_reducible refine (C.out).mono ?_); rintro e w1 ⟨rfl, rfl⟩))
  go_loopw [20] (fun i wr => ∃ k : Nat, k ≤ 16 ∧ i = .int .i64 (k : Int) ∧ Cl n pr F a wr (lgN A p k) ∧ Cha F W wr) (fun i _ => 16 - (intOf i).toNat)
  case atStart => exact ⟨0, by omega, rfl, H.out, Cha.refl _ _⟩
  case round =>
    clear c2 r1 H
    obtain ⟨k, hk, rfl, h, hc⟩ := hrel
    by_cases hlt : k < 16
    · have L := Lib.hid (letgo_any h (lgN_live HL.out p k) p k hp hlt)
      have HC := Lib.hid hc
      clear h hc
      go_wp2_with (go_at_call 54; ((with_reducible refine (L.out).mono ?_); rintro e w2 ⟨rfl, hx, hc⟩; have HX := Lib.hid hx; have C2 := Lib.hid hc; clear hx hc))
      go_roundw
      case rel => exact ⟨k + 1, by omega, by go_num, HX.out, HC.out.trans C2.out⟩
      case measure => simp [intOf]; omega
    · obtain rfl : k = 16 := by omega
      have HX := Lib.hid h
      have HC := Lib.hid hc
      clear h hc
      go_wp2
      go_ret
      exact ⟨rfl, HX.out, HC.out⟩
end Go.Proofs.YtiboobaggpghjaaDoor
