/- Layer 7's hold: contracts. -/
import Derived.Test.YtiboobaggpghjaaDoorDI
namespace Go.Proofs.YtiboobaggpghjaaDoor
open Go.ChangeShapes Go.WideShapes Go.ChangeAt Go.RowKit
variable {n pr : Nat} {F : Nat → Prop} {a : Ad} {W : World} {A : List Bk} {y : Bk}

theorem Least.one {k : Nat} {z : Bk} (hi : Inv n pr A) (h : Least A k y) (g : Least A k z) : y = z :=
  hi.inj h.opn.1 g.opn.1 (Nat.le_antisymm (h.le z g.opn) (g.le y h.opn))
theorem fopen_yes (h : Cl n pr F a W A) {k : Nat} (hk : k < 16) (hy : Least A k y) : Calls Tryd.prog 77 #[.pointer (some ⟨a.bc, 0, none⟩), .int .i64 (k : Int)] W fun e W' => e = .returned (.pointer (some ⟨a.pb y.b, 0, none⟩)) ∧ Cha (fun _ => False) W W' :=
  (fopen_any k hk h).mono fun e W' ⟨hr, hc⟩ => by
    refine ⟨?_, hc⟩
    rcases hr with ⟨z, hz, he⟩ | ⟨hno, _⟩
    · rw [hy.one h.inv hz]; exact he
    · exact absurd hy.opn (hno y)
theorem fopen_no (h : Cl n pr F a W A) {k : Nat} (hk : k < 16) (hno : NoOpn A k) : Calls Tryd.prog 77 #[.pointer (some ⟨a.bc, 0, none⟩), .int .i64 (k : Int)] W fun e W' => e = .returned (.pointer none) ∧ Cha (fun _ => False) W W' :=
  (fopen_any k hk h).mono fun e W' ⟨hr, hc⟩ => by
    refine ⟨?_, hc⟩
    rcases hr with ⟨z, hz, he⟩ | ⟨_, he⟩
    · exact absurd hz.opn (hno z)
    · exact he

def holdB (p : Nat) (y : Bk) : Bk := { y with h := (p : Int) }
theorem holdB_keeps (p : Nat) : Keeps (holdB p) := ⟨fun _ => rfl, fun _ => rfl, fun _ => rfl, fun _ => rfl⟩
theorem hold_inv {p k : Nat} (hi : Inv n pr A) (hy : y ∈ A) (hp : p < pr) (h2 : y.c = (k : Int)) (hno : ∀ z ∈ A, ¬ (z.h = (p : Int) ∧ z.c = (k : Int))) : Inv n pr (upd A y.b (holdB p)) :=
  upd_inv hi (holdB_keeps p) (fun z hz e => by
    obtain rfl := hi.inj hz hy e
    obtain ⟨q1, q2, q3, q4, q5, q6⟩ := kind_class hi hz h2
    exact .inr (.inr ⟨k, q1, h2, q2, q3, q4, by show (-1 : Int) ≤ (p : Int); omega, by show (p : Int) < _; omega⟩)) (fun z hz e _ => by
    obtain rfl := hi.inj hz hy e
    exact .inr fun w hw c => hno w hw ⟨c.1, by omega⟩)
/-- A processor holds a block. -/
theorem Cl.hold (h : Cl n pr F a W A) (hy : y ∈ A) {p k : Nat} (hp : p < pr) (h2 : y.c = (k : Int)) (h0 : ¬ 0 ≤ y.h) (hno : ∀ z ∈ A, ¬ (z.h = (p : Int) ∧ z.c = (k : Int))) :
    Cl n pr F a ((W.setCell ⟨a.pb y.b, 6, none⟩ (.bool true)).setCell ⟨a.hp p, k, none⟩ (.pointer (some ⟨a.pb y.b, 0, none⟩))) (upd A y.b (holdB p)) ∧ Cha (fun j => j = a.hp p ∨ j = a.pb y.b) W ((W.setCell ⟨a.pb y.b, 6, none⟩ (.bool true)).setCell ⟨a.hp p, k, none⟩ (.pointer (some ⟨a.pb y.b, 0, none⟩))) := by
  have hc : y.c ≠ -2 := by omega
  have B := h.bl y hy hc
  have inv' := hold_inv h.inv hy hp h2 hno
  have c := cha2 W (a.hp p) (a.pb y.b) 6 k (.bool true) (.pointer (some ⟨a.pb y.b, 0, none⟩))
  have ne1 : a.pb y.b ≠ a.hp p := ty_ne B.hd (h.hr p hp) (by decide)
  have hu : holdB p y ∈ upd A y.b (holdB p) := mem_upd.2 ⟨y, hy, by rw [if_pos rfl]⟩
  have hv1 : ∀ p' c, ¬ (p' = p ∧ c = k) → hv a.pb A p' c = hv a.pb (upd A y.b (holdB p)) p' c := fun p' c hne => hv_eq h.inv inv' (fun b => by
    constructor
    · rintro ⟨z, hz, e1, e2, e3⟩
      refine ⟨_, mem_upd.2 ⟨z, hz, rfl⟩, ?_⟩
      by_cases e : z.b = y.b
      · have := h.inv.inj hz hy e
        subst this
        exact absurd (by omega) h0
      · rw [if_neg e]; exact ⟨e1, e2, e3⟩
    · rintro ⟨z, hz, e1, e2, e3⟩
      rcases of_upd h.inv hy hz with rfl | ⟨q1, _⟩
      · have e2 : (p : Int) = p' := e2
        have e3 : y.c = (c : Int) := e3
        exact absurd ⟨by omega, by omega⟩ hne
      · exact ⟨z, q1, e1, e2, e3⟩) (fun _ _ _ _ => rfl)
  have hv2 : hv a.pb (upd A y.b (holdB p)) p k = .pointer (some ⟨a.pb y.b, 0, none⟩) := hv_some (y := holdB p y) inv' hu rfl h2
  refine ⟨h.turn hy hc (holdB_keeps p) inv' c (fun j hj => by rcases hj with e | e; exact .inr (.inr ⟨p, hp, e⟩); exact .inl e) ⟨?_, ?_⟩ fun p' hp' => ?_, c⟩
  · have q1 := heap_setCell_same W (a.pb y.b) 6 _ 81 (.bool true) B.hd
    rw [(heap_setCell_other _ _ _ _ ne1).trans q1]
    unfold bkC holdB
    simp
  · exact c.row B.us (by
      rintro (e | e)
      · exact ty_ne B.us (h.hr p hp) (by decide) e
      · exact ty_ne B.hd B.us (by decide) e.symm)
  · have R := h.hr p' hp'
    by_cases e : p' = p
    · subst e
      have R2 : FRow 74 (W.setCell ⟨a.pb y.b, 6, none⟩ (.bool true)) (a.hp p') 16 (hv a.pb A p') := (heap_setCell_other _ _ _ _ (fun e => ne1 e.symm)).trans R
      refine (R2.set (i := k) _).congr fun x _ => ?_
      by_cases ex : x = k
      · rw [if_pos ex, ex, hv2]
      · rw [if_neg ex, hv1 p' x (fun c => ex c.2)]
    · have e2 : hv a.pb A p' = hv a.pb (upd A y.b (holdB p)) p' := funext fun x => hv1 p' x (fun c => e c.1)
      rw [← e2]
      refine c.row R ?_
      rintro (e3 | e3)
      · exact e (h.hpi p' p hp' hp e3)
      · exact ty_ne B.hd R (by decide) e3.symm

/-- What a call leaves. -/
structure Got (n pr : Nat) (F : Nat → Prop) (a : Ad) (W w' : World) (A' : List Bk) (F' : Nat → Prop) (a' : Ad) : Prop where
  cl : Cl n pr F' a' w' A'
  bc : a'.bc = a.bc
  cha : Cha F W w'
  sub : ∀ i, F' i → F i ∨ W.heap.size ≤ i
  sup : ∀ i, F i → F' i
/-- No block of the class that p holds has a free cell. -/
def NoHeld (A : List Bk) (p k : Nat) : Prop := ∀ z ∈ A, z.h = (p : Int) → z.c = (k : Int) → false ∉ z.u
theorem unh_inv {p k : Nat} (hi : Inv n pr A) : Inv n pr (unh A p k) := by
  by_cases e : ∃ y ∈ A, y.h = (p : Int) ∧ y.c = (k : Int)
  · obtain ⟨y, hy, h1, h2⟩ := e
    rw [unh_upd hi hy h1 h2]; exact unhold_inv hi hy h2
  · rw [unh_none fun y hy c => e ⟨y, hy, c⟩]; exact hi
theorem letgo_unh {p k : Nat} (hi : Inv n pr A) (hl : Live A) (hno : NoHeld A p k) : letgo A p k = unh A p k ∧ Live (unh A p k) := by
  have hlive : Live (unh A p k) := fun z hz => by
    unfold unh at hz
    obtain ⟨w, hw, rfl⟩ := List.mem_map.1 hz
    split
    · rename_i c
      obtain ⟨q1, q2, q3, q4, _⟩ := kind_class hi hw c.2
      refine keep_iff.2 (.inr (.inr ?_))
      show 0 < cnt w.u
      rw [cnt_full.2 (hno w hw c.1 c.2), q4]
      obtain ⟨_, _, _, _, h5, _⟩ := cw_ok k q1
      omega
    · exact hl w hw
  exact ⟨List.filter_eq_self.2 hlive, hlive⟩
theorem unh_not {p k : Nat} {z : Bk} (hz : z ∈ unh A p k) : ¬ (z.h = (p : Int) ∧ z.c = (k : Int)) := by
  unfold unh at hz
  obtain ⟨w, hw, rfl⟩ := List.mem_map.1 hz
  split
  · rintro ⟨e, _⟩
    have e : (-1 : Int) = p := e
    omega
  · rename_i c; exact c
/-- The processor's row, and what stands there. -/
theorem row_cases (h : Cl n pr F a W A) {p k : Nat} (hno : NoHeld A p k) : (hv a.pb A p k = .pointer none) ∨ ∃ z ∈ A, z.c ≠ -2 ∧ hv a.pb A p k = .pointer (some ⟨a.pb z.b, 0, none⟩) ∧ false ∉ z.u := by
  rcases hv_cases (pb := a.pb) h.inv p k with ⟨z, hz, q1, q2, e⟩ | ⟨_, e⟩
  · exact .inr ⟨z, hz, by omega, e, hno z hz q1 q2⟩
  · exact .inl e
set_option maxHeartbeats 2000000 in
theorem hold_held (h : Cl n pr F a W A) (p k : Nat) (hp : p < pr) (hk : k < 16) (hy : y ∈ A) (h1 : y.h = (p : Int)) (h2 : y.c = (k : Int)) (hu : false ∈ y.u) : Calls Tryd.prog 67 #[.pointer (some ⟨a.bc, 0, none⟩), .int .i64 (p : Int), .int .i64 (k : Int)] W fun e w' => e = .returned (.tuple #[.pointer (some ⟨a.pb y.b, 0, none⟩), .int .i64 0]) ∧ Cl n pr F a w' A ∧ Cha (fun _ => False) W w' := by
  have c2 := h.c2
  have h8 := h.prr
  have r1 := h.hd.cell hp
  have r2 := (h.hr p hp).cell hk
  rw [hv_some h.inv hy h1 h2] at r2
  have FN := Lib.hid (full_no (h.bl y hy (by omega)) hu)
  have H := Lib.hid h
  clear h hu h1 h2
  generalize a.pb y.b = q at *
  go_enter Tryd.func67, Tryd.ntmps67
  go_wp2_with (go_at_call 76; ((with_reducible refine (FN.out).mono ?_); rintro e w1 ⟨rfl, m, rfl⟩))
  go_ret2
  exact ⟨rfl, H.out.same ((Cha.refl _ W).drewN m), (Cha.refl _ W).drewN m⟩
set_option maxHeartbeats 4000000 in
theorem hold_open (h : Cl n pr F a W A) (hl : Live A) (p k : Nat) (hp : p < pr) (hk : k < 16) (hno : NoHeld A p k) (hy : Least (unh A p k) k y) : Calls Tryd.prog 67 #[.pointer (some ⟨a.bc, 0, none⟩), .int .i64 (p : Int), .int .i64 (k : Int)] W fun e w' => e = .returned (.tuple #[.pointer (some ⟨a.pb y.b, 0, none⟩), .int .i64 0]) ∧ Cl n pr F a w' (upd (unh A p k) y.b (holdB p)) ∧ Cha F W w' := by
  have c2 := h.c2
  have h8 := h.prr
  have r1 := h.hd.cell hp
  have r2 := (h.hr p hp).cell hk
  obtain ⟨el, hlv⟩ := letgo_unh h.inv hl hno
  have LG : Hid (∀ W', Cha (fun _ => False) W W' → Calls Tryd.prog 54 #[.pointer (some ⟨a.bc, 0, none⟩), .int .i64 (p : Int), .int .i64 (k : Int)] W' fun e w' => e = .returned (.tuple #[]) ∧ Cl n pr F a w' (unh A p k) ∧ Cha F W w') := Lib.hid fun W' hc => (letgo_any (h.same hc) hl p k hp hk).mono fun e w' ⟨he, q1, q2⟩ => ⟨he, by rw [← el]; exact q1, hc.wide.trans q2⟩
  have FO : Hid (∀ W', Cl n pr F a W' (unh A p k) → Calls Tryd.prog 77 #[.pointer (some ⟨a.bc, 0, none⟩), .int .i64 (k : Int)] W' fun e w' => e = .returned (.pointer (some ⟨a.pb y.b, 0, none⟩)) ∧ Cl n pr F a w' (unh A p k) ∧ Cha (fun _ => False) W' w') := Lib.hid fun W' hc => (fopen_yes hc hk hy).mono fun e w' ⟨he, q1⟩ => ⟨he, hc.same q1, q1⟩
  have HYY := Lib.hid hy
  have FACT : Hid (∀ W', Cl n pr F a W' (unh A p k) → W'.cell? ⟨a.bc, 2, none⟩ = some (.slice (some ⟨a.hb, 0, none⟩) pr pr) ∧ W'.cell? ⟨a.hb, p, none⟩ = some (.slice (some ⟨a.hp p, 0, none⟩) 16 16) ∧ (∃ v, W'.cell? ⟨a.hp p, k, none⟩ = some v ∧ v = .pointer none) ∧ W'.frozen? ⟨a.hp p, k, none⟩ = false ∧ (∃ v, W'.cell? ⟨a.pb y.b, 6, none⟩ = some v ∧ v = .bool false) ∧ W'.frozen? ⟨a.pb y.b, 6, none⟩ = false ∧ a.bc ≠ a.pb y.b ∧ a.hb ≠ a.pb y.b ∧ a.hp p ≠ a.pb y.b ∧
      Cl n pr F a ((W'.setCell ⟨a.pb y.b, 6, none⟩ (.bool true)).setCell ⟨a.hp p, k, none⟩ (.pointer (some ⟨a.pb y.b, 0, none⟩))) (upd (unh A p k) y.b (holdB p)) ∧ Cha F W' ((W'.setCell ⟨a.pb y.b, 6, none⟩ (.bool true)).setCell ⟨a.hp p, k, none⟩ (.pointer (some ⟨a.pb y.b, 0, none⟩)))) := Lib.hid fun W' hc => by
    obtain ⟨o1, o2, o3, o4⟩ := HYY.out.opn
    have hcn : y.c ≠ -2 := by omega
    have B := hc.bl y o1 hcn
    have R := hc.hr p hp
    obtain ⟨k1, k2⟩ := hc.hold o1 hp o2 o3 (fun z hz => unh_not hz)
    refine ⟨hc.c2, hc.hd.cell hp, ⟨_, R.cell hk, hv_none fun z hz => unh_not hz⟩, R.free k, ⟨_, B.cells.2.2.2.2, by rw [decide_eq_false o3]⟩, B.free 6, ty_ne hc.head B.hd (by decide), ty_ne hc.hd B.hd (by decide), ty_ne R B.hd (by decide), k1, k2.mono fun j _ hj => ?_⟩
    rcases hj with e | e
    · exact e ▸ hc.ownh p hp
    · exact e ▸ (hc.ownb y o1 hcn).1
  rcases row_cases h hno with e | ⟨z, hz, hzc, e, hzu⟩
  · rw [e] at r2
    have H := Lib.hid h
    clear h hl hno hy el hlv e
    generalize a.pb y.b = q at *
    go_enter Tryd.func67, Tryd.ntmps67
    go_wp2_with (first
      | (go_at_call 54; ((with_reducible refine (LG.out _ (Cha.refl _ _)).mono ?_); rintro e w1 ⟨rfl, hx, hc⟩; have H1 := Lib.hid hx; have C1 := Lib.hid hc; clear hx hc))
      | (go_at_call 77; ((with_reducible refine (FO.out _ H1.out).mono ?_); rintro e w2 ⟨rfl, hx, hc⟩; have C2 := Lib.hid hc; obtain ⟨g1, g2, ⟨v3, g3, _⟩, g4, ⟨v5, g5, rfl⟩, g6, n1, n2, n3, g7, g8⟩ := FACT.out _ hx; have H2 := Lib.hid g7; have C3 := Lib.hid g8; clear hx hc g7 g8)))
    go_ret2
    exact ⟨rfl, H2.out, (C1.out.trans C2.out.wide).trans C3.out⟩
  · rw [e] at r2
    have FY := Lib.hid (full_yes (h.bl z hz hzc) hzu)
    have H := Lib.hid h
    clear h hl hno hy el hlv e hzu hz hzc
    generalize a.pb y.b = q at *
    generalize a.pb z.b = qz at *
    go_enter Tryd.func67, Tryd.ntmps67
    go_wp2_with (first
      | (go_at_call 76; ((with_reducible refine (FY.out).mono ?_); rintro e w1 ⟨rfl, m, rfl⟩))
      | (go_at_call 54; ((with_reducible refine (LG.out _ ((Cha.refl _ _).drewN m)).mono ?_); rintro e w1 ⟨rfl, hx, hc⟩; have H1 := Lib.hid hx; have C1 := Lib.hid hc; clear hx hc))
      | (go_at_call 77; ((with_reducible refine (FO.out _ H1.out).mono ?_); rintro e w2 ⟨rfl, hx, hc⟩; have C2 := Lib.hid hc; obtain ⟨g1, g2, ⟨v3, g3, _⟩, g4, ⟨v5, g5, rfl⟩, g6, n1, n2, n3, g7, g8⟩ := FACT.out _ hx; have H2 := Lib.hid g7; have C3 := Lib.hid g8; clear hx hc g7 g8)))
    go_ret2
    exact ⟨rfl, H2.out, (C1.out.trans C2.out.wide).trans C3.out⟩
end Go.Proofs.YtiboobaggpghjaaDoor
