/- Layer 7's blockFor and Alloc: contracts. -/
import Derived.Test.YtiboobaggpghjaaDoorDL
namespace Go.Proofs.YtiboobaggpghjaaDoor
open Go.ChangeShapes Go.WideShapes Go.ChangeAt Go.RowKit
variable {n pr : Nat} {F : Nat → Prop} {a : Ad} {W : World} {A : List Bk} {y : Bk}

theorem Got.of {A' : List Bk} {w' : World} (h : Cl n pr F a w' A') (c : Cha F W w') : Got n pr F a W w' A' F a := ⟨h, rfl, c, fun _ hi => .inl hi, fun _ hi => hi⟩
/-- What blockFor answers: the blocks behind it, the block, the error. -/
inductive Bfo (n pr : Nat) (A : List Bk) (q : Nat) (m : Int) : List Bk → Option Bk → Int → Prop where
  | great (b k : Nat) : 64 < m → m ≤ 1024 → (k : Int) = (m + 63) / 64 → Row n A k b → Bfo n pr A q m (A ++ [fresh b k (-1) (k * 64) 1]) (some (fresh b k (-1) (k * 64) 1)) 0
  | gfull (k : Nat) : 64 < m → m ≤ 1024 → (k : Int) = (m + 63) / 64 → NoRow n A k → Bfo n pr A q m A none 3
  | held (k : Nat) (y : Bk) : 1 ≤ m → m ≤ 64 → k = cof m.toNat → y ∈ A → y.h = (q : Int) → y.c = (k : Int) → false ∈ y.u → Bfo n pr A q m A (some y) 0
  | opn (k : Nat) (y : Bk) : 1 ≤ m → m ≤ 64 → k = cof m.toNat → NoHeld A q k → Least (unh A q k) k y → Bfo n pr A q m (upd (unh A q k) y.b (holdB q)) (some (holdB q y)) 0
  | new (k b : Nat) : 1 ≤ m → m ≤ 64 → k = cof m.toNat → NoHeld A q k → NoOpn (unh A q k) k → Row n A (cpg k) b → Bfo n pr A q m (upd (unh A q k ++ [newB k b]) b (holdB q)) (some (holdB q (newB k b))) 0
  | full (k : Nat) : 1 ≤ m → m ≤ 64 → k = cof m.toNat → NoHeld A q k → NoOpn (unh A q k) k → NoRow n A (cpg k) → Bfo n pr A q m (unh A q k) none 3
def ptrO (a : Ad) : Option Bk → Value
  | some y => .pointer (some ⟨a.pb y.b, 0, none⟩)
  | none => .pointer none
theorem grt_inv (hi : Inv n pr A) {k b : Nat} (h : Row n A k b) : Inv n pr (A ++ [fresh b k (-1) (k * 64) 1]) := by
  obtain ⟨h1, h2, h3, _⟩ := h.is
  exact add_inv hi h3 h1 h2 (.inr (.inl ⟨rfl, rfl, rfl, rfl⟩)) rfl
/-- A block pointer, and no error; or none, and an error. -/
def Bres (n pr : Nat) (F : Nat → Prop) (a : Ad) (W : World) (A' : List Bk) (o : Option Bk) (r : Int) (e : Ending) (w' : World) : Prop :=
  ∃ F' a', e = .returned (.tuple #[ptrO a' o, .int .i64 r]) ∧ Got n pr F a W w' A' F' a'
set_option maxHeartbeats 2000000 in
theorem blockFor_great (h : Cl n pr F a W A) (q : Nat) (m : Int) (b k : Nat) (h1 : 64 < m) (h2 : m ≤ 1024) (hk : (k : Int) = (m + 63) / 64) (hrow : Row n A k b) : Calls Tryd.prog 51 #[.pointer (some ⟨a.bc, 0, none⟩), .int .i64 (q : Int), .int .i64 m] W (Bres n pr F a W (A ++ [fresh b k (-1) (k * 64) 1]) (some (fresh b k (-1) (k * 64) 1)) 0) := by
  have C11 := of_any m (by omega) h.siz
  rw [if_neg (by omega), if_neg (by omega)] at C11
  have C11 := Lib.hid C11
  obtain ⟨L, t1, t2⟩ := h.tl
  obtain ⟨g1, g2, g3, g4⟩ := hrow.is
  have hn := h.nle.1
  have hdv : k * 64 / (k * 64) = 1 := Nat.div_self (by omega)
  have C66 := newBlock_ok h t1 t2 b k (k * 64) 1 (-1) (hrow.alc5 t1.1 t2 _) (by omega) (by omega) (by omega) hdv (grt_inv h.inv hrow)
  have e1 : ((k * 64 : Nat) : Int) = (m + 64 - 1) / 64 * 64 := by rw [Int.natCast_mul, hk, show m + 64 - 1 = m + 63 by omega]; rfl
  have e2 : (k : Int) = (m + 64 - 1) / 64 := by rw [hk, show m + 64 - 1 = m + 63 by omega]
  rw [e1, e2] at C66
  have hq : 0 ≤ (m + 64 - 1) / 64 ∧ (m + 64 - 1) / 64 ≤ 17 := by omega
  obtain ⟨hq1, hq2⟩ := hq
  have C66 : Hid (Calls Tryd.prog 66 #[.pointer (some ⟨a.bc, 0, none⟩), .int .i64 ((m + 64 - 1) / 64), .int .i64 (-1), .int .i64 ((m + 64 - 1) / 64 * 64)] W fun e w' => ∃ p, e = .returned (.tuple #[.pointer (some ⟨p, 0, none⟩), .int .i64 0]) ∧ Bres n pr F a W (A ++ [fresh b k (-1) (k * 64) 1]) (some (fresh b k (-1) (k * 64) 1)) 0 (.returned (.tuple #[.pointer (some ⟨p, 0, none⟩), .int .i64 0])) w') := Lib.hid (C66.mono fun e w' ⟨p, q, he, hc, hch⟩ => by
    refine ⟨p, he, grow F W w', a.put b p q, ?_, hc, rfl, hch.mono fun j _ hj => ?_, fun i hi => by rcases hi with hi | hi; exact .inl hi; exact .inr hi.1, fun i hi => .inl hi⟩
    · show _ = Ending.returned (.tuple #[.pointer (some ⟨if b = b then p else a.pb b, 0, none⟩), .int .i64 0])
      rw [if_pos rfl]
    · rcases hj with e | e | e
      · exact e ▸ h.own.2.2.2.1
      · exact e ▸ h.own.2.2.2.2.1
      · exact e ▸ h.own.2.2.2.2.2.1)
  clear h t1 t2 hrow g3 g4 e1 e2 hk
  go_enter Tryd.func51, Tryd.ntmps51
  go_wp2_with (first
    | (go_at_call 11; ((with_reducible refine (C11.out).mono ?_); rintro e w1 ⟨rfl, rfl⟩))
    | (go_at_call 66; ((with_reducible refine (C66.out).mono ?_); rintro e w1 ⟨p, rfl, hx⟩; have HX := Lib.hid hx; clear hx)))
  go_ret2
  exact HX.out
set_option maxHeartbeats 2000000 in
theorem blockFor_gfull (h : Cl n pr F a W A) (q : Nat) (m : Int) (k : Nat) (h1 : 64 < m) (h2 : m ≤ 1024) (hk : (k : Int) = (m + 63) / 64) (hrow : NoRow n A k) : Calls Tryd.prog 51 #[.pointer (some ⟨a.bc, 0, none⟩), .int .i64 (q : Int), .int .i64 m] W (Bres n pr F a W A none 3) := by
  have C11 := of_any m (by omega) h.siz
  rw [if_neg (by omega), if_neg (by omega)] at C11
  have C11 := Lib.hid C11
  obtain ⟨L, t1, t2⟩ := h.tl
  have C66 := newBlock_no h t1 t2 k (k * 64) (-1) (by omega) (hrow.alc5 t2 _)
  have e1 : ((k * 64 : Nat) : Int) = (m + 64 - 1) / 64 * 64 := by rw [Int.natCast_mul, hk, show m + 64 - 1 = m + 63 by omega]; rfl
  have e2 : (k : Int) = (m + 64 - 1) / 64 := by rw [hk, show m + 64 - 1 = m + 63 by omega]
  rw [e1, e2] at C66
  have hq : 0 ≤ (m + 64 - 1) / 64 ∧ (m + 64 - 1) / 64 ≤ 17 := by omega
  obtain ⟨hq1, hq2⟩ := hq
  have C66 : Hid (Calls Tryd.prog 66 #[.pointer (some ⟨a.bc, 0, none⟩), .int .i64 ((m + 64 - 1) / 64), .int .i64 (-1), .int .i64 ((m + 64 - 1) / 64 * 64)] W fun e w' => e = .returned (.tuple #[.pointer none, .int .i64 3]) ∧ Bres n pr F a W A none 3 (.returned (.tuple #[.pointer none, .int .i64 3])) w') := Lib.hid (C66.mono fun e w' ⟨he, hc, hch⟩ => ⟨he, F, a, rfl, Got.of hc (hch.mono fun j _ hj => by
    rcases hj with e | e | e
    · exact e ▸ h.own.2.2.2.1
    · exact e ▸ h.own.2.2.2.2.1
    · exact e ▸ h.own.2.2.2.2.2.1)⟩)
  clear h t1 t2 hrow e1 e2 hk
  go_enter Tryd.func51, Tryd.ntmps51
  go_wp2_with (first
    | (go_at_call 11; ((with_reducible refine (C11.out).mono ?_); rintro e w1 ⟨rfl, rfl⟩))
    | (go_at_call 66; ((with_reducible refine (C66.out).mono ?_); rintro e w1 ⟨rfl, hx⟩; have HX := Lib.hid hx; clear hx)))
  go_ret2
  exact HX.out
theorem blockFor_small (h : Cl n pr F a W A) (q : Nat) (m : Int) (h1 : 1 ≤ m) (h2 : m ≤ 64) {A' : List Bk} {o : Option Bk} {r : Int} (C : Calls Tryd.prog 67 #[.pointer (some ⟨a.bc, 0, none⟩), .int .i64 (q : Int), .int .i64 (cof m.toNat : Int)] W (Bres n pr F a W A' o r)) : Calls Tryd.prog 51 #[.pointer (some ⟨a.bc, 0, none⟩), .int .i64 (q : Int), .int .i64 m] W (Bres n pr F a W A' o r) := by
  have C11 := of_any m (by omega) h.siz
  rw [if_pos h2, if_pos h2] at C11
  have C11 := Lib.hid C11
  have C67 : Hid (Calls Tryd.prog 67 #[.pointer (some ⟨a.bc, 0, none⟩), .int .i64 (q : Int), .int .i64 (cof m.toNat : Int)] W fun e w' => ∃ v, e = .returned (.tuple #[v, .int .i64 r]) ∧ Bres n pr F a W A' o r (.returned (.tuple #[v, .int .i64 r])) w') := Lib.hid (C.mono fun e w' ⟨F', a', he, hg⟩ => ⟨_, he, F', a', rfl, hg⟩)
  clear h C
  generalize cof m.toNat = k at *
  go_enter Tryd.func51, Tryd.ntmps51
  go_wp2_with (first
    | (go_at_call 11; ((with_reducible refine (C11.out).mono ?_); rintro e w1 ⟨rfl, rfl⟩))
    | (go_at_call 67; ((with_reducible refine (C67.out).mono ?_); rintro e w1 ⟨v, rfl, hx⟩; have HX := Lib.hid hx; clear hx)))
  go_ret2
  exact HX.out
theorem blockFor_any (h : Cl n pr F a W A) (hl : Live A) (q : Nat) (hq : q < pr) (m : Int) {A' : List Bk} {o : Option Bk} {r : Int} (c : Bfo n pr A q m A' o r) : Calls Tryd.prog 51 #[.pointer (some ⟨a.bc, 0, none⟩), .int .i64 (q : Int), .int .i64 m] W (Bres n pr F a W A' o r) := by
  cases c with
  | great b k h1 h2 h3 h4 => exact blockFor_great h q m b k h1 h2 h3 h4
  | gfull k h1 h2 h3 h4 => exact blockFor_gfull h q m k h1 h2 h3 h4
  | held k y h1 h2 h3 h4 h5 h6 h7 =>
    subst h3
    obtain ⟨c1, _⟩ := cof_ok m.toNat (by omega) (by omega)
    exact blockFor_small h q m h1 h2 ((hold_held h q _ hq c1 h4 h5 h6 h7).mono fun e w' ⟨he, hc, hch⟩ => ⟨F, a, he, Got.of hc hch.wide⟩)
  | opn k y h1 h2 h3 h4 h5 =>
    subst h3
    obtain ⟨c1, _⟩ := cof_ok m.toNat (by omega) (by omega)
    exact blockFor_small h q m h1 h2 ((hold_open h hl q _ hq c1 h4 h5).mono fun e w' ⟨he, hc, hch⟩ => ⟨F, a, he, Got.of hc hch⟩)
  | new k b h1 h2 h3 h4 h5 h6 =>
    subst h3
    obtain ⟨c1, _⟩ := cof_ok m.toNat (by omega) (by omega)
    exact blockFor_small h q m h1 h2 ((hold_new h hl q _ b hq c1 h4 h5 h6).mono fun e w' ⟨F', a', he, hg⟩ => ⟨F', a', he, hg⟩)
  | full k h1 h2 h3 h4 h5 h6 =>
    subst h3
    obtain ⟨c1, _⟩ := cof_ok m.toNat (by omega) (by omega)
    exact blockFor_small h q m h1 h2 ((hold_full h hl q _ hq c1 h4 h5 h6).mono fun e w' ⟨he, hc, hch⟩ => ⟨F, a, he, Got.of hc hch⟩)
end Go.Proofs.YtiboobaggpghjaaDoor
