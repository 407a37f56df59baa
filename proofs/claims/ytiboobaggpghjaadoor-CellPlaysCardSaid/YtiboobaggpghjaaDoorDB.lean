/- A map from pages to pointers, in memory. -/
import Derived.Test.YtiboobaggpghjaaDoorW
import Derived.Maps.Ext
import Derived.Maps.OwnOps
import Derived.Maps.RangeWalk
namespace Go.Proofs.YtiboobaggpghjaaDoor
open Go.ChangeShapes Go.WideShapes Go.ChangeAt Go.RowKit

/-- How a pointer to a block's head reads. -/
def ptrR : Value → Option (DataW Unit × List MemPlace)
  | .pointer none => some (.lit (.int .i64 (-1)), [])
  | .pointer (some ⟨b, 0, none⟩) => some (.lit (.int .i64 (b : Int)), [])
  | _ => none
theorem ptrR_none : ptrR (.pointer none) = some (.lit (.int .i64 (-1)), []) := rfl
theorem ptrR_some (b : Nat) : ptrR (.pointer (some ⟨b, 0, none⟩)) = some (.lit (.int .i64 (b : Int)), []) := rfl
theorem ptrR_is {v : Value} {p : Nat} {ps : List MemPlace} (h : ptrR v = some (.lit (.int .i64 (p : Int)), ps)) : v = .pointer (some ⟨p, 0, none⟩) := by
  unfold ptrR at h
  split at h
  · simp at h
  · rename_i b
    simp at h
    rw [show b = p by omega]
  · cases h
theorem keyed3 : Maps.Keyed Tryd.prog 3 := Maps.int_keyed Tryd.underlying3
theorem zero74 (w : World) : (zeroValue 74).run Tryd.prog w = .ok (.pointer none) w := by kernel_rfl
theorem wf_i64 {a : Int} (h1 : -9223372036854775808 ≤ a) (h2 : a ≤ 9223372036854775807) : (Lit.int .i64 a).wf = true := (Lit.wf_int_iff .i64 a).2 (And.intro h1 h2)
theorem key3 (x : Nat) (hx : x ≤ 1000000) : keyOf Tryd.prog 3 (.int .i64 (x : Int)) = some (.int .i64 (x : Int)) :=
  Maps.keyOf_int_mk Tryd.underlying3 (wf_i64 (by omega) (by omega))
def natKey : Lit → Option Nat
  | .int .i64 (.ofNat x) => some x
  | _ => none
theorem natKey_nat (x : Nat) : natKey (.int .i64 (x : Int)) = some x := rfl
theorem natKey_is {kl : Lit} {x : Nat} (h : natKey kl = some x) : kl = .int .i64 (x : Int) := by
  unfold natKey at h
  split at h
  · cases h; rfl
  · cases h
/-- What the map holds at a key. -/
def atM (m : Nat → Option Nat) (kl : Lit) (zd : DataW Unit) : DataW Unit :=
  match (natKey kl).bind m with
  | some p => .lit (.int .i64 (p : Int))
  | none => zd
theorem atM_nat (m : Nat → Option Nat) (x : Nat) (zd : DataW Unit) : atM m (.int .i64 (x : Int)) zd = match m x with | some p => .lit (.int .i64 (p : Int)) | none => zd := rfl
/-- Block mb is a map of len entries, from x to block m x. -/
def PM (W : World) (mb : Nat) (m : Nat → Option Nat) (len : Nat) : Prop :=
  ∃ D : DataW Unit, W.ownsMap Tryd.prog 3 ptrR mb len D ∧ Maps.size D = len ∧ ∀ kl zd, D.atKey kl zd = atM m kl zd
section
variable {W W' : World} {mb len : Nat} {m : Nat → Option Nat} {S : Nat → Prop}
theorem PM.lt (h : PM W mb m len) : mb < W.heap.size := by obtain ⟨D, h, _⟩ := h; exact h.lt
theorem PM.obj (h : PM W mb m len) : ∃ es clock, W.heap[mb]? = some (.map es clock) := by
  obtain ⟨D, ⟨es, clock, hb, _⟩, _⟩ := h; exact ⟨es, clock, hb⟩
theorem PM.cha (h : PM W mb m len) (c : Cha S W W') (hs : ¬ S mb) : PM W' mb m len := by
  have hl := h.lt
  obtain ⟨D, ⟨es, clock, hb, r⟩, k⟩ := h
  exact ⟨D, ⟨es, clock, (c.old mb hl hs).trans hb, r⟩, k⟩
theorem PM.congr {m' : Nat → Option Nat} (h : PM W mb m len) (he : ∀ x, m x = m' x) : PM W mb m' len := by
  obtain rfl : m = m' := funext he
  exact h
theorem PM.made (W : World) : PM (W.alloc (.map #[] 0)) W.heap.size (fun _ => none) 0 :=
  ⟨.map [], World.ownsMap_made _ _ _ _, rfl, fun kl zd => by
    unfold atM
    have : (natKey kl).bind (fun _ => (none : Option Nat)) = none := by cases natKey kl <;> rfl
    rw [this]; rfl⟩
theorem PM.has (_h : PM W mb m len) : ∀ {D : DataW Unit}, (∀ kl zd, D.atKey kl zd = atM m kl zd) → ∀ x : Nat, Maps.has D (.int .i64 (x : Int)) = (m x).isSome := by
  intro D hD x
  cases hm : m x with
  | none => exact Maps.has_false_of_atKey fun z => by rw [hD, atM_nat, hm]
  | some p => exact Maps.has_true_of_atKey (y := .lit (.int .i64 (p : Int))) fun z => by rw [hD, atM_nat, hm]
theorem PM.look (h : PM W mb m len) {x p : Nat} (hx : x ≤ 1000000) (hm : m x = some p) : (Instr.lookup 64 (.map (some mb)) (.int .i64 (x : Int)) false).run Tryd.prog W = .ok (.pointer (some ⟨p, 0, none⟩)) W := by
  obtain ⟨D, h1, h2, h3⟩ := h
  obtain ⟨v, ps, hr, hv⟩ := h1.lookup keyed3 Tryd.underlying64 (zero74 W) ptrR_none (key3 x hx)
  rw [h3, atM_nat, hm] at hv
  rw [hr, ptrR_is hv]
theorem turned_cha {w w' : World} {b : Nat} (h : w.mapTurned w' b) : Cha (fun i => i = b) w w' := Cha.of_grownBy h.grown fun k e => by cases e; rfl
theorem owns_tight {n : Nat} {D : DataW Unit} (h : W.ownsMap Tryd.prog 3 ptrR mb n D) : W.ownsMap Tryd.prog 3 ptrR mb (Maps.size D) D := by
  obtain ⟨es, clock, hb, F, hs, hD⟩ := h
  refine ⟨es, clock, hb, F, ?_, hD⟩
  rw [hD]
  simp [Maps.size, length_sorted]
theorem keyLit3 {x : Nat} (hx : x ≤ 1000000) : WideAt.IsKeyLit (.int .i64 (x : Int)) := keyed3.key (key3 x hx)
theorem key_ne {kl : Lit} {x : Nat} (h : natKey kl ≠ some x) : kl ≠ .int .i64 (x : Int) := fun e => h (by rw [e]; rfl)
theorem PM.put (h : PM W mb m len) {x p : Nat} (hx : x ≤ 1000000) (hm : m x = none) (hl : len ≤ 1000000) :
    ∃ W', (Instr.mapUpdate 64 (.map (some mb)) (.int .i64 (x : Int)) (.pointer (some ⟨p, 0, none⟩))).run Tryd.prog W = .ok () W' ∧ PM W' mb (fun y => if y = x then some p else m y) (len + 1) ∧ W.mapTurned W' mb := by
  have hh := h
  obtain ⟨D, h1, h2, h3⟩ := h
  obtain ⟨W', hr, k1, k2⟩ := h1.store keyed3 Tryd.underlying64 (by unfold maxLen; omega) (key3 x hx) (ptrR_some p)
  have k3 := owns_tight k1
  rw [Maps.size_put (h1.tidy keyed3), hh.has h3 x, hm, h2] at k3
  refine ⟨W', hr, ⟨_, k3, ?_, fun kl zd => ?_⟩, k2⟩
  · rw [Maps.size_put (h1.tidy keyed3), hh.has h3 x, hm, h2]; rfl
  · by_cases e : natKey kl = some x
    · rw [natKey_is e, Maps.atKey_put_same h1.isMap (keyLit3 hx), atM_nat, if_pos rfl]
    · rw [Maps.atKey_put_other (key_ne e), h3]
      unfold atM
      cases hk : natKey kl with
      | none => rfl
      | some y =>
        have : y ≠ x := fun e2 => e (by rw [hk, e2])
        simp [this]
theorem PM.del (h : PM W mb m (len + 1)) {x : Nat} (hx : x ≤ 1000000) (hm : (m x).isSome = true) (ty : TypeId) :
    ∃ W', (Builtin.delete_ #[64, 3] ty #[.map (some mb), .int .i64 (x : Int)]).run Tryd.prog W = .ok (.tuple #[]) W' ∧ PM W' mb (fun y => if y = x then none else m y) len ∧ W.mapTurned W' mb := by
  have hh := h
  obtain ⟨D, h1, h2, h3⟩ := h
  obtain ⟨W', hr, k1, k2⟩ := h1.drop keyed3 Tryd.underlying64 (key3 x hx) ty
  have hsz := Maps.size_del (k := .int .i64 (x : Int)) (h1.tidy keyed3)
  rw [hh.has h3 x, hm, h2] at hsz
  have hsz : Maps.size (D.del (.int .i64 (x : Int))) = len := by simpa using hsz
  have k3 := owns_tight k1
  rw [hsz] at k3
  refine ⟨W', hr, ⟨_, k3, hsz, fun kl zd => ?_⟩, k2⟩
  · by_cases e : natKey kl = some x
    · rw [natKey_is e, Maps.atKey_del_same, atM_nat, if_pos rfl]
    · rw [Maps.atKey_del_other (key_ne e), h3]
      unfold atM
      cases hk : natKey kl with
      | none => rfl
      | some y =>
        have : y ≠ x := fun e2 => e (by rw [hk, e2])
        simp [this]
end
end Go.Proofs.YtiboobaggpghjaaDoor
