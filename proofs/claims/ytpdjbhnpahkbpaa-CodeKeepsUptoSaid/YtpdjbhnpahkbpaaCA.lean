/- Changes that freeze nothing. -/
import Derived.Test.YtpdjbhnpahkbpaaL
namespace Go.Proofs.Ytpdjbhnpahkbpaa
namespace Z
/-- Not frozen. -/
def Fre : Obj → Prop
  | .cells _ _ p => p = (0, 0)
  | _ => True
/-- What a call may change, and it freezes nothing. -/
structure Cha (S : Nat → Prop) (w w' : World) : Prop extends Go.Proofs.Ytpdjbhnpahkbpaa.Cha S w w' where
  frz : ∀ b o, w.frozen? ⟨b, o, none⟩ = false → w'.frozen? ⟨b, o, none⟩ = false
section
variable {S T : Nat → Prop} {w a b c : World}
theorem Cha.refl (S : Nat → Prop) (w : World) : Cha S w w := ⟨Ytpdjbhnpahkbpaa.Cha.refl S w, fun _ _ h => h⟩
theorem Cha.trans (h : Cha S a b) (k : Cha S b c) : Cha S a c := ⟨h.toCha.trans k.toCha, fun x o hf => k.frz x o (h.frz x o hf)⟩
theorem Cha.mono (h : Cha S a b) (hst : ∀ i, i < a.heap.size → S i → T i) : Cha T a b := ⟨h.toCha.mono hst, h.frz⟩
theorem Cha.wide (h : Cha (fun _ => False) a b) : Cha S a b := h.mono fun _ _ f => f.elim
theorem Cha.over (h : Cha T w a) (k : Cha S a b) (hs : ∀ i, S i → T i ∨ w.heap.size ≤ i) : Cha T w b := ⟨h.toCha.over k.toCha hs, fun x o hf => k.frz x o (h.frz x o hf)⟩
theorem Cha.drew (h : Cha S a b) : Cha S a b.drew := ⟨h.toCha.drew, h.frz⟩
theorem Cha.drewN (h : Cha S a b) (k : Nat) : Cha S a (b.drewN k) := ⟨h.toCha.drewN k, h.frz⟩
theorem frz_alloc {o : Obj} (hf : Fre o) (b x : Nat) (h : w.frozen? ⟨b, x, none⟩ = false) : (w.alloc o).frozen? ⟨b, x, none⟩ = false := by
  by_cases hb : b < w.heap.size
  · unfold World.frozen? at h ⊢
    show (match (w.alloc o).heap[b]? with | some (.cells _ _ (lo, hi)) => _ | _ => _) = _
    rw [heap_alloc_old w o hb]
    exact h
  · by_cases e : b = w.heap.size
    · subst e
      unfold World.frozen?
      show (match (w.alloc o).heap[w.heap.size]? with | some (.cells _ _ (lo, hi)) => _ | _ => _) = _
      rw [heap_alloc_new w o]
      cases o with
      | cells cs t p =>
        have hf : p = (0, 0) := hf
        subst hf
        simp
      | _ => rfl
    · unfold World.frozen?
      show (match (w.alloc o).heap[b]? with | some (.cells _ _ (lo, hi)) => _ | _ => _) = _
      rw [Array.getElem?_eq_none (by rw [World.size_alloc]; omega)]
theorem frz_setCell (p : Addr) (v : Value) (b x : Nat) : (w.setCell p v).frozen? ⟨b, x, none⟩ = w.frozen? ⟨b, x, none⟩ := by
  by_cases e : p.block = b
  · unfold World.frozen? World.setCell
    simp only [Array.getElem?_modify, e, if_true]
    cases w.heap[b]? with
    | none => rfl
    | some o => cases o <;> rfl
  · unfold World.frozen?
    show (match (w.setCell p v).heap[b]? with | some (.cells _ _ (lo, hi)) => _ | _ => _) = _
    rw [heap_setCell_other w p b v fun c => e c.symm]
    rfl
theorem Cha.alloc (h : Cha S a b) (o : Obj) (hf : Fre o := by first | exact rfl | exact trivial) : Cha S a (b.alloc o) := ⟨h.toCha.alloc o, fun x i hx => frz_alloc hf x i (h.frz x i hx)⟩
theorem Cha.setCell (h : Cha S a b) {p : Addr} (hp : p.block < a.heap.size → S p.block) (v : Value) : Cha S a (b.setCell p v) := ⟨h.toCha.setCell hp v, fun x i hx => (frz_setCell p v x i).trans (h.frz x i hx)⟩
theorem Cha.row {t : TypeId} {W W' : World} {g k : Nat} {r : Nat → Value} (c : Cha S W W') (h : FRow t W g k r) (hs : ¬ S g) : FRow t W' g k r := (c.old _ h.lt hs).trans h
theorem Cha.new (h : Cha S a b) {i : Nat} (hi : a.heap.size ≤ i) (o : Nat) : b.frozen? ⟨i, o, none⟩ = false := h.frz i o (by
  unfold World.frozen?
  show (match a.heap[i]? with | some (.cells _ _ (lo, hi)) => _ | _ => _) = _
  rw [Array.getElem?_eq_none hi])
end
end Z
section
variable {α : Type} {R R' : (Nat → Prop) → World → Nat → Nat → α → Prop} {B B' : Nat → Prop} {s b o : Nat} {W W' : World} {v : Value} {xs : List α} {S : Nat → Prop} {T : List Nat}
theorem RdI.chaZ {z : Int} (hb : B b) (h : RdI B W b o z) (c : Z.Cha S W W') (hS : ∀ i, S i → ¬ B i) : RdI B' W' b o z := h.cha hb c.toCha hS
theorem RdIns.chaZ {z : IZ} (hb : B b) (h : RdIns B W b o z) (c : Z.Cha S W W') (hS : ∀ i, S i → ¬ B i) (hB : ∀ i, B i → B' i) : RdIns B' W' b o z := h.cha hb c.toCha hS hB
theorem RdFn.chaZ {z : FZ} (hb : B b) (h : RdFn B W b o z) (c : Z.Cha S W W') (hS : ∀ i, S i → ¬ B i) (hB : ∀ i, B i → B' i) : RdFn B' W' b o z := h.cha hb c.toCha hS hB
theorem RdTy.chaZ {z : TZ} (hb : B b) (h : RdTy B W b o z) (c : Z.Cha S W W') (hS : ∀ i, S i → ¬ B i) (hB : ∀ i, B i → B' i) : RdTy B' W' b o z := h.cha hb c.toCha hS hB
theorem RdS.intsZ {z : List Int} (h : RdS 1 RdI B W v z) (c : Z.Cha S W W') (hS : ∀ i, S i → ¬ B i) (hB : ∀ i, B i → B' i) : RdS 1 RdI B' W' v z := h.ints c.toCha hS hB
theorem RdS.inssZ {z : List IZ} (h : RdS 6 RdIns B W v z) (c : Z.Cha S W W') (hS : ∀ i, S i → ¬ B i) (hB : ∀ i, B i → B' i) : RdS 6 RdIns B' W' v z := h.inss c.toCha hS hB
theorem RdS.fnsZ {z : List FZ} (h : RdS 4 RdFn B W v z) (c : Z.Cha S W W') (hS : ∀ i, S i → ¬ B i) (hB : ∀ i, B i → B' i) : RdS 4 RdFn B' W' v z := h.fns c.toCha hS hB
theorem RdS.tysZ {z : List TZ} (h : RdS 2 RdTy B W v z) (c : Z.Cha S W W') (hS : ∀ i, S i → ¬ B i) (hB : ∀ i, B i → B' i) : RdS 2 RdTy B' W' v z := h.tys c.toCha hS hB
theorem RdP.chaZ {p : PZ} (h : RdP B W v p) (c : Z.Cha S W W') (hS : ∀ i, S i → ¬ B i) (hB : ∀ i, B i → B' i) : RdP B' W' v p := h.cha c.toCha hS hB
theorem RdS.bytesZ (h : RdS 1 RdU8 B W v T) (c : Z.Cha S W W') (hS : ∀ i, S i → ¬ B i) (hB : ∀ i, B i → B' i) : RdS 1 RdU8 B' W' v T := h.bytes c.toCha hS hB
end
end Go.Proofs.Ytpdjbhnpahkbpaa
