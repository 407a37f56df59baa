/- The objects that are never freed, in memory. -/
import Derived.Test.YtllefljimkmbhaaT
namespace Go.Proofs.Ytllefljimkmbhaa
open Go.ChangeShapes Go.WideShapes Go.ChangeAt Go.RowKit
variable {w w' w1 w2 w3 W W' : World} {F S : Nat → Prop} {bd : Nat} {vf vr : Value} {f T : Nat → Nat} {n : Nat} {fs : Nat → List Nat} {R : List Nat}

def slE : Enc (Option Nat × Nat) := ⟨59, 50, 1, 24, .slice none 0 0, fun a => [.slice (a.1.map fun b => ⟨b, 0, none⟩) a.2 a.2]⟩
theorem slE_ok : slE.Ok := ⟨Try.underlying59, by kernel_rfl, rfl, by decide, fun _ => rfl, fun a u h => by simp [slE] at h; subst h; rfl⟩
def flds (n : Nat) (fs : Nat → List Nat) (f : Nat → Nat) : List (Option Nat × Nat) := (none, 0) :: (List.range n).map fun i => (some (f (i + 1)), (fs (i + 1)).length)
theorem flds_len (n : Nat) (fs : Nat → List Nat) (f : Nat → Nat) : (flds n fs f).length = n + 1 := by simp [flds]
theorem flds_get {n id : Nat} (fs : Nat → List Nat) (f : Nat → Nat) (h1 : 1 ≤ id) (h2 : id ≤ n) : (flds n fs f)[id]? = some (some (f id), (fs id).length) := by
  obtain ⟨j, rfl⟩ : ∃ j, id = j + 1 := ⟨id - 1, by omega⟩
  unfold flds
  rw [List.getElem?_cons_succ]
  simp [show j < n by omega]
theorem flds_congr {n : Nat} {fs fs' : Nat → List Nat} {f f' : Nat → Nat} (h : ∀ id, 1 ≤ id → id ≤ n → f id = f' id ∧ (fs id).length = (fs' id).length) : flds n fs f = flds n fs' f' := by
  unfold flds
  congr 1
  refine List.map_congr_left fun i hi => ?_
  have hi := List.mem_range.1 hi
  obtain ⟨a, b⟩ := h (i + 1) (by omega) (by omega)
  rw [a, b]
theorem flds_snoc (n : Nat) (fs : Nat → List Nat) (f : Nat → Nat) (L : List Nat) (x : Nat) : flds (n + 1) (up fs (n + 1) L) (up f (n + 1) x) = flds n fs f ++ [(some x, L.length)] := by
  unfold flds
  rw [List.range_succ, List.map_append, List.cons_append]
  congr 2
  · refine List.map_congr_left fun i hi => ?_
    have hi := List.mem_range.1 hi
    rw [up_other _ _ (by omega), up_other _ _ (by omega)]
  · show [(some (up f (n + 1) x (n + 1)), (up fs (n + 1) L (n + 1)).length)] = _
    rw [up_same, up_same]
/-- Objects' fields and roots: at bd. -/
structure Im (w : World) (F : Nat → Prop) (bd : Nat) (vf vr : Value) (f T : Nat → Nat) (n : Nat) (fs : Nat → List Nat) (R : List Nat) : Prop where
  head : w.heap[bd]? = some (.cells #[vf, vr] 61 (0, 0))
  lf : Lies slE w vf (flds n fs f)
  lr : Lies inE w vr R
  fld : ∀ id, 1 ≤ id → id ≤ n → FRow 3 w (f id) (fs id).length (rowV (fs id))
  tg : T bd = 0 ∧ F bd
  tv : ∀ b, vf.ownBlock = some b → T b = 1 ∧ F b
  tr : ∀ b, vr.ownBlock = some b → T b = 2 ∧ F b
  tf : ∀ id, 1 ≤ id → id ≤ n → T (f id) = 5 + id ∧ F (f id)
  n4 : n ≤ 4096
  r8 : R.length ≤ 8192
  f16 : ∀ id, (fs id).length ≤ 16
  old : ∀ i, F i → i < w.heap.size
def IdA (bd n : Nat) (fs : Nat → List Nat) (R : List Nat) : Asn := fun w F => ∃ vf vr f T, Im w F bd vf vr f T n fs R
theorem Im.cha (h : Im w F bd vf vr f T n fs R) (c : Cha S w w') (hs : ∀ i, F i → ¬ S i) : Im w' F bd vf vr f T n fs R :=
  { head := (c.old bd (h.old _ h.tg.2) (hs _ h.tg.2)).trans h.head, lf := h.lf.cha c fun b e => hs b (h.tv b e).2, lr := h.lr.cha c fun b e => hs b (h.tr b e).2, fld := fun id a b => c.row (h.fld id a b) (hs _ (h.tf id a b).2),
    tg := h.tg, tv := h.tv, tr := h.tr, tf := h.tf, n4 := h.n4, r8 := h.r8, f16 := h.f16, old := fun i x => Nat.lt_of_lt_of_le (h.old i x) c.size }
theorem Im.same (h : Im w F bd vf vr f T n fs R) (c : Cha (fun _ => False) w w') : Im w' F bd vf vr f T n fs R := h.cha c fun _ _ x => x
theorem fit_id (bd n : Nat) (fs : Nat → List Nat) (R : List Nat) : Fit (IdA bd n fs R) :=
  ⟨fun ⟨a1, a2, a3, a4, h⟩ c hs => ⟨a1, a2, a3, a4, h.cha c hs⟩, fun ⟨_, _, _, _, h⟩ => h.old⟩
theorem Im.facts (h : Im w F bd vf vr f T n fs R) : w.cell? ⟨bd, 0, none⟩ = some vf ∧ w.cell? ⟨bd, 1, none⟩ = some vr ∧ ∀ i, w.frozen? ⟨bd, i, none⟩ = false :=
  ⟨cell_of_row w bd 0 _ 61 (0, 0) h.head, cell_of_row w bd 1 _ 61 (0, 0) h.head, fun i => frozen_of_row w bd i _ 61 h.head⟩
theorem Im.fc (h : Im w F bd vf vr f T n fs R) {id i : Nat} (h1 : 1 ≤ id) (h2 : id ≤ n) (hi : i < (fs id).length) : w.cell? ⟨f id, i, none⟩ = some (.int .i64 (((fs id).getD i 0 : Nat) : Int)) ∧ w.frozen? ⟨f id, i, none⟩ = false :=
  ⟨(h.fld id h1 h2).cell hi, (h.fld id h1 h2).free i⟩
/-- The list of fields' slices. -/
theorem Im.sls (h : Im w F bd vf vr f T n fs R) : ∃ b o cap, vf = .slice (some ⟨b, o, none⟩) (n + 1) cap ∧ n + 1 ≤ cap ∧ cap ≤ maxLen ∧ (∀ id, 1 ≤ id → id ≤ n → w.cell? ⟨b, o + id, none⟩ = some (.slice (some ⟨f id, 0, none⟩) (fs id).length (fs id).length)) := by
  obtain ⟨b, o, cap, e, h1, h2, hc, _⟩ := h.lf.elem slE_ok (i := 0) (by rw [flds_len]; omega)
  rw [flds_len] at e h1
  refine ⟨b, o, cap, e, h1, h2, fun id a1 a2 => ?_⟩
  obtain ⟨b2, o2, cap2, e2, _, _, hc2, _⟩ := h.lf.elem slE_ok (i := id) (by rw [flds_len]; omega)
  rw [e] at e2
  injection e2 with f1 f2 f3
  injection f1 with f1
  injection f1 with f1 f1' _
  subst f1 f1'
  have := hc2 0 (by decide)
  have ek : slE.k = 1 := rfl
  rw [ek, Nat.mul_one, Nat.add_zero] at this
  rw [this]
  have hg := flds_get fs f a1 a2
  rw [List.getElem?_eq_getElem (by rw [flds_len]; omega)] at hg
  injection hg with hg
  rw [hg]
  rfl
theorem Im.bgf (h : Im w F bd vf vr f T n fs R) {id : Nat} (a : 1 ≤ id) (b : id ≤ n) : f id ≠ bd := fun e => by have := (h.tf id a b).1; rw [e, h.tg.1] at this; omega
theorem Im.ff (h : Im w F bd vf vr f T n fs R) {id j : Nat} (a : 1 ≤ id) (b : id ≤ n) (c : 1 ≤ j) (d : j ≤ n) (k : id ≠ j) : f id ≠ f j := fun e => by have := (h.tf id a b).1; rw [e, (h.tf j c d).1] at this; omega
theorem Im.bv (h : Im w F bd vf vr f T n fs R) {b : Nat} (e : vf.ownBlock = some b) : b ≠ bd ∧ (∀ id, 1 ≤ id → id ≤ n → b ≠ f id) ∧ vr.ownBlock ≠ some b := by
  have t := (h.tv b e).1
  exact ⟨fun c => by rw [c, h.tg.1] at t; omega, fun id k l c => by rw [c, (h.tf id k l).1] at t; omega, fun c => by rw [(h.tr b c).1] at t; omega⟩
theorem Im.br (h : Im w F bd vf vr f T n fs R) {b : Nat} (e : vr.ownBlock = some b) : b ≠ bd ∧ (∀ id, 1 ≤ id → id ≤ n → b ≠ f id) ∧ vf.ownBlock ≠ some b := by
  have t := (h.tr b e).1
  exact ⟨fun c => by rw [c, h.tg.1] at t; omega, fun id k l c => by rw [c, (h.tf id k l).1] at t; omega, fun c => by rw [(h.tv b c).1] at t; omega⟩
/-- The roots' list. -/
theorem Im.onRoots (h : Im w F bd vf vr f T n fs R) {L : List Nat} {v' : Value} (l : Lies inE w1 v' L) (c1 : Cha (fun i => vr.ownBlock = some i) w w1) (hat : ∀ b, v'.ownBlock = some b → vr.ownBlock = some b ∨ w.heap.size ≤ b) (r8 : L.length ≤ 8192) :
    ∃ F' T', Im (w1.setCell ⟨bd, 1, none⟩ v') F' bd vf v' f T' n fs L ∧ Cha F w (w1.setCell ⟨bd, 1, none⟩ v') ∧ ∀ i, F' i → F i ∨ w.heap.size ≤ i := by
  have cA : Cha F w w1 := c1.mono fun i _ e => (h.tr i e).2
  have c4 : Cha (fun i => i = bd) w1 (w1.setCell ⟨bd, 1, none⟩ v') := Cha.at w1 bd 1 _
  have hhead : w1.heap[bd]? = some (.cells #[vf, vr] 61 (0, 0)) := (c1.old bd (h.old _ h.tg.2) (fun e => (h.br e).1 rfl)).trans h.head
  have nb : ∀ i, F i → vr.ownBlock ≠ some i → v'.ownBlock ≠ some i := fun i fi e e' => by
    rcases hat i e' with k | k
    · exact e k
    · have := h.old i fi; omega
  have tt : ∀ i t, T i = t → F i → vr.ownBlock ≠ some i → (if v'.ownBlock = some i then 2 else T i) = t := fun i t e fi k => by rw [if_neg (nb i fi k)]; exact e
  refine ⟨fun i => F i ∨ v'.ownBlock = some i, fun i => if v'.ownBlock = some i then 2 else T i, { head := ?_, lf := ?_, lr := ?_, fld := fun id a b => ?_, tg := ?_, tv := fun b e => ?_, tr := fun b e => ?_, tf := fun id a b => ?_, n4 := h.n4, r8 := r8, f16 := h.f16, old := fun i x => ?_ }, cA.trans (c4.mono fun i _ e => e ▸ h.tg.2), fun i x => ?_⟩
  · rw [heap_setCell_same w1 bd 1 _ 61 _ hhead]; rfl
  · exact (h.lf.cha c1 fun b e x => (h.bv e).2.2 x).cha c4 fun b e x => (h.bv e).1 x
  · refine l.cha c4 fun b e x => ?_
    subst x
    exact nb _ h.tg.2 (fun k => (h.br k).1 rfl) e
  · exact c4.row (c1.row (h.fld id a b) (fun e => (h.br e).2.1 id a b rfl)) (h.bgf a b)
  · exact ⟨tt bd 0 h.tg.1 h.tg.2 (fun k => (h.br k).1 rfl), .inl h.tg.2⟩
  · exact ⟨tt b 1 (h.tv b e).1 (h.tv b e).2 (fun k => (h.bv e).2.2 k), .inl (h.tv b e).2⟩
  · exact ⟨if_pos e, .inr e⟩
  · exact ⟨tt _ _ (h.tf id a b).1 (h.tf id a b).2 (fun e => (h.br e).2.1 id a b rfl), .inl (h.tf id a b).2⟩
  · rcases x with x | x
    · exact Nat.lt_of_lt_of_le (h.old i x) (Nat.le_trans c1.size c4.size)
    · exact Nat.lt_of_lt_of_le (l.lt x) c4.size
  · rcases x with x | x
    · exact .inl x
    · exact (hat i x).imp (fun e => (h.tr i e).2) id
/-- A field. -/
theorem Im.fill (h : Im w F bd vf vr f T n fs R) {id i t : Nat} (a : 1 ≤ id) (b : id ≤ n) (hi : i < (fs id).length) :
    Im (w.setCell ⟨f id, i, none⟩ (.int .i64 (t : Int))) F bd vf vr f T n (up fs id ((fs id).set i t)) R ∧ Cha F w (w.setCell ⟨f id, i, none⟩ (.int .i64 (t : Int))) := by
  have cc : Cha (fun i => i = f id) w (w.setCell ⟨f id, i, none⟩ (.int .i64 (t : Int))) := Cha.at w (f id) i _
  have hlen : ∀ j, (up fs id ((fs id).set i t) j).length = (fs j).length := fun j => by unfold up; split; (rename_i e; subst e; rw [List.length_set]); rfl
  refine ⟨{ head := (cc.old bd (h.old _ h.tg.2) (fun e => h.bgf a b e.symm)).trans h.head, lf := ?_, lr := h.lr.cha cc fun c e x => (h.br e).2.1 id a b x, fld := fun j l m => ?_, tg := h.tg, tv := h.tv, tr := h.tr, tf := h.tf, n4 := h.n4, r8 := h.r8, f16 := fun j => by rw [hlen]; exact h.f16 j, old := fun i x => Nat.lt_of_lt_of_le (h.old i x) cc.size }, cc.mono fun i _ e => e ▸ (h.tf id a b).2⟩
  · rw [flds_congr (fs' := fs) (f' := f) fun j _ _ => ⟨rfl, hlen j⟩]
    exact h.lf.cha cc fun c e x => (h.bv e).2.1 id a b x
  · rw [hlen]
    by_cases e : j = id
    · subst e
      refine ((h.fld j a b).set (i := i) (.int .i64 (t : Int))).congr fun x hx => ?_
      show (if x = i then _ else rowV (fs j) x) = rowV (up fs j ((fs j).set i t) j) x
      rw [up_same]
      unfold rowV
      by_cases c : x = i
      · subst c
        rw [if_pos rfl]
        simp [List.getD, hi]
      · rw [if_neg c]
        simp only [List.getD, List.getElem?_set, if_neg (fun y : i = x => c y.symm)]
    · refine (cc.row (h.fld j l m) (h.ff l m a b e)).congr fun x _ => ?_
      show rowV (fs j) x = rowV (up fs id ((fs id).set i t) j) x
      rw [up_other _ _ e]
/-- An object more: its fields' block is w's next one. -/
theorem Im.push (h : Im w F bd vf vr f T n fs R) {k : Nat} {v' : Value} (hk : k ≤ 16) (hn : n < 4096) (c2 : Cha (fun _ => False) w w2) (hsz : w.heap.size + 1 ≤ w2.heap.size)
    (r1 : FRow 3 w2 w.heap.size k (rowV (List.replicate k 0))) (l : Lies slE w3 v' (flds n fs f ++ [(some w.heap.size, k)])) (c3 : Cha (fun i => vf.ownBlock = some i) w2 w3) (hat : ∀ b, v'.ownBlock = some b → vf.ownBlock = some b ∨ w.heap.size + 1 ≤ b) :
    ∃ F' T', Im (w3.setCell ⟨bd, 0, none⟩ v') F' bd v' vr (up f (n + 1) w.heap.size) T' (n + 1) (up fs (n + 1) (List.replicate k 0)) R ∧ Cha F w (w3.setCell ⟨bd, 0, none⟩ v') ∧ ∀ i, F' i → F i ∨ w.heap.size ≤ i := by
  have h2 := h.same c2
  have cA : Cha F w2 w3 := c3.mono fun i _ e => (h.tv i e).2
  have c4 : Cha (fun i => i = bd) w3 (w3.setCell ⟨bd, 0, none⟩ v') := Cha.at w3 bd 0 _
  have hbl := h.old _ h.tg.2
  have hhead : w3.heap[bd]? = some (.cells #[vf, vr] 61 (0, 0)) := (c3.old bd (h2.old _ h2.tg.2) (fun e => (h2.bv e).1 rfl)).trans h2.head
  have nv : ∀ i, w.heap.size ≤ i → vf.ownBlock ≠ some i := fun i hi e => by have := h.old _ (h.tv i e).2; omega
  have nb : ∀ i, F i → vf.ownBlock ≠ some i → v'.ownBlock ≠ some i := fun i fi e e' => by
    rcases hat i e' with k | k
    · exact e k
    · have := h.old i fi; omega
  have nw : v'.ownBlock ≠ some w.heap.size := fun e => by
    rcases hat _ e with k | k
    · exact nv _ (Nat.le_refl _) k
    · omega
  obtain ⟨T', hT'⟩ : ∃ T' : Nat → Nat, T' = fun i => if v'.ownBlock = some i then 1 else if i = w.heap.size then 5 + (n + 1) else T i := ⟨_, rfl⟩
  have tt : ∀ i t, T i = t → F i → vf.ownBlock ≠ some i → T' i = t := fun i t e fi l => by
    have := h.old i fi
    subst hT'
    show (if v'.ownBlock = some i then 1 else if i = w.heap.size then _ else T i) = t
    rw [if_neg (nb i fi l), if_neg (by omega)]; exact e
  have tf : T' w.heap.size = 5 + (n + 1) := by
    subst hT'
    show (if v'.ownBlock = some w.heap.size then 1 else if w.heap.size = w.heap.size then _ else _) = _
    rw [if_neg nw, if_pos rfl]
  have t1 : ∀ b, v'.ownBlock = some b → T' b = 1 := fun b e => by subst hT'; show (if v'.ownBlock = some b then 1 else _) = 1; rw [if_pos e]
  have hid : ∀ id, 1 ≤ id → id ≤ n + 1 → id = n + 1 ∨ (id ≠ n + 1 ∧ id ≤ n) := fun id a b => by omega
  refine ⟨fun i => F i ∨ v'.ownBlock = some i ∨ i = w.heap.size, T', { head := ?_, lf := ?_, lr := ?_, fld := fun j l m => ?_, tg := ?_, tv := fun b e => ⟨t1 b e, .inr (.inl e)⟩, tr := fun b e => ?_, tf := fun j l m => ?_, n4 := hn, r8 := h.r8, f16 := fun j => ?_, old := fun i x => ?_ }, (c2.wide.trans cA).trans (c4.mono fun i _ e => e ▸ h.tg.2), fun i x => ?_⟩
  · rw [heap_setCell_same w3 bd 0 _ 61 _ hhead]; rfl
  · rw [flds_snoc, List.length_replicate]
    refine l.cha c4 fun b e x => ?_
    subst x
    exact nb _ h.tg.2 (fun k => (h.bv k).1 rfl) e
  · exact (h2.lr.cha c3 fun b e x => (h2.br e).2.2 x).cha c4 fun b e x => (h2.br e).1 x
  · rcases hid j l m with e | ⟨e, l'⟩
    · subst e
      rw [up_same, up_same, List.length_replicate]
      exact c4.row (c3.row r1 (nv _ (Nat.le_refl _))) (by omega)
    · rw [up_other _ _ e, up_other _ _ e]
      exact c4.row (c3.row (h2.fld j l l') (fun y => (h2.bv y).2.1 j l l' rfl)) (h.bgf l l')
  · exact ⟨tt bd 0 h.tg.1 h.tg.2 (fun k => (h.bv k).1 rfl), .inl h.tg.2⟩
  · exact ⟨tt b 2 (h.tr b e).1 (h.tr b e).2 (fun k => (h.br e).2.2 k), .inl (h.tr b e).2⟩
  · rcases hid j l m with e | ⟨e, l'⟩
    · subst e; rw [up_same]; exact ⟨tf, .inr (.inr rfl)⟩
    · rw [up_other _ _ e]; exact ⟨tt _ _ (h.tf j l l').1 (h.tf j l l').2 (fun y => (h.bv y).2.1 j l l' rfl), .inl (h.tf j l l').2⟩
  · unfold up; split; (rw [List.length_replicate]; exact hk); exact h.f16 j
  · have z1 := c3.size
    have z2 := c4.size
    rcases x with x | x | x
    · have := h.old i x; omega
    · exact Nat.lt_of_lt_of_le (l.lt x) z2
    · omega
  · rcases x with x | x | x
    · exact .inl x
    · exact (hat i x).imp (fun e => (h.tv i e).2) fun e => by omega
    · exact .inr (by omega)
end Go.Proofs.Ytllefljimkmbhaa
