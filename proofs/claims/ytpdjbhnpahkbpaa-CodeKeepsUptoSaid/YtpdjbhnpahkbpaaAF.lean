/- Lists of structs that are appended to. -/
import Derived.Test.YtpdjbhnpahkbpaaAE
namespace Go.Proofs.Ytpdjbhnpahkbpaa
set_option linter.unusedVariables false
open Go.ChangeShapes Go.WideShapes Go.ChangeAt Go.RowKit

theorem flat_at {s : Nat} : ∀ (css : List (List Value)) (i j : Nat) (cs : List Value), (∀ c ∈ css, c.length = s) → css[i]? = some cs → j < s → css.flatten[i * s + j]? = cs[j]?
  | [], _, _, _, _, h, _ => by simp at h
  | c :: css, 0, j, cs, hl, h, hj => by
    obtain rfl : c = cs := by simpa using h
    have := hl c (List.mem_cons_self ..)
    rw [List.flatten_cons, Nat.zero_mul, Nat.zero_add, List.getElem?_append_left (by omega)]
  | c :: css, i + 1, j, cs, hl, h, hj => by
    have h1 := hl c (List.mem_cons_self ..)
    have := flat_at css i j cs (fun x hx => hl x (List.mem_cons_of_mem _ hx)) (by simpa using h) hj
    rw [List.flatten_cons, List.getElem?_append_right (by rw [Nat.succ_mul]; omega), show (i + 1) * s + j - c.length = i * s + j by rw [Nat.succ_mul, h1]; omega]
    exact this
/-- Items that read by value. -/
structure WOk {α : Type} (V : (Nat → Prop) → World → Value → α → Prop) : Prop where
  keep : ∀ (B S : Nat → Prop) (w w' : World) (v : Value) (x : α), V B w v x → Cha S w w' → (∀ i, S i → ¬ B i) → V B w' v x
  mono : ∀ (B B' : Nat → Prop) (w : World) (v : Value) (x : α), V B w v x → (∀ i, B i → B' i) → V B' w v x
  bnd : ∀ (B : Nat → Prop) (w : World) (v : Value) (x : α), V B w v x → V (fun i => B i ∧ i < w.heap.size) w v x
theorem RdS.bnd' {α : Type} {s : Nat} {R : (Nat → Prop) → World → Nat → Nat → α → Prop} {B : Nat → Prop} {W : World} {v : Value} {xs : List α} (h : RdS s R B W v xs) (f : ∀ b o x, R B W b o x → R (fun i => B i ∧ i < W.heap.size) W b o x) : RdS s R (fun i => B i ∧ i < W.heap.size) W v xs := by
  obtain ⟨a, c, e, hl, h⟩ := h
  exact ⟨a, c, e, hl, fun h0 => by
    obtain ⟨b, o, ea, hb, hbs, hx⟩ := h h0
    exact ⟨b, o, ea, ⟨hb, hbs⟩, hbs, fun i x hi => f _ _ _ (hx i x hi)⟩⟩
theorem RdS.nums {B B' : Nat → Prop} {w : World} {v : Value} {z : List Int} (h : RdS 1 RdI B w v z) (hB : ∀ i, B i → B' i) : RdS 1 RdI B' w v z := h.ints (Cha.refl (fun _ => False) w) (fun _ f => f.elim) hB
theorem ins_bnd {B : Nat → Prop} {W : World} {b o : Nat} {x : IZ} (h : RdIns B W b o x) : RdIns (fun i => B i ∧ i < W.heap.size) W b o x := by
  obtain ⟨v, h5, h6⟩ := h.c5
  exact ⟨h.c0, h.c1, h.c2, h.c3, h.c4, ⟨v, h5, h6.bnd' fun _ _ _ h => h⟩, h.k0, h.k1, h.k2, h.k3, h.k4⟩
theorem wok_ins : WOk WIns :=
  ⟨fun B S w w' v x ⟨l, e, h, q⟩ c hS => ⟨l, e, h.ints c hS (fun _ h => h), q⟩, fun B B' w v x ⟨l, e, h, q⟩ hB => ⟨l, e, h.nums hB, q⟩, fun B w v x ⟨l, e, h, q⟩ => ⟨l, e, h.bnd' fun _ _ _ h => h, q⟩⟩
theorem wok_fn : WOk WFn :=
  ⟨fun B S w w' v x ⟨l1, l2, l3, e, h1, h2, h3, q⟩ c hS => ⟨l1, l2, l3, e, h1.ints c hS (fun _ h => h), h2.ints c hS (fun _ h => h), h3.inss c hS (fun _ h => h), q⟩, fun B B' w v x ⟨l1, l2, l3, e, h1, h2, h3, q⟩ hB => ⟨l1, l2, l3, e, h1.nums hB, h2.nums hB, h3.inss (Cha.refl (fun _ => False) w) (fun _ f => f.elim) hB, q⟩,
   fun B w v x ⟨l1, l2, l3, e, h1, h2, h3, q⟩ => ⟨l1, l2, l3, e, h1.bnd' fun _ _ _ h => h, h2.bnd' fun _ _ _ h => h, h3.bnd' fun _ _ _ h => ins_bnd h, q⟩⟩
theorem wok_ty : WOk WTy :=
  ⟨fun B S w w' v x ⟨l, e, h⟩ c hS => ⟨l, e, h.ints c hS (fun _ h => h)⟩, fun B B' w v x ⟨l, e, h⟩ hB => ⟨l, e, h.nums hB⟩, fun B w v x ⟨l, e, h⟩ => ⟨l, e, h.bnd' fun _ _ _ h => h⟩⟩
/-- A list of the call's own, of s cells an item; what the items lead to lies elsewhere. -/
def OwnL {α : Type} (V : (Nat → Prop) → World → Value → α → Prop) (s : Nat) (t : TypeId) (b0 : Nat) (w : World) (v : Value) (n : Nat) (xs : List α) : Prop :=
  ∃ css : List (List Value), css.length = xs.length ∧ n = xs.length ∧ w.ownsRow b0 t s v n css.flatten ∧ ∀ (i : Nat) (cs : List Value) (x : α), css[i]? = some cs → xs[i]? = some x → cs.length = s ∧ V (fun j => b0 ≤ j ∧ v.ownBlock ≠ some j) w (.agg cs.toArray) x
section
variable {α : Type} {V : (Nat → Prop) → World → Value → α → Prop} {s b0 n : Nat} {t : TypeId} {w w' : World} {v v' : Value} {xs : List α} {S : Nat → Prop}
theorem OwnL.nil (V : (Nat → Prop) → World → Value → α → Prop) (s : Nat) (t : TypeId) (b0 : Nat) (w : World) : OwnL V s t b0 w (.slice none 0 0) 0 [] := ⟨[], rfl, rfl, World.ownsRow_nil _ _ _ _, fun i cs x h => by simp at h⟩
theorem OwnL.shape (h : OwnL V s t b0 w v n xs) : ∃ a c, v = .slice a n c := by
  obtain ⟨css, _, _, h, _⟩ := h
  exact own_shape h
theorem OwnL.len (h : OwnL V s t b0 w v n xs) : n = xs.length := by
  obtain ⟨_, _, h, _⟩ := h
  exact h
theorem OwnL.ge (h : OwnL V s t b0 w v n xs) {g : Nat} (hg : v.ownBlock = some g) : b0 ≤ g ∧ g < w.heap.size := by
  obtain ⟨_, _, _, h, _⟩ := h
  exact h.lt g hg
theorem OwnL.cha (K : WOk V) (h : OwnL V s t b0 w v n xs) (c : Cha S w w') (hS : ∀ i, S i → i < b0) : OwnL V s t b0 w' v n xs := by
  obtain ⟨css, h1, h2, h3, h4⟩ := h
  refine ⟨css, h1, h2, own_but h3 c (fun g hg hs => by have := (h3.lt g hg).1; have := hS g hs; omega), fun i cs x hc hx => ?_⟩
  obtain ⟨q1, q2⟩ := h4 i cs x hc hx
  exact ⟨q1, K.keep _ _ _ _ _ _ q2 c (fun i hs hb => by have := hS i hs; omega)⟩
/-- One item more. -/
theorem OwnL.push (K : WOk V) {w0 w2 w3 : World} (h : OwnL V s t b0 w2 v n xs) (h0 : ∀ g, v.ownBlock = some g → g < w0.heap.size) (hb : b0 ≤ w0.heap.size) {cs : List Value} (hcs : cs.length = s) {x : α} {o : Obj} (hx : V (fun i => w0.heap.size ≤ i) w2 (.agg cs.toArray) x)
    (hg : (w2.alloc o).grownBy w3 v.ownBlock) (hw : v'.ownBlock = v.ownBlock ∨ ∀ g, v'.ownBlock = some g → (w2.alloc o).heap.size ≤ g) : ∀ css : List (List Value), css.length = xs.length → (∀ (i : Nat) (cs : List Value) (x : α), css[i]? = some cs → xs[i]? = some x → cs.length = s ∧ V (fun j => b0 ≤ j ∧ v.ownBlock ≠ some j) w2 (.agg cs.toArray) x) → w3.ownsRow b0 t s v' (n + 1) (css.flatten ++ cs) → OwnL V s t b0 w3 v' (n + 1) (xs ++ [x]) := by
  intro css h1 h4 hown
  have hn := h.len
  have c3 : Cha (fun i => v.ownBlock = some i) w2 w3 := ((Cha.refl _ w2).alloc o).trans (Cha.of_grownBy hg fun k e => e)
  have hsz : (w2.alloc o).heap.size = w2.heap.size + 1 := World.size_alloc _ _
  have far : ∀ j, j < w2.heap.size → v.ownBlock ≠ some j → v'.ownBlock ≠ some j := fun j hj hv e => by
    rcases hw with k | k
    · exact hv (k ▸ e)
    · have := k j e; omega
  refine ⟨css ++ [cs], by simp [h1], by simp [hn], by rw [List.flatten_append, List.flatten_singleton]; exact hown, fun i c y hc hy => ?_⟩
  by_cases hi : i < xs.length
  · rw [List.getElem?_append_left (by omega)] at hc hy
    obtain ⟨q1, q2⟩ := h4 i c y hc hy
    have a := K.bnd _ _ _ _ q2
    have b := K.mono _ (fun j => (b0 ≤ j ∧ v'.ownBlock ≠ some j) ∧ v.ownBlock ≠ some j) _ _ _ a (fun j hj => ⟨⟨hj.1.1, far j hj.2 hj.1.2⟩, hj.1.2⟩)
    have d := K.keep _ _ _ _ _ _ b c3 (fun j e hb => hb.2 e)
    exact ⟨q1, K.mono _ _ _ _ _ d fun j hj => hj.1⟩
  · rw [List.getElem?_append_right (by omega)] at hc hy
    have e1 : i - xs.length = 0 := by have := (List.getElem?_eq_some_iff.1 hy).1; simp at this; omega
    rw [h1, e1] at hc
    rw [e1] at hy
    obtain rfl : cs = c := by simpa using hc
    obtain rfl : x = y := by simpa using hy
    have a := K.bnd _ _ _ _ hx
    have b := K.mono _ (fun j => (b0 ≤ j ∧ v'.ownBlock ≠ some j) ∧ v.ownBlock ≠ some j) _ _ _ a (fun j hj => by
      have hj1 : w0.heap.size ≤ j := hj.1
      have hv : v.ownBlock ≠ some j := fun e => by have := h0 j e; omega
      exact ⟨⟨by omega, far j hj.2 hv⟩, hv⟩)
    have d := K.keep _ _ _ _ _ _ b c3 (fun j e hb => hb.2 e)
    exact ⟨hcs, K.mono _ _ _ _ _ d fun j hj => hj.1⟩
/-- As a list that is read. -/
theorem OwnL.reads (K : WOk V) {R : (Nat → Prop) → World → Nat → Nat → α → Prop} (h : OwnL V s t b0 w v n xs) (hl : xs.length ≤ 9223372036854775807)
    (M : ∀ (B : Nat → Prop) (b o : Nat) (cs : List Value) (x : α), V B w (.agg cs.toArray) x → (∀ j u, cs[j]? = some u → w.cell? ⟨b, o + j, none⟩ = some u) → R B w b o x) : RdS s R (fun i => b0 ≤ i) w v xs := by
  obtain ⟨css, h1, h2, h3, h4⟩ := h
  subst h2
  rcases h3.2 with ⟨e, h5⟩ | ⟨g, cap, cur, e, hb, hg, hnc, hcm, hcs, htk⟩
  · subst e
    obtain rfl : xs = [] := List.eq_nil_of_length_eq_zero h5
    exact RdS.nil _ _ _ _
  · subst e
    have hl2 : g < w.heap.size := (Array.getElem?_eq_some_iff.1 hg).1
    have hall : ∀ c ∈ css, c.length = s := fun c hc => by
      obtain ⟨i, hi⟩ := List.getElem?_of_mem hc
      have hil := (List.getElem?_eq_some_iff.1 hi).1
      exact (h4 i c _ hi (List.getElem?_eq_getElem (by omega))).1
    refine ⟨_, _, rfl, hl, fun _ => ⟨g, 0, rfl, hb, hl2, fun i x hi => ?_⟩⟩
    have hil := (List.getElem?_eq_some_iff.1 hi).1
    obtain ⟨cs, hc⟩ : ∃ cs, css[i]? = some cs := ⟨_, List.getElem?_eq_getElem (by omega)⟩
    obtain ⟨q1, q2⟩ := h4 i cs x hc hi
    refine M _ g (0 + i * s) cs x (K.mono _ _ _ _ _ q2 fun j hj => hj.1) fun j u hu => ?_
    have hjs : j < s := by have := (List.getElem?_eq_some_iff.1 hu).1; omega
    have hx2 := h3.cells (g := g) rfl (i * s + j) u (by rw [flat_at css i j cs hall hc hjs]; exact hu)
    rw [Addr.add_mid, ← Nat.add_assoc] at hx2
    exact hx2
end
theorem to_ins {w : World} (B : Nat → Prop) (b o : Nat) (cs : List Value) (x : IZ) (h : WIns B w (.agg cs.toArray) x) (hc : ∀ j u, cs[j]? = some u → w.cell? ⟨b, o + j, none⟩ = some u) : RdIns B w b o x := by
  obtain ⟨l, e, hl, q0, q1, q2, q3, q4⟩ := h
  injection e with e
  have e : cs = [.int .i64 x.op, .int .i64 x.a, .int .i64 x.b, .int .i64 x.c, .int .u64 (x.imm : Int), l] := by simpa using congrArg Array.toList e
  subst e
  exact ⟨hc 0 _ rfl, hc 1 _ rfl, hc 2 _ rfl, hc 3 _ rfl, hc 4 _ rfl, ⟨l, hc 5 _ rfl, hl⟩, q0, q1, q2, q3, q4⟩
theorem to_fn {w : World} (B : Nat → Prop) (b o : Nat) (cs : List Value) (x : FZ) (h : WFn B w (.agg cs.toArray) x) (hc : ∀ j u, cs[j]? = some u → w.cell? ⟨b, o + j, none⟩ = some u) : RdFn B w b o x := by
  obtain ⟨l1, l2, l3, e, h1, h2, h3, q⟩ := h
  injection e with e
  have e : cs = [.int .i64 x.pa, l1, l2, l3] := by simpa using congrArg Array.toList e
  subst e
  exact ⟨hc 0 _ rfl, ⟨l1, hc 1 _ rfl, h1⟩, ⟨l2, hc 2 _ rfl, h2⟩, ⟨l3, hc 3 _ rfl, h3⟩, q⟩
theorem to_ty {w : World} (B : Nat → Prop) (b o : Nat) (cs : List Value) (x : TZ) (h : WTy B w (.agg cs.toArray) x) (hc : ∀ j u, cs[j]? = some u → w.cell? ⟨b, o + j, none⟩ = some u) : RdTy B w b o x := by
  obtain ⟨l, e, hl⟩ := h
  injection e with e
  have e : cs = [.bool x.ar, l] := by simpa using congrArg Array.toList e
  subst e
  exact ⟨hc 0 _ rfl, ⟨l, hc 1 _ rfl, hl⟩⟩
end Go.Proofs.Ytpdjbhnpahkbpaa
