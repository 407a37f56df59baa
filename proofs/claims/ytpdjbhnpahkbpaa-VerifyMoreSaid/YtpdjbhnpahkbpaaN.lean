/- The reader: lists, instructions, functions, types, programs. -/
import Derived.Test.YtpdjbhnpahkbpaaM
namespace Go.Proofs.Ytpdjbhnpahkbpaa
open Go.ChangeShapes Go.WideShapes Go.ChangeAt Go.RowKit

/-- Values, one behind the other. -/
def puts (W : World) (g o : Nat) : List Value → World
  | [] => W
  | v :: l => puts (W.setCell ⟨g, o, none⟩ v) g (o + 1) l
theorem puts_cha (g : Nat) : ∀ (l : List Value) (W : World) (o : Nat), Cha (fun i => i = g) W (puts W g o l)
  | [], W, _ => Cha.refl _ W
  | v :: l, W, o => (((Cha.refl (fun i => i = g) W).setCell (p := ⟨g, o, none⟩) (fun _ => rfl) v)).trans (puts_cha g l _ (o + 1))
theorem puts_row {t : TypeId} (g : Nat) : ∀ (l : List Value) (W : World) (o n : Nat), (∃ cs, W.heap[g]? = some (.cells cs t (0, 0)) ∧ cs.size = n) → ∃ cs, (puts W g o l).heap[g]? = some (.cells cs t (0, 0)) ∧ cs.size = n
  | [], _, _, _, h => h
  | v :: l, W, o, n, ⟨cs, h, hn⟩ => puts_row g l _ _ _ ⟨_, heap_setCell_same W g o cs t v h, by simpa using hn⟩
theorem put_at {t : TypeId} {W : World} {g n : Nat} (h : ∃ cs, W.heap[g]? = some (.cells cs t (0, 0)) ∧ cs.size = n) (o : Nat) (v : Value) (x : Nat) : (W.setCell ⟨g, o, none⟩ v).cell? ⟨g, x, none⟩ = if x = o ∧ o < n then some v else W.cell? ⟨g, x, none⟩ := by
  obtain ⟨cs, h, hn⟩ := h
  rw [cell_of_row _ g x _ t (0, 0) (heap_setCell_same W g o cs t v h), cell_of_row W g x cs t (0, 0) h, Array.getElem?_setIfInBounds]
  by_cases e : x = o
  · subst e
    rw [if_pos rfl]
    by_cases c : x < n
    · rw [if_pos (by omega), if_pos ⟨rfl, c⟩]
    · rw [if_neg (by omega), if_neg (by omega), Array.getElem?_eq_none (by omega)]
  · rw [if_neg (fun k => e k.symm), if_neg (fun k => e k.1)]
theorem puts_old {t : TypeId} (g : Nat) : ∀ (l : List Value) (W : World) (o n x : Nat), (∃ cs, W.heap[g]? = some (.cells cs t (0, 0)) ∧ cs.size = n) → x < o → (puts W g o l).cell? ⟨g, x, none⟩ = W.cell? ⟨g, x, none⟩
  | [], _, _, _, _, _, _ => rfl
  | v :: l, W, o, n, x, h, hx => by
    have h2 : ∃ cs, (W.setCell ⟨g, o, none⟩ v).heap[g]? = some (.cells cs t (0, 0)) ∧ cs.size = n := puts_row g [v] W o n h
    show (puts _ g (o + 1) l).cell? _ = _
    rw [puts_old g l _ (o + 1) n x h2 (by omega), put_at h, if_neg (by omega)]
theorem puts_cell {t : TypeId} (g : Nat) : ∀ (l : List Value) (W : World) (o n j : Nat) (v : Value), (∃ cs, W.heap[g]? = some (.cells cs t (0, 0)) ∧ cs.size = n) → o + l.length ≤ n → l[j]? = some v → (puts W g o l).cell? ⟨g, o + j, none⟩ = some v
  | [], _, _, _, _, _, _, _, h => by simp at h
  | u :: l, W, o, n, 0, v, h, hl, hj => by
    obtain rfl : u = v := by simpa using hj
    have h2 : ∃ cs, (W.setCell ⟨g, o, none⟩ u).heap[g]? = some (.cells cs t (0, 0)) ∧ cs.size = n := puts_row g [u] W o n h
    show (puts _ g (o + 1) l).cell? _ = _
    simp only [List.length_cons] at hl
    rw [puts_old g l _ (o + 1) n _ h2 (by omega), put_at h, if_pos (by omega)]
  | u :: l, W, o, n, j + 1, v, h, hl, hj => by
    have h2 : ∃ cs, (W.setCell ⟨g, o, none⟩ u).heap[g]? = some (.cells cs t (0, 0)) ∧ cs.size = n := puts_row g [u] W o n h
    have := puts_cell g l _ (o + 1) n j v h2 (by simp only [List.length_cons] at hl; omega) (by simpa using hj)
    show (puts _ g (o + 1) l).cell? _ = _
    rw [show o + (j + 1) = o + 1 + j by omega]
    exact this

/-- What reads as x at a place goes on doing so. -/
def Keeps {α : Type} (s : Nat) (R : (Nat → Prop) → World → Nat → Nat → α → Prop) : Prop :=
  ∀ (B S : Nat → Prop) (W W' : World) (b o : Nat) (x : α), R B W b o x → (∀ j, j < s → W'.cell? ⟨b, o + j, none⟩ = W.cell? ⟨b, o + j, none⟩) → Cha S W W' → (∀ i, S i → ¬ B i) → R B W' b o x
theorem keeps_int : Keeps 1 RdI := fun _ _ _ _ _ _ _ h hc _ _ => ⟨(hc 0 (by omega)).trans h.1, h.2⟩
theorem keeps_ins : Keeps 6 RdIns := fun B S W W' b o x h hc c hS => by
  obtain ⟨v, h5, h6⟩ := h.c5
  exact ⟨(hc 0 (by omega)).trans h.c0, (hc 1 (by omega)).trans h.c1, (hc 2 (by omega)).trans h.c2, (hc 3 (by omega)).trans h.c3, (hc 4 (by omega)).trans h.c4, ⟨v, (hc 5 (by omega)).trans h5, h6.ints c hS (fun _ h => h)⟩, h.k0, h.k1, h.k2, h.k3, h.k4⟩
theorem keeps_fn : Keeps 4 RdFn := fun B S W W' b o x h hc c hS => by
  obtain ⟨v1, a1, b1⟩ := h.c1
  obtain ⟨v2, a2, b2⟩ := h.c2
  obtain ⟨v3, a3, b3⟩ := h.c3
  exact ⟨(hc 0 (by omega)).trans h.c0, ⟨v1, (hc 1 (by omega)).trans a1, b1.ints c hS (fun _ h => h)⟩, ⟨v2, (hc 2 (by omega)).trans a2, b2.ints c hS (fun _ h => h)⟩, ⟨v3, (hc 3 (by omega)).trans a3, b3.inss c hS (fun _ h => h)⟩, h.k0⟩
theorem keeps_ty : Keeps 2 RdTy := fun B S W W' b o x h hc c hS => by
  obtain ⟨v1, a1, b1⟩ := h.c1
  exact ⟨(hc 0 (by omega)).trans h.c0, ⟨v1, (hc 1 (by omega)).trans a1, b1.ints c hS (fun _ h => h)⟩⟩

/-- A list that is being filled: n places of s cells at block g, so many of them filled; what the filled ones lead to lies behind g. -/
structure Items {α : Type} (s : Nat) (R : (Nat → Prop) → World → Nat → Nat → α → Prop) (t : TypeId) (W : World) (g n : Nat) (xs : List α) : Prop where
  row : ∃ cs, W.heap[g]? = some (.cells cs t (0, 0)) ∧ cs.size = n * s
  has : ∀ i x, xs[i]? = some x → R (fun b => g < b) W g (i * s) x
section
variable {α : Type} {s : Nat} {R : (Nat → Prop) → World → Nat → Nat → α → Prop} {t : TypeId} {W W' : World} {g n : Nat} {xs : List α} {S : Nat → Prop}
theorem Items.cha (K : Keeps s R) (h : Items s R t W g n xs) (c : Cha S W W') (hg : ¬ S g) (hS : ∀ i, S i → i < g) : Items s R t W' g n xs := by
  obtain ⟨cs, h1, h2⟩ := h.row
  have hl : g < W.heap.size := (Array.getElem?_eq_some_iff.1 h1).1
  have e := c.old g hl hg
  refine ⟨⟨cs, e.trans h1, h2⟩, fun i x hi => K _ _ _ _ _ _ _ (h.has i x hi) (fun j _ => ?_) c (fun i hi => by have := hS i hi; show ¬ g < i; omega)⟩
  rw [cell_of_row W' g _ cs t (0, 0) (e.trans h1), cell_of_row W g _ cs t (0, 0) h1]
theorem Items.free (h : Items s R t W g n xs) (i : Nat) : W.frozen? ⟨g, i, none⟩ = false := by
  obtain ⟨cs, h1, h2⟩ := h.row
  exact frozen_of_row W g i cs t h1
theorem Items.cell (h : Items s R t W g n xs) (i : Nat) (hi : i < n * s) : ∃ v, W.cell? ⟨g, i, none⟩ = some v := by
  obtain ⟨cs, h1, h2⟩ := h.row
  exact ⟨_, (cell_of_row W g i cs t (0, 0) h1).trans (Array.getElem?_eq_getElem (by omega))⟩
theorem Items.put (K : Keeps s R) (h : Items s R t W g n xs) (hn : xs.length < n) (l : List Value) (hl : l.length = s) (x : α) (hx : ∀ W', Cha (fun i => i = g) W W' → (∀ j v, l[j]? = some v → W'.cell? ⟨g, xs.length * s + j, none⟩ = some v) → R (fun b => g < b) W' g (xs.length * s) x) :
    Items s R t (puts W g (xs.length * s) l) g n (xs ++ [x]) := by
  have hns : xs.length * s + s ≤ n * s := by rw [← Nat.succ_mul]; exact Nat.mul_le_mul_right s hn
  refine ⟨puts_row g l W _ _ h.row, fun i y hi => ?_⟩
  by_cases c : i < xs.length
  · rw [List.getElem?_append_left c] at hi
    have his : i * s + s ≤ xs.length * s := by rw [← Nat.succ_mul]; exact Nat.mul_le_mul_right s c
    exact K _ _ _ _ _ _ _ (h.has i y hi) (fun j hj => puts_old g l W _ _ _ h.row (by omega)) (puts_cha g l W _) (fun i e => by have e : i = g := e; show ¬ g < i; omega)
  · rw [List.getElem?_append_right (by omega)] at hi
    have e : i - xs.length = 0 := by have := (List.getElem?_eq_some_iff.1 hi).1; simp at this; omega
    rw [e] at hi
    obtain rfl : x = y := by simpa using hi
    obtain rfl : i = xs.length := by omega
    exact hx _ (puts_cha g l W _) fun j v hv => puts_cell g l W _ _ j v h.row (by omega) hv
theorem Items.all (h : Items s R t W g n xs) (hn : xs.length = n) (h63 : n ≤ 1000) {B : Nat → Prop} (hB : ∀ i, g ≤ i → B i) (M : ∀ b o x, R (fun b => g < b) W b o x → R B W b o x) : RdS s R B W (.slice (some ⟨g, 0, none⟩) n n) xs := by
  obtain ⟨cs, h1, h2⟩ := h.row
  subst hn
  exact ⟨_, _, rfl, by omega, fun _ => ⟨g, 0, rfl, hB g (Nat.le_refl _), (Array.getElem?_eq_some_iff.1 h1).1, fun i x hi => by rw [Nat.zero_add]; exact M _ _ _ (h.has i x hi)⟩⟩
end
section
variable {B B' : Nat → Prop} {W : World} {b o : Nat}
theorem mono_int {x : Int} (_ : ∀ i, B i → B' i) (h : RdI B W b o x) : RdI B' W b o x := h
theorem mono_ins {x : IZ} (hB : ∀ i, B i → B' i) (h : RdIns B W b o x) : RdIns B' W b o x := by
  obtain ⟨v, h5, h6⟩ := h.c5
  exact ⟨h.c0, h.c1, h.c2, h.c3, h.c4, ⟨v, h5, h6.ints (Cha.refl (fun _ => False) W) (fun _ f => f.elim) hB⟩, h.k0, h.k1, h.k2, h.k3, h.k4⟩
theorem mono_fn {x : FZ} (hB : ∀ i, B i → B' i) (h : RdFn B W b o x) : RdFn B' W b o x := by
  obtain ⟨v1, a1, b1⟩ := h.c1
  obtain ⟨v2, a2, b2⟩ := h.c2
  obtain ⟨v3, a3, b3⟩ := h.c3
  exact ⟨h.c0, ⟨v1, a1, b1.ints (Cha.refl (fun _ => False) W) (fun _ f => f.elim) hB⟩, ⟨v2, a2, b2.ints (Cha.refl (fun _ => False) W) (fun _ f => f.elim) hB⟩, ⟨v3, a3, b3.inss (Cha.refl (fun _ => False) W) (fun _ f => f.elim) hB⟩, h.k0⟩
theorem mono_ty {x : TZ} (hB : ∀ i, B i → B' i) (h : RdTy B W b o x) : RdTy B' W b o x := by
  obtain ⟨v1, a1, b1⟩ := h.c1
  exact ⟨h.c0, ⟨v1, a1, b1.ints (Cha.refl (fun _ => False) W) (fun _ f => f.elim) hB⟩⟩
end

/-- What reads as an item by value; its blocks are of B. -/
def WInt (_ : Nat → Prop) (_ : World) (v : Value) (x : Int) : Prop := v = .int .i64 x ∧ I64 x
def WIns (B : Nat → Prop) (W : World) (v : Value) (x : IZ) : Prop := ∃ l, v = .agg #[.int .i64 x.op, .int .i64 x.a, .int .i64 x.b, .int .i64 x.c, .int .u64 (x.imm : Int), l] ∧ RdS 1 RdI B W l x.l ∧ I64 x.op ∧ I64 x.a ∧ I64 x.b ∧ I64 x.c ∧ x.imm < 18446744073709551616
def WFn (B : Nat → Prop) (W : World) (v : Value) (x : FZ) : Prop := ∃ l1 l2 l3, v = .agg #[.int .i64 x.pa, l1, l2, l3] ∧ RdS 1 RdI B W l1 x.sl ∧ RdS 1 RdI B W l2 x.re ∧ RdS 6 RdIns B W l3 x.co ∧ I64 x.pa
def WTy (B : Nat → Prop) (W : World) (v : Value) (x : TZ) : Prop := ∃ l, v = .agg #[.bool x.ar, l] ∧ RdS 1 RdI B W l x.fi

/-- What a call of the reader's leaves that answers a value. -/
def ReadV {α : Type} (V : (Nat → Prop) → World → Value → α → Prop) (B : Nat → Prop) (br : Nat) (T : List Nat) (r : α × RSt) (W : World) : Ending → World → Prop := fun e w' =>
  ∃ v, e = .returned v ∧ V (fun i => W.heap.size ≤ i) w' v r.1 ∧ Rd B w' br T r.2 ∧ Cha (fun i => i = br) W w'
/-- A list, plainly. -/
theorem rRep_succ {α : Type} (f : RSt → α × RSt) (k : Nat) (s : RSt) : rRep f (k + 1) s = ((rRep f k s).1 ++ [(f (rRep f k s).2).1], (f (rRep f k s).2).2) := rfl
theorem rn_fits {T : List Nat} {s : RSt} (hT : ∀ x ∈ T, x < 256) (h : s.ok T) : I64 (rNum T s).1 := by
  have := (rWord_ok (lim := 65535) (ab := 1) hT h (by decide)).2.1
  unfold rNum I64
  simp only
  omega
theorem Rd.bytes {B : Nat → Prop} {W : World} {br : Nat} {T : List Nat} {s : RSt} (h : Rd B W br T s) : ∀ x ∈ T, x < 256 := by
  obtain ⟨_, _, _, h, _⟩ := h.head
  exact h.small
variable {B : Nat → Prop} {br : Nat} {W W' : World} {T : List Nat} {s : RSt}
theorem mkslice (t e : TypeId) (m size bytes : Nat) (z : Value) (ht : Try.prog.underlying t = some (.slice e)) (hi : (Try.prog.info? e).map (fun i => (i.zero, i.size, i.bytes)) = some (some z, size, bytes)) (hm : m ≤ 1000) (hb : bytes ≤ 1000) (W : World) :
    (Instr.makeSlice t (.int .u64 (m : Int)) (.int .u64 (m : Int))).run Try.prog W = .ok (.slice (some ⟨W.heap.size, 0, none⟩) m m) (W.alloc (.cells (madeCells z.cells (m * size)) e)) := by
  obtain ⟨i, hi, hz, hs, hb2⟩ := info_parts hi
  have hmb : bytes * m ≤ 1000 * 1000 := Nat.mul_le_mul hb hm
  have hq : ((bytes : Int) * (m : Int)) = ((bytes * m : Nat) : Int) := by simp
  have h := run_make (P := Try.prog) W t e i _ ht hi hz .u64 .u64 (m : Int) (m : Int) (by omega) (by omega) (by rw [hb2]; omega) (by omega)
  rw [hs, Int.toNat_natCast] at h
  exact h

theorem info64_56 : (Try.prog.info? 64).map (fun i => (i.zero, i.size, i.bytes)) = some (some (.int .i64 0), 1, 8) := by kernel_rfl
set_option maxRecDepth 100000 in
set_option maxHeartbeats 2000000 in
theorem rkinds_any (lim : Nat) (hlim : lim ≤ 1000) (h : Rd B W br T s) :
    Calls Try.prog 56 #[.pointer (some ⟨br, 0, none⟩), .int .u64 (lim : Int), .func (.func 57) #[.pointer (some ⟨br, 0, none⟩)] #[]] W (ReadV (RdS 1 RdI) B br T (rList T (rNum T) lim s) W) := by
  have hT := h.bytes
  have CW := Lib.hid (rword_any lim 16 h (by decide))
  have hO := (rWord_ok (lim := lim) (ab := 16) hT h.ok (by decide)).2.1
  have HL : Hid (rList T (rNum T) lim s = rRep (rNum T) (rWord T lim 16 s).1 (rWord T lim 16 s).2) := Lib.hid rfl
  generalize rWord T lim 16 s = r at *
  obtain ⟨n, s1⟩ := r
  simp only at hO CW
  have HT := Lib.hid hT
  have hbr := h.lt
  clear h hT
  by_cases h0 : n = 0
  · subst h0
    go_enter Try.func56, Try.ntmps56
    go_wp2_with (go_at_call 77; ((with_reducible refine (CW.out).mono ?_); rintro e w1 ⟨rfl, k1, k2⟩; have K1 := Lib.hid k1; have K2 := Lib.hid k2; clear k1 k2))
    go_ret
    refine ⟨_, rfl, ?_, ?_, K2.out⟩
    · rw [HL.out]; exact RdS.nil _ _ _ _
    · rw [HL.out]; exact K1.out
  · have hn0 : ((n : Int) == 0) = false := by simp; omega
    have hn1 : n ≤ 1000 := by omega
    have HMK : Hid (∀ W, (Instr.makeSlice 23 (.int .u64 (n : Int)) (.int .u64 (n : Int))).run Try.prog W = _) := Lib.hid (mkslice 23 64 n 1 _ _ Try.underlying23 info64_56 hn1 (by decide))
    have hmk := HMK.out
    clear h0 hO hlim
    go_enter Try.func56, Try.ntmps56
    go_wp2_with (go_at_call 77; ((with_reducible refine (CW.out).mono ?_); rintro e w1 ⟨rfl, k1, k2⟩; have K1 := Lib.hid k1; have K2 := Lib.hid k2; clear k1 k2))
    have HN : Hid (W.heap.size ≤ w1.heap.size ∧ br < w1.heap.size) := Lib.hid ⟨K2.out.size, K1.out.lt⟩
    have HI0 : Hid (Items 1 RdI 64 (w1.alloc (.cells (madeCells #[.int .i64 0] (n)) 64)) w1.heap.size n []) := Lib.hid ⟨⟨_, heap_alloc_new w1 _, by rw [size_madeCells, Nat.mul_one]⟩, fun i x hi => by simp at hi⟩
    have HR0 := Lib.hid (K1.out.alloc (.cells (madeCells #[.int .i64 0] (n)) 64))
    have HC0 := Lib.hid (K2.out.alloc (.cells (madeCells #[.int .i64 0] (n)) 64))
    have HZ : Hid (∀ i, B i → i < br) := Lib.hid K1.out.low
    clear hmk
    obtain ⟨g, hg⟩ : ∃ g, g = w1.heap.size := ⟨_, rfl⟩
    rw [← hg] at HI0 HN ⊢
    clear hg
    go_loopw [19] (fun i wr => ∃ (k : Nat), k ≤ n ∧ i = .int .i64 (k : Int) ∧ Items 1 RdI 64 wr g n (rRep (rNum T) k s1).1 ∧ Rd B wr br T (rRep (rNum T) k s1).2 ∧ Cha (fun i => i = br) W wr) (fun i _ => n - (intOf i).toNat)
    case atStart => exact ⟨0, Nat.zero_le _, rfl, HI0.out, HR0.out, HC0.out⟩
    case round =>
      clear HI0 HR0 HC0 CW K1 K2 HMK
      obtain ⟨k, hk, rfl, hI, hR, hC⟩ := hrel
      have HI := Lib.hid hI
      have HR := Lib.hid hR
      have HC := Lib.hid hC
      have hgs : g < wr.heap.size := by
        obtain ⟨cs, h1, _⟩ := hI.row
        exact (Array.getElem?_eq_some_iff.1 h1).1
      clear hI hR hC
      by_cases hlt : k < n
      · have C := Lib.hid (rkind_any HR.out)
        have HLN : Hid ((rRep (rNum T) k s1).1.length = k) := Lib.hid (rep_len _ _)
        go_wp2_with (go_at_call 57; ((with_reducible refine (C.out).mono ?_); rintro e w2 ⟨rfl, k1, k2⟩; have HI2 : Hid (Items 1 RdI 64 w2 g n (rRep (rNum T) k s1).1) := Lib.hid (HI.out.cha keeps_int k2 (fun e => by have e : g = br := e; have := HN.out; omega) (fun i e => by have e : i = br := e; have := HN.out; omega)); have HC2 : Hid (Cha (fun i => i = br) W w2) := Lib.hid (HC.out.trans k2); have HR2 := Lib.hid k1; clear k1 k2; obtain ⟨u0, hu0⟩ := HI2.out.cell (k * 1) (by omega); rw [Nat.mul_one] at hu0; have fu0 := HI2.out.free k))
        have HP : Hid (Items 1 RdI 64 (puts w2 g (k) [.int .i64 (rNum T (rRep (rNum T) k s1).2).1]) g n (rRep (rNum T) (k + 1) s1).1) := Lib.hid (by
          rw [rRep_succ]
          have a := HI2.out.put keeps_int (by rw [HLN.out]; exact hlt) [.int .i64 (rNum T (rRep (rNum T) k s1).2).1] rfl (rNum T (rRep (rNum T) k s1).2).1 (by rw [HLN.out]; intro W' c hc; exact ⟨by have := hc 0 _ rfl; simpa using this, rn_fits HT.out HR.out.ok⟩)
          rw [HLN.out, Nat.mul_one] at a
          exact a)
        have HR3 : Hid (Rd B (puts w2 g (k) [.int .i64 (rNum T (rRep (rNum T) k s1).2).1]) br T (rRep (rNum T) (k + 1) s1).2) := Lib.hid (by
          rw [rRep_succ]
          exact HR2.out.cha (puts_cha g _ w2 _) (fun e => by have e : br = g := e; have := HN.out; omega) (fun i e hb => by have e : i = g := e; have := HZ.out i hb; have := HN.out; omega))
        have HC3 : Hid (Cha (fun i => i = br) W (puts w2 g (k) [.int .i64 (rNum T (rRep (rNum T) k s1).2).1])) := Lib.hid (HC2.out.over (puts_cha g _ w2 _) (fun i e => by have e : i = g := e; have := HN.out; exact .inr (by omega)))
        go_roundw
        case rel => exact ⟨k + 1, by omega, by go_num, HP.out, HR3.out, HC3.out⟩
        case measure => simp [intOf]; omega
      · obtain rfl : k = n := by omega
        go_wp2
        go_ret
        refine ⟨_, rfl, ?_, ?_, HC.out⟩
        · rw [HL.out]; exact HI.out.all (rep_len _ _) hn1 (fun i hi => by have := HN.out; show W.heap.size ≤ i; omega) (fun b o x hx => mono_int (fun i hi => by have := HN.out; have hi : g < i := hi; show W.heap.size ≤ i; omega) hx)
        · rw [HL.out]; exact HR.out

theorem info3_113 : (Try.prog.info? 3).map (fun i => (i.zero, i.size, i.bytes)) = some (some (.int .i64 0), 1, 8) := by kernel_rfl
set_option maxRecDepth 100000 in
set_option maxHeartbeats 2000000 in
theorem rints_any (lim : Nat) (hlim : lim ≤ 1000) (h : Rd B W br T s) :
    Calls Try.prog 113 #[.pointer (some ⟨br, 0, none⟩), .int .u64 (lim : Int), .func (.func 78) #[.pointer (some ⟨br, 0, none⟩)] #[]] W (ReadV (RdS 1 RdI) B br T (rList T (rNum T) lim s) W) := by
  have hT := h.bytes
  have CW := Lib.hid (rword_any lim 16 h (by decide))
  have hO := (rWord_ok (lim := lim) (ab := 16) hT h.ok (by decide)).2.1
  have HL : Hid (rList T (rNum T) lim s = rRep (rNum T) (rWord T lim 16 s).1 (rWord T lim 16 s).2) := Lib.hid rfl
  generalize rWord T lim 16 s = r at *
  obtain ⟨n, s1⟩ := r
  simp only at hO CW
  have HT := Lib.hid hT
  have hbr := h.lt
  clear h hT
  by_cases h0 : n = 0
  · subst h0
    go_enter Try.func113, Try.ntmps113
    go_wp2_with (go_at_call 77; ((with_reducible refine (CW.out).mono ?_); rintro e w1 ⟨rfl, k1, k2⟩; have K1 := Lib.hid k1; have K2 := Lib.hid k2; clear k1 k2))
    go_ret
    refine ⟨_, rfl, ?_, ?_, K2.out⟩
    · rw [HL.out]; exact RdS.nil _ _ _ _
    · rw [HL.out]; exact K1.out
  · have hn0 : ((n : Int) == 0) = false := by simp; omega
    have hn1 : n ≤ 1000 := by omega
    have HMK : Hid (∀ W, (Instr.makeSlice 50 (.int .u64 (n : Int)) (.int .u64 (n : Int))).run Try.prog W = _) := Lib.hid (mkslice 50 3 n 1 _ _ Try.underlying50 info3_113 hn1 (by decide))
    have hmk := HMK.out
    clear h0 hO hlim
    go_enter Try.func113, Try.ntmps113
    go_wp2_with (go_at_call 77; ((with_reducible refine (CW.out).mono ?_); rintro e w1 ⟨rfl, k1, k2⟩; have K1 := Lib.hid k1; have K2 := Lib.hid k2; clear k1 k2))
    have HN : Hid (W.heap.size ≤ w1.heap.size ∧ br < w1.heap.size) := Lib.hid ⟨K2.out.size, K1.out.lt⟩
    have HI0 : Hid (Items 1 RdI 3 (w1.alloc (.cells (madeCells #[.int .i64 0] (n)) 3)) w1.heap.size n []) := Lib.hid ⟨⟨_, heap_alloc_new w1 _, by rw [size_madeCells, Nat.mul_one]⟩, fun i x hi => by simp at hi⟩
    have HR0 := Lib.hid (K1.out.alloc (.cells (madeCells #[.int .i64 0] (n)) 3))
    have HC0 := Lib.hid (K2.out.alloc (.cells (madeCells #[.int .i64 0] (n)) 3))
    have HZ : Hid (∀ i, B i → i < br) := Lib.hid K1.out.low
    clear hmk
    obtain ⟨g, hg⟩ : ∃ g, g = w1.heap.size := ⟨_, rfl⟩
    rw [← hg] at HI0 HN ⊢
    clear hg
    go_loopw [19] (fun i wr => ∃ (k : Nat), k ≤ n ∧ i = .int .i64 (k : Int) ∧ Items 1 RdI 3 wr g n (rRep (rNum T) k s1).1 ∧ Rd B wr br T (rRep (rNum T) k s1).2 ∧ Cha (fun i => i = br) W wr) (fun i _ => n - (intOf i).toNat)
    case atStart => exact ⟨0, Nat.zero_le _, rfl, HI0.out, HR0.out, HC0.out⟩
    case round =>
      clear HI0 HR0 HC0 CW K1 K2 HMK
      obtain ⟨k, hk, rfl, hI, hR, hC⟩ := hrel
      have HI := Lib.hid hI
      have HR := Lib.hid hR
      have HC := Lib.hid hC
      have hgs : g < wr.heap.size := by
        obtain ⟨cs, h1, _⟩ := hI.row
        exact (Array.getElem?_eq_some_iff.1 h1).1
      clear hI hR hC
      by_cases hlt : k < n
      · have C := Lib.hid (rnum_any HR.out)
        have HLN : Hid ((rRep (rNum T) k s1).1.length = k) := Lib.hid (rep_len _ _)
        go_wp2_with (go_at_call 78; ((with_reducible refine (C.out).mono ?_); rintro e w2 ⟨rfl, k1, k2⟩; have HI2 : Hid (Items 1 RdI 3 w2 g n (rRep (rNum T) k s1).1) := Lib.hid (HI.out.cha keeps_int k2 (fun e => by have e : g = br := e; have := HN.out; omega) (fun i e => by have e : i = br := e; have := HN.out; omega)); have HC2 : Hid (Cha (fun i => i = br) W w2) := Lib.hid (HC.out.trans k2); have HR2 := Lib.hid k1; clear k1 k2; obtain ⟨u0, hu0⟩ := HI2.out.cell (k * 1) (by omega); rw [Nat.mul_one] at hu0; have fu0 := HI2.out.free k))
        have HP : Hid (Items 1 RdI 3 (puts w2 g (k) [.int .i64 (rNum T (rRep (rNum T) k s1).2).1]) g n (rRep (rNum T) (k + 1) s1).1) := Lib.hid (by
          rw [rRep_succ]
          have a := HI2.out.put keeps_int (by rw [HLN.out]; exact hlt) [.int .i64 (rNum T (rRep (rNum T) k s1).2).1] rfl (rNum T (rRep (rNum T) k s1).2).1 (by rw [HLN.out]; intro W' c hc; exact ⟨by have := hc 0 _ rfl; simpa using this, rn_fits HT.out HR.out.ok⟩)
          rw [HLN.out, Nat.mul_one] at a
          exact a)
        have HR3 : Hid (Rd B (puts w2 g (k) [.int .i64 (rNum T (rRep (rNum T) k s1).2).1]) br T (rRep (rNum T) (k + 1) s1).2) := Lib.hid (by
          rw [rRep_succ]
          exact HR2.out.cha (puts_cha g _ w2 _) (fun e => by have e : br = g := e; have := HN.out; omega) (fun i e hb => by have e : i = g := e; have := HZ.out i hb; have := HN.out; omega))
        have HC3 : Hid (Cha (fun i => i = br) W (puts w2 g (k) [.int .i64 (rNum T (rRep (rNum T) k s1).2).1])) := Lib.hid (HC2.out.over (puts_cha g _ w2 _) (fun i e => by have e : i = g := e; have := HN.out; exact .inr (by omega)))
        go_roundw
        case rel => exact ⟨k + 1, by omega, by go_num, HP.out, HR3.out, HC3.out⟩
        case measure => simp [intOf]; omega
      · obtain rfl : k = n := by omega
        go_wp2
        go_ret
        refine ⟨_, rfl, ?_, ?_, HC.out⟩
        · rw [HL.out]; exact HI.out.all (rep_len _ _) hn1 (fun i hi => by have := HN.out; show W.heap.size ≤ i; omega) (fun b o x hx => mono_int (fun i hi => by have := HN.out; have hi : g < i := hi; show W.heap.size ≤ i; omega) hx)
        · rw [HL.out]; exact HR.out

theorem rds_shape {α : Type} {s : Nat} {R : (Nat → Prop) → World → Nat → Nat → α → Prop} {B : Nat → Prop} {W : World} {v : Value} {xs : List α} (h : RdS s R B W v xs) : ∃ a n c, v = .slice a n c := by
  obtain ⟨a, c, e, _⟩ := h
  exact ⟨a, _, c, e⟩
theorem kept_blk {br g : Nat} {W W' : World} {o : Obj} (c : Cha (fun i => i = br) W W') (h : W.heap[g]? = some o) (hn : g ≠ br) : W'.heap[g]? = some o :=
  (c.old g (Array.getElem?_eq_some_iff.1 h).1 hn).trans h

set_option maxRecDepth 100000 in
set_option maxHeartbeats 4000000 in
theorem rins_any (h : Rd B W br T s) : Calls Try.prog 80 #[.pointer (some ⟨br, 0, none⟩)] W (ReadV WIns B br T (rIns T s) W) := by
  have HT := Lib.hid h.bytes
  have HG : Hid (W.heap.size ≠ br) := Lib.hid (by have := h.lt; omega)
  have O0 := Lib.hid (h.alloc (.cells #[.int .i64 0, .int .i64 0, .int .i64 0, .int .i64 0, .int .u64 0, .slice none 0 0] 52))
  have M0 : Hid (Cha (fun i => i = br) W (W.alloc (.cells #[.int .i64 0, .int .i64 0, .int .i64 0, .int .i64 0, .int .u64 0, .slice none 0 0] 52))) := Lib.hid ((Cha.refl _ W).alloc _)
  have X0 := Lib.hid (heap_alloc_new W (.cells #[.int .i64 0, .int .i64 0, .int .i64 0, .int .i64 0, .int .u64 0, .slice none 0 0] 52))
  have hmf : ∀ (fn : Fn) (first cap : Array Value) (w : World), (Instr.makeFunc fn first cap).run Try.prog w = .ok (.func fn first cap) w := fun _ _ _ _ => rfl
  have CW : Hid (∀ W s, Rd B W br T s → Calls Try.prog 77 #[.pointer (some ⟨br, 0, none⟩), .int .u64 18446744073709551615, .int .i64 8] W (Read B br T (.int .u64 ((rWord T 18446744073709551615 8 s).1 : Int)) (rWord T 18446744073709551615 8 s).2 W)) := Lib.hid (fun W s h => rword_any 18446744073709551615 8 h (by decide))
  have CL : Hid (∀ W s, Rd B W br T s → Calls Try.prog 113 #[.pointer (some ⟨br, 0, none⟩), .int .u64 24, .func (.func 78) #[.pointer (some ⟨br, 0, none⟩)] #[]] W (ReadV (RdS 1 RdI) B br T (rList T (rNum T) 24 s) W)) := Lib.hid (fun W s h => rints_any 24 (by decide) h)
  have HBR := Lib.hid h.lt
  have HOK := Lib.hid h.ok
  clear h
  go_enter Try.func80, Try.ntmps80
  go_wp2_with (first
    | (go_at_call 78; ((with_reducible refine ((rnum_any O0.out)).mono ?_); rintro e w1 ⟨rfl, k1, k2⟩; have O1 := Lib.hid k1; have M1 : Hid (Cha (fun i => i = br) W w1) := Lib.hid (M0.out.trans k2); have X1 := Lib.hid (kept_blk k2 X0.out HG.out); clear k1 k2))
    | (go_at_call 78; ((with_reducible refine ((rnum_any O1.out)).mono ?_); rintro e w2 ⟨rfl, k1, k2⟩; have O2 := Lib.hid k1; have M2 : Hid (Cha (fun i => i = br) W w2) := Lib.hid (M1.out.trans k2); have X2 := Lib.hid (kept_blk k2 X1.out HG.out); clear k1 k2))
    | (go_at_call 78; ((with_reducible refine ((rnum_any O2.out)).mono ?_); rintro e w3 ⟨rfl, k1, k2⟩; have O3 := Lib.hid k1; have M3 : Hid (Cha (fun i => i = br) W w3) := Lib.hid (M2.out.trans k2); have X3 := Lib.hid (kept_blk k2 X2.out HG.out); clear k1 k2))
    | (go_at_call 78; ((with_reducible refine ((rnum_any O3.out)).mono ?_); rintro e w4 ⟨rfl, k1, k2⟩; have O4 := Lib.hid k1; have M4 : Hid (Cha (fun i => i = br) W w4) := Lib.hid (M3.out.trans k2); have X4 := Lib.hid (kept_blk k2 X3.out HG.out); clear k1 k2))
    | (go_at_call 77; ((with_reducible refine ((CW.out _ _ O4.out)).mono ?_); rintro e w5 ⟨rfl, k1, k2⟩; have O5 := Lib.hid k1; have M5 : Hid (Cha (fun i => i = br) W w5) := Lib.hid (M4.out.trans k2); have X5 := Lib.hid (kept_blk k2 X4.out HG.out); clear k1 k2))
    | (go_at_call 113; ((with_reducible refine ((CL.out _ _ O5.out)).mono ?_); rintro e w6 ⟨v, rfl, kv, k1, k2⟩; have O6 := Lib.hid k1; have M6 : Hid (Cha (fun i => i = br) W w6) := Lib.hid (M5.out.trans k2); have X6 := Lib.hid (kept_blk k2 X5.out HG.out); have KV := Lib.hid kv; obtain ⟨va, vn, vc, rfl⟩ := rds_shape kv; clear k1 k2 kv; have x0 := cell_of_row w6 W.heap.size 0 _ 52 (0, 0) X6.out; have x1 := cell_of_row w6 W.heap.size 1 _ 52 (0, 0) X6.out; have x2 := cell_of_row w6 W.heap.size 2 _ 52 (0, 0) X6.out; have x3 := cell_of_row w6 W.heap.size 3 _ 52 (0, 0) X6.out; have x4 := cell_of_row w6 W.heap.size 4 _ 52 (0, 0) X6.out; have x5 := cell_of_row w6 W.heap.size 5 _ 52 (0, 0) X6.out; have y0 := frozen_of_row w6 W.heap.size 0 _ 52 X6.out; have y1 := frozen_of_row w6 W.heap.size 1 _ 52 X6.out; have y2 := frozen_of_row w6 W.heap.size 2 _ 52 X6.out; have y3 := frozen_of_row w6 W.heap.size 3 _ 52 X6.out; have y4 := frozen_of_row w6 W.heap.size 4 _ 52 X6.out; have y5 := frozen_of_row w6 W.heap.size 5 _ 52 X6.out)))
  have PC := puts_cha W.heap.size [.int .i64 (rNum T s).1, .int .i64 (rNum T (rNum T s).2).1, .int .i64 (rNum T (rNum T (rNum T s).2).2).1, .int .i64 (rNum T (rNum T (rNum T (rNum T s).2).2).2).1, .int .u64 ((rWord T 18446744073709551615 8 (rNum T (rNum T (rNum T (rNum T s).2).2).2).2).1 : Int), .slice va vn vc] w6 0
  have L5 : W.heap.size < w5.heap.size := (Array.getElem?_eq_some_iff.1 X5.out).1
  refine bodyPost_ret (v := .agg #[.int .i64 (rNum T s).1, .int .i64 (rNum T (rNum T s).2).1, .int .i64 (rNum T (rNum T (rNum T s).2).2).1, .int .i64 (rNum T (rNum T (rNum T (rNum T s).2).2).2).1, .int .u64 ((rWord T 18446744073709551615 8 (rNum T (rNum T (rNum T (rNum T s).2).2).2).2).1 : Int), .slice va vn vc]) (by simp [results, Try.results80, go_sem, x0, x1, x2, x3, x4, x5]) rfl ⟨_, rfl, ⟨_, rfl, KV.out.ints PC (fun i e hb => by have e : i = W.heap.size := e; have hb : w5.heap.size ≤ i := hb; omega) (fun i hb => by have hb : w5.heap.size ≤ i := hb; show W.heap.size ≤ i; omega), rn_fits HT.out HOK.out, rn_fits HT.out O1.out.ok, rn_fits HT.out O2.out.ok, rn_fits HT.out O3.out.ok, (rWord_ok HT.out O4.out.ok (by decide)).2.2⟩, O6.out.cha PC HG.out.symm (fun i e hb => by have e : i = W.heap.size := e; have := O6.out.low i hb; have := HBR.out; omega), M6.out.over PC (fun i e => by have e : i = W.heap.size := e; exact .inr (by omega))⟩

theorem info52_79 : (Try.prog.info? 52).map (fun i => (i.zero, i.size, i.bytes)) = some (some (.agg #[.int .i64 0, .int .i64 0, .int .i64 0, .int .i64 0, .int .u64 0, .slice none 0 0]), 6, 64) := by kernel_rfl
set_option maxRecDepth 100000 in
set_option maxHeartbeats 2000000 in
theorem rinss_any (lim : Nat) (hlim : lim ≤ 1000) (h : Rd B W br T s) :
    Calls Try.prog 79 #[.pointer (some ⟨br, 0, none⟩), .int .u64 (lim : Int), .func (.func 80) #[.pointer (some ⟨br, 0, none⟩)] #[]] W (ReadV (RdS 6 RdIns) B br T (rList T (rIns T) lim s) W) := by
  have hT := h.bytes
  have CW := Lib.hid (rword_any lim 16 h (by decide))
  have hO := (rWord_ok (lim := lim) (ab := 16) hT h.ok (by decide)).2.1
  have HL : Hid (rList T (rIns T) lim s = rRep (rIns T) (rWord T lim 16 s).1 (rWord T lim 16 s).2) := Lib.hid rfl
  generalize rWord T lim 16 s = r at *
  obtain ⟨n, s1⟩ := r
  simp only at hO CW
  have HT := Lib.hid hT
  have hbr := h.lt
  clear h hT
  by_cases h0 : n = 0
  · subst h0
    go_enter Try.func79, Try.ntmps79
    go_wp2_with (go_at_call 77; ((with_reducible refine (CW.out).mono ?_); rintro e w1 ⟨rfl, k1, k2⟩; have K1 := Lib.hid k1; have K2 := Lib.hid k2; clear k1 k2))
    go_ret
    refine ⟨_, rfl, ?_, ?_, K2.out⟩
    · rw [HL.out]; exact RdS.nil _ _ _ _
    · rw [HL.out]; exact K1.out
  · have hn0 : ((n : Int) == 0) = false := by simp; omega
    have hn1 : n ≤ 1000 := by omega
    have HMK : Hid (∀ W, (Instr.makeSlice 53 (.int .u64 (n : Int)) (.int .u64 (n : Int))).run Try.prog W = _) := Lib.hid (mkslice 53 52 n 6 _ _ Try.underlying53 info52_79 hn1 (by decide))
    have hmk := HMK.out
    clear h0 hO hlim
    go_enter Try.func79, Try.ntmps79
    go_wp2_with (go_at_call 77; ((with_reducible refine (CW.out).mono ?_); rintro e w1 ⟨rfl, k1, k2⟩; have K1 := Lib.hid k1; have K2 := Lib.hid k2; clear k1 k2))
    have HN : Hid (W.heap.size ≤ w1.heap.size ∧ br < w1.heap.size) := Lib.hid ⟨K2.out.size, K1.out.lt⟩
    have HI0 : Hid (Items 6 RdIns 52 (w1.alloc (.cells (madeCells #[.int .i64 0, .int .i64 0, .int .i64 0, .int .i64 0, .int .u64 0, .slice none 0 0] (n * 6)) 52)) w1.heap.size n []) := Lib.hid ⟨⟨_, heap_alloc_new w1 _, by rw [size_madeCells]⟩, fun i x hi => by simp at hi⟩
    have HR0 := Lib.hid (K1.out.alloc (.cells (madeCells #[.int .i64 0, .int .i64 0, .int .i64 0, .int .i64 0, .int .u64 0, .slice none 0 0] (n * 6)) 52))
    have HC0 := Lib.hid (K2.out.alloc (.cells (madeCells #[.int .i64 0, .int .i64 0, .int .i64 0, .int .i64 0, .int .u64 0, .slice none 0 0] (n * 6)) 52))
    have HZ : Hid (∀ i, B i → i < br) := Lib.hid K1.out.low
    clear hmk
    obtain ⟨g, hg⟩ : ∃ g, g = w1.heap.size := ⟨_, rfl⟩
    rw [← hg] at HI0 HN ⊢
    clear hg
    go_loopw [19] (fun i wr => ∃ (k : Nat), k ≤ n ∧ i = .int .i64 (k : Int) ∧ Items 6 RdIns 52 wr g n (rRep (rIns T) k s1).1 ∧ Rd B wr br T (rRep (rIns T) k s1).2 ∧ Cha (fun i => i = br) W wr) (fun i _ => n - (intOf i).toNat)
    case atStart => exact ⟨0, Nat.zero_le _, rfl, HI0.out, HR0.out, HC0.out⟩
    case round =>
      clear HI0 HR0 HC0 CW K1 K2 HMK
      obtain ⟨k, hk, rfl, hI, hR, hC⟩ := hrel
      have HI := Lib.hid hI
      have HR := Lib.hid hR
      have HC := Lib.hid hC
      have hgs : g < wr.heap.size := by
        obtain ⟨cs, h1, _⟩ := hI.row
        exact (Array.getElem?_eq_some_iff.1 h1).1
      clear hI hR hC
      by_cases hlt : k < n
      · have C := Lib.hid (rins_any HR.out)
        have HLN : Hid ((rRep (rIns T) k s1).1.length = k) := Lib.hid (rep_len _ _)
        go_wp2_with (go_at_call 80; ((with_reducible refine (C.out).mono ?_); rintro e w2 ⟨v, rfl, kv, k1, k2⟩; have HI2 : Hid (Items 6 RdIns 52 w2 g n (rRep (rIns T) k s1).1) := Lib.hid (HI.out.cha keeps_ins k2 (fun e => by have e : g = br := e; have := HN.out; omega) (fun i e => by have e : i = br := e; have := HN.out; omega)); have HC2 : Hid (Cha (fun i => i = br) W w2) := Lib.hid (HC.out.trans k2); have HR2 := Lib.hid k1; have HV2 := Lib.hid kv; clear kv k1 k2; obtain ⟨lv, rfl, hlv, q0, q1, q2, q3, q4⟩ := HV2.out; have HLV := Lib.hid hlv; have HQ := Lib.hid (And.intro q0 (And.intro q1 (And.intro q2 (And.intro q3 q4)))); obtain ⟨va, vn, vc, rfl⟩ := rds_shape hlv; clear hlv q0 q1 q2 q3 q4; obtain ⟨u0, hu0⟩ := HI2.out.cell (k * 6 + 0) (by omega); have fu0 := HI2.out.free (k * 6 + 0); obtain ⟨u1, hu1⟩ := HI2.out.cell (k * 6 + 1) (by omega); have fu1 := HI2.out.free (k * 6 + 1); obtain ⟨u2, hu2⟩ := HI2.out.cell (k * 6 + 2) (by omega); have fu2 := HI2.out.free (k * 6 + 2); obtain ⟨u3, hu3⟩ := HI2.out.cell (k * 6 + 3) (by omega); have fu3 := HI2.out.free (k * 6 + 3); obtain ⟨u4, hu4⟩ := HI2.out.cell (k * 6 + 4) (by omega); have fu4 := HI2.out.free (k * 6 + 4); obtain ⟨u5, hu5⟩ := HI2.out.cell (k * 6 + 5) (by omega); have fu5 := HI2.out.free (k * 6 + 5); rw [Nat.add_zero] at hu0 fu0))
        have HP : Hid (Items 6 RdIns 52 (puts w2 g (k * 6) [.int .i64 (rIns T (rRep (rIns T) k s1).2).1.op, .int .i64 (rIns T (rRep (rIns T) k s1).2).1.a, .int .i64 (rIns T (rRep (rIns T) k s1).2).1.b, .int .i64 (rIns T (rRep (rIns T) k s1).2).1.c, .int .u64 ((rIns T (rRep (rIns T) k s1).2).1.imm : Int), .slice va vn vc]) g n (rRep (rIns T) (k + 1) s1).1) := Lib.hid (by
          rw [rRep_succ]
          have a := HI2.out.put keeps_ins (by rw [HLN.out]; exact hlt) [.int .i64 (rIns T (rRep (rIns T) k s1).2).1.op, .int .i64 (rIns T (rRep (rIns T) k s1).2).1.a, .int .i64 (rIns T (rRep (rIns T) k s1).2).1.b, .int .i64 (rIns T (rRep (rIns T) k s1).2).1.c, .int .u64 ((rIns T (rRep (rIns T) k s1).2).1.imm : Int), .slice va vn vc] rfl (rIns T (rRep (rIns T) k s1).2).1 (by rw [HLN.out]; intro W' c hc; exact ⟨hc 0 _ rfl, hc 1 _ rfl, hc 2 _ rfl, hc 3 _ rfl, hc 4 _ rfl, ⟨_, hc 5 _ rfl, HLV.out.ints c (fun i e hb => by have e : i = g := e; have hb : wr.heap.size ≤ i := hb; omega) (fun i hb => by have hb : wr.heap.size ≤ i := hb; show g < i; omega)⟩, HQ.out.1, HQ.out.2.1, HQ.out.2.2.1, HQ.out.2.2.2.1, HQ.out.2.2.2.2⟩)
          rw [HLN.out] at a
          exact a)
        have HR3 : Hid (Rd B (puts w2 g (k * 6) [.int .i64 (rIns T (rRep (rIns T) k s1).2).1.op, .int .i64 (rIns T (rRep (rIns T) k s1).2).1.a, .int .i64 (rIns T (rRep (rIns T) k s1).2).1.b, .int .i64 (rIns T (rRep (rIns T) k s1).2).1.c, .int .u64 ((rIns T (rRep (rIns T) k s1).2).1.imm : Int), .slice va vn vc]) br T (rRep (rIns T) (k + 1) s1).2) := Lib.hid (by
          rw [rRep_succ]
          exact HR2.out.cha (puts_cha g _ w2 _) (fun e => by have e : br = g := e; have := HN.out; omega) (fun i e hb => by have e : i = g := e; have := HZ.out i hb; have := HN.out; omega))
        have HC3 : Hid (Cha (fun i => i = br) W (puts w2 g (k * 6) [.int .i64 (rIns T (rRep (rIns T) k s1).2).1.op, .int .i64 (rIns T (rRep (rIns T) k s1).2).1.a, .int .i64 (rIns T (rRep (rIns T) k s1).2).1.b, .int .i64 (rIns T (rRep (rIns T) k s1).2).1.c, .int .u64 ((rIns T (rRep (rIns T) k s1).2).1.imm : Int), .slice va vn vc])) := Lib.hid (HC2.out.over (puts_cha g _ w2 _) (fun i e => by have e : i = g := e; have := HN.out; exact .inr (by omega)))
        go_roundw
        case rel => exact ⟨k + 1, by omega, by go_num, HP.out, HR3.out, HC3.out⟩
        case measure => simp [intOf]; omega
      · obtain rfl : k = n := by omega
        go_wp2
        go_ret
        refine ⟨_, rfl, ?_, ?_, HC.out⟩
        · rw [HL.out]; exact HI.out.all (rep_len _ _) hn1 (fun i hi => by have := HN.out; show W.heap.size ≤ i; omega) (fun b o x hx => mono_ins (fun i hi => by have := HN.out; have hi : g < i := hi; show W.heap.size ≤ i; omega) hx)
        · rw [HL.out]; exact HR.out
end Go.Proofs.Ytpdjbhnpahkbpaa
