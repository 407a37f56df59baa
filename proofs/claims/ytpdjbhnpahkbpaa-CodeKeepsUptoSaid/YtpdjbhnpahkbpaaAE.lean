/- The document's reader: instructions. -/
import Derived.Test.YtpdjbhnpahkbpaaAD
import Derived.Deep.AppendLies
import Derived.Deep.RegionLaw
namespace Go.Proofs.Ytpdjbhnpahkbpaa
open Go.ChangeShapes Go.WideShapes Go.ChangeAt Go.RowKit

/-- A reader beside a block of the call's own. -/
structure IB (B : Nat → Prop) (br : Nat) (T : List Nat) (t : TypeId) (g : Nat) (W w : World) (s : RSt) (cs : Array Value) : Prop where
  dr : Dr B w br T s
  row : w.heap[g]? = some (.cells cs t (0, 0))
  cha : Cha (fun i => i = br ∨ i = g) W w
  far : br < g ∧ g < W.heap.size
section
variable {B : Nat → Prop} {br g : Nat} {S : Nat → Prop} {W w w' : World} {T : List Nat} {s s' : RSt} {t : TypeId} {cs : Array Value} {v : Value}
theorem IB.call (h : IB B br T t g W w s cs) (d : Dr B w' br T s') (c : Cha (fun i => i = br) w w') : IB B br T t g W w' s' cs :=
  ⟨d, (c.old g (Array.getElem?_eq_some_iff.1 h.row).1 (fun e => by have e : g = br := e; have := h.far; omega)).trans h.row, h.cha.trans (c.mono fun _ _ e => .inl e), h.far⟩
theorem IB.store (h : IB B br T t g W w s cs) (i : Nat) (v : Value) : IB B br T t g W (w.setCell ⟨g, i, none⟩ v) s (cs.setIfInBounds i v) := by
  have c : Cha (fun i => i = g) w (w.setCell ⟨g, i, none⟩ v) := (Cha.refl (fun i => i = g) w).setCell (p := ⟨g, i, none⟩) (fun _ => rfl) v
  exact ⟨h.dr.cha c (fun e => by have e : br = g := e; have := h.far; omega) (fun j e hb => by have e : j = g := e; have := h.dr.low j hb; have := h.far; omega), heap_setCell_same w g i cs t v h.row, h.cha.trans (c.mono fun _ _ e => .inr e), h.far⟩
theorem IB.cell (h : IB B br T t g W w s cs) (i : Nat) : w.cell? ⟨g, i, none⟩ = cs[i]? := cell_of_row w g i cs t (0, 0) h.row
theorem IB.free (h : IB B br T t g W w s cs) (i : Nat) : w.frozen? ⟨g, i, none⟩ = false := frozen_of_row w g i cs t h.row
theorem IB.lt (h : IB B br T t g W w s cs) : g < w.heap.size := (Array.getElem?_eq_some_iff.1 h.row).1
theorem IB.drew (h : IB B br T t g W w s cs) : IB B br T t g W w.drew s cs := ⟨h.dr.cha (Cha.refl (fun _ => False) w).drew (fun f => f) (fun _ f => f.elim), h.row, h.cha.drew, h.far⟩
/-- A change of what is new. -/
theorem IB.behind (h : IB B br T t g W w s cs) (c : Cha (fun i => W.heap.size ≤ i) w w') : IB B br T t g W w' s cs :=
  ⟨h.dr.cha c (fun e => by have e : W.heap.size ≤ br := e; have := h.far; omega) (fun i e hb => by have e : W.heap.size ≤ i := e; have := h.dr.low i hb; have := h.far; omega), (c.old g h.lt (fun e => by have e : W.heap.size ≤ g := e; have := h.far; omega)).trans h.row, h.cha.over c (fun i e => .inr e), h.far⟩
end
variable {B : Nat → Prop} {br : Nat} {W W' : World} {T : List Nat} {s : RSt}
theorem alloc2' (W : World) (o0 o1 : Obj) : ((W.alloc o0).alloc o1).heap[W.heap.size]? = some o0 ∧ ((W.alloc o0).alloc o1).heap[W.heap.size + 1]? = some o1 := by
  have s1 : (W.alloc o0).heap.size = W.heap.size + 1 := World.size_alloc _ _
  have a1 := heap_alloc_new (W.alloc o0) o1
  rw [s1] at a1
  exact ⟨(heap_alloc_old _ _ (by rw [s1]; omega)).trans (heap_alloc_new W o0), a1⟩
theorem info3_ : (Try.prog.info? 3).map (fun i => (i.zero, i.size, i.bytes)) = some (some (.int .i64 0), 1, 8) := by kernel_rfl
set_option maxRecDepth 100000 in
set_option maxHeartbeats 4000000 in
theorem dins_any (h : Dr B W br T s) : Calls Try.prog 61 #[.pointer (some ⟨br, 0, none⟩)] W (DReadV WIns B br T (rIns T s) W) := by
  have HT := Lib.hid h.bytes
  have hbr := h.lt
  have HBR := Lib.hid hbr
  have s2 : ((W.alloc (.cells #[.int .i64 0, .int .i64 0, .int .i64 0, .int .i64 0, .int .u64 0, .slice none 0 0] 52)).alloc (.cells #[.int .i64 0, .int .i64 0, .int .i64 0, .int .i64 0, .int .u64 0, .slice none 0 0] 52)).heap.size = W.heap.size + 2 := by rw [World.size_alloc, World.size_alloc]
  have A := alloc2' W (.cells #[.int .i64 0, .int .i64 0, .int .i64 0, .int .i64 0, .int .u64 0, .slice none 0 0] 52) (.cells #[.int .i64 0, .int .i64 0, .int .i64 0, .int .i64 0, .int .u64 0, .slice none 0 0] 52)
  have I0 : Hid (IB B br T 52 (W.heap.size + 1) ((W.alloc (.cells #[.int .i64 0, .int .i64 0, .int .i64 0, .int .i64 0, .int .u64 0, .slice none 0 0] 52)).alloc (.cells #[.int .i64 0, .int .i64 0, .int .i64 0, .int .i64 0, .int .u64 0, .slice none 0 0] 52)) ((W.alloc (.cells #[.int .i64 0, .int .i64 0, .int .i64 0, .int .i64 0, .int .u64 0, .slice none 0 0] 52)).alloc (.cells #[.int .i64 0, .int .i64 0, .int .i64 0, .int .i64 0, .int .u64 0, .slice none 0 0] 52)) s #[.int .i64 0, .int .i64 0, .int .i64 0, .int .i64 0, .int .u64 0, .slice none 0 0]) := Lib.hid ⟨(h.alloc _).alloc _, A.2, Cha.refl _ _, by omega, by omega⟩
  have D : Hid (∀ w s, Dr B w br T s → Calls Try.prog 35 #[.pointer (some ⟨br, 0, none⟩), .int .i64 65535, .int .i64 1] w (DRead B br T (.int .i64 ((rNum T s).1)) (rNum T s).2 w)) := Lib.hid (fun w s h => dnum_any 65535 1 h (by decide) (by decide))
  have DL : Hid (∀ w s, Dr B w br T s → Calls Try.prog 35 #[.pointer (some ⟨br, 0, none⟩), .int .i64 24, .int .i64 16] w (DRead B br T (.int .i64 ((rWord T 24 16 s).1 : Int)) (rWord T 24 16 s).2 w)) := Lib.hid (fun w s h => dnum_any 24 16 h (by decide) (by decide))
  have C0 : Hid (Cha (fun i => i = br) W ((W.alloc (.cells #[.int .i64 0, .int .i64 0, .int .i64 0, .int .i64 0, .int .u64 0, .slice none 0 0] 52)).alloc (.cells #[.int .i64 0, .int .i64 0, .int .i64 0, .int .i64 0, .int .u64 0, .slice none 0 0] 52))) := Lib.hid (((Cha.refl _ W).alloc _).alloc _)
  have XR := Lib.hid A.1
  obtain ⟨W2, hW2⟩ : ∃ x, x = ((W.alloc (.cells #[.int .i64 0, .int .i64 0, .int .i64 0, .int .i64 0, .int .u64 0, .slice none 0 0] 52)).alloc (.cells #[.int .i64 0, .int .i64 0, .int .i64 0, .int .i64 0, .int .u64 0, .slice none 0 0] 52)) := ⟨_, rfl⟩
  have I0 : Hid (IB B br T 52 (W.heap.size + 1) W2 ((W.alloc (.cells #[.int .i64 0, .int .i64 0, .int .i64 0, .int .i64 0, .int .u64 0, .slice none 0 0] 52)).alloc (.cells #[.int .i64 0, .int .i64 0, .int .i64 0, .int .i64 0, .int .u64 0, .slice none 0 0] 52)) s #[.int .i64 0, .int .i64 0, .int .i64 0, .int .i64 0, .int .u64 0, .slice none 0 0]) := Lib.hid (by rw [hW2]; exact I0.out)
  rw [← hW2] at s2 XR C0
  have HW2 := Lib.hid hW2
  have HS2 := Lib.hid s2
  clear A s2 h hW2
  have hg : br ≠ W.heap.size + 1 := by omega
  go_enter Try.func61, Try.ntmps61
  go_wp2_with (first
    | (go_at_call 35; ((with_reducible refine (D.out _ _ I0.out.dr).mono ?_); rintro e w1 ⟨rfl, k1, k2⟩; have I1 := (I0.out).call k1 k2; have f1 := I1.free 0; have z1 := I1.cell 0; have I1s := Lib.hid (I1.store 0 (.int .i64 (rNum T s).1)); clear k1 k2 I1))
    | (go_at_call 35; ((with_reducible refine (D.out _ _ I1s.out.dr).mono ?_); rintro e w2 ⟨rfl, k1, k2⟩; have I2 := (I1s.out).call k1 k2; have f2 := I2.free 1; have z2 := I2.cell 1; have I2s := Lib.hid (I2.store 1 (.int .i64 (rNum T (rNum T s).2).1)); clear k1 k2 I2))
    | (go_at_call 35; ((with_reducible refine (D.out _ _ I2s.out.dr).mono ?_); rintro e w3 ⟨rfl, k1, k2⟩; have I3 := (I2s.out).call k1 k2; have f3 := I3.free 2; have z3 := I3.cell 2; have I3s := Lib.hid (I3.store 2 (.int .i64 (rNum T (rNum T (rNum T s).2).2).1)); clear k1 k2 I3))
    | (go_at_call 35; ((with_reducible refine (D.out _ _ I3s.out.dr).mono ?_); rintro e w4 ⟨rfl, k1, k2⟩; have I4 := (I3s.out).call k1 k2; have f4 := I4.free 3; have z4 := I4.cell 3; have I4s := Lib.hid (I4.store 3 (.int .i64 (rNum T (rNum T (rNum T (rNum T s).2).2).2).1)); clear k1 k2 I4))
    | (go_at_call 60; ((with_reducible refine (dword_any I4s.out.dr).mono ?_); rintro e w5 ⟨rfl, k1, k2⟩; have I5 := (I4s.out).call k1 k2; have f5 := I5.free 4; have z5 := I5.cell 4; have I5s := Lib.hid (I5.store 4 (.int .u64 ((rWord T 18446744073709551615 8 (rNum T (rNum T (rNum T (rNum T s).2).2).2).2).1 : Int))); clear k1 k2 I5))
    | (go_at_call 35; ((with_reducible refine (DL.out _ _ I5s.out.dr).mono ?_); rintro e w6 ⟨rfl, k1, k2⟩; have I6 := Lib.hid (I5s.out.call k1 k2); clear k1 k2)))
  obtain ⟨cs, hcs⟩ : ∃ f : Value → Array Value, f = fun v => #[.int .i64 (rNum T s).1, .int .i64 (rNum T (rNum T s).2).1, .int .i64 (rNum T (rNum T (rNum T s).2).2).1, .int .i64 (rNum T (rNum T (rNum T (rNum T s).2).2).2).1, .int .u64 ((rWord T 18446744073709551615 8 (rNum T (rNum T (rNum T (rNum T s).2).2).2).2).1 : Int), v] := ⟨_, rfl⟩
  obtain ⟨s5, hs5⟩ : ∃ x, x = (rWord T 18446744073709551615 8 (rNum T (rNum T (rNum T (rNum T s).2).2).2).2).2 := ⟨_, rfl⟩
  have I7 : Hid (IB B br T 52 (W.heap.size + 1) W2 w6 (rWord T 24 16 s5).2 (cs (.slice none 0 0))) := Lib.hid (by rw [hs5, hcs]; exact I6.out)
  have HL : Hid ((rIns T s).1.l = (rRep (rNum T) (rWord T 24 16 s5).1 (rWord T 24 16 s5).2).1 ∧ (rIns T s).2 = (rRep (rNum T) (rWord T 24 16 s5).1 (rWord T 24 16 s5).2).2) := Lib.hid (by rw [hs5]; exact ⟨rfl, rfl⟩)
  have hO := rWord_ok (lim := 24) (ab := 16) HT.out (s := s5) (by rw [hs5]; exact I5s.out.dr.ok) (by decide)
  rw [← hs5]
  generalize rWord T 24 16 s5 = r6 at *
  obtain ⟨n, s6⟩ := r6
  simp only at hO HL I7
  have hn1 : n ≤ 24 := hO.2.1
  have HK : Hid (∀ k, (rRep (rNum T) k s6).2.ok T ∧ ∀ x ∈ (rRep (rNum T) k s6).1, I64 x) := Lib.hid (fun k => nums_ok HT.out k hO.1)
  obtain ⟨i0, hi, hz0, hz1, hz2⟩ := info_parts info3_
  have HFIT : Hid (I64 (rNum T s).1 ∧ I64 (rNum T (rNum T s).2).1 ∧ I64 (rNum T (rNum T (rNum T s).2).2).1 ∧ I64 (rNum T (rNum T (rNum T (rNum T s).2).2).2).1 ∧ (rWord T 18446744073709551615 8 (rNum T (rNum T (rNum T (rNum T s).2).2).2).2).1 < 18446744073709551616) := Lib.hid ⟨rn_fits HT.out I0.out.dr.ok, rn_fits HT.out I1s.out.dr.ok, rn_fits HT.out I2s.out.dr.ok, rn_fits HT.out I3s.out.dr.ok, (rWord_ok HT.out I4s.out.dr.ok (by decide)).2.2⟩
  have HB1 : Hid (W2.heap.size ≤ w6.heap.size) := Lib.hid I6.out.cha.size
  have HCS := Lib.hid hcs
  have HNB : Hid (W.heap.size ≠ br) := Lib.hid (by have := I6.out.far; intro e; have := HBR.out; omega)
  clear f1 f2 f3 f4 f5 z1 z2 z3 z4 z5 I0 I1s I2s I3s I4s I5s I6 hO hs5 hcs DL
  have HSET : Hid (∀ v v', (cs v).setIfInBounds 5 v' = cs v') := Lib.hid (fun v v' => by rw [HCS.out]; rfl)
  have HC5 : Hid (∀ v, (cs v)[5]? = some v) := Lib.hid (fun v => by rw [HCS.out]; rfl)
  go_loopw [5] (fun i wr => ∃ (k : Nat) (v : Value), k ≤ n ∧ i = .int .i64 (k : Int) ∧ IB B br T 52 (W.heap.size + 1) W2 wr (rRep (rNum T) k s6).2 (cs v) ∧ wr.ownsRow W2.heap.size 3 1 v k (iz (rRep (rNum T) k s6).1)) (fun i _ => n - (intOf i).toNat)
  case atStart => exact ⟨0, _, Nat.zero_le _, rfl, I7.out, World.ownsRow_nil _ _ _ _⟩
  case round =>
    clear I7
    obtain ⟨k, v, hk, rfl, hI, hO⟩ := hrel
    have c2 := hI.dr.err
    have c5 := hI.cell 5
    rw [HC5.out] at c5
    have hgl := hI.lt
    obtain ⟨va, vc, rfl⟩ := own_shape hO
    have I := Lib.hid hI
    have O := Lib.hid hO
    clear hI hO
    by_cases hlt : k < n
    · by_cases he : (rRep (rNum T) k s6).2.e = 0
      · rw [he] at c2
        go_wp2
        have I' := Lib.hid I.out.drew
        have O' := Lib.hid (own_but O.out ((Cha.refl (fun _ => False) wr).drew) (fun _ _ f => f))
        have KX : Hid (∀ W', Cha (fun i => i = br ∨ W2.heap.size ≤ i) wr.drew W' → W'.cell? ⟨W.heap.size + 1, 5, none⟩ = some (.slice va k vc) ∧ W'.frozen? ⟨W.heap.size + 1, 5, none⟩ = false) := Lib.hid fun W' hc => by
          have e := (hc.old _ I'.out.lt (fun e => by have := I'.out.far; rcases e with e | e <;> omega)).trans I'.out.row
          exact ⟨by rw [cell_of_row W' _ 5 _ 52 _ e, HC5.out], frozen_of_row W' _ 5 _ 52 e⟩
        have C : Hid (Calls Try.prog 35 #[.pointer (some ⟨br, 0, none⟩), .int .i64 65535, .int .i64 1] wr.drew (DRead B br T (.int .i64 (rNum T (rRep (rNum T) k s6).2).1) (rNum T (rRep (rNum T) k s6).2).2 wr.drew)) := Lib.hid (D.out _ _ I'.out.dr)
        have HB : Hid (W2.heap.size ≤ wr.drew.heap.size ∧ br < W2.heap.size) := Lib.hid ⟨I'.out.cha.size, by have := I'.out.far; omega⟩
        clear I O c2
        obtain ⟨k1, k2⟩ := KX.out wr.drew (Cha.refl _ _)
        go_region_law
          (first
            | (go_simp; go_at_call 35; refine (C.out).mono ?_; rintro e w2 ⟨rfl, j1, j2⟩; have m2 : Cha (fun i => i = br ∨ W2.heap.size ≤ i) wr.drew w2 := j2.mono fun _ _ e => .inl e; obtain ⟨q1, q2⟩ := KX.out w2 m2; have hgl2 : W.heap.size + 1 < w2.heap.size := Nat.lt_of_lt_of_le I'.out.lt j2.size)
            | (refine step_append_lies _ (by rfl) _ _ 50 (by rfl) W2.heap.size 3 i0 (.int .i64 0) 1 8 Try.underlying50 hi hz0 hz1 hz2 rfl (by decide) (.slice va k vc) k (iz (rRep (rNum T) k s6).1) (by rfl) ((own_but O'.out j2 (fun g hg e => by have e : g = br := e; have := (O'.out.lt g hg).1; have := HB.out; omega)).alloc _) ⟨w2.heap.size, 0, none⟩ 1 1 [.int .i64 (rNum T (rRep (rNum T) k s6).2).1] (by rfl) rfl (one_new _ _ _) (one_int _) (by decide) (by unfold maxLen; omega) (by omega) (by rw [World.size_alloc]; have := HB.out; have := j2.size; omega) (w2.heap.size + 1) (World.size_alloc _ _) ?_; intro g3 cap w3 hown hg hat hlt3; have m3 : Cha (fun i => i = br ∨ W2.heap.size ≤ i) wr.drew w3 := (m2.alloc _).trans (Cha.of_grownBy hg (fun j e => .inr (O'.out.lt j e).1)); obtain ⟨qc3, fz3⟩ := KX.out w3 m3))
        all_goals
          have I3 := (I'.out.call j1 j2).behind (((Cha.refl _ w2).alloc _).trans (Cha.of_grownBy hg (fun j e => (O'.out.lt j e).1)))
          have I4 := I3.store 5 (.slice (some ⟨g3, 0, none⟩) (k + 1) cap)
          rw [HSET.out] at I4
          have O4 := own_but hown ((Cha.refl (fun i => i = W.heap.size + 1) w3).setCell (p := ⟨W.heap.size + 1, 5, none⟩) (fun _ => rfl) (.slice (some ⟨g3, 0, none⟩) (k + 1) cap)) (fun g hg e => by have e : g = W.heap.size + 1 := e; have := (hown.lt g hg).1; have := HS2.out; omega)
          rw [← iz_snoc] at O4
          have I5 := Lib.hid I4
          have O5 := Lib.hid O4
          clear I3 I4 O4 hown hg hat m2 m3 j1 j2
          go_wp2
          go_roundw
          case rel => exact ⟨k + 1, _, by omega, by go_num, by rw [rRep_succ]; exact I5.out, by rw [rRep_succ]; exact O5.out⟩
          case measure => simp [intOf]; omega
      · obtain ⟨E, hE⟩ : ∃ E, E = (rRep (rNum T) k s6).2.e := ⟨_, rfl⟩
        have HE := Lib.hid he
        rw [← hE] at c2 he
        have he1 : (E == 0) = false := by simpa using he
        clear hE he
        have XRw : wr.heap[W.heap.size]? = _ := (I.out.cha.old _ (by have := HS2.out; omega) (fun e => by rcases e with e | e; exact absurd e HNB.out; omega)).trans XR.out
        have row : wr.heap[W.heap.size + 1]? = some (.cells #[.int .i64 (rNum T s).1, .int .i64 (rNum T (rNum T s).2).1, .int .i64 (rNum T (rNum T (rNum T s).2).2).1, .int .i64 (rNum T (rNum T (rNum T (rNum T s).2).2).2).1, .int .u64 ((rWord T 18446744073709551615 8 (rNum T (rNum T (rNum T (rNum T s).2).2).2).2).1 : Int), .slice va k vc] 52 (0, 0)) := (by have := I.out.row; rw [HCS.out] at this; exact this)
        have b0 := cell_of_row wr _ 0 _ 52 (0, 0) row
        have x0 := cell_of_row wr _ 0 _ 52 (0, 0) XRw
        have y0 := frozen_of_row wr _ 0 _ 52 XRw
        have b1 := cell_of_row wr _ 1 _ 52 (0, 0) row
        have x1 := cell_of_row wr _ 1 _ 52 (0, 0) XRw
        have y1 := frozen_of_row wr _ 1 _ 52 XRw
        have b2 := cell_of_row wr _ 2 _ 52 (0, 0) row
        have x2 := cell_of_row wr _ 2 _ 52 (0, 0) XRw
        have y2 := frozen_of_row wr _ 2 _ 52 XRw
        have b3 := cell_of_row wr _ 3 _ 52 (0, 0) row
        have x3 := cell_of_row wr _ 3 _ 52 (0, 0) XRw
        have y3 := frozen_of_row wr _ 3 _ 52 XRw
        have b4 := cell_of_row wr _ 4 _ 52 (0, 0) row
        have x4 := cell_of_row wr _ 4 _ 52 (0, 0) XRw
        have y4 := frozen_of_row wr _ 4 _ 52 XRw
        have b5 := cell_of_row wr _ 5 _ 52 (0, 0) row
        have x5 := cell_of_row wr _ 5 _ 52 (0, 0) XRw
        have y5 := frozen_of_row wr _ 5 _ 52 XRw
        go_wp2
        have PC := puts_cha W.heap.size [.int .i64 (rNum T s).1, .int .i64 (rNum T (rNum T s).2).1, .int .i64 (rNum T (rNum T (rNum T s).2).2).1, .int .i64 (rNum T (rNum T (rNum T (rNum T s).2).2).2).1, .int .u64 ((rWord T 18446744073709551615 8 (rNum T (rNum T (rNum T (rNum T s).2).2).2).2).1 : Int), .slice va k vc] wr 0
        have RL := own_ints O.out (HK.out k).2 (by rw [rep_len]; omega) (rep_len _ _).symm
        have CF : Cha (fun i => i = br) W wr := C0.out.over I.out.cha (fun i e => by rcases e with e | e; exact .inl e; exact .inr (by omega))
        clear XRw row
        refine bodyPost_ret (v := .agg #[.int .i64 (rNum T s).1, .int .i64 (rNum T (rNum T s).2).1, .int .i64 (rNum T (rNum T (rNum T s).2).2).1, .int .i64 (rNum T (rNum T (rNum T (rNum T s).2).2).2).1, .int .u64 ((rWord T 18446744073709551615 8 (rNum T (rNum T (rNum T (rNum T s).2).2).2).2).1 : Int), .slice va k vc]) (by simp [results, Try.results61, go_sem, x0, x1, x2, x3, x4, x5]) rfl ⟨_, ⟨(rNum T s).1, (rNum T (rNum T s).2).1, (rNum T (rNum T (rNum T s).2).2).1, (rNum T (rNum T (rNum T (rNum T s).2).2).2).1, (rWord T 18446744073709551615 8 (rNum T (rNum T (rNum T (rNum T s).2).2).2).2).1, (rRep (rNum T) k s6).1⟩, rfl, ⟨_, rfl, RdS.ints RL PC (fun i e hb => by have e : i = W.heap.size := e; have hb : W2.heap.size ≤ i := hb; have := HS2.out; omega) (fun i hb => by have hb : W2.heap.size ≤ i := hb; have := HS2.out; show W.heap.size ≤ i; omega), HFIT.out⟩, fun c => by rw [HL.out.2, rep_stopped (n := n) rnum_stop hk HE.out] at c; exact absurd c HE.out, ?_, CF.over PC (fun i e => by have e : i = W.heap.size := e; exact .inr (by omega))⟩
        have dd := I.out.dr.cha PC (fun e => by have e : br = W.heap.size := e; exact HNB.out e.symm) (fun i e hb => by have e : i = W.heap.size := e; have := I.out.dr.low i hb; have := HBR.out; omega)
        rw [HL.out.2, rep_stopped (n := n) rnum_stop hk HE.out]
        exact dd
    · obtain rfl : k = n := by omega
      have XRw : wr.heap[W.heap.size]? = _ := (I.out.cha.old _ (by have := HS2.out; omega) (fun e => by rcases e with e | e; exact absurd e HNB.out; omega)).trans XR.out
      have row : wr.heap[W.heap.size + 1]? = some (.cells #[.int .i64 (rNum T s).1, .int .i64 (rNum T (rNum T s).2).1, .int .i64 (rNum T (rNum T (rNum T s).2).2).1, .int .i64 (rNum T (rNum T (rNum T (rNum T s).2).2).2).1, .int .u64 ((rWord T 18446744073709551615 8 (rNum T (rNum T (rNum T (rNum T s).2).2).2).2).1 : Int), .slice va k vc] 52 (0, 0)) := (by have := I.out.row; rw [HCS.out] at this; exact this)
      have b0 := cell_of_row wr _ 0 _ 52 (0, 0) row
      have x0 := cell_of_row wr _ 0 _ 52 (0, 0) XRw
      have y0 := frozen_of_row wr _ 0 _ 52 XRw
      have b1 := cell_of_row wr _ 1 _ 52 (0, 0) row
      have x1 := cell_of_row wr _ 1 _ 52 (0, 0) XRw
      have y1 := frozen_of_row wr _ 1 _ 52 XRw
      have b2 := cell_of_row wr _ 2 _ 52 (0, 0) row
      have x2 := cell_of_row wr _ 2 _ 52 (0, 0) XRw
      have y2 := frozen_of_row wr _ 2 _ 52 XRw
      have b3 := cell_of_row wr _ 3 _ 52 (0, 0) row
      have x3 := cell_of_row wr _ 3 _ 52 (0, 0) XRw
      have y3 := frozen_of_row wr _ 3 _ 52 XRw
      have b4 := cell_of_row wr _ 4 _ 52 (0, 0) row
      have x4 := cell_of_row wr _ 4 _ 52 (0, 0) XRw
      have y4 := frozen_of_row wr _ 4 _ 52 XRw
      have b5 := cell_of_row wr _ 5 _ 52 (0, 0) row
      have x5 := cell_of_row wr _ 5 _ 52 (0, 0) XRw
      have y5 := frozen_of_row wr _ 5 _ 52 XRw
      go_wp2
      have PC := puts_cha W.heap.size [.int .i64 (rNum T s).1, .int .i64 (rNum T (rNum T s).2).1, .int .i64 (rNum T (rNum T (rNum T s).2).2).1, .int .i64 (rNum T (rNum T (rNum T (rNum T s).2).2).2).1, .int .u64 ((rWord T 18446744073709551615 8 (rNum T (rNum T (rNum T (rNum T s).2).2).2).2).1 : Int), .slice va k vc] wr 0
      have RL := own_ints O.out (HK.out k).2 (by rw [rep_len]; omega) (rep_len _ _).symm
      have CF : Cha (fun i => i = br) W wr := C0.out.over I.out.cha (fun i e => by rcases e with e | e; exact .inl e; exact .inr (by omega))
      clear XRw row
      refine bodyPost_ret (v := .agg #[.int .i64 (rNum T s).1, .int .i64 (rNum T (rNum T s).2).1, .int .i64 (rNum T (rNum T (rNum T s).2).2).1, .int .i64 (rNum T (rNum T (rNum T (rNum T s).2).2).2).1, .int .u64 ((rWord T 18446744073709551615 8 (rNum T (rNum T (rNum T (rNum T s).2).2).2).2).1 : Int), .slice va k vc]) (by simp [results, Try.results61, go_sem, x0, x1, x2, x3, x4, x5]) rfl ⟨_, ⟨(rNum T s).1, (rNum T (rNum T s).2).1, (rNum T (rNum T (rNum T s).2).2).1, (rNum T (rNum T (rNum T (rNum T s).2).2).2).1, (rWord T 18446744073709551615 8 (rNum T (rNum T (rNum T (rNum T s).2).2).2).2).1, (rRep (rNum T) k s6).1⟩, rfl, ⟨_, rfl, RdS.ints RL PC (fun i e hb => by have e : i = W.heap.size := e; have hb : W2.heap.size ≤ i := hb; have := HS2.out; omega) (fun i hb => by have hb : W2.heap.size ≤ i := hb; have := HS2.out; show W.heap.size ≤ i; omega), HFIT.out⟩, fun c => by rw [← HL.out.1]; rfl, ?_, CF.over PC (fun i e => by have e : i = W.heap.size := e; exact .inr (by omega))⟩
      have dd := I.out.dr.cha PC (fun e => by have e : br = W.heap.size := e; exact HNB.out e.symm) (fun i e hb => by have e : i = W.heap.size := e; have := I.out.dr.low i hb; have := HBR.out; omega)
      rw [HL.out.2]
      exact dd
end Go.Proofs.Ytpdjbhnpahkbpaa
