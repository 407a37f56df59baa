/- The document's reader: functions. -/
import Derived.Test.YtpdjbhnpahkbpaaAF
namespace Go.Proofs.Ytpdjbhnpahkbpaa
open Go.ChangeShapes Go.WideShapes Go.ChangeAt Go.RowKit
variable {B : Nat → Prop} {br : Nat} {W W' : World} {T : List Nat} {s : RSt}
theorem info52_ : (Try.prog.info? 52).map (fun i => (i.zero, i.size, i.bytes)) = some (some (.agg #[.int .i64 0, .int .i64 0, .int .i64 0, .int .i64 0, .int .u64 0, .slice none 0 0]), 6, 64) := by kernel_rfl
theorem inss_ok {B : Nat → Prop} {w : World} {br : Nat} (_h : Dr B w br T s) : True := trivial
theorem e_back {α : Type} {f : List Nat → RSt → α × RSt} (hf : ∀ T s, s.e ≠ 0 → (f T s).2 = s) (h : (f T s).2.e = 0) : s.e = 0 := by
  by_cases c : s.e = 0
  · exact c
  · rw [hf T s c] at h; exact h
theorem six_one (a b c d e : Int) (la : Option Addr) (ln lc : Nat) : ∀ u ∈ ([.int .i64 a, .int .i64 b, .int .i64 c, .int .i64 d, .int .u64 e, .slice la ln lc] : List Value), u.oneCell' = true := fun u hu => by
  simp only [List.mem_cons, List.not_mem_nil, or_false] at hu
  rcases hu with rfl | rfl | rfl | rfl | rfl | rfl <;> rfl
/-- The items that were read so far. -/
def SoFar {α : Type} (f : RSt → α × RSt) (k : Nat) (s : RSt) (xs : List α) : Prop := xs.length = k ∧ ((rRep f k s).2.e = 0 → xs = (rRep f k s).1)
theorem SoFar.step {α : Type} {f : List Nat → RSt → α × RSt} {k : Nat} {xs : List α} {x : α} (hf : ∀ T s, s.e ≠ 0 → (f T s).2 = s) (h : SoFar (f T) k s xs) (hx : (f T (rRep (f T) k s).2).2.e = 0 → x = (f T (rRep (f T) k s).2).1) : SoFar (f T) (k + 1) s (xs ++ [x]) := by
  refine ⟨by simp [h.1], fun c => ?_⟩
  rw [rRep_succ] at c ⊢
  have c : (f T (rRep (f T) k s).2).2.e = 0 := c
  rw [h.2 (e_back hf c), hx c]
theorem ins_cells {B : Nat → Prop} {w : World} {v : Value} {x : IZ} (h : WIns B w v x) : ∃ la ln lc, v = .agg #[.int .i64 x.op, .int .i64 x.a, .int .i64 x.b, .int .i64 x.c, .int .u64 (x.imm : Int), .slice la ln lc] := by
  obtain ⟨l, e, hl, _⟩ := h
  obtain ⟨la, ln, lc, rfl⟩ := rds_shape hl
  exact ⟨la, ln, lc, e⟩
set_option maxRecDepth 100000 in
set_option maxHeartbeats 4000000 in
theorem dfn_any (h : Dr B W br T s) : Calls Try.prog 37 #[.pointer (some ⟨br, 0, none⟩)] W (DReadV WFn B br T (rFn T s) W) := by
  have HT := Lib.hid h.bytes
  have hbr := h.lt
  have HBR := Lib.hid hbr
  have s2 : ((W.alloc (.cells #[.int .i64 0, .slice none 0 0, .slice none 0 0, .slice none 0 0] 55)).alloc (.cells #[.int .i64 0, .slice none 0 0, .slice none 0 0, .slice none 0 0] 55)).heap.size = W.heap.size + 2 := by rw [World.size_alloc, World.size_alloc]
  have A := alloc2' W (.cells #[.int .i64 0, .slice none 0 0, .slice none 0 0, .slice none 0 0] 55) (.cells #[.int .i64 0, .slice none 0 0, .slice none 0 0, .slice none 0 0] 55)
  have I0 : Hid (IB B br T 55 (W.heap.size + 1) ((W.alloc (.cells #[.int .i64 0, .slice none 0 0, .slice none 0 0, .slice none 0 0] 55)).alloc (.cells #[.int .i64 0, .slice none 0 0, .slice none 0 0, .slice none 0 0] 55)) ((W.alloc (.cells #[.int .i64 0, .slice none 0 0, .slice none 0 0, .slice none 0 0] 55)).alloc (.cells #[.int .i64 0, .slice none 0 0, .slice none 0 0, .slice none 0 0] 55)) s #[.int .i64 0, .slice none 0 0, .slice none 0 0, .slice none 0 0]) := Lib.hid ⟨(h.alloc _).alloc _, A.2, Cha.refl _ _, by omega, by omega⟩
  have D : Hid (∀ w s, Dr B w br T s → Calls Try.prog 35 #[.pointer (some ⟨br, 0, none⟩), .int .i64 65535, .int .i64 1] w (DRead B br T (.int .i64 ((rNum T s).1)) (rNum T s).2 w)) := Lib.hid (fun w s h => dnum_any 65535 1 h (by decide) (by decide))
  have DL : Hid (∀ w s, Dr B w br T s → Calls Try.prog 35 #[.pointer (some ⟨br, 0, none⟩), .int .i64 256, .int .i64 16] w (DRead B br T (.int .i64 ((rWord T 256 16 s).1 : Int)) (rWord T 256 16 s).2 w)) := Lib.hid (fun w s h => dnum_any 256 16 h (by decide) (by decide))
  have DK : Hid (∀ w s, Dr B w br T s → Calls Try.prog 36 #[.pointer (some ⟨br, 0, none⟩), .int .i64 32] w (DReadV (RdS 1 RdI) B br T (rList T (rNum T) 32 s) w)) := Lib.hid (fun w s h => dkinds_any 32 (by decide) h)
  have C0 : Hid (Cha (fun i => i = br) W ((W.alloc (.cells #[.int .i64 0, .slice none 0 0, .slice none 0 0, .slice none 0 0] 55)).alloc (.cells #[.int .i64 0, .slice none 0 0, .slice none 0 0, .slice none 0 0] 55))) := Lib.hid (((Cha.refl _ W).alloc _).alloc _)
  have XR := Lib.hid A.1
  obtain ⟨W2, hW2⟩ : ∃ x, x = ((W.alloc (.cells #[.int .i64 0, .slice none 0 0, .slice none 0 0, .slice none 0 0] 55)).alloc (.cells #[.int .i64 0, .slice none 0 0, .slice none 0 0, .slice none 0 0] 55)) := ⟨_, rfl⟩
  have I0 : Hid (IB B br T 55 (W.heap.size + 1) W2 ((W.alloc (.cells #[.int .i64 0, .slice none 0 0, .slice none 0 0, .slice none 0 0] 55)).alloc (.cells #[.int .i64 0, .slice none 0 0, .slice none 0 0, .slice none 0 0] 55)) s #[.int .i64 0, .slice none 0 0, .slice none 0 0, .slice none 0 0]) := Lib.hid (by rw [hW2]; exact I0.out)
  rw [← hW2] at s2 XR C0
  have HS2 := Lib.hid s2
  clear A s2 h hW2
  have hg : br ≠ W.heap.size + 1 := by omega
  obtain ⟨r1, hr1⟩ : ∃ r, r = rNum T s := ⟨_, rfl⟩
  obtain ⟨r2, hr2⟩ : ∃ r, r = rList T (rNum T) 32 r1.2 := ⟨_, rfl⟩
  obtain ⟨r3, hr3⟩ : ∃ r, r = rList T (rNum T) 32 r2.2 := ⟨_, rfl⟩
  obtain ⟨r4, hr4⟩ : ∃ r, r = rWord T 256 16 r3.2 := ⟨_, rfl⟩
  have HR : Hid ((rFn T s).1 = ⟨r1.1, r2.1, r3.1, (rRep (rIns T) r4.1 r4.2).1⟩ ∧ (rFn T s).2 = (rRep (rIns T) r4.1 r4.2).2) := Lib.hid (by rw [hr4, hr3, hr2, hr1]; exact ⟨rfl, rfl⟩)
  have HST : Hid ((rRep (rIns T) r4.1 r4.2).2.e = 0 → r3.2.e = 0 ∧ r2.2.e = 0) := Lib.hid (fun c => by
    have e4 : r4.2.e = 0 := e_back (f := fun T s => rRep (rIns T) r4.1 s) (fun T s h => rrep_stop rins_stop _ T s h) c
    rw [hr4] at e4
    have e3 := e_back (f := fun T s => rWord T 256 16 s) (fun T s h => rword_stop T s h) e4
    refine ⟨e3, ?_⟩
    rw [hr3] at e3
    exact e_back (f := fun T s => rList T (rNum T) 32 s) (fun T s h => rnums_stop _ T s h) e3)
  have D1 := Lib.hid (D.out _ _ I0.out.dr)
  rw [← hr1] at D1
  have DK1 : Hid (∀ w, Dr B w br T r1.2 → Calls Try.prog 36 #[.pointer (some ⟨br, 0, none⟩), .int .i64 32] w (DReadV (RdS 1 RdI) B br T r2 w)) := Lib.hid (fun w h => by rw [hr2]; exact DK.out w _ h)
  have DK2 : Hid (∀ w, Dr B w br T r2.2 → Calls Try.prog 36 #[.pointer (some ⟨br, 0, none⟩), .int .i64 32] w (DReadV (RdS 1 RdI) B br T r3 w)) := Lib.hid (fun w h => by rw [hr3]; exact DK.out w _ h)
  have DL3 : Hid (∀ w, Dr B w br T r3.2 → Calls Try.prog 35 #[.pointer (some ⟨br, 0, none⟩), .int .i64 256, .int .i64 16] w (DRead B br T (.int .i64 (r4.1 : Int)) r4.2 w)) := Lib.hid (fun w h => by rw [hr4]; exact DL.out w _ h)
  have HO : Hid (∀ w, Dr B w br T r3.2 → r4.1 ≤ 256) := Lib.hid (fun w h => by rw [hr4]; exact (rWord_ok (lim := 256) (ab := 16) HT.out h.ok (by decide)).2.1)
  have HF1 : Hid (I64 r1.1) := Lib.hid (by rw [hr1]; exact rn_fits HT.out I0.out.dr.ok)
  clear hr1 hr2 hr3 hr4 D DL DK
  obtain ⟨n, s4⟩ := r4
  go_enter Try.func37, Try.ntmps37
  go_wp2_with (first
    | (go_at_call 35; ((with_reducible refine (D1.out).mono ?_); rintro e w1 ⟨rfl, k1, k2⟩; have I1 := I0.out.call k1 k2; have f1 := I1.free 0; have z1 := I1.cell 0; have I1s := Lib.hid (I1.store 0 (.int .i64 r1.1)); clear k1 k2 I1))
    | (go_at_call 36; ((with_reducible refine (DK1.out _ I1s.out.dr).mono ?_); rintro e w2 ⟨v1, x1, rfl, kv, ke, k1, k2⟩; have I2 := I1s.out.call k1 k2; have f2 := I2.free 1; have z2 := I2.cell 1; have KV1 : Hid (RdS 1 RdI (fun i => W2.heap.size ≤ i) w2 v1 x1) := Lib.hid (kv.nums (fun i hi => Nat.le_trans I1s.out.cha.size hi)); have KE1 := Lib.hid ke; obtain ⟨va1, vn1, vc1, rfl⟩ := rds_shape kv; have I2s := Lib.hid (I2.store 1 (.slice va1 vn1 vc1)); have Q2 : Hid (Cha (fun i => i = W.heap.size + 1) w2 (w2.setCell ⟨W.heap.size + 1, 1, none⟩ (.slice va1 vn1 vc1))) := Lib.hid ((Cha.refl (fun i => i = W.heap.size + 1) w2).setCell (p := ⟨W.heap.size + 1, 1, none⟩) (fun _ => rfl) _); clear k1 k2 I2 kv ke))
    | (go_at_call 36; ((with_reducible refine (DK2.out _ I2s.out.dr).mono ?_); rintro e w3 ⟨v2, x2, rfl, kv, ke, k1, k2⟩; have I3 := I2s.out.call k1 k2; have f3 := I3.free 2; have z3 := I3.cell 2; have KV2 : Hid (RdS 1 RdI (fun i => W2.heap.size ≤ i) w3 v2 x2) := Lib.hid (kv.nums (fun i hi => Nat.le_trans I2s.out.cha.size hi)); have KE2 := Lib.hid ke; have KV13 : Hid (RdS 1 RdI (fun i => W2.heap.size ≤ i) w3 (.slice va1 vn1 vc1) x1) := Lib.hid (RdS.ints (RdS.ints KV1.out Q2.out (fun i e hb => by have e : i = W.heap.size + 1 := e; have hb : W2.heap.size ≤ i := hb; have := HS2.out; omega) (fun _ h => h)) k2 (fun i e hb => by have e : i = br := e; have hb : W2.heap.size ≤ i := hb; have := HS2.out; have := HBR.out; omega) (fun _ h => h)); obtain ⟨va2, vn2, vc2, rfl⟩ := rds_shape kv; have I3s := Lib.hid (I3.store 2 (.slice va2 vn2 vc2)); have Q3 : Hid (Cha (fun i => i = W.heap.size + 1) w3 (w3.setCell ⟨W.heap.size + 1, 2, none⟩ (.slice va2 vn2 vc2))) := Lib.hid ((Cha.refl (fun i => i = W.heap.size + 1) w3).setCell (p := ⟨W.heap.size + 1, 2, none⟩) (fun _ => rfl) _); clear k1 k2 I3 kv ke))
    | (go_at_call 35; ((with_reducible refine (DL3.out _ I3s.out.dr).mono ?_); rintro e w4 ⟨rfl, k1, k2⟩; have I4 := Lib.hid (I3s.out.call k1 k2); have QC : Hid (Cha (fun i => i = br ∨ i = W.heap.size + 1) w3 w4) := Lib.hid ((Q3.out.mono fun _ _ e => .inr e).trans (k2.mono fun _ _ e => .inl e)); clear k1 k2)))
  have hn1 : n ≤ 256 := HO.out _ I3s.out.dr
  have hdis : ∀ i, (i = br ∨ i = W.heap.size + 1) → ¬ W2.heap.size ≤ i := fun i e hb => by have := HS2.out; have := HBR.out; rcases e with e | e <;> omega
  have L1 := RdS.bnd' (RdS.ints KV13.out QC.out hdis (fun _ h => h)) (fun _ _ _ h => h)
  have L2 := RdS.bnd' (RdS.ints KV2.out QC.out hdis (fun _ h => h)) (fun _ _ _ h => h)
  obtain ⟨b0, hb0⟩ : ∃ b, b = w4.heap.size := ⟨_, rfl⟩
  rw [← hb0] at L1 L2
  have HL1 := Lib.hid L1
  have HL2 := Lib.hid L2
  have HB0 : Hid (W2.heap.size ≤ b0 ∧ b0 ≤ w4.heap.size) := Lib.hid ⟨by rw [hb0]; exact I4.out.cha.size, by omega⟩
  obtain ⟨cs, hcs⟩ : ∃ f : Value → Array Value, f = fun v => #[.int .i64 r1.1, .slice va1 vn1 vc1, .slice va2 vn2 vc2, v] := ⟨_, rfl⟩
  have I7 : Hid (IB B br T 55 (W.heap.size + 1) W2 w4 s4 (cs (.slice none 0 0))) := Lib.hid (by rw [hcs]; exact I4.out)
  obtain ⟨i0, hi, hz0, hz1, hz2⟩ := info_parts info52_
  have HCS := Lib.hid hcs
  have HNB : Hid (W.heap.size ≠ br) := Lib.hid (by have := HBR.out; omega)
  have HSET : Hid (∀ v v', (cs v).setIfInBounds 3 v' = cs v') := Lib.hid (fun v v' => by rw [HCS.out]; rfl)
  have HC5 : Hid (∀ v, (cs v)[3]? = some v) := Lib.hid (fun v => by rw [HCS.out]; rfl)
  clear f1 f2 f3 z1 z2 z3 I0 I1s I2s I3s I4 hcs DL3 DK1 DK2 D1 L1 L2 hdis hb0 KV1 KV2 KV13 Q2 Q3 QC HO
  go_loopw [5] (fun i wr => ∃ (k : Nat) (v : Value) (xs : List IZ), k ≤ n ∧ i = .int .i64 (k : Int) ∧ IB B br T 55 (W.heap.size + 1) W2 wr (rRep (rIns T) k s4).2 (cs v) ∧ OwnL WIns 6 52 b0 wr v k xs ∧ SoFar (rIns T) k s4 xs ∧ RdS 1 RdI (fun i => W2.heap.size ≤ i ∧ i < b0) wr (.slice va1 vn1 vc1) x1 ∧ RdS 1 RdI (fun i => W2.heap.size ≤ i ∧ i < b0) wr (.slice va2 vn2 vc2) x2 ∧ b0 ≤ wr.heap.size) (fun i _ => n - (intOf i).toNat)
  case atStart => exact ⟨0, _, [], Nat.zero_le _, rfl, I7.out, OwnL.nil _ _ _ _ _, ⟨rfl, fun _ => rfl⟩, HL1.out, HL2.out, HB0.out.2⟩
  case round =>
    clear I7 HL1 HL2
    obtain ⟨k, v, xs, hk, rfl, hI, hO, hF, hL1, hL2, hbw⟩ := hrel
    have c2 := hI.dr.err
    have c5 := hI.cell 3
    rw [HC5.out] at c5
    have hgl := hI.lt
    obtain ⟨va, vc, rfl⟩ := hO.shape
    have I := Lib.hid hI
    have O := Lib.hid hO
    have SF := Lib.hid hF
    have HL1 := Lib.hid hL1
    have HL2 := Lib.hid hL2
    have HBW := Lib.hid hbw
    clear hI hO hF hL1 hL2 hbw
    by_cases hlt : k < n
    · by_cases he : (rRep (rIns T) k s4).2.e = 0
      · rw [he] at c2
        go_wp2
        have I' := Lib.hid I.out.drew
        have O' := Lib.hid (O.out.cha wok_ins ((Cha.refl (fun _ => False) wr).drew) (fun _ f => f.elim))
        have KX : Hid (∀ W', Cha (fun i => i = br ∨ W2.heap.size ≤ i) wr.drew W' → W'.cell? ⟨W.heap.size + 1, 3, none⟩ = some (.slice va k vc) ∧ W'.frozen? ⟨W.heap.size + 1, 3, none⟩ = false) := Lib.hid fun W' hc => by
          have e := (hc.old _ I'.out.lt (fun e => by have := I'.out.far; rcases e with e | e <;> omega)).trans I'.out.row
          exact ⟨by rw [cell_of_row W' _ 3 _ 55 _ e, HC5.out], frozen_of_row W' _ 3 _ 55 e⟩
        have C : Hid (Calls Try.prog 61 #[.pointer (some ⟨br, 0, none⟩)] wr.drew (DReadV WIns B br T (rIns T (rRep (rIns T) k s4).2) wr.drew)) := Lib.hid (dins_any I'.out.dr)
        have HB : Hid (br < b0 ∧ W.heap.size + 1 < b0 ∧ b0 ≤ wr.drew.heap.size) := Lib.hid ⟨by have := I'.out.far; have := HB0.out; omega, by have := HS2.out; have := HB0.out; omega, HBW.out⟩
        have HSF := SF
        have HL1a := HL1
        have HL2a := HL2
        clear I O c2 SF HL1 HL2
        obtain ⟨k1, k2⟩ := KX.out wr.drew (Cha.refl _ _)
        go_region_law
          (first
            | (go_simp; go_at_call 61; refine (C.out).mono ?_; rintro e w2 ⟨vi, xi, rfl, jv, je, j1, j2⟩; obtain ⟨la, ln, lc, rfl⟩ := ins_cells jv; have m2 : Cha (fun i => i = br ∨ W2.heap.size ≤ i) wr.drew w2 := j2.mono fun _ _ e => .inl e; obtain ⟨q1, q2⟩ := KX.out w2 m2; have hgl2 : W.heap.size + 1 < w2.heap.size := Nat.lt_of_lt_of_le I'.out.lt j2.size; have OL2 := O'.out.cha wok_ins j2 (fun i e => by have e : i = br := e; have := HB.out; omega); have OLH := Lib.hid OL2; obtain ⟨css, t1, t2, t3, t4⟩ := OL2; have T1 := Lib.hid t1; have T3 := Lib.hid t3; have T4 := Lib.hid t4; clear t1 t2 t3 t4)
            | (refine step_append_lies _ (by rfl) _ _ 53 (by rfl) b0 52 i0 (.agg #[.int .i64 0, .int .i64 0, .int .i64 0, .int .i64 0, .int .u64 0, .slice none 0 0]) 6 64 Try.underlying53 hi hz0 hz1 hz2 rfl (by decide) (.slice va k vc) k css.flatten (by rfl) (T3.out.alloc _) ⟨w2.heap.size, 0, none⟩ 1 1 [.int .i64 xi.op, .int .i64 xi.a, .int .i64 xi.b, .int .i64 xi.c, .int .u64 (xi.imm : Int), .slice la ln lc] (by rfl) rfl (World.news_of_block (heap_alloc_new w2 _)) (six_one _ _ _ _ _ _ _ _) (by decide) (by unfold maxLen; omega) (by omega) (by rw [World.size_alloc]; have := HB.out; have := j2.size; omega) (w2.heap.size + 1) (World.size_alloc _ _) ?_; intro g3 cap w3 hown hg hat hlt3; have m3 : Cha (fun i => i = br ∨ W2.heap.size ≤ i) wr.drew w3 := (m2.alloc _).trans (Cha.of_grownBy hg (fun j e => .inr (by have := (T3.out.lt j e).1; have := HB0.out; omega))); obtain ⟨qc3, fz3⟩ := KX.out w3 m3))
        all_goals
          have OL3 := OwnL.push wok_ins (w0 := wr.drew) (w2 := w2) (w3 := w3) (v' := .slice (some ⟨g3, 0, none⟩) (k + 1) cap) OLH.out (fun g e => (O'.out.ge e).2) HB.out.2.2 (cs := [.int .i64 xi.op, .int .i64 xi.a, .int .i64 xi.b, .int .i64 xi.c, .int .u64 (xi.imm : Int), .slice la ln lc]) rfl (x := xi) jv hg (by rcases hat with e | e; exact .inl e.symm; exact .inr fun g h => by have h : some g3 = some g := h; injection h with h; rw [World.size_alloc]; omega) css T1.out T4.out hown
          have cb : Cha (fun i => b0 ≤ i) w2 w3 := ((Cha.refl _ w2).alloc _).trans (Cha.of_grownBy hg (fun j e => (T3.out.lt j e).1))
          have cg : Cha (fun i => i = W.heap.size + 1) w3 (w3.setCell ⟨W.heap.size + 1, 3, none⟩ (.slice (some ⟨g3, 0, none⟩) (k + 1) cap)) := (Cha.refl (fun i => i = W.heap.size + 1) w3).setCell (p := ⟨W.heap.size + 1, 3, none⟩) (fun _ => rfl) _
          have I3 := (I'.out.call j1 j2).behind (cb.mono fun i _ e => by have e : b0 ≤ i := e; have := HB0.out; show W2.heap.size ≤ i; omega)
          have I4 := I3.store 3 (.slice (some ⟨g3, 0, none⟩) (k + 1) cap)
          rw [HSET.out] at I4
          have O4 := OL3.cha wok_ins cg (fun i e => by have e : i = W.heap.size + 1 := e; have := HB.out; omega)
          have CT : Cha (fun i => i = br ∨ i = W.heap.size + 1 ∨ b0 ≤ i) wr (w3.setCell ⟨W.heap.size + 1, 3, none⟩ (.slice (some ⟨g3, 0, none⟩) (k + 1) cap)) := ((((Cha.refl _ wr).drew).trans (j2.mono fun _ _ e => .inl e)).trans (cb.mono fun _ _ e => .inr (.inr e))).trans (cg.mono fun _ _ e => .inr (.inl e))
          have hd : ∀ i, (i = br ∨ i = W.heap.size + 1 ∨ b0 ≤ i) → ¬ (W2.heap.size ≤ i ∧ i < b0) := fun i e hb => by have := HS2.out; have := HBR.out; rcases e with e | e | e <;> omega
          have I5 := Lib.hid I4
          have O5 := Lib.hid O4
          have SF5 := Lib.hid (HSF.out.step rins_stop je)
          have HL15 := Lib.hid (RdS.ints HL1a.out CT hd (fun _ h => h))
          have HL25 := Lib.hid (RdS.ints HL2a.out CT hd (fun _ h => h))
          have HBW5 := Lib.hid (Nat.le_trans HBW.out CT.size)
          clear I3 I4 O4 OL3 hown hg hat m2 m3 j1 j2 jv je cb cg CT hd
          go_wp2
          go_roundw
          case rel => exact ⟨k + 1, _, _, by omega, by go_num, by rw [rRep_succ]; exact I5.out, O5.out, SF5.out, HL15.out, HL25.out, HBW5.out⟩
          case measure => simp [intOf]; omega
      · obtain ⟨E, hE⟩ : ∃ E, E = (rRep (rIns T) k s4).2.e := ⟨_, rfl⟩
        have HE := Lib.hid he
        rw [← hE] at c2 he
        have he1 : (E == 0) = false := by simpa using he
        clear hE he
        have XRw : wr.heap[W.heap.size]? = _ := (I.out.cha.old _ (by have := HS2.out; omega) (fun e => by rcases e with e | e; exact absurd e HNB.out; omega)).trans XR.out
        have row : wr.heap[W.heap.size + 1]? = some (.cells #[.int .i64 r1.1, .slice va1 vn1 vc1, .slice va2 vn2 vc2, .slice va k vc] 55 (0, 0)) := (by have := I.out.row; rw [HCS.out] at this; exact this)
        have b0 := cell_of_row wr _ 0 _ 55 (0, 0) row
        have x0' := cell_of_row wr _ 0 _ 55 (0, 0) XRw
        have y0 := frozen_of_row wr _ 0 _ 55 XRw
        have b1 := cell_of_row wr _ 1 _ 55 (0, 0) row
        have x1' := cell_of_row wr _ 1 _ 55 (0, 0) XRw
        have y1 := frozen_of_row wr _ 1 _ 55 XRw
        have b2 := cell_of_row wr _ 2 _ 55 (0, 0) row
        have x2' := cell_of_row wr _ 2 _ 55 (0, 0) XRw
        have y2 := frozen_of_row wr _ 2 _ 55 XRw
        have b3 := cell_of_row wr _ 3 _ 55 (0, 0) row
        have x3' := cell_of_row wr _ 3 _ 55 (0, 0) XRw
        have y3 := frozen_of_row wr _ 3 _ 55 XRw
        go_wp2
        have PC := puts_cha W.heap.size [.int .i64 r1.1, .slice va1 vn1 vc1, .slice va2 vn2 vc2, .slice va k vc] wr 0
        have RL := O.out.reads wok_ins (R := RdIns) (by have := SF.out.1; omega) (fun B b o cs x h hc => to_ins B b o cs x h hc)
        have CF : Cha (fun i => i = br) W wr := C0.out.over I.out.cha (fun i e => by rcases e with e | e; exact .inl e; exact .inr (by omega))
        have hne : ∀ i, i = W.heap.size → ¬ W2.heap.size ≤ i := fun i e hb => by have := HS2.out; omega
        have hup : ∀ i, W2.heap.size ≤ i → W.heap.size ≤ i := fun i hb => by have := HS2.out; omega
        clear XRw row
        refine bodyPost_ret (v := .agg #[.int .i64 r1.1, .slice va1 vn1 vc1, .slice va2 vn2 vc2, .slice va k vc]) (by simp [results, Try.results37, go_sem, x0', x1', x2', x3']) rfl ⟨_, ⟨r1.1, x1, x2, xs⟩, rfl, ⟨_, _, _, rfl, RdS.ints HL1.out PC (fun i e hb => hne i e hb.1) (fun i hb => hup i hb.1), RdS.ints HL2.out PC (fun i e hb => hne i e hb.1) (fun i hb => hup i hb.1), RdS.inss RL PC (fun i e hb => hne i e (Nat.le_trans HB0.out.1 hb)) (fun i hb => hup i (Nat.le_trans HB0.out.1 hb)), HF1.out⟩, fun c => by rw [HR.out.2, rep_stopped (n := n) rins_stop hk HE.out] at c; exact absurd c HE.out, ?_, CF.over PC (fun i e => by have e : i = W.heap.size := e; exact .inr (by omega))⟩
        have dd := I.out.dr.cha PC (fun e => by have e : br = W.heap.size := e; exact HNB.out e.symm) (fun i e hb => by have e : i = W.heap.size := e; have := I.out.dr.low i hb; have := HBR.out; omega)
        rw [HR.out.2, rep_stopped (n := n) rins_stop hk HE.out]
        exact dd
    · obtain rfl : k = n := by omega
      have XRw : wr.heap[W.heap.size]? = _ := (I.out.cha.old _ (by have := HS2.out; omega) (fun e => by rcases e with e | e; exact absurd e HNB.out; omega)).trans XR.out
      have row : wr.heap[W.heap.size + 1]? = some (.cells #[.int .i64 r1.1, .slice va1 vn1 vc1, .slice va2 vn2 vc2, .slice va k vc] 55 (0, 0)) := (by have := I.out.row; rw [HCS.out] at this; exact this)
      have b0 := cell_of_row wr _ 0 _ 55 (0, 0) row
      have x0' := cell_of_row wr _ 0 _ 55 (0, 0) XRw
      have y0 := frozen_of_row wr _ 0 _ 55 XRw
      have b1 := cell_of_row wr _ 1 _ 55 (0, 0) row
      have x1' := cell_of_row wr _ 1 _ 55 (0, 0) XRw
      have y1 := frozen_of_row wr _ 1 _ 55 XRw
      have b2 := cell_of_row wr _ 2 _ 55 (0, 0) row
      have x2' := cell_of_row wr _ 2 _ 55 (0, 0) XRw
      have y2 := frozen_of_row wr _ 2 _ 55 XRw
      have b3 := cell_of_row wr _ 3 _ 55 (0, 0) row
      have x3' := cell_of_row wr _ 3 _ 55 (0, 0) XRw
      have y3 := frozen_of_row wr _ 3 _ 55 XRw
      go_wp2
      have PC := puts_cha W.heap.size [.int .i64 r1.1, .slice va1 vn1 vc1, .slice va2 vn2 vc2, .slice va k vc] wr 0
      have RL := O.out.reads wok_ins (R := RdIns) (by have := SF.out.1; omega) (fun B b o cs x h hc => to_ins B b o cs x h hc)
      have CF : Cha (fun i => i = br) W wr := C0.out.over I.out.cha (fun i e => by rcases e with e | e; exact .inl e; exact .inr (by omega))
      have hne : ∀ i, i = W.heap.size → ¬ W2.heap.size ≤ i := fun i e hb => by have := HS2.out; omega
      have hup : ∀ i, W2.heap.size ≤ i → W.heap.size ≤ i := fun i hb => by have := HS2.out; omega
      clear XRw row
      refine bodyPost_ret (v := .agg #[.int .i64 r1.1, .slice va1 vn1 vc1, .slice va2 vn2 vc2, .slice va k vc]) (by simp [results, Try.results37, go_sem, x0', x1', x2', x3']) rfl ⟨_, ⟨r1.1, x1, x2, xs⟩, rfl, ⟨_, _, _, rfl, RdS.ints HL1.out PC (fun i e hb => hne i e hb.1) (fun i hb => hup i hb.1), RdS.ints HL2.out PC (fun i e hb => hne i e hb.1) (fun i hb => hup i hb.1), RdS.inss RL PC (fun i e hb => hne i e (Nat.le_trans HB0.out.1 hb)) (fun i hb => hup i (Nat.le_trans HB0.out.1 hb)), HF1.out⟩, fun c => by rw [HR.out.2] at c; have q := HST.out c; rw [HR.out.1, KE1.out q.2, KE2.out q.1, SF.out.2 c], ?_, CF.over PC (fun i e => by have e : i = W.heap.size := e; exact .inr (by omega))⟩
      have dd := I.out.dr.cha PC (fun e => by have e : br = W.heap.size := e; exact HNB.out e.symm) (fun i e hb => by have e : i = W.heap.size := e; have := I.out.dr.low i hb; have := HBR.out; omega)
      rw [HR.out.2]
      exact dd
end Go.Proofs.Ytpdjbhnpahkbpaa
