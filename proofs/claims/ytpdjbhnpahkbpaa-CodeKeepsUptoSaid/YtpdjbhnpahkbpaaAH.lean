/- The document's Decode. -/
import Derived.Test.YtpdjbhnpahkbpaaAG
import Derived.Test.YtpdjbhnpahkbpaaQ
namespace Go.Proofs.Ytpdjbhnpahkbpaa
set_option linter.unusedVariables false
open Go.ChangeShapes Go.WideShapes Go.ChangeAt Go.RowKit
section
variable {B : Nat → Prop} {br : Nat} {W : World} {T : List Nat} {s : RSt}
theorem fail_stop (e f : Int) (h : Dr B W br T s) (h0 : s.e ≠ 0) :
    Calls Try.prog 38 #[.pointer (some ⟨br, 0, none⟩), .int .i64 e, .int .i64 f] W (DRead B br T (.tuple #[]) s W) := by
  have c2 := h.err
  have H := Lib.hid h
  have he1 : (s.e == 0) = false := by simpa using h0
  clear h
  obtain ⟨E, hE⟩ : ∃ E, E = s.e := ⟨_, rfl⟩
  rw [← hE] at c2 he1
  clear hE h0
  go_enter Try.func38, Try.ntmps38
  go_wp2
  go_end0
  exact ⟨rfl, H.out, Cha.refl _ _⟩
end
/-- What the document's Decode leaves. -/
def DDec (W : World) (r : PZ × FT) (e : Ending) (w' : World) : Prop := ∃ v0 v1 v2, e = .returned (.tuple #[.agg #[v0, v1, v2], .int .i64 r.2.e, .int .i64 r.2.at_]) ∧ RdP (fun i => W.heap.size ≤ i) w' (.agg #[v0, v1, v2]) r.1 ∧ Cha (fun _ => False) W w'
theorem DDec.of {W w' : World} {e : Ending} {r r' : PZ × FT} (h : DDec W r e w') (he : r = r') : DDec W r' e w' := he ▸ h
theorem info69_ : (Try.prog.info? 69).map (fun i => (i.zero, i.size, i.bytes)) = some (some (.agg #[.bool false, .slice none 0 0]), 2, 32) := by kernel_rfl
theorem info55_ : (Try.prog.info? 55).map (fun i => (i.zero, i.size, i.bytes)) = some (some (.agg #[.int .i64 0, .slice none 0 0, .slice none 0 0, .slice none 0 0]), 4, 80) := by kernel_rfl
set_option maxRecDepth 100000 in
set_option maxHeartbeats 2000000 in
theorem ddec_long {a : Option Addr} {n c : Nat} {T : List Nat} {W : World} (hn : n = T.length) (hl : 16384 < n) : Calls Try.prog 20 #[.slice a n c] W (DDec W (dec8 T)) := by
  have HE := Lib.hid (dec8_long (T := T) (by omega))
  have hl' : (16384 : Int) < (n : Int) := by omega
  clear hn
  go_enter Try.func20, Try.ntmps20
  go_wp2
  refine bodyPost_ret (v := .tuple #[.agg #[.slice none 0 0, .slice none 0 0, .slice none 0 0], .int .i64 2, .int .i64 0]) (by simp [results, Try.results20, go_sem]) rfl ?_
  exact DDec.of (r := (noP, ⟨2, -1, 0⟩)) ⟨_, _, _, rfl, nop_reads _ _, (Cha.refl _ W).alloc _⟩ HE.out.symm
theorem set_size (w : World) (p : Addr) (v : Value) : (w.setCell p v).heap.size = w.heap.size := by simp [World.setCell]
theorem new_at (w : World) (p : Addr) (v : Value) (o : Obj) : ((w.setCell p v).alloc o).heap[w.heap.size]? = some o := by
  have h := heap_alloc_new (w.setCell p v) o
  rw [set_size] at h
  exact h
theorem two_one (q : Bool) (la : Option Addr) (ln lc : Nat) : ∀ u ∈ ([.bool q, .slice la ln lc] : List Value), u.oneCell' = true := fun u hu => by
  simp only [List.mem_cons, List.not_mem_nil, or_false] at hu
  rcases hu with rfl | rfl <;> rfl
theorem alloc3 (W : World) (o0 o1 o2 : Obj) : (((W.alloc o0).alloc o1).alloc o2).heap[W.heap.size]? = some o0 ∧ (((W.alloc o0).alloc o1).alloc o2).heap[W.heap.size + 1]? = some o1 ∧ (((W.alloc o0).alloc o1).alloc o2).heap[W.heap.size + 1 + 1]? = some o2 := by
  have s1 : (W.alloc o0).heap.size = W.heap.size + 1 := World.size_alloc _ _
  have s2 : ((W.alloc o0).alloc o1).heap.size = W.heap.size + 1 + 1 := by rw [World.size_alloc, s1]
  have a1 := heap_alloc_new (W.alloc o0) o1
  have a2 := heap_alloc_new ((W.alloc o0).alloc o1) o2
  rw [s1] at a1
  rw [s2] at a2
  exact ⟨(heap_alloc_old _ _ (by rw [s2]; omega)).trans ((heap_alloc_old _ _ (by rw [s1]; omega)).trans (heap_alloc_new W o0)), (heap_alloc_old _ _ (by rw [s2]; omega)).trans a1, a2⟩
theorem four_one (p : Int) (a1 a2 a3 : Option Addr) (n1 n2 n3 c1 c2 c3 : Nat) : ∀ u ∈ ([.int .i64 p, .slice a1 n1 c1, .slice a2 n2 c2, .slice a3 n3 c3] : List Value), u.oneCell' = true := fun u hu => by
  simp only [List.mem_cons, List.not_mem_nil, or_false] at hu
  rcases hu with rfl | rfl | rfl | rfl <;> rfl
theorem fn_cells {B : Nat → Prop} {w : World} {v : Value} {x : FZ} (h : WFn B w v x) : ∃ a1 n1 c1 a2 n2 c2 a3 n3 c3, v = .agg #[.int .i64 x.pa, .slice a1 n1 c1, .slice a2 n2 c2, .slice a3 n3 c3] := by
  obtain ⟨l1, l2, l3, e, h1, h2, h3, _⟩ := h
  obtain ⟨a1, n1, c1, rfl⟩ := rds_shape h1
  obtain ⟨a2, n2, c2, rfl⟩ := rds_shape h2
  obtain ⟨a3, n3, c3, rfl⟩ := rds_shape h3
  exact ⟨a1, n1, c1, a2, n2, c2, a3, n3, c3, e⟩
theorem ty_bnd {B : Nat → Prop} {W : World} {b o : Nat} {x : TZ} (h : RdTy B W b o x) : RdTy (fun i => B i ∧ i < W.heap.size) W b o x := by
  obtain ⟨v, h1, h2⟩ := h.c1
  exact ⟨h.c0, ⟨v, h1, h2.bnd' fun _ _ _ h => h⟩⟩
set_option maxRecDepth 100000 in
set_option maxHeartbeats 8000000 in
theorem ddec_short {a : Option Addr} {n c : Nat} {T : List Nat} {W : World} (h : RdS 1 RdU8 (· < W.heap.size) W (.slice a n c) T) (hn : n = T.length) (hc : n ≤ c) (hl : ¬ 16384 < n) : Calls Try.prog 20 #[.slice a n c] W (DDec W (dec8 T)) := by
  have hl' : ¬ (16384 : Int) < (n : Int) := by omega
  have EB := Lib.hid (dec8_bad (T := T) (by omega))
  have EM := Lib.hid (dec8_more (T := T) (by omega))
  have EO := Lib.hid (dec8_ok (T := T) (by omega))
  have HT := Lib.hid h.small
  have HN := Lib.hid hn
  have A := alloc3 W (.cells #[.slice none 0 0, .slice none 0 0, .slice none 0 0] 26) (.cells #[.slice a n c, .int .i64 0, .int .i64 0, .int .i64 0] 84) (.cells #[.slice none 0 0, .slice none 0 0, .slice none 0 0] 26)
  have s2 : (((W.alloc (.cells #[.slice none 0 0, .slice none 0 0, .slice none 0 0] 26)).alloc (.cells #[.slice a n c, .int .i64 0, .int .i64 0, .int .i64 0] 84)).alloc (.cells #[.slice none 0 0, .slice none 0 0, .slice none 0 0] 26)).heap.size = W.heap.size + 3 := by rw [World.size_alloc, World.size_alloc, World.size_alloc]
  have C0 : Hid (Cha (fun _ => False) W (((W.alloc (.cells #[.slice none 0 0, .slice none 0 0, .slice none 0 0] 26)).alloc (.cells #[.slice a n c, .int .i64 0, .int .i64 0, .int .i64 0] 84)).alloc (.cells #[.slice none 0 0, .slice none 0 0, .slice none 0 0] 26))) := Lib.hid ((((Cha.refl _ W).alloc _).alloc _).alloc _)
  have I0 : Hid (IB (· < W.heap.size) (W.heap.size + 1) T 26 (W.heap.size + 1 + 1) (((W.alloc (.cells #[.slice none 0 0, .slice none 0 0, .slice none 0 0] 26)).alloc (.cells #[.slice a n c, .int .i64 0, .int .i64 0, .int .i64 0] 84)).alloc (.cells #[.slice none 0 0, .slice none 0 0, .slice none 0 0] 26)) (((W.alloc (.cells #[.slice none 0 0, .slice none 0 0, .slice none 0 0] 26)).alloc (.cells #[.slice a n c, .int .i64 0, .int .i64 0, .int .i64 0] 84)).alloc (.cells #[.slice none 0 0, .slice none 0 0, .slice none 0 0] 26)) ⟨0, 0, 0⟩ #[.slice none 0 0, .slice none 0 0, .slice none 0 0]) := Lib.hid ⟨⟨⟨a, c, 0, by rw [← hn]; exact A.2.1, fun _ => rfl, Nat.zero_le _, by rw [← hn]; exact h.bytes C0.out (fun _ f => f.elim) (fun _ h => h), by omega⟩, fun i hi => by have hi : i < W.heap.size := hi; omega, ⟨Nat.zero_le _, Nat.zero_le _, fun _ => rfl⟩⟩, A.2.2, Cha.refl _ _, by omega, by omega⟩
  have XR := Lib.hid A.1
  obtain ⟨W2, hW2⟩ : ∃ x, x = (((W.alloc (.cells #[.slice none 0 0, .slice none 0 0, .slice none 0 0] 26)).alloc (.cells #[.slice a n c, .int .i64 0, .int .i64 0, .int .i64 0] 84)).alloc (.cells #[.slice none 0 0, .slice none 0 0, .slice none 0 0] 26)) := ⟨_, rfl⟩
  have I0 : Hid (IB (· < W.heap.size) (W.heap.size + 1) T 26 (W.heap.size + 1 + 1) W2 (((W.alloc (.cells #[.slice none 0 0, .slice none 0 0, .slice none 0 0] 26)).alloc (.cells #[.slice a n c, .int .i64 0, .int .i64 0, .int .i64 0] 84)).alloc (.cells #[.slice none 0 0, .slice none 0 0, .slice none 0 0] 26)) ⟨0, 0, 0⟩ #[.slice none 0 0, .slice none 0 0, .slice none 0 0]) := Lib.hid (by rw [hW2]; exact I0.out)
  rw [← hW2] at s2 XR C0
  have HS2 := Lib.hid s2
  clear A s2 h hW2 hl hc
  have D32 : Hid (∀ w s, Dr (· < W.heap.size) w (W.heap.size + 1) T s → Calls Try.prog 35 #[.pointer (some ⟨W.heap.size + 1, 0, none⟩), .int .i64 32, .int .i64 16] w (DRead (· < W.heap.size) (W.heap.size + 1) T (.int .i64 ((rWord T 32 16 s).1 : Int)) (rWord T 32 16 s).2 w)) := Lib.hid (fun w s h => dnum_any 32 16 h (by decide) (by decide))
  have D1 : Hid (∀ w s, Dr (· < W.heap.size) w (W.heap.size + 1) T s → Calls Try.prog 35 #[.pointer (some ⟨W.heap.size + 1, 0, none⟩), .int .i64 1, .int .i64 8] w (DRead (· < W.heap.size) (W.heap.size + 1) T (.int .i64 ((rWord T 1 8 s).1 : Int)) (rWord T 1 8 s).2 w)) := Lib.hid (fun w s h => dnum_any 1 8 h (by decide) (by decide))
  have DK : Hid (∀ w s, Dr (· < W.heap.size) w (W.heap.size + 1) T s → Calls Try.prog 36 #[.pointer (some ⟨W.heap.size + 1, 0, none⟩), .int .i64 32] w (DReadV (RdS 1 RdI) (· < W.heap.size) (W.heap.size + 1) T (rList T (rNum T) 32 s) w)) := Lib.hid (fun w s h => dkinds_any 32 (by decide) h)
  have DF : Hid (∀ w s, Dr (· < W.heap.size) w (W.heap.size + 1) T s → Calls Try.prog 36 #[.pointer (some ⟨W.heap.size + 1, 0, none⟩), .int .i64 16] w (DReadV (RdS 1 RdI) (· < W.heap.size) (W.heap.size + 1) T (rList T (rNum T) 16 s) w)) := Lib.hid (fun w s h => dkinds_any 16 (by decide) h)
  obtain ⟨r1, hr1⟩ : ∃ r, r = rWord T 32 16 ⟨0, 0, 0⟩ := ⟨_, rfl⟩
  have HR1 := Lib.hid hr1
  have D321 := Lib.hid (D32.out _ _ I0.out.dr)
  rw [← hr1] at D321
  have hn1 : r1.1 ≤ 32 := by rw [hr1]; exact (rWord_ok (lim := 32) (ab := 16) HT.out I0.out.dr.ok (by decide)).2.1
  clear hr1
  obtain ⟨m, s1⟩ := r1
  obtain ⟨RA, hRA⟩ : ∃ r, r = rList T (rTy T) 32 ⟨0, 0, 0⟩ := ⟨_, rfl⟩
  obtain ⟨RB, hRB⟩ : ∃ r, r = rList T (rNum T) 32 RA.2 := ⟨_, rfl⟩
  obtain ⟨RC, hRC⟩ : ∃ r, r = rWord T 32 16 RB.2 := ⟨_, rfl⟩
  have HP : Hid ((rProg T ⟨0, 0, 0⟩).1 = ⟨RA.1, RB.1, (rRep (rFn T) RC.1 RC.2).1⟩ ∧ (rProg T ⟨0, 0, 0⟩).2 = (rRep (rFn T) RC.1 RC.2).2) := Lib.hid (by rw [hRC, hRB, hRA]; exact ⟨rfl, rfl⟩)
  have HST : Hid ((rRep (rFn T) RC.1 RC.2).2.e = 0 → RB.2.e = 0 ∧ RA.2.e = 0) := Lib.hid (fun c => by
    have e4 : RC.2.e = 0 := e_back (f := fun T s => rRep (rFn T) RC.1 s) (fun T s h => rrep_stop rfn_stop _ T s h) c
    rw [hRC] at e4
    have e3 := e_back (f := fun T s => rWord T 32 16 s) (fun T s h => rword_stop T s h) e4
    refine ⟨e3, ?_⟩
    rw [hRB] at e3
    exact e_back (f := fun T s => rList T (rNum T) 32 s) (fun T s h => rnums_stop _ T s h) e3)
  have DKA : Hid (∀ w, Dr (· < W.heap.size) w (W.heap.size + 1) T RA.2 → Calls Try.prog 36 #[.pointer (some ⟨W.heap.size + 1, 0, none⟩), .int .i64 32] w (DReadV (RdS 1 RdI) (· < W.heap.size) (W.heap.size + 1) T RB w)) := Lib.hid (fun w h => by rw [hRB]; exact DK.out w _ h)
  have D32B : Hid (∀ w, Dr (· < W.heap.size) w (W.heap.size + 1) T RB.2 → Calls Try.prog 35 #[.pointer (some ⟨W.heap.size + 1, 0, none⟩), .int .i64 32, .int .i64 16] w (DRead (· < W.heap.size) (W.heap.size + 1) T (.int .i64 (RC.1 : Int)) RC.2 w)) := Lib.hid (fun w h => by rw [hRC]; exact D32.out w _ h)
  have HO2 : Hid (∀ w, Dr (· < W.heap.size) w (W.heap.size + 1) T RB.2 → RC.1 ≤ 32) := Lib.hid (fun w h => by rw [hRC]; exact (rWord_ok (lim := 32) (ab := 16) HT.out h.ok (by decide)).2.1)
  have HRA : Hid (RA = rRep (rTy T) m s1) := Lib.hid (by rw [hRA]; show rRep (rTy T) (rWord T 32 16 ⟨0, 0, 0⟩).1 (rWord T 32 16 ⟨0, 0, 0⟩).2 = _; rw [← HR1.out])
  obtain ⟨m2, s3⟩ := RC
  obtain ⟨j0, ji, jz0, jz1, jz2⟩ := info_parts info55_
  clear hRA hRB hRC DK D32
  obtain ⟨i0, hi, hz0, hz1, hz2⟩ := info_parts info69_
  clear hn
  go_enter Try.func20, Try.ntmps20
  go_wp2_with (go_at_call 35; ((with_reducible refine (D321.out).mono ?_); rintro e w1 ⟨rfl, k1, k2⟩; have I1 := Lib.hid (I0.out.call k1 k2); clear k1 k2))
  obtain ⟨b0, hb0⟩ : ∃ b, b = w1.heap.size := ⟨_, rfl⟩
  have HB0 : Hid (W2.heap.size ≤ b0 ∧ b0 ≤ w1.heap.size) := Lib.hid ⟨by rw [hb0]; exact I1.out.cha.size, by omega⟩
  clear hb0 I0 D321
  have hn1 : m ≤ 32 := hn1
  go_loopw [8] (fun i wr => ∃ (k : Nat) (v : Value) (xs : List TZ), k ≤ m ∧ i = .int .i64 (k : Int) ∧ IB (· < W.heap.size) (W.heap.size + 1) T 26 (W.heap.size + 1 + 1) W2 wr (rRep (rTy T) k s1).2 #[v, .slice none 0 0, .slice none 0 0] ∧ OwnL WTy 2 69 b0 wr v k xs ∧ SoFar (rTy T) k s1 xs ∧ b0 ≤ wr.heap.size) (fun i _ => m - (intOf i).toNat)
  case atStart => exact ⟨0, _, [], Nat.zero_le _, rfl, I1.out, OwnL.nil _ _ _ _ _, ⟨rfl, fun _ => rfl⟩, HB0.out.2⟩
  case round =>
    clear I1
    obtain ⟨k, v, xs, hk, rfl, hI, hO, hF, hbw⟩ := hrel
    have c2 := hI.dr.err
    have hgl := hI.lt
    obtain ⟨va, vc, rfl⟩ := hO.shape
    have I := Lib.hid hI
    have O := Lib.hid hO
    have SF := Lib.hid hF
    have HBW := Lib.hid hbw
    clear hI hO hF hbw
    by_cases hlt : k < m
    · by_cases he : (rRep (rTy T) k s1).2.e = 0
      · rw [he] at c2
        obtain ⟨st, hst⟩ : ∃ x, x = (rRep (rTy T) k s1).2 := ⟨_, rfl⟩
        have HSTE := Lib.hid hst
        obtain ⟨q, hq0⟩ : ∃ q : Bool, q = decide ((rWord T 1 8 st).1 = 1) := ⟨_, rfl⟩
        have hq : (((rWord T 1 8 st).1 : Int) == 1) = q := by
          rw [hq0, Bool.eq_iff_iff]
          simp
          omega
        have HQ := Lib.hid hq0
        have E0 := Lib.hid (I.out.behind (((Cha.refl (fun i => W2.heap.size ≤ i) wr).alloc (.cells #[.bool false, .slice none 0 0] 69))))
        have Q0 : Hid (Cha (fun i => i = W.heap.size + 1) wr (wr.alloc (.cells #[.bool false, .slice none 0 0] 69))) := Lib.hid ((Cha.refl _ wr).alloc _)
        have tb := heap_alloc_new wr (.cells #[.bool false, .slice none 0 0] 69)
        have TB0 := Lib.hid tb
        rw [← hst] at E0
        have HTB : Hid (W2.heap.size ≤ wr.heap.size ∧ W.heap.size + 1 + 1 < wr.heap.size) := Lib.hid ⟨I.out.cha.size, I.out.lt⟩
        clear tb hst hq0
        go_wp2_with (first
          | (go_at_call 35; ((with_reducible refine (D1.out _ _ E0.out.dr).mono ?_); rintro e w2 ⟨rfl, k1, k2⟩; have E2 := E0.out.call k1 k2; have TB2 : w2.heap[wr.heap.size]? = some (.cells #[.bool false, .slice none 0 0] 69 (0, 0)) := (k2.old _ (Array.getElem?_eq_some_iff.1 TB0.out).1 (fun e => by have e : wr.heap.size = W.heap.size + 1 := e; omega)).trans TB0.out; have t0 := cell_of_row w2 wr.heap.size 0 _ 69 (0, 0) TB2; have ft0 := frozen_of_row w2 wr.heap.size 0 _ 69 TB2; have c2s : Cha (fun i => i = wr.heap.size) w2 (w2.setCell ⟨wr.heap.size, 0, none⟩ (.bool q)) := (Cha.refl (fun i => i = wr.heap.size) w2).setCell (p := ⟨wr.heap.size, 0, none⟩) (fun _ => rfl) _; have E2s := Lib.hid (E2.behind (c2s.mono fun i _ e => by have e : i = wr.heap.size := e; have := HTB.out; show W2.heap.size ≤ i; omega)); have TB2s : Hid ((w2.setCell ⟨wr.heap.size, 0, none⟩ (.bool q)).heap[wr.heap.size]? = some (.cells #[.bool q, .slice none 0 0] 69 (0, 0))) := Lib.hid (heap_setCell_same w2 wr.heap.size 0 _ 69 (.bool q) TB2); have Q2 : Hid (Cha (fun i => i = W.heap.size + 1) wr (w2.setCell ⟨wr.heap.size, 0, none⟩ (.bool q))) := Lib.hid ((Q0.out.trans k2).over c2s (fun i e => by have e : i = wr.heap.size := e; exact .inr (by omega))); clear k1 k2 c2s E2 TB2))
          | (go_at_call 36; ((with_reducible refine (DF.out _ _ E2s.out.dr).mono ?_); rintro e w3 ⟨lv, x3, rfl, kv, ke, k1, k2⟩; have E3 := E2s.out.call k1 k2; have TB3 : w3.heap[wr.heap.size]? = some (.cells #[.bool q, .slice none 0 0] 69 (0, 0)) := (k2.old _ (Array.getElem?_eq_some_iff.1 TB2s.out).1 (fun e => by have e : wr.heap.size = W.heap.size + 1 := e; have := HTB.out; omega)).trans TB2s.out; have t1 := cell_of_row w3 wr.heap.size 1 _ 69 (0, 0) TB3; have ft1 := frozen_of_row w3 wr.heap.size 1 _ 69 TB3; obtain ⟨la, ln, lc, rfl⟩ := rds_shape kv; have c3s : Cha (fun i => i = wr.heap.size) w3 (w3.setCell ⟨wr.heap.size, 1, none⟩ (.slice la ln lc)) := (Cha.refl (fun i => i = wr.heap.size) w3).setCell (p := ⟨wr.heap.size, 1, none⟩) (fun _ => rfl) _; have E3s := Lib.hid (E3.behind (c3s.mono fun i _ e => by have e : i = wr.heap.size := e; have := HTB.out; show W2.heap.size ≤ i; omega)); have TB3s : (w3.setCell ⟨wr.heap.size, 1, none⟩ (.slice la ln lc)).heap[wr.heap.size]? = some (.cells #[.bool q, .slice la ln lc] 69 (0, 0)) := heap_setCell_same w3 wr.heap.size 1 _ 69 (.slice la ln lc) TB3; have Q3 : Hid (Cha (fun i => i = W.heap.size + 1) wr (w3.setCell ⟨wr.heap.size, 1, none⟩ (.slice la ln lc))) := Lib.hid ((Q2.out.trans k2).over c3s (fun i e => by have e : i = wr.heap.size := e; exact .inr (by omega))); have hsz2 : wr.heap.size < (w2.setCell ⟨wr.heap.size, 0, none⟩ (.bool q)).heap.size := (Array.getElem?_eq_some_iff.1 TB2s.out).1; have KV : Hid (WTy (fun i => wr.heap.size ≤ i) (w3.setCell ⟨wr.heap.size, 1, none⟩ (.slice la ln lc)) (.agg #[.bool q, .slice la ln lc]) ⟨q, x3⟩) := Lib.hid ⟨_, rfl, RdS.ints kv c3s (fun i e hb => by have e : i = wr.heap.size := e; have hb : (w2.setCell ⟨wr.heap.size, 0, none⟩ (.bool q)).heap.size ≤ i := hb; omega) (fun i hb => by have hb : (w2.setCell ⟨wr.heap.size, 0, none⟩ (.bool q)).heap.size ≤ i := hb; show wr.heap.size ≤ i; omega)⟩; have KE := Lib.hid ke; have u0 := cell_of_row _ wr.heap.size 0 _ 69 (0, 0) TB3s; have u1 := cell_of_row _ wr.heap.size 1 _ 69 (0, 0) TB3s; have g0 := E3s.out.cell 0; have gl3 := E3s.out.lt; have OL2 := O.out.cha wok_ty Q3.out (fun i e => by have e : i = W.heap.size + 1 := e; have := HB0.out; have := HS2.out; omega); have OLH := Lib.hid OL2; obtain ⟨css, y1, y2, y3, y4⟩ := OL2; have T1 := Lib.hid y1; have T3 := Lib.hid y3; have T4 := Lib.hid y4; clear y1 y2 y3 y4 k1 k2 kv ke c3s E3 TB3 TB3s t0 ft0))
          | (at_builtin; go_loud ((refine wpList_append_where _ rfl _ _ 22 rfl b0 69 i0 (.agg #[.bool false, .slice none 0 0]) 2 32 Try.underlying22 hi hz0 hz1 hz2 rfl (by decide) (.slice va k vc) k css.flatten rfl (T3.out.alloc _) ⟨w3.heap.size, 0, none⟩ 1 1 [.bool q, .slice la ln lc] rfl rfl (World.news_of_block (new_at _ _ _ _)) (two_one _ _ _ _) (by unfold maxLen; omega) (by omega) (by rw [World.size_alloc]; have := HBW.out; have := Q3.out.size; omega) ?_); (intro v' w4 hown hg hw; obtain ⟨a4, c4, rfl⟩ := own_shape hown; have OL3 := OwnL.push wok_ty (w0 := wr) (w2 := (w3.setCell ⟨wr.heap.size, 1, none⟩ (.slice la ln lc))) (w3 := w4) (v' := .slice a4 (k + 1) c4) OLH.out (fun g e => (O.out.ge e).2) HBW.out (cs := [.bool q, .slice la ln lc]) rfl (x := ⟨q, x3⟩) KV.out hg hw css T1.out T4.out hown; have cb : Cha (fun i => b0 ≤ i) (w3.setCell ⟨wr.heap.size, 1, none⟩ (.slice la ln lc)) w4 := ((Cha.refl _ _).alloc _).trans (Cha.of_grownBy hg (fun j e => (T3.out.lt j e).1)); have E4 := E3s.out.behind (cb.mono fun i _ e => by have e : b0 ≤ i := e; have := HB0.out; show W2.heap.size ≤ i; omega); have g4 := E4.cell 0; have fg4 := E4.free 0; have cg : Cha (fun i => i = W.heap.size + 1 + 1) w4 (w4.setCell ⟨W.heap.size + 1 + 1, 0, none⟩ (.slice a4 (k + 1) c4)) := (Cha.refl (fun i => i = W.heap.size + 1 + 1) w4).setCell (p := ⟨W.heap.size + 1 + 1, 0, none⟩) (fun _ => rfl) _; have E5 := Lib.hid (E4.store 0 (.slice a4 (k + 1) c4)); have O5 := Lib.hid (OL3.cha wok_ty cg (fun i e => by have e : i = W.heap.size + 1 + 1 := e; have := HB0.out; have := HS2.out; omega)); have HBW5 : Hid (b0 ≤ (w4.setCell ⟨W.heap.size + 1 + 1, 0, none⟩ (.slice a4 (k + 1) c4)).heap.size) := Lib.hid (by rw [set_size]; have := cb.size; have := HBW.out; have := Q3.out.size; omega); clear OL3 hown hg hw cb E4 cg))))
        go_roundw
        case rel => exact ⟨k + 1, _, xs ++ [⟨q, x3⟩], by omega, by go_num, by rw [rRep_succ, ← HSTE.out]; exact E5.out, O5.out, SF.out.step rty_stop (by rw [← HSTE.out]; intro c; rw [HQ.out, KE.out c]; rfl), HBW5.out⟩
        case measure => simp [intOf]; omega
      · as_aux_lemma =>
        obtain ⟨E, hE⟩ : ∃ E, E = (rRep (rTy T) k s1).2.e := ⟨_, rfl⟩
        have HE := Lib.hid he
        rw [← hE] at c2 he
        have he1 : (E == 0) = false := by simpa using he
        clear hE he
        have SEQ : Hid ((rRep (rTy T) k s1).2 = RA.2 ∧ (RA.2.e = 0 → xs = RA.1)) := Lib.hid (by have st := rep_stopped (n := m) rty_stop hk HE.out; exact ⟨by rw [HRA.out]; exact st.symm, fun c => by rw [HRA.out, st] at c; exact absurd c HE.out⟩)
        have I := Lib.hid (show IB (· < W.heap.size) (W.heap.size + 1) T 26 (W.heap.size + 1 + 1) W2 wr RA.2 #[.slice va k vc, .slice none 0 0, .slice none 0 0] by rw [← SEQ.out.1]; exact I.out)
        have RT0 : Hid (RdS 2 RdTy (fun i => b0 ≤ i) wr (.slice va k vc) xs) := Lib.hid (O.out.reads wok_ty (R := RdTy) (by have := SF.out.1; omega) (fun B b o cs x h hc => to_ty B b o cs x h hc))
        have HX1 := Lib.hid SEQ.out.2
        obtain ⟨nk, hnk⟩ : ∃ x, x = k := ⟨_, rfl⟩
        rw [← hnk] at I RT0 hlt ⊢
        clear hnk SF O SEQ HRA
        go_wp2_with (first
          | (go_at_call 36; ((with_reducible refine (DKA.out _ I.out.dr).mono ?_); rintro e w3 ⟨lv, xg, rfl, kv, ke, k1, k2⟩; have I3 := I.out.call k1 k2; have f3 := I3.free 1; have z3 := I3.cell 1; obtain ⟨ga, gn, gc, rfl⟩ := rds_shape kv; have KVG := Lib.hid kv; have HX2 := Lib.hid ke; have RT3 := Lib.hid (RT0.out.tys k2 (fun i e hb => by have e : i = W.heap.size + 1 := e; have hb : b0 ≤ i := hb; have := HB0.out; have := HS2.out; omega) (fun _ h => h)); have HW3 : Hid (b0 ≤ wr.heap.size) := Lib.hid HBW.out; have KSZ : Hid (wr.heap.size ≤ w3.heap.size) := Lib.hid k2.size; have I3s := Lib.hid (I3.store 1 (.slice ga gn gc)); have Q3 : Hid (Cha (fun i => i = W.heap.size + 1 + 1) w3 (w3.setCell ⟨W.heap.size + 1 + 1, 1, none⟩ (.slice ga gn gc))) := Lib.hid ((Cha.refl (fun i => i = W.heap.size + 1 + 1) w3).setCell (p := ⟨W.heap.size + 1 + 1, 1, none⟩) (fun _ => rfl) _); clear k1 k2 I3 kv ke))
          | (go_at_call 35; ((with_reducible refine (D32B.out _ I3s.out.dr).mono ?_); rintro e w4 ⟨rfl, k1, k2⟩; have I4 := Lib.hid (I3s.out.call k1 k2); have QC : Hid (Cha (fun i => i = (W.heap.size + 1) ∨ i = W.heap.size + 1 + 1) w3 w4) := Lib.hid ((Q3.out.mono fun _ _ e => .inr e).trans (k2.mono fun _ _ e => .inl e)); clear k1 k2)))
        have hn2 : m2 ≤ 32 := HO2.out _ I3s.out.dr
        have hdis : ∀ i, (i = (W.heap.size + 1) ∨ i = W.heap.size + 1 + 1) → ¬ b0 ≤ i := fun i e hb => by have := HS2.out; have := HB0.out; rcases e with e | e <;> omega
        have L1 := RdS.bnd' (RdS.tys RT3.out QC.out hdis (fun _ h => h)) (fun _ _ _ h => ty_bnd h)
        have L2 := RdS.bnd' (RdS.ints (RdS.nums KVG.out (B' := fun i => b0 ≤ i) (fun i hi => Nat.le_trans HW3.out hi)) QC.out hdis (fun _ h => h)) (fun _ _ _ h => h)
        obtain ⟨b1, hb1⟩ : ∃ b, b = w4.heap.size := ⟨_, rfl⟩
        rw [← hb1] at L1 L2
        have HL1 := Lib.hid L1
        have HL2 := Lib.hid L2
        have HB1 : Hid (W2.heap.size ≤ b1 ∧ b1 ≤ w4.heap.size ∧ b0 ≤ b1) := Lib.hid ⟨by rw [hb1]; exact I4.out.cha.size, by omega, by rw [hb1]; exact Nat.le_trans HW3.out (Nat.le_trans KSZ.out QC.out.size)⟩
        obtain ⟨cs, hcs⟩ : ∃ f : Value → Array Value, f = fun v => #[.slice va nk vc, .slice ga gn gc, v] := ⟨_, rfl⟩
        have I7 : Hid (IB (· < W.heap.size) (W.heap.size + 1) T 26 (W.heap.size + 1 + 1) W2 w4 s3 (cs (.slice none 0 0))) := Lib.hid (by rw [hcs]; exact I4.out)
        have HCS := Lib.hid hcs
        have HSET : Hid (∀ v v', (cs v).setIfInBounds 2 v' = cs v') := Lib.hid (fun v v' => by rw [HCS.out]; rfl)
        have HC5 : Hid (∀ v, (cs v)[2]? = some v) := Lib.hid (fun v => by rw [HCS.out]; rfl)
        clear f3 z3 I3s I4 hcs DKA D32B L1 L2 hdis hb1 RT0 RT3 KVG Q3 QC HO2 I HW3 HBW c2 hgl hk hi hz0 hz1 hz2 D1 DF

        go_loopw [10] (fun i wr => ∃ (k : Nat) (v : Value) (ys : List FZ), k ≤ m2 ∧ i = .int .i64 (k : Int) ∧ IB (· < W.heap.size) (W.heap.size + 1) T 26 (W.heap.size + 1 + 1) W2 wr (rRep (rFn T) k s3).2 (cs v) ∧ OwnL WFn 4 55 b1 wr v k ys ∧ SoFar (rFn T) k s3 ys ∧ RdS 2 RdTy (fun i => b0 ≤ i ∧ i < b1) wr (.slice va nk vc) xs ∧ RdS 1 RdI (fun i => b0 ≤ i ∧ i < b1) wr (.slice ga gn gc) xg ∧ b1 ≤ wr.heap.size) (fun i _ => m2 - (intOf i).toNat)
        case atStart => exact ⟨0, _, [], Nat.zero_le _, rfl, I7.out, OwnL.nil _ _ _ _ _, ⟨rfl, fun _ => rfl⟩, HL1.out, HL2.out, HB1.out.2.1⟩
        case round =>
          clear I7 HL1 HL2
          obtain ⟨k, v, ys, hk, rfl, hI, hO, hF, hL1, hL2, hbw⟩ := hrel
          have c2 := hI.dr.err
          have c5 := hI.cell 2
          rw [HC5.out] at c5
          have hgl := hI.lt
          obtain ⟨ua, uc, rfl⟩ := hO.shape
          have I := Lib.hid hI
          have O := Lib.hid hO
          have SF := Lib.hid hF
          have HL1 := Lib.hid hL1
          have HL2 := Lib.hid hL2
          have HBW := Lib.hid hbw
          clear hI hO hF hL1 hL2 hbw
          by_cases hlt : k < m2
          · by_cases he : (rRep (rFn T) k s3).2.e = 0
            · rw [he] at c2
              go_wp2
              have I' := Lib.hid I.out.drew
              have O' := Lib.hid (O.out.cha wok_fn ((Cha.refl (fun _ => False) wr).drew) (fun _ f => f.elim))
              have KX : Hid (∀ W', Cha (fun i => i = W.heap.size + 1 ∨ W2.heap.size ≤ i) wr.drew W' → W'.cell? ⟨W.heap.size + 1 + 1, 2, none⟩ = some (.slice ua k uc) ∧ W'.frozen? ⟨W.heap.size + 1 + 1, 2, none⟩ = false) := Lib.hid fun W' hc => by
                have e := (hc.old _ I'.out.lt (fun e => by have := I'.out.far; rcases e with e | e <;> omega)).trans I'.out.row
                exact ⟨by rw [cell_of_row W' _ 2 _ 26 _ e, HC5.out], frozen_of_row W' _ 2 _ 26 e⟩
              have C : Hid (Calls Try.prog 37 #[.pointer (some ⟨W.heap.size + 1, 0, none⟩)] wr.drew (DReadV WFn (· < W.heap.size) (W.heap.size + 1) T (rFn T (rRep (rFn T) k s3).2) wr.drew)) := Lib.hid (dfn_any I'.out.dr)
              have HB : Hid (W.heap.size + 1 < b1 ∧ W.heap.size + 1 + 1 < b1 ∧ b1 ≤ wr.drew.heap.size) := Lib.hid ⟨by have := I'.out.far; have := HB1.out; have := HS2.out; omega, by have := HS2.out; have := HB1.out; omega, HBW.out⟩
              have HSF := SF
              have HL1a := HL1
              have HL2a := HL2
              clear I O c2 SF HL1 HL2
              obtain ⟨k1, k2⟩ := KX.out wr.drew (Cha.refl _ _)
              go_region_law
                (first
                  | (go_simp; go_at_call 37; refine (C.out).mono ?_; rintro e w2 ⟨vi, xi, rfl, jv, je, j1, j2⟩; obtain ⟨p1, p2, p3, p4, p5, p6, p7, p8, p9, rfl⟩ := fn_cells jv; have m2 : Cha (fun i => i = W.heap.size + 1 ∨ W2.heap.size ≤ i) wr.drew w2 := j2.mono fun _ _ e => .inl e; obtain ⟨q1, q2⟩ := KX.out w2 m2; have hgl2 : W.heap.size + 1 + 1 < w2.heap.size := Nat.lt_of_lt_of_le I'.out.lt j2.size; have OL2 := O'.out.cha wok_fn j2 (fun i e => by have e : i = W.heap.size + 1 := e; have := HB.out; omega); have OLH := Lib.hid OL2; obtain ⟨css, t1, t2, t3, t4⟩ := OL2; have T1 := Lib.hid t1; have T3 := Lib.hid t3; have T4 := Lib.hid t4; clear t1 t2 t3 t4)
                  | (refine step_append_lies _ (by rfl) _ _ 24 (by rfl) b1 55 j0 (.agg #[.int .i64 0, .slice none 0 0, .slice none 0 0, .slice none 0 0]) 4 80 Try.underlying24 ji jz0 jz1 jz2 rfl (by decide) (.slice ua k uc) k css.flatten (by rfl) (T3.out.alloc _) ⟨w2.heap.size, 0, none⟩ 1 1 [.int .i64 xi.pa, .slice p1 p2 p3, .slice p4 p5 p6, .slice p7 p8 p9] (by rfl) rfl (World.news_of_block (heap_alloc_new w2 _)) (four_one _ _ _ _ _ _ _ _ _ _) (by decide) (by unfold maxLen; omega) (by omega) (by rw [World.size_alloc]; have := HB.out; have := j2.size; omega) (w2.heap.size + 1) (World.size_alloc _ _) ?_; intro g3 cap w3 hown hg hat hlt3; have m3 : Cha (fun i => i = W.heap.size + 1 ∨ W2.heap.size ≤ i) wr.drew w3 := (m2.alloc _).trans (Cha.of_grownBy hg (fun j e => .inr (by have := (T3.out.lt j e).1; have := HB1.out; omega))); obtain ⟨qc3, fz3⟩ := KX.out w3 m3))
              all_goals
                have OL3 := OwnL.push wok_fn (w0 := wr.drew) (w2 := w2) (w3 := w3) (v' := .slice (some ⟨g3, 0, none⟩) (k + 1) cap) OLH.out (fun g e => (O'.out.ge e).2) HB.out.2.2 (cs := [.int .i64 xi.pa, .slice p1 p2 p3, .slice p4 p5 p6, .slice p7 p8 p9]) rfl (x := xi) jv hg (by rcases hat with e | e; exact .inl e.symm; exact .inr fun g h => by have h : some g3 = some g := h; injection h with h; rw [World.size_alloc]; omega) css T1.out T4.out hown
                have cb : Cha (fun i => b1 ≤ i) w2 w3 := ((Cha.refl _ w2).alloc _).trans (Cha.of_grownBy hg (fun j e => (T3.out.lt j e).1))
                have cg : Cha (fun i => i = W.heap.size + 1 + 1) w3 (w3.setCell ⟨W.heap.size + 1 + 1, 2, none⟩ (.slice (some ⟨g3, 0, none⟩) (k + 1) cap)) := (Cha.refl (fun i => i = W.heap.size + 1 + 1) w3).setCell (p := ⟨W.heap.size + 1 + 1, 2, none⟩) (fun _ => rfl) _
                have I3 := (I'.out.call j1 j2).behind (cb.mono fun i _ e => by have e : b1 ≤ i := e; have := HB1.out; show W2.heap.size ≤ i; omega)
                have I4 := I3.store 2 (.slice (some ⟨g3, 0, none⟩) (k + 1) cap)
                rw [HSET.out] at I4
                have O4 := OL3.cha wok_fn cg (fun i e => by have e : i = W.heap.size + 1 + 1 := e; have := HB.out; omega)
                have CT : Cha (fun i => i = W.heap.size + 1 ∨ i = W.heap.size + 1 + 1 ∨ b1 ≤ i) wr (w3.setCell ⟨W.heap.size + 1 + 1, 2, none⟩ (.slice (some ⟨g3, 0, none⟩) (k + 1) cap)) := ((((Cha.refl _ wr).drew).trans (j2.mono fun _ _ e => .inl e)).trans (cb.mono fun _ _ e => .inr (.inr e))).trans (cg.mono fun _ _ e => .inr (.inl e))
                have hd : ∀ i, (i = W.heap.size + 1 ∨ i = W.heap.size + 1 + 1 ∨ b1 ≤ i) → ¬ (b0 ≤ i ∧ i < b1) := fun i e hb => by have := HS2.out; have := HB0.out; rcases e with e | e | e <;> omega
                have I5 := Lib.hid I4
                have O5 := Lib.hid O4
                have SF5 := Lib.hid (HSF.out.step rfn_stop je)
                have HL15 := Lib.hid (RdS.tys HL1a.out CT hd (fun _ h => h))
                have HL25 := Lib.hid (RdS.ints HL2a.out CT hd (fun _ h => h))
                have HBW5 := Lib.hid (Nat.le_trans HBW.out CT.size)
                clear I3 I4 O4 OL3 hown hg hat m2 m3 j1 j2 jv je cb cg CT hd
                go_wp2
                go_roundw
                case rel => exact ⟨k + 1, _, _, by omega, by go_num, by rw [rRep_succ]; exact I5.out, O5.out, SF5.out, HL15.out, HL25.out, HBW5.out⟩
                case measure => simp [intOf]; omega
            · have HE := Lib.hid he
              have EX2 : Hid ((rRep (rFn T) k s3).2 = (rProg T ⟨0, 0, 0⟩).2) := Lib.hid (by rw [HP.out.2]; exact (rep_stopped (n := m2) rfn_stop hk HE.out).symm)
              obtain ⟨pp, c1, hpp, hpl⟩ := I.out.dr.pos
              have c3 := I.out.dr.bad
              obtain ⟨sf, hsf⟩ : ∃ x, x = (rRep (rFn T) k s3).2 := ⟨_, rfl⟩
              rw [← hsf] at I c2 c3 EX2 HE
              have EB2 : Hid (dec8 T = (noP, ⟨sf.e, -1, (sf.fa : Int)⟩)) := Lib.hid (by have := EB.out (by rw [← EX2.out]; exact HE.out); rw [← EX2.out] at this; exact this)
              have he1 : (sf.e == 0) = false := by simpa using HE.out
              have he2 : (sf.e != 0) = true := by simpa using HE.out
              have CALL : Hid (Calls Try.prog 38 #[.pointer (some ⟨W.heap.size + 1, 0, none⟩), .int .i64 7, .int .i64 (pp : Int)] wr (DRead (· < W.heap.size) (W.heap.size + 1) T (.tuple #[]) sf wr)) := Lib.hid (fail_stop 7 (pp : Int) I.out.dr HE.out)
              have HI := I
              obtain ⟨E, hE⟩ : ∃ x, x = sf.e := ⟨_, rfl⟩
              obtain ⟨FA, hFA⟩ : ∃ x, x = sf.fa := ⟨_, rfl⟩
              rw [← hE] at c2 he1 he2
              rw [← hFA] at c3
              have EB3 : Hid (dec8 T = (noP, ⟨E, -1, (FA : Int)⟩)) := Lib.hid (by rw [EB2.out, hE, hFA])
              have HEE := Lib.hid hE
              have HFF := Lib.hid hFA
              clear hsf hE hFA hpp hpl c5 hgl
              by_cases hp : pp < n
              · have hp' : (pp : Int) < (n : Int) := by omega
                clear hp
                go_wp2_with (go_at_call 38; ((with_reducible refine (CALL.out).mono ?_); rintro e w5 ⟨rfl, k1, k2⟩; have I5 := Lib.hid (HI.out.call k1 k2); have e2 := I5.out.dr.err; have e3 := I5.out.dr.bad; rw [← HEE.out] at e2; rw [← HFF.out] at e3; clear k1 k2; have XRw5 : w5.heap[W.heap.size]? = _ := (I5.out.cha.old _ (by have := HS2.out; omega) (fun e => by rcases e with e | e <;> omega)).trans XR.out; have x0 := cell_of_row w5 _ 0 _ 26 (0, 0) XRw5; have y0 := frozen_of_row w5 _ 0 _ 26 XRw5; have x1 := cell_of_row w5 _ 1 _ 26 (0, 0) XRw5; have y1 := frozen_of_row w5 _ 1 _ 26 XRw5; have x2 := cell_of_row w5 _ 2 _ 26 (0, 0) XRw5; have y2 := frozen_of_row w5 _ 2 _ 26 XRw5; have CFw5 : Cha (fun _ => False) W w5 := C0.out.over I5.out.cha (fun i e => .inr (by rcases e with e | e <;> omega)); clear XRw5))
                go_region
                all_goals
                  go_wp2
                refine bodyPost_ret (v := .tuple #[.agg #[.slice none 0 0, .slice none 0 0, .slice none 0 0], .int .i64 E, .int .i64 (FA : Int)]) (by simp [results, Try.results20, go_sem, x0, x1, x2]) rfl ?_
                exact DDec.of (r := (noP, ⟨E, -1, (FA : Int)⟩)) ⟨_, _, _, rfl, nop_reads _ _, (CFw5.over (puts_cha W.heap.size [.slice none 0 0, .slice none 0 0, .slice none 0 0] _ 0) (fun i e => by have e : i = W.heap.size := e; exact .inr (by omega))).drew⟩ EB3.out.symm
              · have hp' : ¬ (pp : Int) < (n : Int) := by omega
                clear hp CALL
                have XRwr : wr.heap[W.heap.size]? = _ := (HI.out.cha.old _ (by have := HS2.out; omega) (fun e => by rcases e with e | e <;> omega)).trans XR.out
                have x0 := cell_of_row wr _ 0 _ 26 (0, 0) XRwr
                have y0 := frozen_of_row wr _ 0 _ 26 XRwr
                have x1 := cell_of_row wr _ 1 _ 26 (0, 0) XRwr
                have y1 := frozen_of_row wr _ 1 _ 26 XRwr
                have x2 := cell_of_row wr _ 2 _ 26 (0, 0) XRwr
                have y2 := frozen_of_row wr _ 2 _ 26 XRwr
                have CFwr : Cha (fun _ => False) W wr := C0.out.over HI.out.cha (fun i e => .inr (by rcases e with e | e <;> omega))
                clear XRwr
                go_wp2
                go_region
                all_goals
                  go_wp2
                refine bodyPost_ret (v := .tuple #[.agg #[.slice none 0 0, .slice none 0 0, .slice none 0 0], .int .i64 E, .int .i64 (FA : Int)]) (by simp [results, Try.results20, go_sem, x0, x1, x2]) rfl ?_
                exact DDec.of (r := (noP, ⟨E, -1, (FA : Int)⟩)) ⟨_, _, _, rfl, nop_reads _ _, (CFwr.over (puts_cha W.heap.size [.slice none 0 0, .slice none 0 0, .slice none 0 0] _ 0) (fun i e => by have e : i = W.heap.size := e; exact .inr (by omega))).drew⟩ EB3.out.symm
          · obtain rfl : k = m2 := by omega
            by_cases he : (rRep (rFn T) k s3).2.e = 0
            · have HE := Lib.hid he
              obtain ⟨pp, c1, hpp, hpl⟩ := I.out.dr.pos
              have hpa := hpp he
              rw [he] at c2
              have HS4 : Hid ((rProg T ⟨0, 0, 0⟩).2.at_ = pp ∧ (rProg T ⟨0, 0, 0⟩).2.e = 0) := Lib.hid (by rw [HP.out.2]; exact ⟨hpa.symm, he⟩)
              have CALL : Hid (Calls Try.prog 38 #[.pointer (some ⟨W.heap.size + 1, 0, none⟩), .int .i64 7, .int .i64 (pp : Int)] wr (DRead (· < W.heap.size) (W.heap.size + 1) T (.tuple #[]) ⟨(rRep (rFn T) k s3).2.at_, 7, pp⟩ wr)) := Lib.hid (fail_goes 7 pp I.out.dr he (by decide) hpl)
              have HI := I
              clear hpp hpa hpl hgl he
              by_cases hp : pp < n
              · have hp' : (pp : Int) < (n : Int) := by omega
                have EM2 : Hid (dec8 T = (noP, ⟨7, -1, (pp : Int)⟩)) := Lib.hid (by have := EM.out HS4.out.2 (by rw [HS4.out.1, ← HN.out]; exact hp); rw [HS4.out.1] at this; exact this)
                clear hp c5
                go_wp2_with (go_at_call 38; ((with_reducible refine (CALL.out).mono ?_); rintro e w5 ⟨rfl, k1, k2⟩; have I5 := Lib.hid (HI.out.call k1 k2); have e2 : w5.cell? ⟨W.heap.size + 1, 2, none⟩ = some (.int .i64 7) := I5.out.dr.err; have e3 : w5.cell? ⟨W.heap.size + 1, 3, none⟩ = some (.int .i64 (pp : Int)) := I5.out.dr.bad; clear k1 k2; have XRw5 : w5.heap[W.heap.size]? = _ := (I5.out.cha.old _ (by have := HS2.out; omega) (fun e => by rcases e with e | e <;> omega)).trans XR.out; have x0 := cell_of_row w5 _ 0 _ 26 (0, 0) XRw5; have y0 := frozen_of_row w5 _ 0 _ 26 XRw5; have x1 := cell_of_row w5 _ 1 _ 26 (0, 0) XRw5; have y1 := frozen_of_row w5 _ 1 _ 26 XRw5; have x2 := cell_of_row w5 _ 2 _ 26 (0, 0) XRw5; have y2 := frozen_of_row w5 _ 2 _ 26 XRw5; have CFw5 : Cha (fun _ => False) W w5 := C0.out.over I5.out.cha (fun i e => .inr (by rcases e with e | e <;> omega)); clear XRw5))
                go_region
                all_goals
                  go_wp2
                refine bodyPost_ret (v := .tuple #[.agg #[.slice none 0 0, .slice none 0 0, .slice none 0 0], .int .i64 7, .int .i64 (pp : Int)]) (by simp [results, Try.results20, go_sem, x0, x1, x2]) rfl ?_
                exact DDec.of (r := (noP, ⟨7, -1, (pp : Int)⟩)) ⟨_, _, _, rfl, nop_reads _ _, (CFw5.over (puts_cha W.heap.size [.slice none 0 0, .slice none 0 0, .slice none 0 0] _ 0) (fun i e => by have e : i = W.heap.size := e; exact .inr (by omega))).drew⟩ EM2.out.symm
              · have hp' : ¬ (pp : Int) < (n : Int) := by omega
                have EO2 : Hid (dec8 T = (⟨xs, xg, ys⟩, ⟨0, 0, 0⟩)) := Lib.hid (by have h0 := HP.out.2 ▸ HS4.out.2; have q := HST.out h0; have := EO.out HS4.out.2 (by rw [HS4.out.1, ← HN.out]; exact hp); rw [this, HP.out.1, ← HX1.out q.2, ← HX2.out q.1, ← SF.out.2 h0])
                have row : wr.heap[W.heap.size + 1 + 1]? = some (.cells #[.slice va nk vc, .slice ga gn gc, .slice ua k uc] 26 (0, 0)) := (by have := HI.out.row; rw [HCS.out] at this; exact this)
                have d0 := cell_of_row wr _ 0 _ 26 (0, 0) row
                have d1 := cell_of_row wr _ 1 _ 26 (0, 0) row
                have d2 := cell_of_row wr _ 2 _ 26 (0, 0) row
                have RL := Lib.hid (O.out.reads wok_fn (R := RdFn) (by have := SF.out.1; omega) (fun B b o cs x h hc => to_fn B b o cs x h hc))
                clear hp row CALL c5
                have XRwr : wr.heap[W.heap.size]? = _ := (HI.out.cha.old _ (by have := HS2.out; omega) (fun e => by rcases e with e | e <;> omega)).trans XR.out
                have x0 := cell_of_row wr _ 0 _ 26 (0, 0) XRwr
                have y0 := frozen_of_row wr _ 0 _ 26 XRwr
                have x1 := cell_of_row wr _ 1 _ 26 (0, 0) XRwr
                have y1 := frozen_of_row wr _ 1 _ 26 XRwr
                have x2 := cell_of_row wr _ 2 _ 26 (0, 0) XRwr
                have y2 := frozen_of_row wr _ 2 _ 26 XRwr
                have CFwr : Cha (fun _ => False) W wr := C0.out.over HI.out.cha (fun i e => .inr (by rcases e with e | e <;> omega))
                clear XRwr
                go_wp2
                have PC := puts_cha W.heap.size [.slice va nk vc, .slice ga gn gc, .slice ua k uc] wr 0
                have hne : ∀ i, i = W.heap.size → ¬ b0 ≤ i := fun i e hb => by have := HS2.out; have := HB0.out; omega
                have hup : ∀ i, b0 ≤ i → W.heap.size ≤ i := fun i hb => by have := HS2.out; have := HB0.out; omega
                refine bodyPost_ret (v := .tuple #[.agg #[.slice va nk vc, .slice ga gn gc, .slice ua k uc], .int .i64 0, .int .i64 0]) (by simp [results, Try.results20, go_sem, x0, x1, x2]) rfl ?_
                exact DDec.of (r := (⟨xs, xg, ys⟩, ⟨0, 0, 0⟩)) ⟨_, _, _, rfl, ⟨_, _, _, rfl, RdS.tys HL1.out PC (fun i e hb => hne i e hb.1) (fun i hb => hup i hb.1), RdS.ints HL2.out PC (fun i e hb => hne i e hb.1) (fun i hb => hup i hb.1), RdS.fns RL.out PC (fun i e hb => hne i e (Nat.le_trans HB1.out.2.2 hb)) (fun i hb => hup i (Nat.le_trans HB1.out.2.2 hb))⟩, CFwr.over PC (fun i e => by have e : i = W.heap.size := e; exact .inr (by omega))⟩ EO2.out.symm
            · have HE := Lib.hid he
              have EX2 : Hid ((rRep (rFn T) k s3).2 = (rProg T ⟨0, 0, 0⟩).2) := Lib.hid (by rw [HP.out.2])
              obtain ⟨pp, c1, hpp, hpl⟩ := I.out.dr.pos
              have c3 := I.out.dr.bad
              obtain ⟨sf, hsf⟩ : ∃ x, x = (rRep (rFn T) k s3).2 := ⟨_, rfl⟩
              rw [← hsf] at I c2 c3 EX2 HE
              have EB2 : Hid (dec8 T = (noP, ⟨sf.e, -1, (sf.fa : Int)⟩)) := Lib.hid (by have := EB.out (by rw [← EX2.out]; exact HE.out); rw [← EX2.out] at this; exact this)
              have he1 : (sf.e == 0) = false := by simpa using HE.out
              have he2 : (sf.e != 0) = true := by simpa using HE.out
              have CALL : Hid (Calls Try.prog 38 #[.pointer (some ⟨W.heap.size + 1, 0, none⟩), .int .i64 7, .int .i64 (pp : Int)] wr (DRead (· < W.heap.size) (W.heap.size + 1) T (.tuple #[]) sf wr)) := Lib.hid (fail_stop 7 (pp : Int) I.out.dr HE.out)
              have HI := I
              obtain ⟨E, hE⟩ : ∃ x, x = sf.e := ⟨_, rfl⟩
              obtain ⟨FA, hFA⟩ : ∃ x, x = sf.fa := ⟨_, rfl⟩
              rw [← hE] at c2 he1 he2
              rw [← hFA] at c3
              have EB3 : Hid (dec8 T = (noP, ⟨E, -1, (FA : Int)⟩)) := Lib.hid (by rw [EB2.out, hE, hFA])
              have HEE := Lib.hid hE
              have HFF := Lib.hid hFA
              clear hsf hE hFA hpp hpl c5 hgl
              by_cases hp : pp < n
              · have hp' : (pp : Int) < (n : Int) := by omega
                clear hp
                go_wp2_with (go_at_call 38; ((with_reducible refine (CALL.out).mono ?_); rintro e w5 ⟨rfl, k1, k2⟩; have I5 := Lib.hid (HI.out.call k1 k2); have e2 := I5.out.dr.err; have e3 := I5.out.dr.bad; rw [← HEE.out] at e2; rw [← HFF.out] at e3; clear k1 k2; have XRw5 : w5.heap[W.heap.size]? = _ := (I5.out.cha.old _ (by have := HS2.out; omega) (fun e => by rcases e with e | e <;> omega)).trans XR.out; have x0 := cell_of_row w5 _ 0 _ 26 (0, 0) XRw5; have y0 := frozen_of_row w5 _ 0 _ 26 XRw5; have x1 := cell_of_row w5 _ 1 _ 26 (0, 0) XRw5; have y1 := frozen_of_row w5 _ 1 _ 26 XRw5; have x2 := cell_of_row w5 _ 2 _ 26 (0, 0) XRw5; have y2 := frozen_of_row w5 _ 2 _ 26 XRw5; have CFw5 : Cha (fun _ => False) W w5 := C0.out.over I5.out.cha (fun i e => .inr (by rcases e with e | e <;> omega)); clear XRw5))
                go_region
                all_goals
                  go_wp2
                refine bodyPost_ret (v := .tuple #[.agg #[.slice none 0 0, .slice none 0 0, .slice none 0 0], .int .i64 E, .int .i64 (FA : Int)]) (by simp [results, Try.results20, go_sem, x0, x1, x2]) rfl ?_
                exact DDec.of (r := (noP, ⟨E, -1, (FA : Int)⟩)) ⟨_, _, _, rfl, nop_reads _ _, (CFw5.over (puts_cha W.heap.size [.slice none 0 0, .slice none 0 0, .slice none 0 0] _ 0) (fun i e => by have e : i = W.heap.size := e; exact .inr (by omega))).drew⟩ EB3.out.symm
              · have hp' : ¬ (pp : Int) < (n : Int) := by omega
                clear hp CALL
                have XRwr : wr.heap[W.heap.size]? = _ := (HI.out.cha.old _ (by have := HS2.out; omega) (fun e => by rcases e with e | e <;> omega)).trans XR.out
                have x0 := cell_of_row wr _ 0 _ 26 (0, 0) XRwr
                have y0 := frozen_of_row wr _ 0 _ 26 XRwr
                have x1 := cell_of_row wr _ 1 _ 26 (0, 0) XRwr
                have y1 := frozen_of_row wr _ 1 _ 26 XRwr
                have x2 := cell_of_row wr _ 2 _ 26 (0, 0) XRwr
                have y2 := frozen_of_row wr _ 2 _ 26 XRwr
                have CFwr : Cha (fun _ => False) W wr := C0.out.over HI.out.cha (fun i e => .inr (by rcases e with e | e <;> omega))
                clear XRwr
                go_wp2
                go_region
                all_goals
                  go_wp2
                refine bodyPost_ret (v := .tuple #[.agg #[.slice none 0 0, .slice none 0 0, .slice none 0 0], .int .i64 E, .int .i64 (FA : Int)]) (by simp [results, Try.results20, go_sem, x0, x1, x2]) rfl ?_
                exact DDec.of (r := (noP, ⟨E, -1, (FA : Int)⟩)) ⟨_, _, _, rfl, nop_reads _ _, (CFwr.over (puts_cha W.heap.size [.slice none 0 0, .slice none 0 0, .slice none 0 0] _ 0) (fun i e => by have e : i = W.heap.size := e; exact .inr (by omega))).drew⟩ EB3.out.symm
    · as_aux_lemma =>
      obtain rfl : k = m := by omega
      have SEQ : Hid ((rRep (rTy T) k s1).2 = RA.2 ∧ (RA.2.e = 0 → xs = RA.1)) := Lib.hid ⟨by rw [HRA.out], by rw [HRA.out]; exact SF.out.2⟩
      have I := Lib.hid (show IB (· < W.heap.size) (W.heap.size + 1) T 26 (W.heap.size + 1 + 1) W2 wr RA.2 #[.slice va k vc, .slice none 0 0, .slice none 0 0] by rw [← SEQ.out.1]; exact I.out)
      have RT0 : Hid (RdS 2 RdTy (fun i => b0 ≤ i) wr (.slice va k vc) xs) := Lib.hid (O.out.reads wok_ty (R := RdTy) (by have := SF.out.1; omega) (fun B b o cs x h hc => to_ty B b o cs x h hc))
      have HX1 := Lib.hid SEQ.out.2
      obtain ⟨nk, hnk⟩ : ∃ x, x = k := ⟨_, rfl⟩
      rw [← hnk] at I RT0 hlt ⊢
      clear hnk SF O SEQ HRA
      go_wp2_with (first
        | (go_at_call 36; ((with_reducible refine (DKA.out _ I.out.dr).mono ?_); rintro e w3 ⟨lv, xg, rfl, kv, ke, k1, k2⟩; have I3 := I.out.call k1 k2; have f3 := I3.free 1; have z3 := I3.cell 1; obtain ⟨ga, gn, gc, rfl⟩ := rds_shape kv; have KVG := Lib.hid kv; have HX2 := Lib.hid ke; have RT3 := Lib.hid (RT0.out.tys k2 (fun i e hb => by have e : i = W.heap.size + 1 := e; have hb : b0 ≤ i := hb; have := HB0.out; have := HS2.out; omega) (fun _ h => h)); have HW3 : Hid (b0 ≤ wr.heap.size) := Lib.hid HBW.out; have KSZ : Hid (wr.heap.size ≤ w3.heap.size) := Lib.hid k2.size; have I3s := Lib.hid (I3.store 1 (.slice ga gn gc)); have Q3 : Hid (Cha (fun i => i = W.heap.size + 1 + 1) w3 (w3.setCell ⟨W.heap.size + 1 + 1, 1, none⟩ (.slice ga gn gc))) := Lib.hid ((Cha.refl (fun i => i = W.heap.size + 1 + 1) w3).setCell (p := ⟨W.heap.size + 1 + 1, 1, none⟩) (fun _ => rfl) _); clear k1 k2 I3 kv ke))
        | (go_at_call 35; ((with_reducible refine (D32B.out _ I3s.out.dr).mono ?_); rintro e w4 ⟨rfl, k1, k2⟩; have I4 := Lib.hid (I3s.out.call k1 k2); have QC : Hid (Cha (fun i => i = (W.heap.size + 1) ∨ i = W.heap.size + 1 + 1) w3 w4) := Lib.hid ((Q3.out.mono fun _ _ e => .inr e).trans (k2.mono fun _ _ e => .inl e)); clear k1 k2)))
      have hn2 : m2 ≤ 32 := HO2.out _ I3s.out.dr
      have hdis : ∀ i, (i = (W.heap.size + 1) ∨ i = W.heap.size + 1 + 1) → ¬ b0 ≤ i := fun i e hb => by have := HS2.out; have := HB0.out; rcases e with e | e <;> omega
      have L1 := RdS.bnd' (RdS.tys RT3.out QC.out hdis (fun _ h => h)) (fun _ _ _ h => ty_bnd h)
      have L2 := RdS.bnd' (RdS.ints (RdS.nums KVG.out (B' := fun i => b0 ≤ i) (fun i hi => Nat.le_trans HW3.out hi)) QC.out hdis (fun _ h => h)) (fun _ _ _ h => h)
      obtain ⟨b1, hb1⟩ : ∃ b, b = w4.heap.size := ⟨_, rfl⟩
      rw [← hb1] at L1 L2
      have HL1 := Lib.hid L1
      have HL2 := Lib.hid L2
      have HB1 : Hid (W2.heap.size ≤ b1 ∧ b1 ≤ w4.heap.size ∧ b0 ≤ b1) := Lib.hid ⟨by rw [hb1]; exact I4.out.cha.size, by omega, by rw [hb1]; exact Nat.le_trans HW3.out (Nat.le_trans KSZ.out QC.out.size)⟩
      obtain ⟨cs, hcs⟩ : ∃ f : Value → Array Value, f = fun v => #[.slice va nk vc, .slice ga gn gc, v] := ⟨_, rfl⟩
      have I7 : Hid (IB (· < W.heap.size) (W.heap.size + 1) T 26 (W.heap.size + 1 + 1) W2 w4 s3 (cs (.slice none 0 0))) := Lib.hid (by rw [hcs]; exact I4.out)
      have HCS := Lib.hid hcs
      have HSET : Hid (∀ v v', (cs v).setIfInBounds 2 v' = cs v') := Lib.hid (fun v v' => by rw [HCS.out]; rfl)
      have HC5 : Hid (∀ v, (cs v)[2]? = some v) := Lib.hid (fun v => by rw [HCS.out]; rfl)
      clear f3 z3 I3s I4 hcs DKA D32B L1 L2 hdis hb1 RT0 RT3 KVG Q3 QC HO2 I HW3 HBW c2 hgl hk hi hz0 hz1 hz2 D1 DF

      go_loopw [10] (fun i wr => ∃ (k : Nat) (v : Value) (ys : List FZ), k ≤ m2 ∧ i = .int .i64 (k : Int) ∧ IB (· < W.heap.size) (W.heap.size + 1) T 26 (W.heap.size + 1 + 1) W2 wr (rRep (rFn T) k s3).2 (cs v) ∧ OwnL WFn 4 55 b1 wr v k ys ∧ SoFar (rFn T) k s3 ys ∧ RdS 2 RdTy (fun i => b0 ≤ i ∧ i < b1) wr (.slice va nk vc) xs ∧ RdS 1 RdI (fun i => b0 ≤ i ∧ i < b1) wr (.slice ga gn gc) xg ∧ b1 ≤ wr.heap.size) (fun i _ => m2 - (intOf i).toNat)
      case atStart => exact ⟨0, _, [], Nat.zero_le _, rfl, I7.out, OwnL.nil _ _ _ _ _, ⟨rfl, fun _ => rfl⟩, HL1.out, HL2.out, HB1.out.2.1⟩
      case round =>
        clear I7 HL1 HL2
        obtain ⟨k, v, ys, hk, rfl, hI, hO, hF, hL1, hL2, hbw⟩ := hrel
        have c2 := hI.dr.err
        have c5 := hI.cell 2
        rw [HC5.out] at c5
        have hgl := hI.lt
        obtain ⟨ua, uc, rfl⟩ := hO.shape
        have I := Lib.hid hI
        have O := Lib.hid hO
        have SF := Lib.hid hF
        have HL1 := Lib.hid hL1
        have HL2 := Lib.hid hL2
        have HBW := Lib.hid hbw
        clear hI hO hF hL1 hL2 hbw
        by_cases hlt : k < m2
        · by_cases he : (rRep (rFn T) k s3).2.e = 0
          · rw [he] at c2
            go_wp2
            have I' := Lib.hid I.out.drew
            have O' := Lib.hid (O.out.cha wok_fn ((Cha.refl (fun _ => False) wr).drew) (fun _ f => f.elim))
            have KX : Hid (∀ W', Cha (fun i => i = W.heap.size + 1 ∨ W2.heap.size ≤ i) wr.drew W' → W'.cell? ⟨W.heap.size + 1 + 1, 2, none⟩ = some (.slice ua k uc) ∧ W'.frozen? ⟨W.heap.size + 1 + 1, 2, none⟩ = false) := Lib.hid fun W' hc => by
              have e := (hc.old _ I'.out.lt (fun e => by have := I'.out.far; rcases e with e | e <;> omega)).trans I'.out.row
              exact ⟨by rw [cell_of_row W' _ 2 _ 26 _ e, HC5.out], frozen_of_row W' _ 2 _ 26 e⟩
            have C : Hid (Calls Try.prog 37 #[.pointer (some ⟨W.heap.size + 1, 0, none⟩)] wr.drew (DReadV WFn (· < W.heap.size) (W.heap.size + 1) T (rFn T (rRep (rFn T) k s3).2) wr.drew)) := Lib.hid (dfn_any I'.out.dr)
            have HB : Hid (W.heap.size + 1 < b1 ∧ W.heap.size + 1 + 1 < b1 ∧ b1 ≤ wr.drew.heap.size) := Lib.hid ⟨by have := I'.out.far; have := HB1.out; have := HS2.out; omega, by have := HS2.out; have := HB1.out; omega, HBW.out⟩
            have HSF := SF
            have HL1a := HL1
            have HL2a := HL2
            clear I O c2 SF HL1 HL2
            obtain ⟨k1, k2⟩ := KX.out wr.drew (Cha.refl _ _)
            go_region_law
              (first
                | (go_simp; go_at_call 37; refine (C.out).mono ?_; rintro e w2 ⟨vi, xi, rfl, jv, je, j1, j2⟩; obtain ⟨p1, p2, p3, p4, p5, p6, p7, p8, p9, rfl⟩ := fn_cells jv; have m2 : Cha (fun i => i = W.heap.size + 1 ∨ W2.heap.size ≤ i) wr.drew w2 := j2.mono fun _ _ e => .inl e; obtain ⟨q1, q2⟩ := KX.out w2 m2; have hgl2 : W.heap.size + 1 + 1 < w2.heap.size := Nat.lt_of_lt_of_le I'.out.lt j2.size; have OL2 := O'.out.cha wok_fn j2 (fun i e => by have e : i = W.heap.size + 1 := e; have := HB.out; omega); have OLH := Lib.hid OL2; obtain ⟨css, t1, t2, t3, t4⟩ := OL2; have T1 := Lib.hid t1; have T3 := Lib.hid t3; have T4 := Lib.hid t4; clear t1 t2 t3 t4)
                | (refine step_append_lies _ (by rfl) _ _ 24 (by rfl) b1 55 j0 (.agg #[.int .i64 0, .slice none 0 0, .slice none 0 0, .slice none 0 0]) 4 80 Try.underlying24 ji jz0 jz1 jz2 rfl (by decide) (.slice ua k uc) k css.flatten (by rfl) (T3.out.alloc _) ⟨w2.heap.size, 0, none⟩ 1 1 [.int .i64 xi.pa, .slice p1 p2 p3, .slice p4 p5 p6, .slice p7 p8 p9] (by rfl) rfl (World.news_of_block (heap_alloc_new w2 _)) (four_one _ _ _ _ _ _ _ _ _ _) (by decide) (by unfold maxLen; omega) (by omega) (by rw [World.size_alloc]; have := HB.out; have := j2.size; omega) (w2.heap.size + 1) (World.size_alloc _ _) ?_; intro g3 cap w3 hown hg hat hlt3; have m3 : Cha (fun i => i = W.heap.size + 1 ∨ W2.heap.size ≤ i) wr.drew w3 := (m2.alloc _).trans (Cha.of_grownBy hg (fun j e => .inr (by have := (T3.out.lt j e).1; have := HB1.out; omega))); obtain ⟨qc3, fz3⟩ := KX.out w3 m3))
            all_goals
              have OL3 := OwnL.push wok_fn (w0 := wr.drew) (w2 := w2) (w3 := w3) (v' := .slice (some ⟨g3, 0, none⟩) (k + 1) cap) OLH.out (fun g e => (O'.out.ge e).2) HB.out.2.2 (cs := [.int .i64 xi.pa, .slice p1 p2 p3, .slice p4 p5 p6, .slice p7 p8 p9]) rfl (x := xi) jv hg (by rcases hat with e | e; exact .inl e.symm; exact .inr fun g h => by have h : some g3 = some g := h; injection h with h; rw [World.size_alloc]; omega) css T1.out T4.out hown
              have cb : Cha (fun i => b1 ≤ i) w2 w3 := ((Cha.refl _ w2).alloc _).trans (Cha.of_grownBy hg (fun j e => (T3.out.lt j e).1))
              have cg : Cha (fun i => i = W.heap.size + 1 + 1) w3 (w3.setCell ⟨W.heap.size + 1 + 1, 2, none⟩ (.slice (some ⟨g3, 0, none⟩) (k + 1) cap)) := (Cha.refl (fun i => i = W.heap.size + 1 + 1) w3).setCell (p := ⟨W.heap.size + 1 + 1, 2, none⟩) (fun _ => rfl) _
              have I3 := (I'.out.call j1 j2).behind (cb.mono fun i _ e => by have e : b1 ≤ i := e; have := HB1.out; show W2.heap.size ≤ i; omega)
              have I4 := I3.store 2 (.slice (some ⟨g3, 0, none⟩) (k + 1) cap)
              rw [HSET.out] at I4
              have O4 := OL3.cha wok_fn cg (fun i e => by have e : i = W.heap.size + 1 + 1 := e; have := HB.out; omega)
              have CT : Cha (fun i => i = W.heap.size + 1 ∨ i = W.heap.size + 1 + 1 ∨ b1 ≤ i) wr (w3.setCell ⟨W.heap.size + 1 + 1, 2, none⟩ (.slice (some ⟨g3, 0, none⟩) (k + 1) cap)) := ((((Cha.refl _ wr).drew).trans (j2.mono fun _ _ e => .inl e)).trans (cb.mono fun _ _ e => .inr (.inr e))).trans (cg.mono fun _ _ e => .inr (.inl e))
              have hd : ∀ i, (i = W.heap.size + 1 ∨ i = W.heap.size + 1 + 1 ∨ b1 ≤ i) → ¬ (b0 ≤ i ∧ i < b1) := fun i e hb => by have := HS2.out; have := HB0.out; rcases e with e | e | e <;> omega
              have I5 := Lib.hid I4
              have O5 := Lib.hid O4
              have SF5 := Lib.hid (HSF.out.step rfn_stop je)
              have HL15 := Lib.hid (RdS.tys HL1a.out CT hd (fun _ h => h))
              have HL25 := Lib.hid (RdS.ints HL2a.out CT hd (fun _ h => h))
              have HBW5 := Lib.hid (Nat.le_trans HBW.out CT.size)
              clear I3 I4 O4 OL3 hown hg hat m2 m3 j1 j2 jv je cb cg CT hd
              go_wp2
              go_roundw
              case rel => exact ⟨k + 1, _, _, by omega, by go_num, by rw [rRep_succ]; exact I5.out, O5.out, SF5.out, HL15.out, HL25.out, HBW5.out⟩
              case measure => simp [intOf]; omega
          · have HE := Lib.hid he
            have EX2 : Hid ((rRep (rFn T) k s3).2 = (rProg T ⟨0, 0, 0⟩).2) := Lib.hid (by rw [HP.out.2]; exact (rep_stopped (n := m2) rfn_stop hk HE.out).symm)
            obtain ⟨pp, c1, hpp, hpl⟩ := I.out.dr.pos
            have c3 := I.out.dr.bad
            obtain ⟨sf, hsf⟩ : ∃ x, x = (rRep (rFn T) k s3).2 := ⟨_, rfl⟩
            rw [← hsf] at I c2 c3 EX2 HE
            have EB2 : Hid (dec8 T = (noP, ⟨sf.e, -1, (sf.fa : Int)⟩)) := Lib.hid (by have := EB.out (by rw [← EX2.out]; exact HE.out); rw [← EX2.out] at this; exact this)
            have he1 : (sf.e == 0) = false := by simpa using HE.out
            have he2 : (sf.e != 0) = true := by simpa using HE.out
            have CALL : Hid (Calls Try.prog 38 #[.pointer (some ⟨W.heap.size + 1, 0, none⟩), .int .i64 7, .int .i64 (pp : Int)] wr (DRead (· < W.heap.size) (W.heap.size + 1) T (.tuple #[]) sf wr)) := Lib.hid (fail_stop 7 (pp : Int) I.out.dr HE.out)
            have HI := I
            obtain ⟨E, hE⟩ : ∃ x, x = sf.e := ⟨_, rfl⟩
            obtain ⟨FA, hFA⟩ : ∃ x, x = sf.fa := ⟨_, rfl⟩
            rw [← hE] at c2 he1 he2
            rw [← hFA] at c3
            have EB3 : Hid (dec8 T = (noP, ⟨E, -1, (FA : Int)⟩)) := Lib.hid (by rw [EB2.out, hE, hFA])
            have HEE := Lib.hid hE
            have HFF := Lib.hid hFA
            clear hsf hE hFA hpp hpl c5 hgl
            by_cases hp : pp < n
            · have hp' : (pp : Int) < (n : Int) := by omega
              clear hp
              go_wp2_with (go_at_call 38; ((with_reducible refine (CALL.out).mono ?_); rintro e w5 ⟨rfl, k1, k2⟩; have I5 := Lib.hid (HI.out.call k1 k2); have e2 := I5.out.dr.err; have e3 := I5.out.dr.bad; rw [← HEE.out] at e2; rw [← HFF.out] at e3; clear k1 k2; have XRw5 : w5.heap[W.heap.size]? = _ := (I5.out.cha.old _ (by have := HS2.out; omega) (fun e => by rcases e with e | e <;> omega)).trans XR.out; have x0 := cell_of_row w5 _ 0 _ 26 (0, 0) XRw5; have y0 := frozen_of_row w5 _ 0 _ 26 XRw5; have x1 := cell_of_row w5 _ 1 _ 26 (0, 0) XRw5; have y1 := frozen_of_row w5 _ 1 _ 26 XRw5; have x2 := cell_of_row w5 _ 2 _ 26 (0, 0) XRw5; have y2 := frozen_of_row w5 _ 2 _ 26 XRw5; have CFw5 : Cha (fun _ => False) W w5 := C0.out.over I5.out.cha (fun i e => .inr (by rcases e with e | e <;> omega)); clear XRw5))
              go_region
              all_goals
                go_wp2
              refine bodyPost_ret (v := .tuple #[.agg #[.slice none 0 0, .slice none 0 0, .slice none 0 0], .int .i64 E, .int .i64 (FA : Int)]) (by simp [results, Try.results20, go_sem, x0, x1, x2]) rfl ?_
              exact DDec.of (r := (noP, ⟨E, -1, (FA : Int)⟩)) ⟨_, _, _, rfl, nop_reads _ _, (CFw5.over (puts_cha W.heap.size [.slice none 0 0, .slice none 0 0, .slice none 0 0] _ 0) (fun i e => by have e : i = W.heap.size := e; exact .inr (by omega))).drew⟩ EB3.out.symm
            · have hp' : ¬ (pp : Int) < (n : Int) := by omega
              clear hp CALL
              have XRwr : wr.heap[W.heap.size]? = _ := (HI.out.cha.old _ (by have := HS2.out; omega) (fun e => by rcases e with e | e <;> omega)).trans XR.out
              have x0 := cell_of_row wr _ 0 _ 26 (0, 0) XRwr
              have y0 := frozen_of_row wr _ 0 _ 26 XRwr
              have x1 := cell_of_row wr _ 1 _ 26 (0, 0) XRwr
              have y1 := frozen_of_row wr _ 1 _ 26 XRwr
              have x2 := cell_of_row wr _ 2 _ 26 (0, 0) XRwr
              have y2 := frozen_of_row wr _ 2 _ 26 XRwr
              have CFwr : Cha (fun _ => False) W wr := C0.out.over HI.out.cha (fun i e => .inr (by rcases e with e | e <;> omega))
              clear XRwr
              go_wp2
              go_region
              all_goals
                go_wp2
              refine bodyPost_ret (v := .tuple #[.agg #[.slice none 0 0, .slice none 0 0, .slice none 0 0], .int .i64 E, .int .i64 (FA : Int)]) (by simp [results, Try.results20, go_sem, x0, x1, x2]) rfl ?_
              exact DDec.of (r := (noP, ⟨E, -1, (FA : Int)⟩)) ⟨_, _, _, rfl, nop_reads _ _, (CFwr.over (puts_cha W.heap.size [.slice none 0 0, .slice none 0 0, .slice none 0 0] _ 0) (fun i e => by have e : i = W.heap.size := e; exact .inr (by omega))).drew⟩ EB3.out.symm
        · obtain rfl : k = m2 := by omega
          by_cases he : (rRep (rFn T) k s3).2.e = 0
          · have HE := Lib.hid he
            obtain ⟨pp, c1, hpp, hpl⟩ := I.out.dr.pos
            have hpa := hpp he
            rw [he] at c2
            have HS4 : Hid ((rProg T ⟨0, 0, 0⟩).2.at_ = pp ∧ (rProg T ⟨0, 0, 0⟩).2.e = 0) := Lib.hid (by rw [HP.out.2]; exact ⟨hpa.symm, he⟩)
            have CALL : Hid (Calls Try.prog 38 #[.pointer (some ⟨W.heap.size + 1, 0, none⟩), .int .i64 7, .int .i64 (pp : Int)] wr (DRead (· < W.heap.size) (W.heap.size + 1) T (.tuple #[]) ⟨(rRep (rFn T) k s3).2.at_, 7, pp⟩ wr)) := Lib.hid (fail_goes 7 pp I.out.dr he (by decide) hpl)
            have HI := I
            clear hpp hpa hpl hgl he
            by_cases hp : pp < n
            · have hp' : (pp : Int) < (n : Int) := by omega
              have EM2 : Hid (dec8 T = (noP, ⟨7, -1, (pp : Int)⟩)) := Lib.hid (by have := EM.out HS4.out.2 (by rw [HS4.out.1, ← HN.out]; exact hp); rw [HS4.out.1] at this; exact this)
              clear hp c5
              go_wp2_with (go_at_call 38; ((with_reducible refine (CALL.out).mono ?_); rintro e w5 ⟨rfl, k1, k2⟩; have I5 := Lib.hid (HI.out.call k1 k2); have e2 : w5.cell? ⟨W.heap.size + 1, 2, none⟩ = some (.int .i64 7) := I5.out.dr.err; have e3 : w5.cell? ⟨W.heap.size + 1, 3, none⟩ = some (.int .i64 (pp : Int)) := I5.out.dr.bad; clear k1 k2; have XRw5 : w5.heap[W.heap.size]? = _ := (I5.out.cha.old _ (by have := HS2.out; omega) (fun e => by rcases e with e | e <;> omega)).trans XR.out; have x0 := cell_of_row w5 _ 0 _ 26 (0, 0) XRw5; have y0 := frozen_of_row w5 _ 0 _ 26 XRw5; have x1 := cell_of_row w5 _ 1 _ 26 (0, 0) XRw5; have y1 := frozen_of_row w5 _ 1 _ 26 XRw5; have x2 := cell_of_row w5 _ 2 _ 26 (0, 0) XRw5; have y2 := frozen_of_row w5 _ 2 _ 26 XRw5; have CFw5 : Cha (fun _ => False) W w5 := C0.out.over I5.out.cha (fun i e => .inr (by rcases e with e | e <;> omega)); clear XRw5))
              go_region
              all_goals
                go_wp2
              refine bodyPost_ret (v := .tuple #[.agg #[.slice none 0 0, .slice none 0 0, .slice none 0 0], .int .i64 7, .int .i64 (pp : Int)]) (by simp [results, Try.results20, go_sem, x0, x1, x2]) rfl ?_
              exact DDec.of (r := (noP, ⟨7, -1, (pp : Int)⟩)) ⟨_, _, _, rfl, nop_reads _ _, (CFw5.over (puts_cha W.heap.size [.slice none 0 0, .slice none 0 0, .slice none 0 0] _ 0) (fun i e => by have e : i = W.heap.size := e; exact .inr (by omega))).drew⟩ EM2.out.symm
            · have hp' : ¬ (pp : Int) < (n : Int) := by omega
              have EO2 : Hid (dec8 T = (⟨xs, xg, ys⟩, ⟨0, 0, 0⟩)) := Lib.hid (by have h0 := HP.out.2 ▸ HS4.out.2; have q := HST.out h0; have := EO.out HS4.out.2 (by rw [HS4.out.1, ← HN.out]; exact hp); rw [this, HP.out.1, ← HX1.out q.2, ← HX2.out q.1, ← SF.out.2 h0])
              have row : wr.heap[W.heap.size + 1 + 1]? = some (.cells #[.slice va nk vc, .slice ga gn gc, .slice ua k uc] 26 (0, 0)) := (by have := HI.out.row; rw [HCS.out] at this; exact this)
              have d0 := cell_of_row wr _ 0 _ 26 (0, 0) row
              have d1 := cell_of_row wr _ 1 _ 26 (0, 0) row
              have d2 := cell_of_row wr _ 2 _ 26 (0, 0) row
              have RL := Lib.hid (O.out.reads wok_fn (R := RdFn) (by have := SF.out.1; omega) (fun B b o cs x h hc => to_fn B b o cs x h hc))
              clear hp row CALL c5
              have XRwr : wr.heap[W.heap.size]? = _ := (HI.out.cha.old _ (by have := HS2.out; omega) (fun e => by rcases e with e | e <;> omega)).trans XR.out
              have x0 := cell_of_row wr _ 0 _ 26 (0, 0) XRwr
              have y0 := frozen_of_row wr _ 0 _ 26 XRwr
              have x1 := cell_of_row wr _ 1 _ 26 (0, 0) XRwr
              have y1 := frozen_of_row wr _ 1 _ 26 XRwr
              have x2 := cell_of_row wr _ 2 _ 26 (0, 0) XRwr
              have y2 := frozen_of_row wr _ 2 _ 26 XRwr
              have CFwr : Cha (fun _ => False) W wr := C0.out.over HI.out.cha (fun i e => .inr (by rcases e with e | e <;> omega))
              clear XRwr
              go_wp2
              have PC := puts_cha W.heap.size [.slice va nk vc, .slice ga gn gc, .slice ua k uc] wr 0
              have hne : ∀ i, i = W.heap.size → ¬ b0 ≤ i := fun i e hb => by have := HS2.out; have := HB0.out; omega
              have hup : ∀ i, b0 ≤ i → W.heap.size ≤ i := fun i hb => by have := HS2.out; have := HB0.out; omega
              refine bodyPost_ret (v := .tuple #[.agg #[.slice va nk vc, .slice ga gn gc, .slice ua k uc], .int .i64 0, .int .i64 0]) (by simp [results, Try.results20, go_sem, x0, x1, x2]) rfl ?_
              exact DDec.of (r := (⟨xs, xg, ys⟩, ⟨0, 0, 0⟩)) ⟨_, _, _, rfl, ⟨_, _, _, rfl, RdS.tys HL1.out PC (fun i e hb => hne i e hb.1) (fun i hb => hup i hb.1), RdS.ints HL2.out PC (fun i e hb => hne i e hb.1) (fun i hb => hup i hb.1), RdS.fns RL.out PC (fun i e hb => hne i e (Nat.le_trans HB1.out.2.2 hb)) (fun i hb => hup i (Nat.le_trans HB1.out.2.2 hb))⟩, CFwr.over PC (fun i e => by have e : i = W.heap.size := e; exact .inr (by omega))⟩ EO2.out.symm
          · have HE := Lib.hid he
            have EX2 : Hid ((rRep (rFn T) k s3).2 = (rProg T ⟨0, 0, 0⟩).2) := Lib.hid (by rw [HP.out.2])
            obtain ⟨pp, c1, hpp, hpl⟩ := I.out.dr.pos
            have c3 := I.out.dr.bad
            obtain ⟨sf, hsf⟩ : ∃ x, x = (rRep (rFn T) k s3).2 := ⟨_, rfl⟩
            rw [← hsf] at I c2 c3 EX2 HE
            have EB2 : Hid (dec8 T = (noP, ⟨sf.e, -1, (sf.fa : Int)⟩)) := Lib.hid (by have := EB.out (by rw [← EX2.out]; exact HE.out); rw [← EX2.out] at this; exact this)
            have he1 : (sf.e == 0) = false := by simpa using HE.out
            have he2 : (sf.e != 0) = true := by simpa using HE.out
            have CALL : Hid (Calls Try.prog 38 #[.pointer (some ⟨W.heap.size + 1, 0, none⟩), .int .i64 7, .int .i64 (pp : Int)] wr (DRead (· < W.heap.size) (W.heap.size + 1) T (.tuple #[]) sf wr)) := Lib.hid (fail_stop 7 (pp : Int) I.out.dr HE.out)
            have HI := I
            obtain ⟨E, hE⟩ : ∃ x, x = sf.e := ⟨_, rfl⟩
            obtain ⟨FA, hFA⟩ : ∃ x, x = sf.fa := ⟨_, rfl⟩
            rw [← hE] at c2 he1 he2
            rw [← hFA] at c3
            have EB3 : Hid (dec8 T = (noP, ⟨E, -1, (FA : Int)⟩)) := Lib.hid (by rw [EB2.out, hE, hFA])
            have HEE := Lib.hid hE
            have HFF := Lib.hid hFA
            clear hsf hE hFA hpp hpl c5 hgl
            by_cases hp : pp < n
            · have hp' : (pp : Int) < (n : Int) := by omega
              clear hp
              go_wp2_with (go_at_call 38; ((with_reducible refine (CALL.out).mono ?_); rintro e w5 ⟨rfl, k1, k2⟩; have I5 := Lib.hid (HI.out.call k1 k2); have e2 := I5.out.dr.err; have e3 := I5.out.dr.bad; rw [← HEE.out] at e2; rw [← HFF.out] at e3; clear k1 k2; have XRw5 : w5.heap[W.heap.size]? = _ := (I5.out.cha.old _ (by have := HS2.out; omega) (fun e => by rcases e with e | e <;> omega)).trans XR.out; have x0 := cell_of_row w5 _ 0 _ 26 (0, 0) XRw5; have y0 := frozen_of_row w5 _ 0 _ 26 XRw5; have x1 := cell_of_row w5 _ 1 _ 26 (0, 0) XRw5; have y1 := frozen_of_row w5 _ 1 _ 26 XRw5; have x2 := cell_of_row w5 _ 2 _ 26 (0, 0) XRw5; have y2 := frozen_of_row w5 _ 2 _ 26 XRw5; have CFw5 : Cha (fun _ => False) W w5 := C0.out.over I5.out.cha (fun i e => .inr (by rcases e with e | e <;> omega)); clear XRw5))
              go_region
              all_goals
                go_wp2
              refine bodyPost_ret (v := .tuple #[.agg #[.slice none 0 0, .slice none 0 0, .slice none 0 0], .int .i64 E, .int .i64 (FA : Int)]) (by simp [results, Try.results20, go_sem, x0, x1, x2]) rfl ?_
              exact DDec.of (r := (noP, ⟨E, -1, (FA : Int)⟩)) ⟨_, _, _, rfl, nop_reads _ _, (CFw5.over (puts_cha W.heap.size [.slice none 0 0, .slice none 0 0, .slice none 0 0] _ 0) (fun i e => by have e : i = W.heap.size := e; exact .inr (by omega))).drew⟩ EB3.out.symm
            · have hp' : ¬ (pp : Int) < (n : Int) := by omega
              clear hp CALL
              have XRwr : wr.heap[W.heap.size]? = _ := (HI.out.cha.old _ (by have := HS2.out; omega) (fun e => by rcases e with e | e <;> omega)).trans XR.out
              have x0 := cell_of_row wr _ 0 _ 26 (0, 0) XRwr
              have y0 := frozen_of_row wr _ 0 _ 26 XRwr
              have x1 := cell_of_row wr _ 1 _ 26 (0, 0) XRwr
              have y1 := frozen_of_row wr _ 1 _ 26 XRwr
              have x2 := cell_of_row wr _ 2 _ 26 (0, 0) XRwr
              have y2 := frozen_of_row wr _ 2 _ 26 XRwr
              have CFwr : Cha (fun _ => False) W wr := C0.out.over HI.out.cha (fun i e => .inr (by rcases e with e | e <;> omega))
              clear XRwr
              go_wp2
              go_region
              all_goals
                go_wp2
              refine bodyPost_ret (v := .tuple #[.agg #[.slice none 0 0, .slice none 0 0, .slice none 0 0], .int .i64 E, .int .i64 (FA : Int)]) (by simp [results, Try.results20, go_sem, x0, x1, x2]) rfl ?_
              exact DDec.of (r := (noP, ⟨E, -1, (FA : Int)⟩)) ⟨_, _, _, rfl, nop_reads _ _, (CFwr.over (puts_cha W.heap.size [.slice none 0 0, .slice none 0 0, .slice none 0 0] _ 0) (fun i e => by have e : i = W.heap.size := e; exact .inr (by omega))).drew⟩ EB3.out.symm
end Go.Proofs.Ytpdjbhnpahkbpaa
