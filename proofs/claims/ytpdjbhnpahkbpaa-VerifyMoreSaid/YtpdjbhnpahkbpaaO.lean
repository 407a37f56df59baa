/- The reader: functions, types, programs. -/
import Derived.Test.YtpdjbhnpahkbpaaN
namespace Go.Proofs.Ytpdjbhnpahkbpaa
open Go.ChangeShapes Go.WideShapes Go.ChangeAt Go.RowKit
variable {B : Nat → Prop} {br : Nat} {W W' : World} {T : List Nat} {s : RSt}
theorem RdS.keep {W0 W W' : World} {g : Nat} {o : Obj} {v : Value} {xs : List Int} (h : RdS 1 RdI (fun i => W0.heap.size ≤ i) W v xs) (c : Cha (fun i => i = br) W W') (hbr : br < g) (hX : W0.heap[g]? = some o) : RdS 1 RdI (fun i => W0.heap.size ≤ i) W' v xs :=
  h.ints c (fun i e hb => by have e : i = br := e; have hb : W0.heap.size ≤ i := hb; have := (Array.getElem?_eq_some_iff.1 hX).1; omega) (fun _ h => h)

set_option maxRecDepth 100000 in
set_option maxHeartbeats 4000000 in
theorem rfn_any (h : Rd B W br T s) : Calls Try.prog 59 #[.pointer (some ⟨br, 0, none⟩)] W (ReadV WFn B br T (rFn T s) W) := by
  have HT := Lib.hid h.bytes
  have HG : Hid (W.heap.size ≠ br) := Lib.hid (by have := h.lt; omega)
  have O0 := Lib.hid (h.alloc (.cells #[.int .i64 0, .slice none 0 0, .slice none 0 0, .slice none 0 0] 55))
  have M0 : Hid (Cha (fun i => i = br) W (W.alloc (.cells #[.int .i64 0, .slice none 0 0, .slice none 0 0, .slice none 0 0] 55))) := Lib.hid ((Cha.refl _ W).alloc _)
  have X0 := Lib.hid (heap_alloc_new W (.cells #[.int .i64 0, .slice none 0 0, .slice none 0 0, .slice none 0 0] 55))
  have hmf : ∀ (fn : Fn) (first cap : Array Value) (w : World), (Instr.makeFunc fn first cap).run Try.prog w = .ok (.func fn first cap) w := fun _ _ _ _ => rfl
  have CK : Hid (∀ W s, Rd B W br T s → Calls Try.prog 56 #[.pointer (some ⟨br, 0, none⟩), .int .u64 32, .func (.func 57) #[.pointer (some ⟨br, 0, none⟩)] #[]] W (ReadV (RdS 1 RdI) B br T (rList T (rNum T) 32 s) W)) := Lib.hid (fun W s h => rkinds_any 32 (by decide) h)
  have CI : Hid (∀ W s, Rd B W br T s → Calls Try.prog 79 #[.pointer (some ⟨br, 0, none⟩), .int .u64 256, .func (.func 80) #[.pointer (some ⟨br, 0, none⟩)] #[]] W (ReadV (RdS 6 RdIns) B br T (rList T (rIns T) 256 s) W)) := Lib.hid (fun W s h => rinss_any 256 (by decide) h)
  have HBR := Lib.hid h.lt
  have HOK := Lib.hid h.ok
  clear h
  go_enter Try.func59, Try.ntmps59
  go_wp2_with (first
    | (go_at_call 78; ((with_reducible refine ((rnum_any O0.out)).mono ?_); rintro e w1 ⟨rfl, k1, k2⟩; have O1 := Lib.hid k1; have M1 : Hid (Cha (fun i => i = br) W w1) := Lib.hid (M0.out.trans k2); have X1 := Lib.hid (kept_blk k2 X0.out HG.out); clear k1 k2))
    | (go_at_call 56; ((with_reducible refine ((CK.out _ _ O1.out)).mono ?_); rintro e w2 ⟨v, rfl, kv, k1, k2⟩; have O2 := Lib.hid k1; have M2 : Hid (Cha (fun i => i = br) W w2) := Lib.hid (M1.out.trans k2); have X2 := Lib.hid (kept_blk k2 X1.out HG.out); have KV2 := Lib.hid kv; obtain ⟨va2, vn2, vc2, rfl⟩ := rds_shape kv; clear k1 k2 kv))
    | (go_at_call 56; ((with_reducible refine ((CK.out _ _ O2.out)).mono ?_); rintro e w3 ⟨v, rfl, kv, k1, k2⟩; have O3 := Lib.hid k1; have M3 : Hid (Cha (fun i => i = br) W w3) := Lib.hid (M2.out.trans k2); have X3 := Lib.hid (kept_blk k2 X2.out HG.out); have KV3 := Lib.hid kv; obtain ⟨va3, vn3, vc3, rfl⟩ := rds_shape kv; have KV23 := Lib.hid (KV2.out.keep k2 HBR.out X1.out); clear k1 k2 kv))
    | (go_at_call 79; ((with_reducible refine ((CI.out _ _ O3.out)).mono ?_); rintro e w4 ⟨v, rfl, kv, k1, k2⟩; have O4 := Lib.hid k1; have M4 : Hid (Cha (fun i => i = br) W w4) := Lib.hid (M3.out.trans k2); have X4 := Lib.hid (kept_blk k2 X3.out HG.out); have KV4 := Lib.hid kv; obtain ⟨va4, vn4, vc4, rfl⟩ := rds_shape kv; have KV24 := Lib.hid (KV23.out.keep k2 HBR.out X1.out); have KV34 := Lib.hid (KV3.out.keep k2 HBR.out X2.out); clear k1 k2 kv; have x0 := cell_of_row w4 W.heap.size 0 _ 55 (0, 0) X4.out; have x1 := cell_of_row w4 W.heap.size 1 _ 55 (0, 0) X4.out; have x2 := cell_of_row w4 W.heap.size 2 _ 55 (0, 0) X4.out; have x3 := cell_of_row w4 W.heap.size 3 _ 55 (0, 0) X4.out; have y0 := frozen_of_row w4 W.heap.size 0 _ 55 X4.out; have y1 := frozen_of_row w4 W.heap.size 1 _ 55 X4.out; have y2 := frozen_of_row w4 W.heap.size 2 _ 55 X4.out; have y3 := frozen_of_row w4 W.heap.size 3 _ 55 X4.out)))
  have PC := puts_cha W.heap.size [.int .i64 (rNum T s).1, .slice va2 vn2 vc2, .slice va3 vn3 vc3, .slice va4 vn4 vc4] w4 0
  have L1 : W.heap.size < w1.heap.size := (Array.getElem?_eq_some_iff.1 X1.out).1
  have L2 : W.heap.size < w2.heap.size := (Array.getElem?_eq_some_iff.1 X2.out).1
  have L3 : W.heap.size < w3.heap.size := (Array.getElem?_eq_some_iff.1 X3.out).1
  refine bodyPost_ret (v := .agg #[.int .i64 (rNum T s).1, .slice va2 vn2 vc2, .slice va3 vn3 vc3, .slice va4 vn4 vc4]) (by simp [results, Try.results59, go_sem, x0, x1, x2, x3]) rfl ⟨_, rfl, ⟨_, _, _, rfl, KV24.out.ints PC (fun i e hb => by have e : i = W.heap.size := e; have hb : w1.heap.size ≤ i := hb; omega) (fun i hb => by have hb : w1.heap.size ≤ i := hb; show W.heap.size ≤ i; omega), KV34.out.ints PC (fun i e hb => by have e : i = W.heap.size := e; have hb : w2.heap.size ≤ i := hb; omega) (fun i hb => by have hb : w2.heap.size ≤ i := hb; show W.heap.size ≤ i; omega), KV4.out.inss PC (fun i e hb => by have e : i = W.heap.size := e; have hb : w3.heap.size ≤ i := hb; omega) (fun i hb => by have hb : w3.heap.size ≤ i := hb; show W.heap.size ≤ i; omega), rn_fits HT.out HOK.out⟩, O4.out.cha PC HG.out.symm (fun i e hb => by have e : i = W.heap.size := e; have := O4.out.low i hb; have := HBR.out; omega), M4.out.over PC (fun i e => by have e : i = W.heap.size := e; exact .inr (by omega))⟩

theorem info55_58 : (Try.prog.info? 55).map (fun i => (i.zero, i.size, i.bytes)) = some (some (.agg #[.int .i64 0, .slice none 0 0, .slice none 0 0, .slice none 0 0]), 4, 80) := by kernel_rfl
set_option maxRecDepth 100000 in
set_option maxHeartbeats 2000000 in
theorem rfns_any (lim : Nat) (hlim : lim ≤ 1000) (h : Rd B W br T s) :
    Calls Try.prog 58 #[.pointer (some ⟨br, 0, none⟩), .int .u64 (lim : Int), .func (.func 59) #[.pointer (some ⟨br, 0, none⟩)] #[]] W (ReadV (RdS 4 RdFn) B br T (rList T (rFn T) lim s) W) := by
  have hT := h.bytes
  have CW := Lib.hid (rword_any lim 16 h (by decide))
  have hO := (rWord_ok (lim := lim) (ab := 16) hT h.ok (by decide)).2.1
  have HL : Hid (rList T (rFn T) lim s = rRep (rFn T) (rWord T lim 16 s).1 (rWord T lim 16 s).2) := Lib.hid rfl
  generalize rWord T lim 16 s = r at *
  obtain ⟨n, s1⟩ := r
  simp only at hO CW
  have HT := Lib.hid hT
  have hbr := h.lt
  clear h hT
  by_cases h0 : n = 0
  · subst h0
    go_enter Try.func58, Try.ntmps58
    go_wp2_with (go_at_call 77; ((with_reducible refine (CW.out).mono ?_); rintro e w1 ⟨rfl, k1, k2⟩; have K1 := Lib.hid k1; have K2 := Lib.hid k2; clear k1 k2))
    go_ret
    refine ⟨_, rfl, ?_, ?_, K2.out⟩
    · rw [HL.out]; exact RdS.nil _ _ _ _
    · rw [HL.out]; exact K1.out
  · have hn0 : ((n : Int) == 0) = false := by simp; omega
    have hn1 : n ≤ 1000 := by omega
    have HMK : Hid (∀ W, (Instr.makeSlice 24 (.int .u64 (n : Int)) (.int .u64 (n : Int))).run Try.prog W = _) := Lib.hid (mkslice 24 55 n 4 _ _ Try.underlying24 info55_58 hn1 (by decide))
    have hmk := HMK.out
    clear h0 hO hlim
    go_enter Try.func58, Try.ntmps58
    go_wp2_with (go_at_call 77; ((with_reducible refine (CW.out).mono ?_); rintro e w1 ⟨rfl, k1, k2⟩; have K1 := Lib.hid k1; have K2 := Lib.hid k2; clear k1 k2))
    have HN : Hid (W.heap.size ≤ w1.heap.size ∧ br < w1.heap.size) := Lib.hid ⟨K2.out.size, K1.out.lt⟩
    have HI0 : Hid (Items 4 RdFn 55 (w1.alloc (.cells (madeCells #[.int .i64 0, .slice none 0 0, .slice none 0 0, .slice none 0 0] (n * 4)) 55)) w1.heap.size n []) := Lib.hid ⟨⟨_, heap_alloc_new w1 _, by rw [size_madeCells]⟩, fun i x hi => by simp at hi⟩
    have HR0 := Lib.hid (K1.out.alloc (.cells (madeCells #[.int .i64 0, .slice none 0 0, .slice none 0 0, .slice none 0 0] (n * 4)) 55))
    have HC0 := Lib.hid (K2.out.alloc (.cells (madeCells #[.int .i64 0, .slice none 0 0, .slice none 0 0, .slice none 0 0] (n * 4)) 55))
    have HZ : Hid (∀ i, B i → i < br) := Lib.hid K1.out.low
    clear hmk
    obtain ⟨g, hg⟩ : ∃ g, g = w1.heap.size := ⟨_, rfl⟩
    rw [← hg] at HI0 HN ⊢
    clear hg
    go_loopw [19] (fun i wr => ∃ (k : Nat), k ≤ n ∧ i = .int .i64 (k : Int) ∧ Items 4 RdFn 55 wr g n (rRep (rFn T) k s1).1 ∧ Rd B wr br T (rRep (rFn T) k s1).2 ∧ Cha (fun i => i = br) W wr) (fun i _ => n - (intOf i).toNat)
    case atStart => exact ⟨0, Nat.zero_le _, rfl, HI0.out, HR0.out, HC0.out⟩
    case round =>
      clear HI0 HR0 HC0 CW K1 K2 HMK
      obtain ⟨k, hk, rfl, hI, hR, hC⟩ := hrel
      have HI := Lib.hid hI
      have HR := Lib.hid hR
      have HC := Lib.hid hC
      have hgs : g < wr.heap.size := by
        obtain ⟨cs, h1, _⟩ := hI.row
        exact (Array.getElem?_eq_some_iff.1 h1).1
      clear hI hR hC
      by_cases hlt : k < n
      · have C := Lib.hid (rfn_any HR.out)
        have HLN : Hid ((rRep (rFn T) k s1).1.length = k) := Lib.hid (rep_len _ _)
        go_wp2_with (go_at_call 59; ((with_reducible refine (C.out).mono ?_); rintro e w2 ⟨v, rfl, kv, k1, k2⟩; have HI2 : Hid (Items 4 RdFn 55 w2 g n (rRep (rFn T) k s1).1) := Lib.hid (HI.out.cha keeps_fn k2 (fun e => by have e : g = br := e; have := HN.out; omega) (fun i e => by have e : i = br := e; have := HN.out; omega)); have HC2 : Hid (Cha (fun i => i = br) W w2) := Lib.hid (HC.out.trans k2); have HR2 := Lib.hid k1; have HV2 := Lib.hid kv; clear kv k1 k2; obtain ⟨lv1, lv2, lv3, rfl, hlv1, hlv2, hlv3, q0⟩ := HV2.out; have HLV1 := Lib.hid hlv1; have HLV2 := Lib.hid hlv2; have HLV3 := Lib.hid hlv3; have HQ := Lib.hid q0; obtain ⟨va1, vn1, vc1, rfl⟩ := rds_shape hlv1; obtain ⟨va2, vn2, vc2, rfl⟩ := rds_shape hlv2; obtain ⟨va3, vn3, vc3, rfl⟩ := rds_shape hlv3; clear hlv1 hlv2 hlv3 q0; obtain ⟨u0, hu0⟩ := HI2.out.cell (k * 4 + 0) (by omega); have fu0 := HI2.out.free (k * 4 + 0); obtain ⟨u1, hu1⟩ := HI2.out.cell (k * 4 + 1) (by omega); have fu1 := HI2.out.free (k * 4 + 1); obtain ⟨u2, hu2⟩ := HI2.out.cell (k * 4 + 2) (by omega); have fu2 := HI2.out.free (k * 4 + 2); obtain ⟨u3, hu3⟩ := HI2.out.cell (k * 4 + 3) (by omega); have fu3 := HI2.out.free (k * 4 + 3); rw [Nat.add_zero] at hu0 fu0))
        have HP : Hid (Items 4 RdFn 55 (puts w2 g (k * 4) [.int .i64 (rFn T (rRep (rFn T) k s1).2).1.pa, .slice va1 vn1 vc1, .slice va2 vn2 vc2, .slice va3 vn3 vc3]) g n (rRep (rFn T) (k + 1) s1).1) := Lib.hid (by
          rw [rRep_succ]
          have a := HI2.out.put keeps_fn (by rw [HLN.out]; exact hlt) [.int .i64 (rFn T (rRep (rFn T) k s1).2).1.pa, .slice va1 vn1 vc1, .slice va2 vn2 vc2, .slice va3 vn3 vc3] rfl (rFn T (rRep (rFn T) k s1).2).1 (by rw [HLN.out]; intro W' c hc; exact ⟨hc 0 _ rfl, ⟨_, hc 1 _ rfl, HLV1.out.ints c (fun i e hb => by have e : i = g := e; have hb : wr.heap.size ≤ i := hb; omega) (fun i hb => by have hb : wr.heap.size ≤ i := hb; show g < i; omega)⟩, ⟨_, hc 2 _ rfl, HLV2.out.ints c (fun i e hb => by have e : i = g := e; have hb : wr.heap.size ≤ i := hb; omega) (fun i hb => by have hb : wr.heap.size ≤ i := hb; show g < i; omega)⟩, ⟨_, hc 3 _ rfl, HLV3.out.inss c (fun i e hb => by have e : i = g := e; have hb : wr.heap.size ≤ i := hb; omega) (fun i hb => by have hb : wr.heap.size ≤ i := hb; show g < i; omega)⟩, HQ.out⟩)
          rw [HLN.out] at a
          exact a)
        have HR3 : Hid (Rd B (puts w2 g (k * 4) [.int .i64 (rFn T (rRep (rFn T) k s1).2).1.pa, .slice va1 vn1 vc1, .slice va2 vn2 vc2, .slice va3 vn3 vc3]) br T (rRep (rFn T) (k + 1) s1).2) := Lib.hid (by
          rw [rRep_succ]
          exact HR2.out.cha (puts_cha g _ w2 _) (fun e => by have e : br = g := e; have := HN.out; omega) (fun i e hb => by have e : i = g := e; have := HZ.out i hb; have := HN.out; omega))
        have HC3 : Hid (Cha (fun i => i = br) W (puts w2 g (k * 4) [.int .i64 (rFn T (rRep (rFn T) k s1).2).1.pa, .slice va1 vn1 vc1, .slice va2 vn2 vc2, .slice va3 vn3 vc3])) := Lib.hid (HC2.out.over (puts_cha g _ w2 _) (fun i e => by have e : i = g := e; have := HN.out; exact .inr (by omega)))
        go_roundw
        case rel => exact ⟨k + 1, by omega, by go_num, HP.out, HR3.out, HC3.out⟩
        case measure => simp [intOf]; omega
      · obtain rfl : k = n := by omega
        go_wp2
        go_ret
        refine ⟨_, rfl, ?_, ?_, HC.out⟩
        · rw [HL.out]; exact HI.out.all (rep_len _ _) hn1 (fun i hi => by have := HN.out; show W.heap.size ≤ i; omega) (fun b o x hx => mono_fn (fun i hi => by have := HN.out; have hi : g < i := hi; show W.heap.size ≤ i; omega) hx)
        · rw [HL.out]; exact HR.out

set_option maxRecDepth 100000 in
set_option maxHeartbeats 4000000 in
theorem rty_any (h : Rd B W br T s) : Calls Try.prog 55 #[.pointer (some ⟨br, 0, none⟩)] W (ReadV WTy B br T (rTy T s) W) := by
  have HT := Lib.hid h.bytes
  have HG : Hid (W.heap.size ≠ br) := Lib.hid (by have := h.lt; omega)
  have O0 := Lib.hid (h.alloc (.cells #[.bool false, .slice none 0 0] 69))
  have M0 : Hid (Cha (fun i => i = br) W (W.alloc (.cells #[.bool false, .slice none 0 0] 69))) := Lib.hid ((Cha.refl _ W).alloc _)
  have X0 := Lib.hid (heap_alloc_new W (.cells #[.bool false, .slice none 0 0] 69))
  have hmf : ∀ (fn : Fn) (first cap : Array Value) (w : World), (Instr.makeFunc fn first cap).run Try.prog w = .ok (.func fn first cap) w := fun _ _ _ _ => rfl
  have CK : Hid (∀ W s, Rd B W br T s → Calls Try.prog 56 #[.pointer (some ⟨br, 0, none⟩), .int .u64 16, .func (.func 57) #[.pointer (some ⟨br, 0, none⟩)] #[]] W (ReadV (RdS 1 RdI) B br T (rList T (rNum T) 16 s) W)) := Lib.hid (fun W s h => rkinds_any 16 (by decide) h)
  have CW : Hid (∀ W s, Rd B W br T s → Calls Try.prog 77 #[.pointer (some ⟨br, 0, none⟩), .int .u64 1, .int .i64 8] W (Read B br T (.int .u64 ((rWord T 1 8 s).1 : Int)) (rWord T 1 8 s).2 W)) := Lib.hid (fun W s h => rword_any 1 8 h (by decide))
  obtain ⟨q, hq0⟩ : ∃ q : Bool, q = decide ((rWord T 1 8 s).1 = 1) := ⟨_, rfl⟩
  have hq : (((rWord T 1 8 s).1 : Int) == 1) = q := by
    rw [hq0, Bool.eq_iff_iff]
    simp
    omega
  have HQ := Lib.hid hq0
  clear hq0
  have HBR := Lib.hid h.lt
  have HOK := Lib.hid h.ok
  clear h
  go_enter Try.func55, Try.ntmps55
  go_wp2_with (first
    | (go_at_call 77; ((with_reducible refine ((CW.out _ _ O0.out)).mono ?_); rintro e w1 ⟨rfl, k1, k2⟩; have O1 := Lib.hid k1; have M1 : Hid (Cha (fun i => i = br) W w1) := Lib.hid (M0.out.trans k2); have X1 := Lib.hid (kept_blk k2 X0.out HG.out); clear k1 k2))
    | (go_at_call 56; ((with_reducible refine ((CK.out _ _ O1.out)).mono ?_); rintro e w2 ⟨v, rfl, kv, k1, k2⟩; have O2 := Lib.hid k1; have M2 : Hid (Cha (fun i => i = br) W w2) := Lib.hid (M1.out.trans k2); have X2 := Lib.hid (kept_blk k2 X1.out HG.out); have KV2 := Lib.hid kv; obtain ⟨va2, vn2, vc2, rfl⟩ := rds_shape kv; clear k1 k2 kv; have x0 := cell_of_row w2 W.heap.size 0 _ 69 (0, 0) X2.out; have x1 := cell_of_row w2 W.heap.size 1 _ 69 (0, 0) X2.out; have y0 := frozen_of_row w2 W.heap.size 0 _ 69 X2.out; have y1 := frozen_of_row w2 W.heap.size 1 _ 69 X2.out)))
  have PC := puts_cha W.heap.size [.bool q, .slice va2 vn2 vc2] w2 0
  have L1 : W.heap.size < w1.heap.size := (Array.getElem?_eq_some_iff.1 X1.out).1
  refine bodyPost_ret (v := .agg #[.bool q, .slice va2 vn2 vc2]) (by simp [results, Try.results55, go_sem, x0, x1]) rfl ⟨_, rfl, ⟨_, by rw [HQ.out]; rfl, KV2.out.ints PC (fun i e hb => by have e : i = W.heap.size := e; have hb : w1.heap.size ≤ i := hb; omega) (fun i hb => by have hb : w1.heap.size ≤ i := hb; show W.heap.size ≤ i; omega)⟩, O2.out.cha PC HG.out.symm (fun i e hb => by have e : i = W.heap.size := e; have := O2.out.low i hb; have := HBR.out; omega), M2.out.over PC (fun i e => by have e : i = W.heap.size := e; exact .inr (by omega))⟩

theorem info69_54 : (Try.prog.info? 69).map (fun i => (i.zero, i.size, i.bytes)) = some (some (.agg #[.bool false, .slice none 0 0]), 2, 32) := by kernel_rfl
set_option maxRecDepth 100000 in
set_option maxHeartbeats 2000000 in
theorem rtys_any (lim : Nat) (hlim : lim ≤ 1000) (h : Rd B W br T s) :
    Calls Try.prog 54 #[.pointer (some ⟨br, 0, none⟩), .int .u64 (lim : Int), .func (.func 55) #[.pointer (some ⟨br, 0, none⟩)] #[]] W (ReadV (RdS 2 RdTy) B br T (rList T (rTy T) lim s) W) := by
  have hT := h.bytes
  have CW := Lib.hid (rword_any lim 16 h (by decide))
  have hO := (rWord_ok (lim := lim) (ab := 16) hT h.ok (by decide)).2.1
  have HL : Hid (rList T (rTy T) lim s = rRep (rTy T) (rWord T lim 16 s).1 (rWord T lim 16 s).2) := Lib.hid rfl
  generalize rWord T lim 16 s = r at *
  obtain ⟨n, s1⟩ := r
  simp only at hO CW
  have HT := Lib.hid hT
  have hbr := h.lt
  clear h hT
  by_cases h0 : n = 0
  · subst h0
    go_enter Try.func54, Try.ntmps54
    go_wp2_with (go_at_call 77; ((with_reducible refine (CW.out).mono ?_); rintro e w1 ⟨rfl, k1, k2⟩; have K1 := Lib.hid k1; have K2 := Lib.hid k2; clear k1 k2))
    go_ret
    refine ⟨_, rfl, ?_, ?_, K2.out⟩
    · rw [HL.out]; exact RdS.nil _ _ _ _
    · rw [HL.out]; exact K1.out
  · have hn0 : ((n : Int) == 0) = false := by simp; omega
    have hn1 : n ≤ 1000 := by omega
    have HMK : Hid (∀ W, (Instr.makeSlice 22 (.int .u64 (n : Int)) (.int .u64 (n : Int))).run Try.prog W = _) := Lib.hid (mkslice 22 69 n 2 _ _ Try.underlying22 info69_54 hn1 (by decide))
    have hmk := HMK.out
    clear h0 hO hlim
    go_enter Try.func54, Try.ntmps54
    go_wp2_with (go_at_call 77; ((with_reducible refine (CW.out).mono ?_); rintro e w1 ⟨rfl, k1, k2⟩; have K1 := Lib.hid k1; have K2 := Lib.hid k2; clear k1 k2))
    have HN : Hid (W.heap.size ≤ w1.heap.size ∧ br < w1.heap.size) := Lib.hid ⟨K2.out.size, K1.out.lt⟩
    have HI0 : Hid (Items 2 RdTy 69 (w1.alloc (.cells (madeCells #[.bool false, .slice none 0 0] (n * 2)) 69)) w1.heap.size n []) := Lib.hid ⟨⟨_, heap_alloc_new w1 _, by rw [size_madeCells]⟩, fun i x hi => by simp at hi⟩
    have HR0 := Lib.hid (K1.out.alloc (.cells (madeCells #[.bool false, .slice none 0 0] (n * 2)) 69))
    have HC0 := Lib.hid (K2.out.alloc (.cells (madeCells #[.bool false, .slice none 0 0] (n * 2)) 69))
    have HZ : Hid (∀ i, B i → i < br) := Lib.hid K1.out.low
    clear hmk
    obtain ⟨g, hg⟩ : ∃ g, g = w1.heap.size := ⟨_, rfl⟩
    rw [← hg] at HI0 HN ⊢
    clear hg
    go_loopw [19] (fun i wr => ∃ (k : Nat), k ≤ n ∧ i = .int .i64 (k : Int) ∧ Items 2 RdTy 69 wr g n (rRep (rTy T) k s1).1 ∧ Rd B wr br T (rRep (rTy T) k s1).2 ∧ Cha (fun i => i = br) W wr) (fun i _ => n - (intOf i).toNat)
    case atStart => exact ⟨0, Nat.zero_le _, rfl, HI0.out, HR0.out, HC0.out⟩
    case round =>
      clear HI0 HR0 HC0 CW K1 K2 HMK
      obtain ⟨k, hk, rfl, hI, hR, hC⟩ := hrel
      have HI := Lib.hid hI
      have HR := Lib.hid hR
      have HC := Lib.hid hC
      have hgs : g < wr.heap.size := by
        obtain ⟨cs, h1, _⟩ := hI.row
        exact (Array.getElem?_eq_some_iff.1 h1).1
      clear hI hR hC
      by_cases hlt : k < n
      · have C := Lib.hid (rty_any HR.out)
        have HLN : Hid ((rRep (rTy T) k s1).1.length = k) := Lib.hid (rep_len _ _)
        go_wp2_with (go_at_call 55; ((with_reducible refine (C.out).mono ?_); rintro e w2 ⟨v, rfl, kv, k1, k2⟩; have HI2 : Hid (Items 2 RdTy 69 w2 g n (rRep (rTy T) k s1).1) := Lib.hid (HI.out.cha keeps_ty k2 (fun e => by have e : g = br := e; have := HN.out; omega) (fun i e => by have e : i = br := e; have := HN.out; omega)); have HC2 : Hid (Cha (fun i => i = br) W w2) := Lib.hid (HC.out.trans k2); have HR2 := Lib.hid k1; have HV2 := Lib.hid kv; clear kv k1 k2; obtain ⟨lv, rfl, hlv⟩ := HV2.out; have HLV := Lib.hid hlv; obtain ⟨va, vn, vc, rfl⟩ := rds_shape hlv; clear hlv; obtain ⟨u0, hu0⟩ := HI2.out.cell (k * 2 + 0) (by omega); have fu0 := HI2.out.free (k * 2 + 0); obtain ⟨u1, hu1⟩ := HI2.out.cell (k * 2 + 1) (by omega); have fu1 := HI2.out.free (k * 2 + 1); rw [Nat.add_zero] at hu0 fu0))
        have HP : Hid (Items 2 RdTy 69 (puts w2 g (k * 2) [.bool (rTy T (rRep (rTy T) k s1).2).1.ar, .slice va vn vc]) g n (rRep (rTy T) (k + 1) s1).1) := Lib.hid (by
          rw [rRep_succ]
          have a := HI2.out.put keeps_ty (by rw [HLN.out]; exact hlt) [.bool (rTy T (rRep (rTy T) k s1).2).1.ar, .slice va vn vc] rfl (rTy T (rRep (rTy T) k s1).2).1 (by rw [HLN.out]; intro W' c hc; exact ⟨hc 0 _ rfl, ⟨_, hc 1 _ rfl, HLV.out.ints c (fun i e hb => by have e : i = g := e; have hb : wr.heap.size ≤ i := hb; omega) (fun i hb => by have hb : wr.heap.size ≤ i := hb; show g < i; omega)⟩⟩)
          rw [HLN.out] at a
          exact a)
        have HR3 : Hid (Rd B (puts w2 g (k * 2) [.bool (rTy T (rRep (rTy T) k s1).2).1.ar, .slice va vn vc]) br T (rRep (rTy T) (k + 1) s1).2) := Lib.hid (by
          rw [rRep_succ]
          exact HR2.out.cha (puts_cha g _ w2 _) (fun e => by have e : br = g := e; have := HN.out; omega) (fun i e hb => by have e : i = g := e; have := HZ.out i hb; have := HN.out; omega))
        have HC3 : Hid (Cha (fun i => i = br) W (puts w2 g (k * 2) [.bool (rTy T (rRep (rTy T) k s1).2).1.ar, .slice va vn vc])) := Lib.hid (HC2.out.over (puts_cha g _ w2 _) (fun i e => by have e : i = g := e; have := HN.out; exact .inr (by omega)))
        go_roundw
        case rel => exact ⟨k + 1, by omega, by go_num, HP.out, HR3.out, HC3.out⟩
        case measure => simp [intOf]; omega
      · obtain rfl : k = n := by omega
        go_wp2
        go_ret
        refine ⟨_, rfl, ?_, ?_, HC.out⟩
        · rw [HL.out]; exact HI.out.all (rep_len _ _) hn1 (fun i hi => by have := HN.out; show W.heap.size ≤ i; omega) (fun b o x hx => mono_ty (fun i hi => by have := HN.out; have hi : g < i := hi; show W.heap.size ≤ i; omega) hx)
        · rw [HL.out]; exact HR.out

theorem RdS.keepT {W0 W W' : World} {g : Nat} {o : Obj} {v : Value} {xs : List TZ} (h : RdS 2 RdTy (fun i => W0.heap.size ≤ i) W v xs) (c : Cha (fun i => i = br) W W') (hbr : br < g) (hX : W0.heap[g]? = some o) : RdS 2 RdTy (fun i => W0.heap.size ≤ i) W' v xs :=
  h.tys c (fun i e hb => by have e : i = br := e; have hb : W0.heap.size ≤ i := hb; have := (Array.getElem?_eq_some_iff.1 hX).1; omega) (fun _ h => h)

set_option maxRecDepth 100000 in
set_option maxHeartbeats 4000000 in
theorem rprog_any (h : Rd B W br T s) : Calls Try.prog 34 #[.pointer (some ⟨br, 0, none⟩)] W (ReadV RdP B br T (rProg T s) W) := by
  have HT := Lib.hid h.bytes
  have HG : Hid (W.heap.size ≠ br) := Lib.hid (by have := h.lt; omega)
  have O0 := Lib.hid (h.alloc (.cells #[.slice none 0 0, .slice none 0 0, .slice none 0 0] 26))
  have M0 : Hid (Cha (fun i => i = br) W (W.alloc (.cells #[.slice none 0 0, .slice none 0 0, .slice none 0 0] 26))) := Lib.hid ((Cha.refl _ W).alloc _)
  have X0 := Lib.hid (heap_alloc_new W (.cells #[.slice none 0 0, .slice none 0 0, .slice none 0 0] 26))
  have hmf : ∀ (fn : Fn) (first cap : Array Value) (w : World), (Instr.makeFunc fn first cap).run Try.prog w = .ok (.func fn first cap) w := fun _ _ _ _ => rfl
  have CK : Hid (∀ W s, Rd B W br T s → Calls Try.prog 56 #[.pointer (some ⟨br, 0, none⟩), .int .u64 32, .func (.func 57) #[.pointer (some ⟨br, 0, none⟩)] #[]] W (ReadV (RdS 1 RdI) B br T (rList T (rNum T) 32 s) W)) := Lib.hid (fun W s h => rkinds_any 32 (by decide) h)
  have CT : Hid (∀ W s, Rd B W br T s → Calls Try.prog 54 #[.pointer (some ⟨br, 0, none⟩), .int .u64 32, .func (.func 55) #[.pointer (some ⟨br, 0, none⟩)] #[]] W (ReadV (RdS 2 RdTy) B br T (rList T (rTy T) 32 s) W)) := Lib.hid (fun W s h => rtys_any 32 (by decide) h)
  have CF : Hid (∀ W s, Rd B W br T s → Calls Try.prog 58 #[.pointer (some ⟨br, 0, none⟩), .int .u64 32, .func (.func 59) #[.pointer (some ⟨br, 0, none⟩)] #[]] W (ReadV (RdS 4 RdFn) B br T (rList T (rFn T) 32 s) W)) := Lib.hid (fun W s h => rfns_any 32 (by decide) h)
  have HBR := Lib.hid h.lt
  have HOK := Lib.hid h.ok
  clear h
  go_enter Try.func34, Try.ntmps34
  go_wp2_with (first
    | (go_at_call 54; ((with_reducible refine ((CT.out _ _ O0.out)).mono ?_); rintro e w1 ⟨v, rfl, kv, k1, k2⟩; have O1 := Lib.hid k1; have M1 : Hid (Cha (fun i => i = br) W w1) := Lib.hid (M0.out.trans k2); have X1 := Lib.hid (kept_blk k2 X0.out HG.out); have KV1 := Lib.hid kv; obtain ⟨va1, vn1, vc1, rfl⟩ := rds_shape kv; clear k1 k2 kv))
    | (go_at_call 56; ((with_reducible refine ((CK.out _ _ O1.out)).mono ?_); rintro e w2 ⟨v, rfl, kv, k1, k2⟩; have O2 := Lib.hid k1; have M2 : Hid (Cha (fun i => i = br) W w2) := Lib.hid (M1.out.trans k2); have X2 := Lib.hid (kept_blk k2 X1.out HG.out); have KV2 := Lib.hid kv; obtain ⟨va2, vn2, vc2, rfl⟩ := rds_shape kv; have KV12 := Lib.hid (KV1.out.keepT k2 HBR.out X0.out); clear k1 k2 kv))
    | (go_at_call 58; ((with_reducible refine ((CF.out _ _ O2.out)).mono ?_); rintro e w3 ⟨v, rfl, kv, k1, k2⟩; have O3 := Lib.hid k1; have M3 : Hid (Cha (fun i => i = br) W w3) := Lib.hid (M2.out.trans k2); have X3 := Lib.hid (kept_blk k2 X2.out HG.out); have KV3 := Lib.hid kv; obtain ⟨va3, vn3, vc3, rfl⟩ := rds_shape kv; have KV13 := Lib.hid (KV12.out.keepT k2 HBR.out X0.out); have KV23 := Lib.hid (KV2.out.keep k2 HBR.out X1.out); clear k1 k2 kv; have x0 := cell_of_row w3 W.heap.size 0 _ 26 (0, 0) X3.out; have x1 := cell_of_row w3 W.heap.size 1 _ 26 (0, 0) X3.out; have x2 := cell_of_row w3 W.heap.size 2 _ 26 (0, 0) X3.out; have y0 := frozen_of_row w3 W.heap.size 0 _ 26 X3.out; have y1 := frozen_of_row w3 W.heap.size 1 _ 26 X3.out; have y2 := frozen_of_row w3 W.heap.size 2 _ 26 X3.out)))
  have PC := puts_cha W.heap.size [.slice va1 vn1 vc1, .slice va2 vn2 vc2, .slice va3 vn3 vc3] w3 0
  have L1 : W.heap.size < w1.heap.size := (Array.getElem?_eq_some_iff.1 X1.out).1
  have L2 : W.heap.size < w2.heap.size := (Array.getElem?_eq_some_iff.1 X2.out).1
  have L0 : W.heap.size < (W.alloc (.cells #[.slice none 0 0, .slice none 0 0, .slice none 0 0] 26)).heap.size := by rw [World.size_alloc]; omega
  refine bodyPost_ret (v := .agg #[.slice va1 vn1 vc1, .slice va2 vn2 vc2, .slice va3 vn3 vc3]) (by simp [results, Try.results34, go_sem, x0, x1, x2]) rfl ⟨_, rfl, ⟨_, _, _, rfl, KV13.out.tys PC (fun i e hb => by have e : i = W.heap.size := e; have hb : (W.alloc (.cells #[.slice none 0 0, .slice none 0 0, .slice none 0 0] 26)).heap.size ≤ i := hb; omega) (fun i hb => by have hb : (W.alloc (.cells #[.slice none 0 0, .slice none 0 0, .slice none 0 0] 26)).heap.size ≤ i := hb; show W.heap.size ≤ i; omega), KV23.out.ints PC (fun i e hb => by have e : i = W.heap.size := e; have hb : w1.heap.size ≤ i := hb; omega) (fun i hb => by have hb : w1.heap.size ≤ i := hb; show W.heap.size ≤ i; omega), KV3.out.fns PC (fun i e hb => by have e : i = W.heap.size := e; have hb : w2.heap.size ≤ i := hb; omega) (fun i hb => by have hb : w2.heap.size ≤ i := hb; show W.heap.size ≤ i; omega)⟩, O3.out.cha PC HG.out.symm (fun i e hb => by have e : i = W.heap.size := e; have := O3.out.low i hb; have := HBR.out; omega), M3.out.over PC (fun i e => by have e : i = W.heap.size := e; exact .inr (by omega))⟩
end Go.Proofs.Ytpdjbhnpahkbpaa
