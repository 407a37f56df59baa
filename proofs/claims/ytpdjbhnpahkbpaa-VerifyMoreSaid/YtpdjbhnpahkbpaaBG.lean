/- The document's writer: an instruction. -/
import Derived.Test.YtpdjbhnpahkbpaaBE
import Derived.Test.YtpdjbhnpahkbpaaI
namespace Go.Proofs.Ytpdjbhnpahkbpaa
set_option linter.unusedVariables false
open Go.ChangeShapes Go.WideShapes Go.ChangeAt Go.RowKit
/-- An instruction's own number, whole. -/
def dImm (n : Nat) (s : St) : St := ⟨s.t ++ digs n, s.e⟩
def dIns (i : IZ) (s : St) : St := dList dNum 24 i.l (dImm i.imm (dNum i.c (dNum i.b (dNum i.a (dNum i.op s)))))
theorem dImm_dl {n : Nat} (h : n < 18446744073709551616) : Dl 1 (dImm n) := fun s => by
  have := digs_len10 h
  unfold dImm
  simp only [List.length_append]
  omega
def szI (i : IZ) : Nat := 6 + i.l.length
theorem RdIns.dl {B : Nat → Prop} {W : World} {b o : Nat} {x : IZ} (h : RdIns B W b o x) : Dl (szI x) (dIns x) := by
  obtain ⟨v, _, h5⟩ := h.c5
  have := ((((dNum_dl h.k0).comp (dNum_dl h.k1)).comp (dNum_dl h.k2)).comp (dNum_dl h.k3)).comp ((dImm_dl h.k4).comp (ints_dl (lim := 24) h5))
  have e : 1 + 1 + 1 + 1 + (1 + (1 + x.l.length)) = szI x := by unfold szI; omega
  rw [e] at this
  exact this
theorem new_boxd {B bw : Nat} {F : Nat → Prop} {W : World} {T : List Nat} {e : Int} (h : Wd B F W bw T e) (o : Obj) : (W.alloc o).heap[W.heap.size]? = some o ∧ ¬ F W.heap.size :=
  ⟨heap_alloc_new W o, fun c => by have := h.lt _ c; omega⟩
section
variable {B bw : Nat} {F F' : Nat → Prop} {W W' : World} {s : St}
set_option maxRecDepth 100000 in
set_option maxHeartbeats 4000000 in
theorem wins_any (op a b c : Int) (imm : Nat) {lv : Value} {l : List Int} (ko : I64 op) (ka : I64 a) (kb : I64 b) (kc : I64 c) (hm : imm < 18446744073709551616) (hv : RdS 1 RdI (· < B) W lv l) (h : Wd B F W bw s.t s.e) (hx : l.length ≤ 1000000000000) (hT : s.t.length ≤ 1000000000000) (h0 : B ≤ W.heap.size) :
    Calls Try.prog 32 #[.pointer (some ⟨bw, 0, none⟩), .agg #[.int .i64 op, .int .i64 a, .int .i64 b, .int .i64 c, .int .u64 (imm : Int), lv]] W (DWrote B bw F W (dList dNum 24 l (dImm imm (dNum c (dNum b (dNum a (dNum op s))))))) := by
  have HG : Hid (∀ i, F i → ¬ i < B) := Lib.hid fun i hi => Nat.not_lt.2 (h.ge i hi)
  have L1 := dNum_dl ko s
  have L2 := dNum_dl ka (dNum op s)
  have L3 := dNum_dl kb (dNum a (dNum op s))
  have L4 := dNum_dl kc (dNum b (dNum a (dNum op s)))
  have hdl := digs_len10 hm
  obtain ⟨s1, e1⟩ : ∃ t, t = dNum op s := ⟨_, rfl⟩
  obtain ⟨s2, e2⟩ : ∃ t, t = dNum a s1 := ⟨_, rfl⟩
  obtain ⟨s3, e3⟩ : ∃ t, t = dNum b s2 := ⟨_, rfl⟩
  obtain ⟨s4, e4⟩ : ∃ t, t = dNum c s3 := ⟨_, rfl⟩
  rw [← e1, ← e2, ← e3] at L4
  rw [← e1, ← e2] at L3
  rw [← e1] at L2 L1
  rw [← e2] at L2
  rw [← e3] at L3
  rw [← e4] at L4
  rw [← e1, ← e2, ← e3, ← e4]
  have E1 := Lib.hid e1
  have E2 := Lib.hid e2
  have E3 := Lib.hid e3
  have E4 := Lib.hid e4
  clear e1 e2 e3 e4
  have HL : Hid (s1.t.length ≤ 1000000000100 ∧ s2.t.length ≤ 1000000000100 ∧ s3.t.length ≤ 1000000000100 ∧ s4.t.length ≤ 1000000000100) := Lib.hid (by omega)
  clear L1 L2 L3 L4
  have HV := Lib.hid hv
  have HS : Hid (∀ k, (dstK dNum 24 l (dImm imm s4) k).t.length ≤ 70000000000000) := Lib.hid fun k => by
    have := dstK_len (f := dNum) (lim := 24) (k := k) (s := dImm imm s4) (xs := l) (sz := fun _ => 1) (fun x hx => by obtain ⟨_, _, _, q⟩ := hv.all hx; exact dNum_dl q.2) hv.len
    rw [sum_ones] at this
    have h2 : (dImm imm s4).t.length = s4.t.length + (digs imm).length := by unfold dImm; simp
    have := HL.out
    omega
  have hlen := hv.len
  obtain ⟨la, lc, rfl, _, _⟩ := hv
  obtain ⟨n, hn⟩ : ∃ n, n = l.length := ⟨_, rfl⟩
  rw [← hn] at hlen hx ⊢
  have HN := Lib.hid hn
  have E0 : Hid (dstK dNum 24 l (dImm imm s4) 0 = dCount n 24 (dImm imm s4)) := Lib.hid (by rw [hn]; rfl)
  clear hn
  have CW : Hid (∀ w, Calls Try.prog 53 #[.int .u64 (imm : Int)] w (fun e w' => ∃ v, e = .returned v ∧ w'.ownsRow w.heap.size 5 1 v (digs imm).length (bz (digs imm)) ∧ Cha (fun _ => False) w w')) := Lib.hid (fun w => docword_any (W := w) imm hm)
  have X0 : Hid ((W.alloc (.cells #[.int .i64 op, .int .i64 a, .int .i64 b, .int .i64 c, .int .u64 (imm : Int), .slice la n lc] 52)).heap[W.heap.size]? = some (.cells #[.int .i64 op, .int .i64 a, .int .i64 b, .int .i64 c, .int .u64 (imm : Int), .slice la n lc] 52 (0, 0)) ∧ ¬ F W.heap.size) := Lib.hid (new_boxd h _)
  have O0 : Hid (Wd B F (W.alloc (.cells #[.int .i64 op, .int .i64 a, .int .i64 b, .int .i64 c, .int .u64 (imm : Int), .slice la n lc] 52)) bw s.t s.e) := Lib.hid (h.alloc _)
  have M0 : Hid (Mv F W F (W.alloc (.cells #[.int .i64 op, .int .i64 a, .int .i64 b, .int .i64 c, .int .u64 (imm : Int), .slice la n lc] 52))) := Lib.hid ((Mv.refl F W).alloc _)
  have HB := Lib.hid h0
  have HT := Lib.hid hT
  have CN : Hid (∀ (W : World) (F : Nat → Prop) (z : Int) (s r : St), r = dNum z s → I64 z → Wd B F W bw s.t s.e → s.t.length ≤ 70000000000000 → B ≤ W.heap.size → Calls Try.prog 30 #[.pointer (some ⟨bw, 0, none⟩), .int .i64 z] W (DWrote B bw F W r)) := Lib.hid fun W F z s r e hz h hA h0 => by rw [e]; exact dnumber_any z hz h hA h0
  have CD : Hid (∀ (W : World) (F : Nat → Prop) (A : List Nat) (e : Int), Wd B F W bw A e → A.length ≤ 70000000000000 → B ≤ W.heap.size → Calls Try.prog 29 #[.pointer (some ⟨bw, 0, none⟩), .int .i64 (n : Int), .int .i64 24] W (DWrote B bw F W (dCount n 24 ⟨A, e⟩))) := Lib.hid fun W F A e h hA h0 => dcount_any n 24 hx (by decide) h hA h0
  have KO := Lib.hid ko
  have KA := Lib.hid ka
  have KB := Lib.hid kb
  have KC := Lib.hid kc
  obtain ⟨i0, hi, hz0, hz1, hz2⟩ := info_parts info5
  clear h hT h0 ko ka kb kc hm
  go_enter Try.func32, Try.ntmps32
  go_wp2_with (first
    | (go_at_call 30; ((with_reducible refine ((Lib.hid (CN.out _ _ op _ s1 E1.out KO.out O0.out (by have := HT.out; omega) (Nat.le_trans HB.out M0.out.cha.size))).out).mono ?_); rintro e w1 ⟨rfl, F1, k1, k2⟩; have O1 := Lib.hid k1; have M1 := Lib.hid (M0.out.trans k2); have X1 := Lib.hid (k2.box X0.out); clear k1 k2; have c1 := cell_of_row w1 W.heap.size 1 _ 52 (0, 0) X1.out.1))
    | (go_at_call 30; ((with_reducible refine ((Lib.hid (CN.out _ _ a _ s2 E2.out KA.out O1.out (by have := HL.out; omega) (Nat.le_trans HB.out M1.out.cha.size))).out).mono ?_); rintro e w2 ⟨rfl, F2, k1, k2⟩; have O2 := Lib.hid k1; have M2 := Lib.hid (M1.out.trans k2); have X2 := Lib.hid (k2.box X1.out); clear k1 k2; have c2 := cell_of_row w2 W.heap.size 2 _ 52 (0, 0) X2.out.1))
    | (go_at_call 30; ((with_reducible refine ((Lib.hid (CN.out _ _ b _ s3 E3.out KB.out O2.out (by have := HL.out; omega) (Nat.le_trans HB.out M2.out.cha.size))).out).mono ?_); rintro e w3 ⟨rfl, F3, k1, k2⟩; have O3 := Lib.hid k1; have M3 := Lib.hid (M2.out.trans k2); have X3 := Lib.hid (k2.box X2.out); clear k1 k2; have c3 := cell_of_row w3 W.heap.size 3 _ 52 (0, 0) X3.out.1))
    | (go_at_call 30; ((with_reducible refine ((Lib.hid (CN.out _ _ c _ s4 E4.out KC.out O3.out (by have := HL.out; omega) (Nat.le_trans HB.out M3.out.cha.size))).out).mono ?_); rintro e w4 ⟨rfl, F4, k1, k2⟩; have O4 := Lib.hid k1; have M4 := Lib.hid (M3.out.trans k2); have X4 := Lib.hid (k2.box X3.out); clear k1 k2)))
  have HH : Hid (Wd B F4 w4.drew bw s4.t s4.e) := Lib.hid (O4.out.cha ((Cha.refl (fun _ => False) _).drew) (fun _ _ f => f))
  have MD : Hid (Mv F W F4 w4.drew) := Lib.hid (Mv.drew M4.out)
  have XD := Lib.hid ((Mv.drew (Mv.refl F4 w4)).box X4.out)
  clear M0 M1 M2 M3 M4 O0 O1 O2 O3 O4 X0 X1 X2 X3 X4 CN c1 c2 c3
  obtain ⟨v, q1, q2, q3⟩ := HH.out.head
  have Q1 := Lib.hid q1
  have Q2 := Lib.hid q2
  have Q3 := Lib.hid q3
  clear q1 q2 q3
  obtain ⟨va, vc, rfl⟩ := own_shape Q2.out
  have KX : Hid (∀ W', Cha (fun _ => False) w4.drew W' → W'.heap[bw]? = some (.cells #[.slice va s4.t.length vc, .int .i64 s4.e] 74 (0, 0)) ∧ W'.cell? ⟨bw, 0, none⟩ = some (.slice va s4.t.length vc) ∧ W'.frozen? ⟨bw, 0, none⟩ = false ∧ W'.cell? ⟨W.heap.size, 4, none⟩ = some (.int .u64 (imm : Int))) := Lib.hid fun W' hc => by
    have q := (hc.old bw (HH.out.lt bw HH.out.fb) (fun f => f)).trans Q1.out
    have q5 := (hc.old W.heap.size (Array.getElem?_eq_some_iff.1 XD.out.1).1 (fun f => f)).trans XD.out.1
    exact ⟨q, cell_of_row W' bw 0 _ 74 (0, 0) q, frozen_of_row W' bw 0 _ 74 q, cell_of_row W' W.heap.size 4 _ 52 (0, 0) q5⟩
  have HBB : Hid (B ≤ w4.drew.heap.size) := Lib.hid (Nat.le_trans HB.out MD.out.cha.size)
  obtain ⟨_, k1, k2, k3⟩ := KX.out w4.drew (Cha.refl _ _)
  have hA : s4.t.length ≤ 1000000000100 := HL.out.2.2.2
  have hdp := digs_pos imm
  go_region_law
    (first
      | (go_simp; go_at_call 53; refine (CW.out w4.drew).mono ?_; rintro e w2 ⟨dv, rfl, j1, j2⟩; obtain ⟨dg, dc, rfl, jl⟩ := own_lie j1 hdp; obtain ⟨p0, p1, p2, p3'⟩ := KX.out w2 j2)
      | (refine step_append_lies _ (by rfl) _ _ 27 (by rfl) B 5 i0 (.int .u8 0) 1 1 Try.underlying27 hi hz0 hz1 hz2 rfl (by decide) (.slice va s4.t.length vc) s4.t.length (bz s4.t) (by rfl) (own_but Q2.out j2 (fun _ _ f => f)) ⟨dg, 0, none⟩ (digs imm).length dc (bz (digs imm)) (by rfl) (by unfold bz; simp) jl (bz_one _) hdp (by unfold maxLen; omega) (by omega) (by have := HBB.out; have := j2.size; omega) w2.heap.size rfl ?_; intro g3 cap w3 hown hg hat hlt3; have p5 := ((Cha.of_grownBy hg fun j e => e).old (S := fun i => (Value.slice va s4.t.length vc).ownBlock = some i) bw (Array.getElem?_eq_some_iff.1 p0).1 (fun e => (Q3.out bw e).2 rfl)).trans p0; have p3 := cell_of_row w3 bw 0 _ 74 (0, 0) p5; have p4 := frozen_of_row w3 bw 0 _ 74 p5))
  all_goals
    obtain ⟨F6, r1, r2⟩ := Wd.puts (ds := digs imm) (HH.out.cha j2 (fun _ _ f => f)) p0 Q3.out hown hg (fun g hg' => by
      have e3 : g3 = g := by injection hg'
      rcases hat with e | e
      · exact .inl (e3 ▸ e)
      · exact .inr (by omega))
    have X6 := Lib.hid ((Mv.of j2 r2).box XD.out)
    have R1 := Lib.hid r1
    have R2 := Lib.hid (MD.out.trans (Mv.of j2 r2))
    have c5 := cell_of_row _ W.heap.size 5 _ 52 (0, 0) X6.out.1
    have CC := Lib.hid (CD.out _ _ _ _ R1.out (by rw [List.length_append]; omega) (Nat.le_trans HB.out R2.out.cha.size))
    clear r1 r2 hown hg hat j1 j2 jl p0 p5
    go_wp2_with (go_at_call 29; ((with_reducible refine (CC.out).mono ?_); rintro e w5 ⟨rfl, F7, k1, k2⟩; have O7 := Lib.hid k1; have M7 := Lib.hid (R2.out.trans k2); have X7 := Lib.hid (k2.box X6.out); clear k1 k2))
    go_loopw [4] (fun i wr => ∃ (k : Nat) (F' : Nat → Prop), k ≤ n ∧ i = .int .i64 (k : Int) ∧ Wd B F' wr bw (dstK dNum 24 l (dImm imm s4) k).t (dstK dNum 24 l (dImm imm s4) k).e ∧ Mv F W F' wr ∧ wr.heap[W.heap.size]? = some (.cells #[.int .i64 op, .int .i64 a, .int .i64 b, .int .i64 c, .int .u64 (imm : Int), .slice la n lc] 52 (0, 0)) ∧ ¬ F' W.heap.size) (fun i _ => n - (intOf i).toNat)
    case atStart => exact ⟨0, F7, Nat.zero_le _, rfl, by rw [E0.out]; exact O7.out, M7.out, X7.out⟩
    case round =>
      clear CC O7 M7 X7 R1 R2 X6 CW
      obtain ⟨k, F', hk, rfl, hO, hM, hX⟩ := hrel
      have O := Lib.hid hO
      have M := Lib.hid hM
      have X := Lib.hid hX
      have d5 := cell_of_row _ W.heap.size 5 _ 52 (0, 0) hX.1
      clear hO hM hX
      by_cases hlt : k < n
      · obtain ⟨z, hz⟩ : ∃ z, l[k]? = some z := ⟨_, List.getElem?_eq_getElem (by have := HN.out; omega)⟩
        obtain ⟨b', o, _, he, hb, hbs, hx'⟩ := (HV.out.ints M.out.cha HG.out (fun _ h => h)).at hz
        obtain rfl : la = some ⟨b', o, none⟩ := by injection he
        have hc2 := hx'.1
        have hI := Lib.hid hx'.2
        rw [Nat.mul_one] at hc2
        have HK := Lib.hid hz
        clear he hx' hz hb
        have C := Lib.hid (dnumber_any z hI.out O.out (HS.out k) (Nat.le_trans HB.out M.out.cha.size))
        go_wp2_with (go_at_call 30; ((with_reducible refine (C.out).mono ?_); rintro e w2 ⟨rfl, F2, k1, k2⟩; have O2 := Lib.hid k1; have M2 := Lib.hid k2; have X2 := Lib.hid (k2.box X.out); clear k1 k2))
        go_roundw
        case rel => exact ⟨k + 1, F2, by omega, by go_num, by rw [dstK_succ HK.out]; exact O2.out, M.out.trans M2.out, X2.out⟩
        case measure => simp [intOf]; omega
      · go_wp2
        go_end0
        exact DWrote.of ⟨rfl, F', O.out, M.out⟩ (dstK_all (by have := HN.out; omega)).symm
end
end Go.Proofs.Ytpdjbhnpahkbpaa

namespace Go.Proofs.Ytpdjbhnpahkbpaa
set_option linter.unusedVariables false
open Go.ChangeShapes Go.WideShapes Go.ChangeAt Go.RowKit
def dTy (t : TZ) (s : St) : St := dList dNum 16 t.fi (dNum (if t.ar then 1 else 0) s)
def dFn (f : FZ) (s : St) : St := dList dIns 256 f.co (dList dNum 32 f.re (dList dNum 32 f.sl (dNum f.pa s)))
def dProg (p : PZ) (s : St) : St := dList dFn 32 p.fu (dList dNum 32 p.gl (dList dTy 32 p.ty s))
def szT (t : TZ) : Nat := 2 + t.fi.length
def szF (f : FZ) : Nat := 4 + f.sl.length + f.re.length + (f.co.map szI).sum
def szP (p : PZ) : Nat := 3 + (p.ty.map szT).sum + p.gl.length + (p.fu.map szF).sum
theorem le_sum {α : Type} (sz : α → Nat) {x : α} : ∀ {xs : List α}, x ∈ xs → sz x ≤ (xs.map sz).sum
  | [], h => by cases h
  | y :: xs, h => by
    rw [List.map_cons, List.sum_cons]
    rcases List.mem_cons.1 h with rfl | h
    · omega
    · have := le_sum sz h; omega
theorem len_sum {α : Type} (sz : α → Nat) (h : ∀ x, 1 ≤ sz x) : ∀ xs : List α, xs.length ≤ (xs.map sz).sum
  | [] => by simp
  | y :: xs => by
    have h1 := h y
    have h2 := len_sum sz h xs
    rw [List.map_cons, List.sum_cons, List.length_cons]; omega
theorem RdTy.dl {b' : Nat → Prop} {W : World} {b o : Nat} {x : TZ} (h : RdTy b' W b o x) : Dl (szT x) (dTy x) := by
  obtain ⟨v, _, h1⟩ := h.c1
  have := (dNum_dl (z := if x.ar then 1 else 0) (by cases x.ar <;> exact ⟨by decide, by decide⟩)).comp (ints_dl (lim := 16) h1)
  have e : 1 + (1 + x.fi.length) = szT x := by unfold szT; omega
  rw [e] at this
  exact this
theorem RdFn.dl {b' : Nat → Prop} {W : World} {b o : Nat} {x : FZ} (h : RdFn b' W b o x) : Dl (szF x) (dFn x) := by
  obtain ⟨v1, _, h1⟩ := h.c1
  obtain ⟨v2, _, h2⟩ := h.c2
  obtain ⟨v3, _, h3⟩ := h.c3
  have := ((((dNum_dl h.k0).comp (ints_dl (lim := 32) h1)).comp (ints_dl (lim := 32) h2)).comp (dList_dl (f := dIns) (lim := 256) (sz := szI) (fun x hx => by obtain ⟨_, _, _, q⟩ := h3.all hx; exact q.dl) h3.len))
  have e : 1 + (1 + x.sl.length) + (1 + x.re.length) + (1 + (x.co.map szI).sum) = szF x := by unfold szF; omega
  rw [e] at this
  exact this
/-- The document's Encode, plainly. -/
def denc8 (p : PZ) : St :=
  let s := dProg p ⟨[], 0⟩
  if s.e ≠ 0 then ⟨[], s.e⟩ else if 16384 < s.t.length then ⟨[], 2⟩ else s
theorem denc8_bad {p : PZ} (h : (dProg p ⟨[], 0⟩).e ≠ 0) : denc8 p = ⟨[], (dProg p ⟨[], 0⟩).e⟩ := by unfold denc8; exact if_pos h
theorem denc8_long {p : PZ} (h : (dProg p ⟨[], 0⟩).e = 0) (hl : 16384 < (dProg p ⟨[], 0⟩).t.length) : denc8 p = ⟨[], 2⟩ := by unfold denc8; simp only; rw [if_neg (fun c => c h), if_pos hl]
theorem denc8_ok {p : PZ} (h : (dProg p ⟨[], 0⟩).e = 0) (hl : ¬ 16384 < (dProg p ⟨[], 0⟩).t.length) : denc8 p = dProg p ⟨[], 0⟩ := by unfold denc8; simp only; rw [if_neg (fun c => c h), if_neg hl]
/-- What the loops of Encode bear along: the writer, the boxes. -/
structure En8 (W : World) (W1 : World) (bx : Array Value) (F : Nat → Prop) (w : World) (s : St) : Prop where
  wd : Wd W.heap.size F w (W.heap.size + 1) s.t s.e
  mv : Mv (fun i => i = W.heap.size + 1) W1 F w
  box : w.heap[W.heap.size]? = some (.cells bx 26 (0, 0)) ∧ ¬ F W.heap.size
section
variable {W W1 w w' : World} {bx : Array Value} {F F' : Nat → Prop} {s r : St}
theorem En8.move (h : En8 W W1 bx F w s) (k : Wd W.heap.size F' w' (W.heap.size + 1) r.t r.e) (m : Mv F w F' w') : En8 W W1 bx F' w' r := ⟨k, h.mv.trans m, m.box h.box⟩
theorem En8.same (h : En8 W W1 bx F w s) (c : Cha (fun _ => False) w w') : En8 W W1 bx F w' s := ⟨h.wd.same c, h.mv.trans ⟨Cha.wide c, fun _ hi => .inl hi⟩, (⟨Cha.wide c, fun _ hi => .inl hi⟩ : Mv F w F w').box h.box⟩
theorem En8.le (h : En8 W W1 bx F w s) (h1 : W.heap.size ≤ W1.heap.size) : W.heap.size ≤ w.heap.size := Nat.le_trans h1 h.mv.cha.size
end

set_option maxRecDepth 100000 in
set_option maxHeartbeats 8000000 in
theorem docenc_any {W : World} {v : Value} {p : PZ} (hp : RdP (· < W.heap.size) W v p) (hsz : szP p ≤ 1000000000) : Calls Try.prog 16 #[v] W (Encd W (denc8 p)) := by
  obtain ⟨v0, v1, v2, rfl, h0, h1, h2⟩ := hp
  obtain ⟨ty, gl, fu⟩ := p
  have h0 : RdS 2 RdTy (· < W.heap.size) W v0 ty := h0
  have h1 : RdS 1 RdI (· < W.heap.size) W v1 gl := h1
  have h2 : RdS 4 RdFn (· < W.heap.size) W v2 fu := h2
  have hsz : 3 + (ty.map szT).sum + gl.length + (fu.map szF).sum ≤ 1000000000 := hsz
  have D1 : Dl (1 + (ty.map szT).sum) (dList dTy 32 ty) := dList_dl (fun x hx => by obtain ⟨_, _, _, q⟩ := h0.all hx; exact q.dl) h0.len
  have D2 : Dl (1 + gl.length) (dList dNum 32 gl) := ints_dl h1
  have D3 : Dl (1 + (fu.map szF).sum) (dList dFn 32 fu) := dList_dl (fun x hx => by obtain ⟨_, _, _, q⟩ := h2.all hx; exact q.dl) h2.len
  obtain ⟨sA, eA⟩ : ∃ s, s = dList dTy 32 ty ⟨[], 0⟩ := ⟨_, rfl⟩
  obtain ⟨sB, eB⟩ : ∃ s, s = dList dNum 32 gl sA := ⟨_, rfl⟩
  obtain ⟨sC, eC⟩ : ∃ s, s = dList dFn 32 fu sB := ⟨_, rfl⟩
  have lA : sA.t.length ≤ 10000000010 := by have := D1 ⟨[], 0⟩; rw [← eA] at this; simp only [List.length_nil] at this; omega
  have lB : sB.t.length ≤ 20000000020 := by have := D2 sA; rw [← eB] at this; omega
  have EP : dProg ⟨ty, gl, fu⟩ ⟨[], 0⟩ = sC := by rw [eC, eB, eA]; rfl
  have EBad := Lib.hid (denc8_bad (p := ⟨ty, gl, fu⟩))
  have ELong := Lib.hid (denc8_long (p := ⟨ty, gl, fu⟩))
  have EOk := Lib.hid (denc8_ok (p := ⟨ty, gl, fu⟩))
  rw [EP] at EBad ELong EOk
  have EA := Lib.hid eA
  have EB := Lib.hid eB
  have EC := Lib.hid eC
  have LA := Lib.hid lA
  have LB := Lib.hid lB
  have HSZ := Lib.hid hsz
  have hm0 : ty.length ≤ 1000000000 := by have := len_sum szT (fun x => by unfold szT; omega) ty; omega
  have hm1 : gl.length ≤ 1000000000 := by omega
  have hm2 : fu.length ≤ 1000000000 := by have := len_sum szF (fun x => by unfold szF; omega) fu; omega
  have ST : Hid (∀ k, (dstK dTy 32 ty ⟨[], 0⟩ k).t.length ≤ 10000000010) := Lib.hid fun k => by
    have := dstK_len (f := dTy) (lim := 32) (k := k) (s := ⟨[], 0⟩) (xs := ty) (sz := szT) (fun x hx => by obtain ⟨_, _, _, q⟩ := h0.all hx; exact q.dl) h0.len
    simp only [List.length_nil] at this
    omega
  have SF : Hid (∀ k, (dstK dFn 32 fu sB k).t.length ≤ 30000000030) := Lib.hid fun k => by
    have := dstK_len (f := dFn) (lim := 32) (k := k) (s := sB) (xs := fu) (sz := szF) (fun x hx => by obtain ⟨_, _, _, q⟩ := h2.all hx; exact q.dl) h2.len
    omega
  have ZT : Hid (∀ z ∈ ty, szT z ≤ 1000000000) := Lib.hid fun z hz => by have := le_sum szT hz; omega
  have ZF : Hid (∀ z ∈ fu, szF z ≤ 1000000000) := Lib.hid fun z hz => by have := le_sum szF hz; omega
  clear D1 D2 D3 hsz eA eB eC lA lB EP
  have HV0 := Lib.hid h0
  have HV1 := Lib.hid h1
  have HV2 := Lib.hid h2
  obtain ⟨a0, c0, rfl, _, _⟩ := h0
  obtain ⟨a1, c1, rfl, _, _⟩ := h1
  obtain ⟨a2, c2, rfl, _, _⟩ := h2
  obtain ⟨n0, hn0⟩ : ∃ n, n = ty.length := ⟨_, rfl⟩
  obtain ⟨n1, hn1⟩ : ∃ n, n = gl.length := ⟨_, rfl⟩
  obtain ⟨n2, hn2⟩ : ∃ n, n = fu.length := ⟨_, rfl⟩
  have Z0 : Hid (dstK dTy 32 ty ⟨[], 0⟩ 0 = dCount n0 32 ⟨[], 0⟩) := Lib.hid (by rw [hn0]; rfl)
  have Z2 : Hid (dstK dFn 32 fu sB 0 = dCount n2 32 sB) := Lib.hid (by rw [hn2]; rfl)
  rw [← hn0] at hm0
  rw [← hn1] at hm1
  rw [← hn2] at hm2
  rw [← hn0, ← hn1, ← hn2]
  have N0 := Lib.hid hn0
  have N1 := Lib.hid hn1
  have N2 := Lib.hid hn2
  clear hn0 hn1 hn2
  have s1 : (W.alloc (.cells #[.slice a0 n0 c0, .slice a1 n1 c1, .slice a2 n2 c2] 26)).heap.size = W.heap.size + 1 := World.size_alloc _ _
  have XA := heap_alloc_new W (.cells #[.slice a0 n0 c0, .slice a1 n1 c1, .slice a2 n2 c2] 26)
  have XB := heap_alloc_new (W.alloc (.cells #[.slice a0 n0 c0, .slice a1 n1 c1, .slice a2 n2 c2] 26)) (.cells #[.slice none 0 0, .int .i64 0] 74)
  have XC : ((W.alloc (.cells #[.slice a0 n0 c0, .slice a1 n1 c1, .slice a2 n2 c2] 26)).alloc (.cells #[.slice none 0 0, .int .i64 0] 74)).heap[W.heap.size]? = some (.cells #[.slice a0 n0 c0, .slice a1 n1 c1, .slice a2 n2 c2] 26 (0, 0)) := (((Cha.refl (fun _ => False) _).alloc _).old _ (by rw [s1]; omega) (fun f => f)).trans XA
  rw [s1] at XB
  have s2 : ((W.alloc (.cells #[.slice a0 n0 c0, .slice a1 n1 c1, .slice a2 n2 c2] 26)).alloc (.cells #[.slice none 0 0, .int .i64 0] 74)).heap.size = W.heap.size + 2 := by rw [World.size_alloc, s1]
  have C01 : Cha (fun _ => False) W ((W.alloc (.cells #[.slice a0 n0 c0, .slice a1 n1 c1, .slice a2 n2 c2] 26)).alloc (.cells #[.slice none 0 0, .int .i64 0] 74)) := ((Cha.refl _ W).alloc _).alloc _
  obtain ⟨W1, hW1⟩ : ∃ w, w = (W.alloc (.cells #[.slice a0 n0 c0, .slice a1 n1 c1, .slice a2 n2 c2] 26)).alloc (.cells #[.slice none 0 0, .int .i64 0] 74) := ⟨_, rfl⟩
  rw [← hW1] at s2 XB XC C01
  have HW1 : Hid (W.heap.size + 2 = W1.heap.size) := Lib.hid s2.symm
  have HL1 : Hid (W.heap.size ≤ W1.heap.size) := Lib.hid (by omega)
  have I1 : Hid (En8 W W1 #[.slice a0 n0 c0, .slice a1 n1 c1, .slice a2 n2 c2] (fun i => i = W.heap.size + 1) W1 ⟨[], 0⟩) := Lib.hid ⟨⟨⟨_, XB, World.ownsRow_nil _ _ _ _, fun g hg => by simp [Value.ownBlock] at hg⟩, rfl, fun i hi => by have hi : i = W.heap.size + 1 := hi; omega, fun i hi => by have hi : i = W.heap.size + 1 := hi; omega⟩, Mv.refl _ _, XC, fun e => by have e : W.heap.size = W.heap.size + 1 := e; omega⟩
  have CC1 := Lib.hid C01
  have HCH : Hid (∀ F w s, En8 W W1 #[.slice a0 n0 c0, .slice a1 n1 c1, .slice a2 n2 c2] F w s → Cha (fun _ => False) W w) := Lib.hid fun F w s h => CC1.out.over h.mv.cha fun i hi => .inr (by have hi : i = W.heap.size + 1 := hi; omega)
  have RT : Hid (∀ F w s, En8 W W1 #[.slice a0 n0 c0, .slice a1 n1 c1, .slice a2 n2 c2] F w s → RdS 2 RdTy (· < W.heap.size) w (.slice a0 ty.length c0) ty) := Lib.hid fun F w s h => HV0.out.tys (HCH.out _ _ _ h) (fun _ f => f.elim) (fun _ h => h)
  have RG : Hid (∀ F w s, En8 W W1 #[.slice a0 n0 c0, .slice a1 n1 c1, .slice a2 n2 c2] F w s → RdS 1 RdI (· < W.heap.size) w (.slice a1 n1 c1) gl) := Lib.hid fun F w s h => by have := HV1.out.ints (HCH.out _ _ _ h) (fun _ f => f.elim) (fun _ h => h) (B' := (· < W.heap.size)); rw [← N1.out] at this; exact this
  have RF : Hid (∀ F w s, En8 W W1 #[.slice a0 n0 c0, .slice a1 n1 c1, .slice a2 n2 c2] F w s → RdS 4 RdFn (· < W.heap.size) w (.slice a2 fu.length c2) fu) := Lib.hid fun F w s h => HV2.out.fns (HCH.out _ _ _ h) (fun _ f => f.elim) (fun _ h => h)
  clear s1 s2 XA XB XC C01
  have CN : Hid (∀ (w : World) (F : Nat → Prop) (z : Int) (s : St), I64 z → Wd W.heap.size F w (W.heap.size + 1) s.t s.e → s.t.length ≤ 70000000000000 → W.heap.size ≤ w.heap.size → Calls Try.prog 30 #[.pointer (some ⟨W.heap.size + 1, 0, none⟩), .int .i64 z] w (DWrote W.heap.size (W.heap.size + 1) F w (dNum z s))) := Lib.hid fun w F z s hz h hA h0 => dnumber_any z hz h hA h0
  have CK16 : Hid (∀ (w : World) (F : Nat → Prop) (v : Value) (xs : List Int) (s : St), RdS 1 RdI (· < W.heap.size) w v xs → Wd W.heap.size F w (W.heap.size + 1) s.t s.e → xs.length ≤ 1000000000000 → s.t.length ≤ 1000000000000 → W.heap.size ≤ w.heap.size → Calls Try.prog 31 #[.pointer (some ⟨W.heap.size + 1, 0, none⟩), v, .int .i64 16] w (DWrote W.heap.size (W.heap.size + 1) F w (dList dNum 16 xs s))) := Lib.hid fun w F v xs s hv h hx hA h0 => wkinds_any 16 hv h (by decide) hx hA h0
  have CK32 : Hid (∀ (w : World) (F : Nat → Prop) (v : Value) (xs : List Int) (s : St), RdS 1 RdI (· < W.heap.size) w v xs → Wd W.heap.size F w (W.heap.size + 1) s.t s.e → xs.length ≤ 1000000000000 → s.t.length ≤ 1000000000000 → W.heap.size ≤ w.heap.size → Calls Try.prog 31 #[.pointer (some ⟨W.heap.size + 1, 0, none⟩), v, .int .i64 32] w (DWrote W.heap.size (W.heap.size + 1) F w (dList dNum 32 xs s))) := Lib.hid fun w F v xs s hv h hx hA h0 => wkinds_any 32 hv h (by decide) hx hA h0
  have CC32 : Hid (∀ (w : World) (F : Nat → Prop) (n : Nat) (s : St), n ≤ 1000000000000 → Wd W.heap.size F w (W.heap.size + 1) s.t s.e → s.t.length ≤ 70000000000000 → W.heap.size ≤ w.heap.size → Calls Try.prog 29 #[.pointer (some ⟨W.heap.size + 1, 0, none⟩), .int .i64 (n : Int), .int .i64 32] w (DWrote W.heap.size (W.heap.size + 1) F w (dCount n 32 s))) := Lib.hid fun w F n s hx h hA h0 => dcount_any n 32 hx (by decide) h hA h0
  have CC256 : Hid (∀ (w : World) (F : Nat → Prop) (n : Nat) (s : St), n ≤ 1000000000000 → Wd W.heap.size F w (W.heap.size + 1) s.t s.e → s.t.length ≤ 70000000000000 → W.heap.size ≤ w.heap.size → Calls Try.prog 29 #[.pointer (some ⟨W.heap.size + 1, 0, none⟩), .int .i64 (n : Int), .int .i64 256] w (DWrote W.heap.size (W.heap.size + 1) F w (dCount n 256 s))) := Lib.hid fun w F n s hx h hA h0 => dcount_any n 256 hx (by decide) h hA h0
  have BC : Hid (∀ F w s, En8 W W1 #[.slice a0 n0 c0, .slice a1 n1 c1, .slice a2 n2 c2] F w s → w.cell? ⟨W.heap.size, 0, none⟩ = some (.slice a0 n0 c0) ∧ w.cell? ⟨W.heap.size, 1, none⟩ = some (.slice a1 n1 c1) ∧ w.cell? ⟨W.heap.size, 2, none⟩ = some (.slice a2 n2 c2)) := Lib.hid fun F w s h => ⟨cell_of_row w W.heap.size 0 _ 26 (0, 0) h.box.1, cell_of_row w W.heap.size 1 _ 26 (0, 0) h.box.1, cell_of_row w W.heap.size 2 _ 26 (0, 0) h.box.1⟩
  have i1 : I64 1 := ⟨by decide, by decide⟩
  have i0 : I64 0 := ⟨by decide, by decide⟩
  go_enter Try.func16, Try.ntmps16
  go_wp2_with (go_at_call 29; rw [← hW1]; ((with_reducible refine ((Lib.hid (CC32.out W1 _ n0 _ (by omega) I1.out.wd (by simp) HL1.out)).out).mono ?_); rintro e w1 ⟨rfl, F1, k1, k2⟩; have I2 := Lib.hid (I1.out.move k1 k2); clear k1 k2; obtain ⟨b0, b1, b2⟩ := BC.out _ _ _ I2.out))
  go_loopw [5] (fun i wr => ∃ (k : Nat) (F' : Nat → Prop), k ≤ n0 ∧ i = .int .i64 (k : Int) ∧ En8 W W1 #[.slice a0 n0 c0, .slice a1 n1 c1, .slice a2 n2 c2] F' wr (dstK dTy 32 ty ⟨[], 0⟩ k)) (fun i _ => n0 - (intOf i).toNat)
  case atStart => exact ⟨0, F1, Nat.zero_le _, rfl, by rw [Z0.out]; exact I2.out⟩
  case round =>
    clear I1 I2 b0 b1 b2
    obtain ⟨k, F', hk, rfl, hI⟩ := hrel
    have I := Lib.hid hI
    obtain ⟨b0, b1, b2⟩ := BC.out _ _ _ hI
    clear hI
    by_cases hlt : k < n0
    · obtain ⟨z, hz⟩ : ∃ z, ty[k]? = some z := ⟨_, List.getElem?_eq_getElem (by have := N0.out; omega)⟩
      obtain ⟨b, o, _, he, hb, hbs, hx⟩ := (RT.out _ _ _ I.out).at hz
      obtain rfl : a0 = some ⟨b, o, none⟩ := by injection he
      obtain ⟨lv, q1, r1⟩ := hx.c1
      have q0 := hx.c0
      have R1 := Lib.hid r1
      have ZL : Hid (z.fi.length ≤ 1000000000) := Lib.hid (by have := ZT.out z (List.mem_of_getElem? hz); unfold szT at this; omega)
      obtain ⟨la, lc, rfl, _⟩ := r1
      have LS : Hid ((dNum (if z.ar then 1 else 0) (dstK dTy 32 ty ⟨[], 0⟩ k)).t.length ≤ 10000000020) := Lib.hid (by have h1 := dNum_dl (z := if z.ar then 1 else 0) (by cases z.ar <;> exact ⟨by decide, by decide⟩) (dstK dTy 32 ty ⟨[], 0⟩ k); have := ST.out k; omega)
      have HK := Lib.hid hz
      have HBW : Hid (b < W.heap.size) := Lib.hid hb
      clear he hx hz hb
      rcases Bool.eq_false_or_eq_true z.ar with har | har
      · rw [har] at q0
        have EZ : Hid (dstK dTy 32 ty ⟨[], 0⟩ (k + 1) = dList dNum 16 z.fi (dNum 1 (dstK dTy 32 ty ⟨[], 0⟩ k))) := Lib.hid (by rw [dstK_succ HK.out]; unfold dTy; rw [har]; rfl)
        have LZ : Hid ((dNum 1 (dstK dTy 32 ty ⟨[], 0⟩ k)).t.length ≤ 10000000020) := Lib.hid (by have := LS.out; rw [har] at this; exact this)
        go_wp2_with (first
          | (go_at_call 30; ((with_reducible refine ((Lib.hid (CN.out _ _ 1 (dstK dTy 32 ty ⟨[], 0⟩ k) i1 I.out.wd (by have := ST.out k; omega) (I.out.le HL1.out))).out).mono ?_); rintro e w2 ⟨rfl, F2, k1, k2⟩; have I2 := Lib.hid (I.out.move k1 k2); have u1 := cell_cha (B := fun i => i < W.heap.size) k2.cha (fun i hi => Nat.not_lt.2 (I.out.wd.ge i hi)) HBW.out q1; have R2 := Lib.hid (R1.out.ints (B' := fun i => i < W.heap.size) k2.cha (fun i hi => Nat.not_lt.2 (I.out.wd.ge i hi)) (fun _ h => h)); have hbs2 : b < w2.heap.size := Nat.lt_of_lt_of_le HBW.out (I2.out.le HL1.out); clear k1 k2 b0 b1 b2; obtain ⟨b0, b1, b2⟩ := BC.out _ _ _ I2.out))
          | (go_at_call 31; ((with_reducible refine ((Lib.hid (CK16.out _ _ _ z.fi _ R2.out I2.out.wd (by have := ZL.out; omega) (by have := LZ.out; omega) (I2.out.le HL1.out))).out).mono ?_); rintro e w3 ⟨rfl, F3, k1, k2⟩; have I3 := Lib.hid (I2.out.move k1 k2); clear k1 k2)))
        go_roundw
        case rel => exact ⟨k + 1, F3, by omega, by go_num, by rw [EZ.out]; exact I3.out⟩
        case measure => simp [intOf]; omega
      · rw [har] at q0
        have EZ : Hid (dstK dTy 32 ty ⟨[], 0⟩ (k + 1) = dList dNum 16 z.fi (dNum 0 (dstK dTy 32 ty ⟨[], 0⟩ k))) := Lib.hid (by rw [dstK_succ HK.out]; unfold dTy; rw [har]; rfl)
        have LZ : Hid ((dNum 0 (dstK dTy 32 ty ⟨[], 0⟩ k)).t.length ≤ 10000000020) := Lib.hid (by have := LS.out; rw [har] at this; exact this)
        go_wp2_with (first
          | (go_at_call 30; ((with_reducible refine ((Lib.hid (CN.out _ _ 0 (dstK dTy 32 ty ⟨[], 0⟩ k) i0 I.out.wd (by have := ST.out k; omega) (I.out.le HL1.out))).out).mono ?_); rintro e w2 ⟨rfl, F2, k1, k2⟩; have I2 := Lib.hid (I.out.move k1 k2); have u1 := cell_cha (B := fun i => i < W.heap.size) k2.cha (fun i hi => Nat.not_lt.2 (I.out.wd.ge i hi)) HBW.out q1; have R2 := Lib.hid (R1.out.ints (B' := fun i => i < W.heap.size) k2.cha (fun i hi => Nat.not_lt.2 (I.out.wd.ge i hi)) (fun _ h => h)); have hbs2 : b < w2.heap.size := Nat.lt_of_lt_of_le HBW.out (I2.out.le HL1.out); clear k1 k2 b0 b1 b2; obtain ⟨b0, b1, b2⟩ := BC.out _ _ _ I2.out))
          | (go_at_call 31; ((with_reducible refine ((Lib.hid (CK16.out _ _ _ z.fi _ R2.out I2.out.wd (by have := ZL.out; omega) (by have := LZ.out; omega) (I2.out.le HL1.out))).out).mono ?_); rintro e w3 ⟨rfl, F3, k1, k2⟩; have I3 := Lib.hid (I2.out.move k1 k2); clear k1 k2)))
        go_roundw
        case rel => exact ⟨k + 1, F3, by omega, by go_num, by rw [EZ.out]; exact I3.out⟩
        case measure => simp [intOf]; omega
    · have J1 : Hid (En8 W W1 #[.slice a0 n0 c0, .slice a1 n1 c1, .slice a2 n2 c2] F' wr sA) := Lib.hid (by have := I.out; rw [dstK_all (by have := N0.out; omega), ← EA.out] at this; exact this)
      clear I
      go_wp2_with (first
        | (go_at_call 31; ((with_reducible refine ((Lib.hid (CK32.out _ _ _ gl sA (RG.out _ _ _ J1.out) J1.out.wd (by have := N1.out; omega) (by have := LA.out; omega) (J1.out.le HL1.out))).out).mono ?_); rintro e w2 ⟨rfl, F2, k1, k2⟩; rw [← EB.out] at k1; have J2 := Lib.hid (J1.out.move k1 k2); clear k1 k2 b0 b1 b2; obtain ⟨b0, b1, b2⟩ := BC.out _ _ _ J2.out))
        | (go_at_call 29; ((with_reducible refine ((Lib.hid (CC32.out _ _ n2 sB (by omega) J2.out.wd (by have := LB.out; omega) (J2.out.le HL1.out))).out).mono ?_); rintro e w3 ⟨rfl, F3, k1, k2⟩; have J3 := Lib.hid (J2.out.move k1 k2); clear k1 k2 b0 b1 b2)))
      clear J1 J2
      go_loopw [6] (fun i wr => ∃ (k : Nat) (F' : Nat → Prop), k ≤ n2 ∧ i = .int .i64 (k : Int) ∧ En8 W W1 #[.slice a0 n0 c0, .slice a1 n1 c1, .slice a2 n2 c2] F' wr (dstK dFn 32 fu sB k)) (fun i _ => n2 - (intOf i).toNat)
      case atStart => exact ⟨0, F3, Nat.zero_le _, rfl, by rw [Z2.out]; exact J3.out⟩
      case round =>
        clear J3
        obtain ⟨k, F', hk, rfl, hI⟩ := hrel
        have I := Lib.hid hI
        obtain ⟨b0, b1, b2⟩ := BC.out _ _ _ hI
        clear hI
        by_cases hlt : k < n2
        · obtain ⟨z, hz⟩ : ∃ z, fu[k]? = some z := ⟨_, List.getElem?_eq_getElem (by have := N2.out; omega)⟩
          obtain ⟨b, o, _, he, hb, hbs, hx⟩ := HV2.out.at hz
          obtain rfl : a2 = some ⟨b, o, none⟩ := by injection he
          obtain ⟨l1, q1, r1⟩ := hx.c1
          obtain ⟨l2, q2, r2⟩ := hx.c2
          obtain ⟨l3, q3, r3⟩ := hx.c3
          have CWr := HCH.out _ _ _ I.out
          have q0 := cell_cha (B := (· < W.heap.size)) CWr (fun _ f => f.elim) hb hx.c0
          have q1 := cell_cha (B := (· < W.heap.size)) CWr (fun _ f => f.elim) hb q1
          have q2 := cell_cha (B := (· < W.heap.size)) CWr (fun _ f => f.elim) hb q2
          have q3 := cell_cha (B := (· < W.heap.size)) CWr (fun _ f => f.elim) hb q3
          have hbw : b < wr.heap.size := Nat.lt_of_lt_of_le hb (I.out.le HL1.out)
          have KP := Lib.hid hx.k0
          have R1 := Lib.hid r1
          have R2 := Lib.hid r2
          have R3 := Lib.hid r3
          have hd1 := dNum_dl hx.k0 (dstK dFn 32 fu sB k)
          obtain ⟨s1, e1⟩ : ∃ s, s = dNum z.pa (dstK dFn 32 fu sB k) := ⟨_, rfl⟩
          rw [← e1] at hd1
          have hd2 := ints_dl (lim := 32) r1 s1
          obtain ⟨s2, e2⟩ : ∃ s, s = dList dNum 32 z.sl s1 := ⟨_, rfl⟩
          rw [← e2] at hd2
          have hd3 := ints_dl (lim := 32) r2 s2
          obtain ⟨s3, e3⟩ : ∃ s, s = dList dNum 32 z.re s2 := ⟨_, rfl⟩
          rw [← e3] at hd3
          have ZL : Hid (szF z ≤ 1000000000) := Lib.hid (ZF.out z (List.mem_of_getElem? hz))
          have LL : Hid (s1.t.length ≤ 100000000000 ∧ s2.t.length ≤ 100000000000 ∧ s3.t.length ≤ 100000000000 ∧ z.sl.length ≤ 1000000000 ∧ z.re.length ≤ 1000000000 ∧ z.co.length ≤ 1000000000) := Lib.hid (by
            have h1 := ZL.out
            have h2 := SF.out k
            have h3 := len_sum szI (fun x => by unfold szI; omega) z.co
            unfold szF at h1
            omega)
          have SI : Hid (∀ j, (dstK dIns 256 z.co s3 j).t.length ≤ 1000000000000) := Lib.hid fun j => by
            have h1 := dstK_len (f := dIns) (lim := 256) (k := j) (s := s3) (xs := z.co) (sz := szI) (fun x hx => by obtain ⟨_, _, _, q⟩ := r3.all hx; exact q.dl) r3.len
            have h2 := ZL.out
            have h3 := LL.out
            unfold szF at h2
            omega
          have ZI : Hid (∀ i ∈ z.co, i.l.length ≤ 1000000000) := Lib.hid fun i hi => by
            have h1 := le_sum szI hi
            have h2 := ZL.out
            unfold szF at h2
            unfold szI at h1
            unfold szI at h2
            omega
          have E1 := Lib.hid e1
          have E2 := Lib.hid e2
          have E3 := Lib.hid e3
          have HK := Lib.hid hz
          have ES : Hid (dstK dFn 32 fu sB (k + 1) = dList dIns 256 z.co s3) := Lib.hid (by rw [dstK_succ hz, e3, e2, e1]; rfl)
          obtain ⟨x1, y1, rfl, _⟩ := r1
          obtain ⟨x2, y2, rfl, _⟩ := r2
          obtain ⟨x3, y3, rfl, _⟩ := r3
          have Z3 : Hid (dstK dIns 256 z.co s3 0 = dCount z.co.length 256 s3) := Lib.hid rfl
          clear he hx hz hb hd1 hd2 hd3 e1 e2 e3 CWr hbs
          have I0 : Hid (∀ ob, En8 W W1 #[.slice a0 n0 c0, .slice a1 n1 c1, .slice (some ⟨b, o, none⟩) n2 c2] F' (wr.alloc ob) (dstK dFn 32 fu sB k)) := Lib.hid fun ob => I.out.same ((Cha.refl _ wr).alloc ob)
          have X0 := Lib.hid (new_boxd I.out.wd (.cells #[.int .i64 z.pa, .slice x1 z.sl.length y1, .slice x2 z.re.length y2, .slice x3 z.co.length y3] 55))
          obtain ⟨nb, hnb⟩ : ∃ n, n = wr.heap.size := ⟨_, rfl⟩
          have X0 : Hid ((wr.alloc (.cells #[.int .i64 z.pa, .slice x1 z.sl.length y1, .slice x2 z.re.length y2, .slice x3 z.co.length y3] 55)).heap[nb]? = some (.cells #[.int .i64 z.pa, .slice x1 z.sl.length y1, .slice x2 z.re.length y2, .slice x3 z.co.length y3] 55 (0, 0)) ∧ ¬ F' nb) := Lib.hid (by rw [hnb]; exact X0.out)
          have HNB := Lib.hid hnb
          clear hnb
          go_wp2_with (first
            | (go_at_call 30; ((with_reducible refine ((Lib.hid (CN.out _ _ z.pa (dstK dFn 32 fu sB k) KP.out (I0.out _).wd (by have := SF.out k; omega) ((I0.out _).le HL1.out))).out).mono ?_); rintro e w1 ⟨rfl, F1, k1, k2⟩; rw [← E1.out] at k1; have I1 := Lib.hid ((I0.out _).move k1 k2); have X1 := Lib.hid (k2.box X0.out); clear k1 k2 b0 b1 b2 q0 q1 q2 q3; have d1 := cell_of_row w1 nb 1 _ 55 (0, 0) X1.out.1; rw [HNB.out] at d1))
            | (go_at_call 31; ((with_reducible refine ((Lib.hid (CK32.out _ _ _ z.sl s1 (R1.out.ints (HCH.out _ _ _ I1.out) (fun _ f => f.elim) (fun _ h => h)) I1.out.wd (by have := LL.out; omega) (by have := LL.out; omega) (I1.out.le HL1.out))).out).mono ?_); rintro e w2 ⟨rfl, F2, k1, k2⟩; rw [← E2.out] at k1; have I2 := Lib.hid (I1.out.move k1 k2); have X2 := Lib.hid (k2.box X1.out); clear k1 k2 d1; have d2 := cell_of_row w2 nb 2 _ 55 (0, 0) X2.out.1; rw [HNB.out] at d2))
            | (go_at_call 31; ((with_reducible refine ((Lib.hid (CK32.out _ _ _ z.re s2 (R2.out.ints (HCH.out _ _ _ I2.out) (fun _ f => f.elim) (fun _ h => h)) I2.out.wd (by have := LL.out; omega) (by have := LL.out; omega) (I2.out.le HL1.out))).out).mono ?_); rintro e w3 ⟨rfl, F3, k1, k2⟩; rw [← E3.out] at k1; have I3 := Lib.hid (I2.out.move k1 k2); have X3 := Lib.hid (k2.box X2.out); clear k1 k2 d2; have d3 := cell_of_row w3 nb 3 _ 55 (0, 0) X3.out.1; rw [HNB.out] at d3))
            | (go_at_call 29; ((with_reducible refine ((Lib.hid (CC256.out _ _ z.co.length s3 (by have := LL.out; omega) I3.out.wd (by have := LL.out; omega) (I3.out.le HL1.out))).out).mono ?_); rintro e w4 ⟨rfl, F4, k1, k2⟩; have I4 := Lib.hid (I3.out.move k1 k2); have X4 := Lib.hid (k2.box X3.out); clear k1 k2 d3)))
          go_loopw [8] (fun i wr => ∃ (j : Nat) (F' : Nat → Prop), j ≤ z.co.length ∧ i = .int .i64 (j : Int) ∧ En8 W W1 #[.slice a0 n0 c0, .slice a1 n1 c1, .slice (some ⟨b, o, none⟩) n2 c2] F' wr (dstK dIns 256 z.co s3 j) ∧ wr.heap[nb]? = some (.cells #[.int .i64 z.pa, .slice x1 z.sl.length y1, .slice x2 z.re.length y2, .slice x3 z.co.length y3] 55 (0, 0)) ∧ ¬ F' nb) (fun i _ => z.co.length - (intOf i).toNat)
          case atStart => exact ⟨0, F4, Nat.zero_le _, rfl, by rw [Z3.out]; exact I4.out, X4.out⟩
          case round =>
            clear I1 I2 I3 I4 X0 X1 X2 X3 X4 I I0
            obtain ⟨j, F', hj, rfl, hI, hX⟩ := hrel
            have I := Lib.hid hI
            have X := Lib.hid hX
            have d3 := cell_of_row _ nb 3 _ 55 (0, 0) hX.1
            rw [HNB.out] at d3
            clear hI hX
            by_cases hlj : j < z.co.length
            · obtain ⟨y, hy⟩ : ∃ y, z.co[j]? = some y := ⟨_, List.getElem?_eq_getElem hlj⟩
              obtain ⟨b', o', _, he, hb, hbs, hx⟩ := R3.out.at hy
              obtain rfl : x3 = some ⟨b', o', none⟩ := by injection he
              obtain ⟨lv, p5, r5⟩ := hx.c5
              rename_i wj _
              have CWj := HCH.out _ _ _ I.out
              have p0 := cell_cha (B := (· < W.heap.size)) CWj (fun _ f => f.elim) hb hx.c0
              have p1 := cell_cha (B := (· < W.heap.size)) CWj (fun _ f => f.elim) hb hx.c1
              have p2 := cell_cha (B := (· < W.heap.size)) CWj (fun _ f => f.elim) hb hx.c2
              have p3 := cell_cha (B := (· < W.heap.size)) CWj (fun _ f => f.elim) hb hx.c3
              have p4 := cell_cha (B := (· < W.heap.size)) CWj (fun _ f => f.elim) hb hx.c4
              have p5 := cell_cha (B := (· < W.heap.size)) CWj (fun _ f => f.elim) hb p5
              have hbj := Nat.lt_of_lt_of_le hb (I.out.le HL1.out)
              have R5 := Lib.hid (r5.ints CWj (fun _ f => f.elim) (fun _ h => h) (B' := (· < W.heap.size)))
              obtain ⟨la, lc, rfl, _⟩ := r5
              have CI := Lib.hid (wins_any y.op y.a y.b y.c y.imm hx.k0 hx.k1 hx.k2 hx.k3 hx.k4 R5.out I.out.wd (by have := ZI.out y (List.mem_of_getElem? hy); omega) (SI.out j) (I.out.le HL1.out))
              have HJ := Lib.hid hy
              clear he hx hy hb hbs CWj R5
              go_wp2_with (go_at_call 32; ((with_reducible refine (CI.out).mono ?_); rintro e w5 ⟨rfl, F5, k1, k2⟩; have I5 := Lib.hid (I.out.move k1 k2); have X5 := Lib.hid (k2.box X.out); clear k1 k2 d3 p0 p1 p2 p3 p4 p5))
              go_roundw
              case rel => exact ⟨j + 1, F5, by omega, by go_num, by rw [dstK_succ HJ.out]; exact I5.out, X5.out⟩
              case measure => simp [intOf]; omega
            · have J := Lib.hid I.out
              go_wp2
              go_roundw
              case rel => exact ⟨k + 1, F', by omega, by go_num, by have := I.out; rw [dstK_all (by omega), ← ES.out] at this; exact this⟩
              case measure => simp [intOf]; omega
        · have J : Hid (En8 W W1 #[.slice a0 n0 c0, .slice a1 n1 c1, .slice a2 n2 c2] F' wr sC) := Lib.hid (by have := I.out; rw [dstK_all (by have := N2.out; omega), ← EC.out] at this; exact this)
          have CF := Lib.hid (HCH.out _ _ _ J.out)
          clear I
          obtain ⟨v, w1, w2, w3⟩ := J.out.wd.head
          have e1 := cell_of_row wr (W.heap.size + 1) 1 _ 74 (0, 0) w1
          have e0 := cell_of_row wr (W.heap.size + 1) 0 _ 74 (0, 0) w1
          have f1 := frozen_of_row wr (W.heap.size + 1) 1 _ 74 w1
          have Q2 := Lib.hid w2
          obtain ⟨va, vc, rfl⟩ := own_shape Q2.out
          clear w1 w2 w3 J
          obtain ⟨T, E⟩ := sC
          have e1 : wr.cell? ⟨W.heap.size + 1, 1, none⟩ = some (.int .i64 E) := e1
          have e0 : wr.cell? ⟨W.heap.size + 1, 0, none⟩ = some (.slice va T.length vc) := e0
          by_cases hE : E = 0
          · subst hE
            by_cases hl : 16384 < T.length
            · have hl' : ((16384 : Int) < (T.length : Int)) := by omega
              go_wp2
              go_quiet (fail)
              go_wp2
              go_ret2
              exact Encd.of (s := ⟨[], 2⟩) ⟨none, 0, rfl, World.ownsRow_nil _ _ _ _, ((CF.out.setCell (p := ⟨W.heap.size + 1, 1, none⟩) (fun h => by have h : W.heap.size + 1 < W.heap.size := h; omega) _).drewN _)⟩ (ELong.out (by first | rfl | trivial) hl).symm
            · have hl' : ¬ ((16384 : Int) < (T.length : Int)) := by omega
              go_wp2
              go_ret2
              exact Encd.of (s := ⟨T, 0⟩) ⟨_, _, rfl, Q2.out, CF.out⟩ (EOk.out (by first | rfl | trivial) hl).symm
          · have hE1 : (E == 0) = false := by simpa using hE
            have hE2 : (E != 0) = true := by simpa using hE
            have EB2 := Lib.hid (EBad.out hE)
            clear EBad ELong EOk hE
            go_wp2
            go_quiet (fail)
            go_wp2
            go_ret2
            exact Encd.of (s := ⟨[], E⟩) ⟨none, 0, rfl, World.ownsRow_nil _ _ _ _, CF.out.drewN _⟩ EB2.out.symm
end Go.Proofs.Ytpdjbhnpahkbpaa
