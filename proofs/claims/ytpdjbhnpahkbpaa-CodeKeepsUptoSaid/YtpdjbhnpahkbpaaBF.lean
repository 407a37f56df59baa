/- The document's writer: an instruction. -/
import Derived.Test.YtpdjbhnpahkbpaaBE
import Derived.Test.YtpdjbhnpahkbpaaH
namespace Go.Proofs.Ytpdjbhnpahkbpaa
set_option linter.unusedVariables false
open Go.ChangeShapes Go.WideShapes Go.ChangeAt Go.RowKit
/-- An instruction's own number, whole. -/
def dImm (n : Nat) (s : St) : St := ⟨s.t ++ digs n, s.e⟩
def dIns (i : IZ) (s : St) : St := dList dNum 24 i.l (dImm i.imm (dNum i.c (dNum i.b (dNum i.a (dNum i.op s)))))
theorem dImm_dl {n : Nat} (h : n < 18446744073709551616) : Dl 1 (dImm n) := fun s => by
  have := digs_len10 h
  unfold dImm
  simp only [List.length_append]
  omega
def szI (i : IZ) : Nat := 6 + i.l.length
theorem RdIns.dl {B : Nat → Prop} {W : World} {b o : Nat} {x : IZ} (h : RdIns B W b o x) : Dl (szI x) (dIns x) := by
  obtain ⟨v, _, h5⟩ := h.c5
  have := ((((dNum_dl h.k0).comp (dNum_dl h.k1)).comp (dNum_dl h.k2)).comp (dNum_dl h.k3)).comp ((dImm_dl h.k4).comp (ints_dl (lim := 24) h5))
  have e : 1 + 1 + 1 + 1 + (1 + (1 + x.l.length)) = szI x := by unfold szI; omega
  rw [e] at this
  exact this
theorem new_boxd {B bw : Nat} {F : Nat → Prop} {W : World} {T : List Nat} {e : Int} (h : Wd B F W bw T e) (o : Obj) : (W.alloc o).heap[W.heap.size]? = some o ∧ ¬ F W.heap.size :=
  ⟨heap_alloc_new W o, fun c => by have := h.lt _ c; omega⟩
section
variable {B bw : Nat} {F F' : Nat → Prop} {W W' : World} {s : St}
set_option maxRecDepth 100000 in
set_option maxHeartbeats 4000000 in
theorem wins_any (op a b c : Int) (imm : Nat) {lv : Value} {l : List Int} (ko : I64 op) (ka : I64 a) (kb : I64 b) (kc : I64 c) (hm : imm < 18446744073709551616) (hv : RdS 1 RdI (· < B) W lv l) (h : Wd B F W bw s.t s.e) (hx : l.length ≤ 1000000000000) (hT : s.t.length ≤ 1000000000000) (h0 : B ≤ W.heap.size) :
    Calls Try.prog 32 #[.pointer (some ⟨bw, 0, none⟩), .agg #[.int .i64 op, .int .i64 a, .int .i64 b, .int .i64 c, .int .u64 (imm : Int), lv]] W (DWrote B bw F W (dList dNum 24 l (dImm imm (dNum c (dNum b (dNum a (dNum op s))))))) := by
  have HG : Hid (∀ i, F i → ¬ i < B) := Lib.hid fun i hi => Nat.not_lt.2 (h.ge i hi)
  have L1 := dNum_dl ko s
  have L2 := dNum_dl ka (dNum op s)
  have L3 := dNum_dl kb (dNum a (dNum op s))
  have L4 := dNum_dl kc (dNum b (dNum a (dNum op s)))
  have hdl := digs_len10 hm
  obtain ⟨s1, e1⟩ : ∃ t, t = dNum op s := ⟨_, rfl⟩
  obtain ⟨s2, e2⟩ : ∃ t, t = dNum a s1 := ⟨_, rfl⟩
  obtain ⟨s3, e3⟩ : ∃ t, t = dNum b s2 := ⟨_, rfl⟩
  obtain ⟨s4, e4⟩ : ∃ t, t = dNum c s3 := ⟨_, rfl⟩
  rw [← e1, ← e2, ← e3] at L4
  rw [← e1, ← e2] at L3
  rw [← e1] at L2 L1
  rw [← e2] at L2
  rw [← e3] at L3
  rw [← e4] at L4
  rw [← e1, ← e2, ← e3, ← e4]
  have E1 := Lib.hid e1
  have E2 := Lib.hid e2
  have E3 := Lib.hid e3
  have E4 := Lib.hid e4
  clear e1 e2 e3 e4
  have HL : Hid (s1.t.length ≤ 1000000000100 ∧ s2.t.length ≤ 1000000000100 ∧ s3.t.length ≤ 1000000000100 ∧ s4.t.length ≤ 1000000000100) := Lib.hid (by omega)
  clear L1 L2 L3 L4
  have HV := Lib.hid hv
  have HS : Hid (∀ k, (dstK dNum 24 l (dImm imm s4) k).t.length ≤ 70000000000000) := Lib.hid fun k => by
    have := dstK_len (f := dNum) (lim := 24) (k := k) (s := dImm imm s4) (xs := l) (sz := fun _ => 1) (fun x hx => by obtain ⟨_, _, _, q⟩ := hv.all hx; exact dNum_dl q.2) hv.len
    rw [sum_ones] at this
    have h2 : (dImm imm s4).t.length = s4.t.length + (digs imm).length := by unfold dImm; simp
    have := HL.out
    omega
  have hlen := hv.len
  obtain ⟨la, lc, rfl, _, _⟩ := hv
  obtain ⟨n, hn⟩ : ∃ n, n = l.length := ⟨_, rfl⟩
  rw [← hn] at hlen hx ⊢
  have HN := Lib.hid hn
  have E0 : Hid (dstK dNum 24 l (dImm imm s4) 0 = dCount n 24 (dImm imm s4)) := Lib.hid (by rw [hn]; rfl)
  clear hn
  have CW : Hid (∀ w, Calls Try.prog 53 #[.int .u64 (imm : Int)] w (fun e w' => ∃ v, e = .returned v ∧ w'.ownsRow w.heap.size 5 1 v (digs imm).length (bz (digs imm)) ∧ Cha (fun _ => False) w w')) := Lib.hid (fun w => docword_any (W := w) imm hm)
  have X0 : Hid ((W.alloc (.cells #[.int .i64 op, .int .i64 a, .int .i64 b, .int .i64 c, .int .u64 (imm : Int), .slice la n lc] 52)).heap[W.heap.size]? = some (.cells #[.int .i64 op, .int .i64 a, .int .i64 b, .int .i64 c, .int .u64 (imm : Int), .slice la n lc] 52 (0, 0)) ∧ ¬ F W.heap.size) := Lib.hid (new_boxd h _)
  have O0 : Hid (Wd B F (W.alloc (.cells #[.int .i64 op, .int .i64 a, .int .i64 b, .int .i64 c, .int .u64 (imm : Int), .slice la n lc] 52)) bw s.t s.e) := Lib.hid (h.alloc _)
  have M0 : Hid (Mv F W F (W.alloc (.cells #[.int .i64 op, .int .i64 a, .int .i64 b, .int .i64 c, .int .u64 (imm : Int), .slice la n lc] 52))) := Lib.hid ((Mv.refl F W).alloc _)
  have HB := Lib.hid h0
  have HT := Lib.hid hT
  have CN : Hid (∀ (W : World) (F : Nat → Prop) (z : Int) (s r : St), r = dNum z s → I64 z → Wd B F W bw s.t s.e → s.t.length ≤ 70000000000000 → B ≤ W.heap.size → Calls Try.prog 30 #[.pointer (some ⟨bw, 0, none⟩), .int .i64 z] W (DWrote B bw F W r)) := Lib.hid fun W F z s r e hz h hA h0 => by rw [e]; exact dnumber_any z hz h hA h0
  have CD : Hid (∀ (W : World) (F : Nat → Prop) (A : List Nat) (e : Int), Wd B F W bw A e → A.length ≤ 70000000000000 → B ≤ W.heap.size → Calls Try.prog 29 #[.pointer (some ⟨bw, 0, none⟩), .int .i64 (n : Int), .int .i64 24] W (DWrote B bw F W (dCount n 24 ⟨A, e⟩))) := Lib.hid fun W F A e h hA h0 => dcount_any n 24 hx (by decide) h hA h0
  have KO := Lib.hid ko
  have KA := Lib.hid ka
  have KB := Lib.hid kb
  have KC := Lib.hid kc
  obtain ⟨i0, hi, hz0, hz1, hz2⟩ := info_parts info5
  clear h hT h0 ko ka kb kc hm
  go_enter Try.func32, Try.ntmps32
  go_wp2_with (first
    | (go_at_call 30; ((with_reducible refine ((Lib.hid (CN.out _ _ op _ s1 E1.out KO.out O0.out (by have := HT.out; omega) (Nat.le_trans HB.out M0.out.cha.size))).out).mono ?_); rintro e w1 ⟨rfl, F1, k1, k2⟩; have O1 := Lib.hid k1; have M1 := Lib.hid (M0.out.trans k2); have X1 := Lib.hid (k2.box X0.out); clear k1 k2; have c1 := cell_of_row w1 W.heap.size 1 _ 52 (0, 0) X1.out.1))
    | (go_at_call 30; ((with_reducible refine ((Lib.hid (CN.out _ _ a _ s2 E2.out KA.out O1.out (by have := HL.out; omega) (Nat.le_trans HB.out M1.out.cha.size))).out).mono ?_); rintro e w2 ⟨rfl, F2, k1, k2⟩; have O2 := Lib.hid k1; have M2 := Lib.hid (M1.out.trans k2); have X2 := Lib.hid (k2.box X1.out); clear k1 k2; have c2 := cell_of_row w2 W.heap.size 2 _ 52 (0, 0) X2.out.1))
    | (go_at_call 30; ((with_reducible refine ((Lib.hid (CN.out _ _ b _ s3 E3.out KB.out O2.out (by have := HL.out; omega) (Nat.le_trans HB.out M2.out.cha.size))).out).mono ?_); rintro e w3 ⟨rfl, F3, k1, k2⟩; have O3 := Lib.hid k1; have M3 := Lib.hid (M2.out.trans k2); have X3 := Lib.hid (k2.box X2.out); clear k1 k2; have c3 := cell_of_row w3 W.heap.size 3 _ 52 (0, 0) X3.out.1))
    | (go_at_call 30; ((with_reducible refine ((Lib.hid (CN.out _ _ c _ s4 E4.out KC.out O3.out (by have := HL.out; omega) (Nat.le_trans HB.out M3.out.cha.size))).out).mono ?_); rintro e w4 ⟨rfl, F4, k1, k2⟩; have O4 := Lib.hid k1; have M4 := Lib.hid (M3.out.trans k2); have X4 := Lib.hid (k2.box X3.out); clear k1 k2)))
  have HH : Hid (Wd B F4 w4.drew bw s4.t s4.e) := Lib.hid (O4.out.cha ((Cha.refl (fun _ => False) _).drew) (fun _ _ f => f))
  have MD : Hid (Mv F W F4 w4.drew) := Lib.hid (Mv.drew M4.out)
  have XD := Lib.hid ((Mv.drew (Mv.refl F4 w4)).box X4.out)
  clear M0 M1 M2 M3 M4 O0 O1 O2 O3 O4 X0 X1 X2 X3 X4 CN c1 c2 c3
  obtain ⟨v, q1, q2, q3⟩ := HH.out.head
  have Q1 := Lib.hid q1
  have Q2 := Lib.hid q2
  have Q3 := Lib.hid q3
  clear q1 q2 q3
  obtain ⟨va, vc, rfl⟩ := own_shape Q2.out
  have KX : Hid (∀ W', Cha (fun _ => False) w4.drew W' → W'.heap[bw]? = some (.cells #[.slice va s4.t.length vc, .int .i64 s4.e] 74 (0, 0)) ∧ W'.cell? ⟨bw, 0, none⟩ = some (.slice va s4.t.length vc) ∧ W'.frozen? ⟨bw, 0, none⟩ = false ∧ W'.cell? ⟨W.heap.size, 4, none⟩ = some (.int .u64 (imm : Int))) := Lib.hid fun W' hc => by
    have q := (hc.old bw (HH.out.lt bw HH.out.fb) (fun f => f)).trans Q1.out
    have q5 := (hc.old W.heap.size (Array.getElem?_eq_some_iff.1 XD.out.1).1 (fun f => f)).trans XD.out.1
    exact ⟨q, cell_of_row W' bw 0 _ 74 (0, 0) q, frozen_of_row W' bw 0 _ 74 q, cell_of_row W' W.heap.size 4 _ 52 (0, 0) q5⟩
  have HBB : Hid (B ≤ w4.drew.heap.size) := Lib.hid (Nat.le_trans HB.out MD.out.cha.size)
  obtain ⟨_, k1, k2, k3⟩ := KX.out w4.drew (Cha.refl _ _)
  have hA : s4.t.length ≤ 1000000000100 := HL.out.2.2.2
  have hdp := digs_pos imm
  go_region_law
    (first
      | (go_simp; go_at_call 53; refine (CW.out w4.drew).mono ?_; rintro e w2 ⟨dv, rfl, j1, j2⟩; obtain ⟨dg, dc, rfl, jl⟩ := own_lie j1 hdp; obtain ⟨p0, p1, p2, p3'⟩ := KX.out w2 j2)
      | (refine step_append_lies _ (by rfl) _ _ 27 (by rfl) B 5 i0 (.int .u8 0) 1 1 Try.underlying27 hi hz0 hz1 hz2 rfl (by decide) (.slice va s4.t.length vc) s4.t.length (bz s4.t) (by rfl) (own_but Q2.out j2 (fun _ _ f => f)) ⟨dg, 0, none⟩ (digs imm).length dc (bz (digs imm)) (by rfl) (by unfold bz; simp) jl (bz_one _) hdp (by unfold maxLen; omega) (by omega) (by have := HBB.out; have := j2.size; omega) w2.heap.size rfl ?_; intro g3 cap w3 hown hg hat hlt3; have p5 := ((Cha.of_grownBy hg fun j e => e).old (S := fun i => (Value.slice va s4.t.length vc).ownBlock = some i) bw (Array.getElem?_eq_some_iff.1 p0).1 (fun e => (Q3.out bw e).2 rfl)).trans p0; have p3 := cell_of_row w3 bw 0 _ 74 (0, 0) p5; have p4 := frozen_of_row w3 bw 0 _ 74 p5))
  all_goals
    obtain ⟨F6, r1, r2⟩ := Wd.puts (ds := digs imm) (HH.out.cha j2 (fun _ _ f => f)) p0 Q3.out hown hg (fun g hg' => by
      have e3 : g3 = g := by injection hg'
      rcases hat with e | e
      · exact .inl (e3 ▸ e)
      · exact .inr (by omega))
    have X6 := Lib.hid ((Mv.of j2 r2).box XD.out)
    have R1 := Lib.hid r1
    have R2 := Lib.hid (MD.out.trans (Mv.of j2 r2))
    have c5 := cell_of_row _ W.heap.size 5 _ 52 (0, 0) X6.out.1
    have CC := Lib.hid (CD.out _ _ _ _ R1.out (by rw [List.length_append]; omega) (Nat.le_trans HB.out R2.out.cha.size))
    clear r1 r2 hown hg hat j1 j2 jl p0 p5
    go_wp2_with (go_at_call 29; ((with_reducible refine (CC.out).mono ?_); rintro e w5 ⟨rfl, F7, k1, k2⟩; have O7 := Lib.hid k1; have M7 := Lib.hid (R2.out.trans k2); have X7 := Lib.hid (k2.box X6.out); clear k1 k2))
    go_loopw [4] (fun i wr => ∃ (k : Nat) (F' : Nat → Prop), k ≤ n ∧ i = .int .i64 (k : Int) ∧ Wd B F' wr bw (dstK dNum 24 l (dImm imm s4) k).t (dstK dNum 24 l (dImm imm s4) k).e ∧ Mv F W F' wr ∧ wr.heap[W.heap.size]? = some (.cells #[.int .i64 op, .int .i64 a, .int .i64 b, .int .i64 c, .int .u64 (imm : Int), .slice la n lc] 52 (0, 0)) ∧ ¬ F' W.heap.size) (fun i _ => n - (intOf i).toNat)
    case atStart => exact ⟨0, F7, Nat.zero_le _, rfl, by rw [E0.out]; exact O7.out, M7.out, X7.out⟩
    case round =>
      clear CC O7 M7 X7 R1 R2 X6 CW
      obtain ⟨k, F', hk, rfl, hO, hM, hX⟩ := hrel
      have O := Lib.hid hO
      have M := Lib.hid hM
      have X := Lib.hid hX
      have d5 := cell_of_row _ W.heap.size 5 _ 52 (0, 0) hX.1
      clear hO hM hX
      by_cases hlt : k < n
      · obtain ⟨z, hz⟩ : ∃ z, l[k]? = some z := ⟨_, List.getElem?_eq_getElem (by have := HN.out; omega)⟩
        obtain ⟨b', o, _, he, hb, hbs, hx'⟩ := (HV.out.ints M.out.cha HG.out (fun _ h => h)).at hz
        obtain rfl : la = some ⟨b', o, none⟩ := by injection he
        have hc2 := hx'.1
        have hI := Lib.hid hx'.2
        rw [Nat.mul_one] at hc2
        have HK := Lib.hid hz
        clear he hx' hz hb
        have C := Lib.hid (dnumber_any z hI.out O.out (HS.out k) (Nat.le_trans HB.out M.out.cha.size))
        go_wp2_with (go_at_call 30; ((with_reducible refine (C.out).mono ?_); rintro e w2 ⟨rfl, F2, k1, k2⟩; have O2 := Lib.hid k1; have M2 := Lib.hid k2; have X2 := Lib.hid (k2.box X.out); clear k1 k2))
        go_roundw
        case rel => exact ⟨k + 1, F2, by omega, by go_num, by rw [dstK_succ HK.out]; exact O2.out, M.out.trans M2.out, X2.out⟩
        case measure => simp [intOf]; omega
      · go_wp2
        go_end0
        exact DWrote.of ⟨rfl, F', O.out, M.out⟩ (dstK_all (by have := HN.out; omega)).symm
end
end Go.Proofs.Ytpdjbhnpahkbpaa
