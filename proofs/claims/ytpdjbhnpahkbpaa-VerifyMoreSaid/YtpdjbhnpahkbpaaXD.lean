/- VerifyPlaces: the walk. -/
import Derived.Test.YtpdjbhnpahkbpaaXC
import Derived.Test.YtpdjbhnpahkbpaaXB
namespace Go.Proofs.Ytpdjbhnpahkbpaa
set_option linter.unusedVariables false
open Go.ChangeShapes Go.WideShapes Go.ChangeAt Go.RowKit
theorem HasP.parts {W : World} {v0 v1 v2 : Value} {p : PZ} (h : HasP W (.agg #[v0, v1, v2]) p) : RdS 2 RdTy (· < W.heap.size) W v0 p.ty ∧ RdS 1 RdI (· < W.heap.size) W v1 p.gl ∧ RdS 4 RdFn (· < W.heap.size) W v2 p.fu := by
  obtain ⟨u0, u1, u2, e, h0, h1, h2⟩ := h
  injection e with e
  have e0 : v0 = u0 ∧ v1 = u1 ∧ v2 = u2 := by simpa using e
  obtain ⟨rfl, rfl, rfl⟩ := e0
  exact ⟨h0, h1, h2⟩
theorem HasP.lens {W : World} {a0 a1 a2 : Option Addr} {n0 n1 n2 c0 c1 c2 : Nat} {p : PZ} (h : HasP W (.agg #[.slice a0 n0 c0, .slice a1 n1 c1, .slice a2 n2 c2]) p) : n0 = p.ty.length ∧ n1 = p.gl.length ∧ n2 = p.fu.length := by
  obtain ⟨h0, h1, h2⟩ := h.parts
  refine ⟨?_, ?_, ?_⟩
  · obtain ⟨_, _, e, _⟩ := h0; injection e
  · obtain ⟨_, _, e, _⟩ := h1; injection e
  · obtain ⟨_, _, e, _⟩ := h2; injection e
/-- A function of a program that a world holds: its cells. -/
theorem HasP.fn {W : World} {v0 v1 : Value} {a2 : Option Addr} {n2 c2 : Nat} {p : PZ} (h : HasP W (.agg #[v0, v1, .slice a2 n2 c2]) p) {k : Nat} {g : FZ} (hg : p.fu[k]? = some g) :
    ∃ b o l1 k1 l2 k2 l3 k3, a2 = some ⟨b, o, none⟩ ∧ b < W.heap.size ∧ W.cell? ⟨b, o + k * 4, none⟩ = some (.int .i64 g.pa) ∧ W.cell? ⟨b, o + k * 4 + 1, none⟩ = some (.slice l1 g.sl.length k1) ∧ W.cell? ⟨b, o + k * 4 + 2, none⟩ = some (.slice l2 g.re.length k2) ∧ W.cell? ⟨b, o + k * 4 + 3, none⟩ = some (.slice l3 g.co.length k3) ∧
      RdS 1 RdI (· < W.heap.size) W (.slice l1 g.sl.length k1) g.sl ∧ RdS 1 RdI (· < W.heap.size) W (.slice l2 g.re.length k2) g.re ∧ RdS 6 RdIns (· < W.heap.size) W (.slice l3 g.co.length k3) g.co := by
  obtain ⟨b, o, _, he, _, hbs, hx⟩ := h.parts.2.2.at hg
  injection he with he
  obtain ⟨v1, q1, r1⟩ := hx.c1
  obtain ⟨v2, q2, r2⟩ := hx.c2
  obtain ⟨v3, q3, r3⟩ := hx.c3
  have r1' := r1
  have r2' := r2
  have r3' := r3
  obtain ⟨l1, k1, rfl, _⟩ := r1'
  obtain ⟨l2, k2, rfl, _⟩ := r2'
  obtain ⟨l3, k3, rfl, _⟩ := r3'
  exact ⟨b, o, l1, k1, l2, k2, l3, k3, he, hbs, hx.c0, q1, q2, q3, r1, r2, r3⟩
set_option maxRecDepth 100000 in
set_option maxHeartbeats 8000000 in
theorem places_walk {W : World} {a0 a1 a2 : Option Addr} {n0 n1 n2 c0 c1 c2 : Nat} {p : PZ} (hp : HasP W (.agg #[.slice a0 n0 c0, .slice a1 n1 c1, .slice a2 n2 c2]) p) (hc : CapP W a2 n2) (k : Int) :
    Calls Try.prog 11 #[.agg #[.slice a0 n0 c0, .slice a1 n1 c1, .slice a2 n2 c2], .int .i64 k] W fun e w' => e = .returned (.bool true) ∧ Cha (fun _ => False) W w' := by
  obtain ⟨e0, e1, e2⟩ := hp.lens
  have HP := Lib.hid hp
  have HC := Lib.hid hc
  have E2 := Lib.hid e2
  have C0 : Hid (Cha (fun _ => False) W (W.alloc (.cells #[.slice a0 n0 c0, .slice a1 n1 c1, .slice a2 n2 c2] 26))) := Lib.hid ((Cha.refl _ W).alloc _)
  have X0 := Lib.hid (heap_alloc_new W (.cells #[.slice a0 n0 c0, .slice a1 n1 c1, .slice a2 n2 c2] 26))
  have CK : Hid (∀ w, Cha (fun _ => False) W w → Calls Try.prog 24 #[.agg #[.slice a0 n0 c0, .slice a1 n1 c1, .slice a2 n2 c2]] w (SaysF w (chkZ p))) := Lib.hid fun w h => check_c (HP.out.cha h) (HC.out.cha h)
  have CI := Lib.hid (fun w => isref_any (W := w) k)
  have PL : Hid ((chkZ p).e ≠ 0 → ((chkZ p).f = -1 ∧ 0 ≤ (chkZ p).at_ ∧ (chkZ p).at_ ≤ max (n0 : Int) n1) ∨ ∃ (k : Nat) (g : FZ) (a : Nat), p.fu[k]? = some g ∧ (chkZ p).f = k ∧ (chkZ p).at_ = a ∧ (a = 0 ∨ a < g.co.length)) := Lib.hid fun h => by rw [e0, e1]; exact chk_place h
  have MR : Hid ((chkZ p).e = 0 → MayRun p) := Lib.hid fun h => (chk_fine h).1
  obtain ⟨z, hz⟩ : ∃ z, z = chkZ p := ⟨_, rfl⟩
  rw [← hz] at CK PL MR
  obtain ⟨ZE, ZF, ZA⟩ := z
  unfold SaysF at CK
  dsimp only at CK PL MR
  have hl0 := hp.parts.1.len
  have hl1 := hp.parts.2.1.len
  have hl2 := hp.parts.2.2.len
  rw [← e0] at hl0
  rw [← e1] at hl1
  rw [← e2] at hl2
  clear hp hc hz e0 e1 e2
  have AW := Lib.hid (fun w => vawake_any w)
  by_cases hk : 16 ≤ k
  all_goals
    (first | have e1 : decide (16 ≤ k) = true := decide_eq_true hk | have e1 : decide (16 ≤ k) = false := decide_eq_false hk)
    by_cases hE : ZE = 0
    · have HR := Lib.hid (MR.out hE)
      subst hE
      clear PL MR
      go_enter Try.func11, Try.ntmps11
      go_wp2_with (first
        | (go_at_call 26; ((with_reducible refine (AW.out _).mono ?_); rintro e w1 ⟨rfl, k1⟩; have C1 := Lib.hid (C0.out.trans k1); have X1 := Lib.hid ((k1.old _ (Array.getElem?_eq_some_iff.1 X0.out).1 (fun f => f)).trans X0.out); clear k1))
        | (go_at_call 27; ((with_reducible refine (CI.out _).mono ?_); rintro e w2 ⟨rfl, rfl⟩; rw [e1]; have b0 := cell_of_row w2 W.heap.size 0 _ 26 (0, 0) X1.out; have b1 := cell_of_row w2 W.heap.size 1 _ 26 (0, 0) X1.out; have b2 := cell_of_row w2 W.heap.size 2 _ 26 (0, 0) X1.out))
        | (go_at_call 24; ((with_reducible refine (CK.out _ C1.out).mono ?_); rintro e w3 ⟨rfl, k3⟩; have C3 := Lib.hid (C1.out.trans k3); have X3 := Lib.hid ((k3.old _ (Array.getElem?_eq_some_iff.1 X1.out).1 (fun f => f)).trans X1.out); clear k3 b0 b1 b2; have b0 := cell_of_row w3 W.heap.size 0 _ 26 (0, 0) X3.out; have b1 := cell_of_row w3 W.heap.size 1 _ 26 (0, 0) X3.out; have b2 := cell_of_row w3 W.heap.size 2 _ 26 (0, 0) X3.out; have s0 := block_lt_of_cell b0)))
      have C4 := Lib.hid (C3.out.alloc (.cells #[.int .i64 0, .int .i64 ZF, .int .i64 ZA] 37))
      clear C0 C1 X0 X1 C3 X3 CI CK AW
      go_loopw [81] (fun i wr => ∃ k : Nat, k ≤ n2 ∧ i = .int .i64 (k : Int) ∧ Cha (fun _ => False) W wr) (fun i _ => n2 - (intOf i).toNat)
      case atStart => exact ⟨0, Nat.zero_le _, rfl, C4.out⟩
      case round =>
        clear b0 b1 b2 s0 C4
        obtain ⟨k, hk, rfl, hC⟩ := hrel
        have C := Lib.hid hC
        clear hC
        by_cases hlt : k < n2
        · obtain ⟨g, hg⟩ : ∃ g, p.fu[k]? = some g := ⟨_, List.getElem?_eq_getElem (by have := E2.out; omega)⟩
          obtain ⟨bf, of_, l1, k1, l2, k2, l3, k3, rfl, hbf, q0, q1, q2, q3, r1, r2, r3⟩ := (HP.out.cha C.out).fn hg
          obtain ⟨hm0, hpa⟩ := head_ok (HR.out.heads k g hg)
          have IN := Lib.hid (fun x hx => ins_ok (HR.out.ins g (List.mem_of_getElem? hg) x hx))
          have hl3 := r3.len
          have R3 := Lib.hid r3
          have hm1 : ((g.co.length : Int) == 0) = false := by simpa using hm0
          have hpa1 : ¬ ((g.sl.length : Int) < g.pa) := by omega
          have A2 := Lib.hid (heap_alloc_new wr (.cells #[.int .i64 g.pa, .slice l1 g.sl.length k1, .slice l2 g.re.length k2, .slice l3 g.co.length k3] 55))
          have C2 := Lib.hid (C.out.alloc (.cells #[.int .i64 g.pa, .slice l1 g.sl.length k1, .slice l2 g.re.length k2, .slice l3 g.co.length k3] 55))
          have HS := Lib.hid ((Cha.refl (fun _ => False) wr).alloc (.cells #[.int .i64 g.pa, .slice l1 g.sl.length k1, .slice l2 g.re.length k2, .slice l3 g.co.length k3] 55))
          clear r1 r2 r3 hg
          go_wp2
          generalize hW2 : wr.alloc (.cells #[.int .i64 g.pa, .slice l1 g.sl.length k1, .slice l2 g.re.length k2, .slice l3 g.co.length k3] 55) = W2 at *
          have R3b := Lib.hid (R3.out.inss (B' := (· < W2.heap.size)) HS.out (fun _ f => f.elim) (fun _ hi => Nat.lt_of_lt_of_le hi HS.out.size))
          clear hW2 R3 C HS q0 q1 q2 q3 hbf
          generalize wr.heap.size = B2 at *
          have KB : Hid (∀ w, Cha (fun _ => False) W2 w → w.cell? ⟨B2, 1, none⟩ = some (.slice l1 g.sl.length k1) ∧ w.cell? ⟨B2, 3, none⟩ = some (.slice l3 g.co.length k3)) := Lib.hid fun w c => by
            have e := (c.old _ (Array.getElem?_eq_some_iff.1 A2.out).1 (fun f => f)).trans A2.out
            exact ⟨cell_of_row w _ 1 _ 55 _ e, cell_of_row w _ 3 _ 55 _ e⟩
          have hl3' : g.co.length ≤ 9223372036854775807 := hl3
          obtain ⟨m, hm⟩ : ∃ m, m = g.co.length := ⟨_, rfl⟩
          obtain ⟨ms, hms⟩ : ∃ m, m = g.sl.length := ⟨_, rfl⟩
          rw [← hm] at hm1 hl3' KB R3b IN ⊢
          rw [← hms] at hpa1 KB IN ⊢
          have HM := Lib.hid hm
          clear hm hms hm0 hl3 hpa A2
          go_loopw [100] (fun i wr => ∃ j : Nat, j ≤ m ∧ i = .int .i64 (j : Int) ∧ Cha (fun _ => False) W2 wr) (fun i _ => m - (intOf i).toNat)
          case atStart => exact ⟨0, Nat.zero_le _, rfl, Cha.refl _ _⟩
          case round =>
            obtain ⟨j, hj, rfl, hC⟩ := hrel
            have CJ := Lib.hid hC
            clear hC
            obtain ⟨kb1, kb3⟩ := KB.out _ CJ.out
            by_cases hjlt : j < m
            · obtain ⟨x, hx⟩ : ∃ x, g.co[j]? = some x := ⟨_, List.getElem?_eq_getElem (by have := HM.out; omega)⟩
              obtain ⟨o1, o2, o3, o4, o5⟩ := IN.out x (List.mem_of_getElem? hx)
              obtain ⟨b3, o_3, _, e3, hb3, hbs3, hx3⟩ := (R3b.out.inss (B' := (· < wr.heap.size)) CJ.out (fun _ f => f.elim) (fun _ hi => Nat.lt_of_lt_of_le hi CJ.out.size)).at hx
              injection e3 with e3 e3' e3''
              subst e3
              have c0 := hx3.c0
              have c1 := hx3.c1
              have c2 := hx3.c2
              have c3 := hx3.c3
              have c4 := hx3.c4
              obtain ⟨v5, c5, r5⟩ := hx3.c5
              have hl5 := r5.len
              have R5 := Lib.hid r5
              obtain ⟨l5, k5, rfl, _, _⟩ := r5
              have p1 : ¬ x.op < 1 := by omega
              have p2 : ¬ 52 < x.op := by omega
              have O5 := Lib.hid o5
              have CI2 := Lib.hid ((CJ.out.alloc (.cells #[.int .i64 x.op, .int .i64 x.a, .int .i64 x.b, .int .i64 x.c, .int .u64 (x.imm : Int), .slice l5 x.l.length k5] 52)))
              have HX := Lib.hid ((Cha.refl (fun _ => False) wr).alloc (.cells #[.int .i64 x.op, .int .i64 x.a, .int .i64 x.b, .int .i64 x.c, .int .u64 (x.imm : Int), .slice l5 x.l.length k5] 52))
              have s2 := block_lt_of_cell kb1
              clear hx hx3 e3' e3'' hb3 IN HM
              by_cases h24 : x.op = 24
              · have q1 := o3 h24
                have q2 : ¬ ((m : Int) ≤ x.a) := by omega
                have d1 : (x.op == 24) = true := by simpa using h24
                have d2 : (x.op == 25) = false := by simp; omega
                have d3 : (x.op == 36) = false := by simp; omega
                have d4 : (x.op == 35) = false := by simp; omega
                clear h24 o3 o4 o5
                go_wp2
                go_roundw
                case rel => exact ⟨j + 1, by omega, by go_num, CI2.out⟩
                case measure => simp [intOf]; omega
              · have d1 : (x.op == 24) = false := by simpa using h24
                by_cases h25 : x.op = 25
                · have q1 := o4 h25
                  have q2 : ¬ ((m : Int) ≤ x.b) := by omega
                  have d2 : (x.op == 25) = true := by simpa using h25
                  have d3 : (x.op == 36) = false := by simp; omega
                  have d4 : (x.op == 35) = false := by simp; omega
                  clear h24 h25 o3 o4 o5
                  go_wp2
                  go_roundw
                  case rel => exact ⟨j + 1, by omega, by go_num, CI2.out⟩
                  case measure => simp [intOf]; omega
                · have d2 : (x.op == 25) = false := by simpa using h25
                  by_cases h36 : x.op = 36 ∨ x.op = 35
                  · have o5' := Lib.hid (O5.out h36)
                    rcases h36 with h36 | h36
                    all_goals
                      first
                        | (have d3 : (x.op == 36) = true := by simpa using h36)
                        | (have d3 : (x.op == 36) = false := by simp; omega
                           have d4 : (x.op == 35) = true := by simpa using h36)
                      clear h24 h25 h36 o3 o4 o5 O5
                      go_wp2
                      generalize hW3 : wr.alloc (.cells #[.int .i64 x.op, .int .i64 x.a, .int .i64 x.b, .int .i64 x.c, .int .u64 (x.imm : Int), .slice l5 x.l.length k5] 52) = W3 at *
                      have C23 := Lib.hid (CJ.out.trans HX.out)
                      have R5b := Lib.hid (R5.out.ints (B' := (· < W3.heap.size)) HX.out (fun _ f => f.elim) (fun _ hi => Nat.lt_of_lt_of_le hi HX.out.size))
                      clear hW3 R5 CJ HX c0 c1 c2 c3 c4 c5 kb1 kb3 s2 hbs3
                      go_loopw [149] (fun i wr => ∃ q : Nat, q ≤ x.l.length ∧ i = .int .i64 (q : Int) ∧ Cha (fun _ => False) W3 wr) (fun i _ => x.l.length - (intOf i).toNat)
                      case atStart => exact ⟨0, Nat.zero_le _, rfl, Cha.refl _ _⟩
                      case round =>
                        obtain ⟨q, hq, rfl, hC3⟩ := hrel
                        have CQ := Lib.hid hC3
                        clear hC3
                        obtain ⟨kb1, kb3⟩ := KB.out _ (C23.out.trans CQ.out)
                        by_cases hqlt : q < x.l.length
                        · obtain ⟨y, hy⟩ : ∃ y, x.l[q]? = some y := ⟨_, List.getElem?_eq_getElem hqlt⟩
                          obtain ⟨b5, o_5, _, e5, hb5, hbs5, hy5⟩ := (R5b.out.ints (B' := (· < wr.heap.size)) CQ.out (fun _ f => f.elim) (fun _ hi => Nat.lt_of_lt_of_le hi CQ.out.size)).at hy
                          injection e5 with e5 e5' e5''
                          subst e5
                          have cy := hy5.1
                          rw [Nat.mul_one] at cy
                          obtain ⟨y1, y2⟩ := o5'.out y (List.mem_of_getElem? hy)
                          have y3 : ¬ y < 0 := by omega
                          have y4 : ¬ ((ms : Int) ≤ y) := by omega
                          clear hy hy5 e5' e5'' hb5 hbs5
                          go_wp2
                          go_roundw
                          case rel => exact ⟨q + 1, by omega, by go_num, CQ.out⟩
                          case measure => simp [intOf]; omega
                        · have hql : q = x.l.length := by omega
                          have CJ2 := Lib.hid (C23.out.trans CQ.out)
                          clear hq
                          subst hql
                          go_wp2
                          go_roundw
                          case rel => exact ⟨j + 1, by omega, by go_num, CJ2.out⟩
                          case measure => simp [intOf]; omega
                  · have d3 : (x.op == 36) = false := by simp; omega
                    have d4 : (x.op == 35) = false := by simp; omega
                    clear h24 h25 h36 o3 o4 o5
                    go_wp2
                    go_roundw
                    case rel => exact ⟨j + 1, by omega, by go_num, CI2.out⟩
                    case measure => simp [intOf]; omega
            · obtain rfl : m = j := by omega
              have CC := Lib.hid (C2.out.trans CJ.out)
              go_wp2
              go_roundw
              case rel => exact ⟨k + 1, by omega, by go_num, CC.out⟩
              case measure => simp [intOf]; omega
        · obtain rfl : n2 = k := by omega
          go_wp2
          go_ret
          exact ⟨rfl, C.out⟩
    · have PL' := PL.out hE
      have dne : (ZE != 0) = true := by simpa using hE
      clear PL MR hE
      rcases PL' with ⟨hF, hA1, hA2⟩ | ⟨kk, g, a, hg, hF, hA, ha⟩
      · subst hF
        have hm1 : 0 ≤ ZA := hA1
        obtain ⟨hm2, hm3⟩ : ((n0 : Int) < n1 → ZA ≤ n1) ∧ (¬ (n0 : Int) < n1 → ZA ≤ n0) := by constructor <;> intro <;> omega
        rcases Decidable.em ((n0 : Int) < n1) with hm | hm
        all_goals
          have hm4 := Lib.hid hm
          first | have hm5 := hm2 hm | have hm5 := hm3 hm
          clear hm2 hm3 hA1 hA2
          go_enter Try.func11, Try.ntmps11
          go_wp2_with (first
            | (go_at_call 26; ((with_reducible refine (AW.out _).mono ?_); rintro e w1 ⟨rfl, k1⟩; have C1 := Lib.hid (C0.out.trans k1); have X1 := Lib.hid ((k1.old _ (Array.getElem?_eq_some_iff.1 X0.out).1 (fun f => f)).trans X0.out); clear k1))
            | (go_at_call 27; ((with_reducible refine (CI.out _).mono ?_); rintro e w2 ⟨rfl, rfl⟩; rw [e1]; have b0 := cell_of_row w2 W.heap.size 0 _ 26 (0, 0) X1.out; have b1 := cell_of_row w2 W.heap.size 1 _ 26 (0, 0) X1.out; have b2 := cell_of_row w2 W.heap.size 2 _ 26 (0, 0) X1.out))
            | (go_at_call 24; ((with_reducible refine (CK.out _ C1.out).mono ?_); rintro e w3 ⟨rfl, k3⟩; have C3 := Lib.hid (C1.out.trans k3); have X3 := Lib.hid ((k3.old _ (Array.getElem?_eq_some_iff.1 X1.out).1 (fun f => f)).trans X1.out); clear k3 b0 b1 b2; have b0 := cell_of_row w3 W.heap.size 0 _ 26 (0, 0) X3.out; have b1 := cell_of_row w3 W.heap.size 1 _ 26 (0, 0) X3.out; have b2 := cell_of_row w3 W.heap.size 2 _ 26 (0, 0) X3.out; have s0 := block_lt_of_cell b0)))
          go_ret
          exact ⟨rfl, C3.out.alloc _⟩
      · subst hF hA
        obtain ⟨bf, of_, l1, k1, l2, k2, l3, k3, rfl, hbf, q0, q1, q2, q3, r1, r2, r3⟩ := HP.out.fn hg
        have hl3 := r3.len
        obtain ⟨m, hm⟩ : ∃ m, m = g.co.length := ⟨_, rfl⟩
        rw [← hm] at q3 ha hl3
        have F3 : Hid (∀ w, Cha (fun _ => False) W w → w.cell? ⟨bf, of_ + kk * 4 + 3, none⟩ = some (.slice l3 m k3)) := Lib.hid fun w c => cell_cha (B := fun _ => True) c (fun _ f => f.elim) trivial q3
        have HBF : Hid (∀ w, Cha (fun _ => False) W w → bf < w.heap.size) := Lib.hid fun w c => Nat.lt_of_lt_of_le hbf c.size
        have hk2 : (kk : Int) < (n2 : Int) := by have := (List.getElem?_eq_some_iff.1 hg).1; have := E2.out; omega
        have hk3 : (0 : Int) ≤ (kk : Int) := Int.natCast_nonneg _
        have hk4 : ((kk : Int) == -1) = false := by
          rw [beq_eq_false_iff_ne]; omega
        have ha0 : (0 : Int) ≤ (a : Int) := Int.natCast_nonneg _
        clear q0 q1 q2 q3 r1 r2 r3 hbf hm hg
        by_cases hz : a = 0
        · subst hz
          clear ha
          go_enter Try.func11, Try.ntmps11
          go_wp2_with (first
            | (go_at_call 26; ((with_reducible refine (AW.out _).mono ?_); rintro e w1 ⟨rfl, k1⟩; have C1 := Lib.hid (C0.out.trans k1); have X1 := Lib.hid ((k1.old _ (Array.getElem?_eq_some_iff.1 X0.out).1 (fun f => f)).trans X0.out); clear k1))
            | (go_at_call 27; ((with_reducible refine (CI.out _).mono ?_); rintro e w2 ⟨rfl, rfl⟩; rw [e1]; have b0 := cell_of_row w2 W.heap.size 0 _ 26 (0, 0) X1.out; have b1 := cell_of_row w2 W.heap.size 1 _ 26 (0, 0) X1.out; have b2 := cell_of_row w2 W.heap.size 2 _ 26 (0, 0) X1.out))
            | (go_at_call 24; ((with_reducible refine (CK.out _ C1.out).mono ?_); rintro e w3 ⟨rfl, k3⟩; have C3 := Lib.hid (C1.out.trans k3); have X3 := Lib.hid ((k3.old _ (Array.getElem?_eq_some_iff.1 X1.out).1 (fun f => f)).trans X1.out); clear k3 b0 b1 b2; have b0 := cell_of_row w3 W.heap.size 0 _ 26 (0, 0) X3.out; have b1 := cell_of_row w3 W.heap.size 1 _ 26 (0, 0) X3.out; have b2 := cell_of_row w3 W.heap.size 2 _ 26 (0, 0) X3.out; have s0 := block_lt_of_cell b0; have q3 := F3.out w3 C3.out; have hbf := HBF.out w3 C3.out)))
          go_quiet (fail)
          go_wp2
          go_ret
          exact ⟨rfl, (C3.out.alloc _).drewN _⟩
        · have hz1 : ((a : Int) == 0) = false := by simpa using hz
          have hz2 : (a : Int) < (m : Int) := by omega
          clear ha hz
          go_enter Try.func11, Try.ntmps11
          go_wp2_with (first
            | (go_at_call 26; ((with_reducible refine (AW.out _).mono ?_); rintro e w1 ⟨rfl, k1⟩; have C1 := Lib.hid (C0.out.trans k1); have X1 := Lib.hid ((k1.old _ (Array.getElem?_eq_some_iff.1 X0.out).1 (fun f => f)).trans X0.out); clear k1))
            | (go_at_call 27; ((with_reducible refine (CI.out _).mono ?_); rintro e w2 ⟨rfl, rfl⟩; rw [e1]; have b0 := cell_of_row w2 W.heap.size 0 _ 26 (0, 0) X1.out; have b1 := cell_of_row w2 W.heap.size 1 _ 26 (0, 0) X1.out; have b2 := cell_of_row w2 W.heap.size 2 _ 26 (0, 0) X1.out))
            | (go_at_call 24; ((with_reducible refine (CK.out _ C1.out).mono ?_); rintro e w3 ⟨rfl, k3⟩; have C3 := Lib.hid (C1.out.trans k3); have X3 := Lib.hid ((k3.old _ (Array.getElem?_eq_some_iff.1 X1.out).1 (fun f => f)).trans X1.out); clear k3 b0 b1 b2; have b0 := cell_of_row w3 W.heap.size 0 _ 26 (0, 0) X3.out; have b1 := cell_of_row w3 W.heap.size 1 _ 26 (0, 0) X3.out; have b2 := cell_of_row w3 W.heap.size 2 _ 26 (0, 0) X3.out; have s0 := block_lt_of_cell b0; have q3 := F3.out w3 C3.out; have hbf := HBF.out w3 C3.out)))
          go_quiet (fail)
          go_wp2
          go_ret
          exact ⟨rfl, (C3.out.alloc _).drewN _⟩
end Go.Proofs.Ytpdjbhnpahkbpaa
