/- Check: slices.Concat of two lists of kinds. -/
import Derived.Test.YtpdjbhnpahkbpaaVL
import Derived.Test.YtpdjbhnpahkbpaaAD
import Derived.Lib.AppendZeros
import Derived.Deep.Upon
namespace Go.Proofs.Ytpdjbhnpahkbpaa
set_option linter.unusedVariables false
open Go.ChangeShapes Go.WideShapes Go.ChangeAt Go.RowKit
section
variable {w w' w1 : World} {v : Value} {E N : List Int} {n : Nat}
/-- A list of one's own, made since w. -/
structure KMade (w w' : World) (v : Value) (E : List Int) : Prop where
  own : w'.ownsRow w.heap.size 64 1 v E.length (iz E)
  cha : Cha (fun _ => False) w w'
theorem KMade.keep {w2 : World} (h : KMade w w' v E) (c : Cha (fun _ => False) w' w2) : KMade w w2 v E := ⟨own_but h.own c (fun _ _ f => f), h.cha.trans c⟩
theorem run_kapp (ty : TypeId) (h : KMade w w1 v E) {a : Option Addr} {c : Nat} (k : RdS 1 RdI (· < w1.heap.size) w1 (.slice a n c) N) (hn : n = N.length) (b : E.length + n ≤ 10000) :
    ∃ v' w', (Builtin.append_ #[23, 23] ty #[v, .slice a n c]).run Try.prog w1 = .ok v' w' ∧ KMade w w' v' (E ++ N) := by
  obtain ⟨i0, hi, hz0, hz1, hz2⟩ := info_parts info64_56
  by_cases h0 : N.length = 0
  · have hN : N = [] := List.eq_nil_of_length_eq_zero h0
    subst hN
    obtain rfl : n = 0 := hn
    obtain ⟨s2, c2, rfl⟩ := own_shape h.own
    have hc2 : E.length ≤ c2 := by
      rcases h.own.2 with ⟨e, e0⟩ | ⟨g, cap, cur, e, _, _, q1, _⟩
      · injection e with e1 e2 e3; omega
      · injection e with e1 e2 e3; omega
    refine ⟨.slice s2 E.length c2, w1, ?_, ?_⟩
    · refine run_append_nothing w1 23 23 ty 64 i0 Try.underlying23 hi s2 E.length c2 hc2 _ ?_
      cases a with
      | none => exact Src.ofNil w1 Try.underlying23 c
      | some a => exact ⟨.inl ⟨64, Try.underlying23⟩, fun _ => rfl, run_firstCells_some w1 _ 0 a 0 c [] (by simp) (fun j v hj => by cases hj), run_firstCells_some w1.drew _ 0 a 0 c [] (by simp) (fun j v hj => by cases hj), by simp, fun u hu => by cases hu⟩
    · rw [List.append_nil]
      exact h
  · obtain ⟨a', c', e, hl, r⟩ := k
    obtain ⟨bb, oo, rfl, _, _, hx⟩ := r (by omega)
    injection e with e1 e2 e3
    subst e1
    subst e3
    obtain ⟨v', w', hr, h2, h3, h4⟩ := run_append_where (P := Try.prog) w1 w.heap.size 23 ty 64 i0 (.int .i64 0) 1 8 Try.underlying23 hi hz0 hz1 hz2 rfl (by decide) v E.length (iz E) h.own ⟨bb, oo, none⟩ n c (iz N) (by rw [iz_len, Nat.mul_one, hn]) (fun j u hj => by
        unfold iz at hj
        rw [List.getElem?_map] at hj
        cases hq : N[j]? with
        | none => rw [hq] at hj; cases hj
        | some z =>
          rw [hq] at hj
          cases hj
          have := (hx j z hq).1
          rw [Nat.mul_one] at this
          rw [Addr.add_mid]
          exact this) (fun u hu => by
        obtain ⟨z, _, rfl⟩ := List.mem_map.1 hu
        rfl) (by unfold maxLen; omega) (by omega) h.cha.size
    refine ⟨v', w', hr, ?_, ?_⟩
    · rw [List.length_append, ← hn]
      have ei : iz (E ++ N) = iz E ++ iz N := by unfold iz; simp
      rw [ei]
      exact h2
    · exact h.cha.over (Cha.of_grownBy (S := fun i => v.ownBlock = some i) h3 (fun k e => e)) (fun i e => .inr (h.own.lt i e).1)
theorem growk_none (w : World) : Calls Try.prog 124 #[.slice none 0 0, .int .i64 0] w fun e w' => e = .returned (.slice none 0 0) ∧ w = w' := by
  go_enter Try.func124, Try.ntmps124
  go_wp2
  go_ret
  exact ⟨rfl, rfl⟩
theorem growk_some (w : World) (h0 : 0 < n) (hn : n ≤ 4096) : Calls Try.prog 124 #[.slice none 0 0, .int .i64 (n : Int)] w fun e w' => ∃ v, e = .returned v ∧ KMade w w' v [] := by
  obtain ⟨i0, hi0, hz0, hzs, hzb⟩ := info_parts info64_56
  obtain ⟨G, hG⟩ : ∃ G, G = grownCap w n 0 64 := ⟨_, rfl⟩
  have hGn : n ≤ G := by rw [hG]; exact grownCap_ge w _ _ _
  have hGm : G ≤ maxLen := by rw [hG]; exact grownCap_le_maxLen w n 0 64 (by unfold maxLen; omega)
  have hG63 : G ≤ 9223372036854775807 := by unfold maxLen at hGm; omega
  obtain ⟨R, hR⟩ : ∃ R, R = (Builtin.zeroCells (Value.int .i64 0).cells n ++ Builtin.zeroCells (Value.int .i64 0).cells (G - n)) := ⟨_, rfl⟩
  have hrz : ∀ ty, (Builtin.append_ #[23, 3] ty #[.slice none 0 0, .int .i64 (n : Int)]).run Try.prog w = .ok (.slice (some ⟨w.heap.size, 0, none⟩) n G) (w.drew.alloc (.cells R 64)) := fun ty => by
    have h := Lib.run_append_nil_zeros w 23 3 ty 64 i0 _ .i64 .i64 Try.underlying23 Try.underlying3 hi0 hz0 n h0 (by omega) (by omega) (by rw [hzb]; omega)
    rw [← hG] at h
    rw [hR]
    exact h
  have hs : R.size = G * 1 := by
    rw [hR, Array.size_append, size_zeroCells, size_zeroCells]
    show n * 1 + (G - n) * 1 = G * 1
    omega
  have FIN : Hid (KMade w (w.drew.alloc (.cells R 64)) (.slice (some ⟨w.heap.size, 0, none⟩) 0 G) []) := Lib.hid
    ⟨⟨rfl, .inr ⟨w.heap.size, G, R, rfl, Nat.le_refl _, heap_alloc_new w.drew _, Nat.zero_le _, hGm, hs, by simp [iz]⟩⟩, ((Cha.refl _ w).drew).alloc _⟩
  have k1 : ¬ ((n : Int) < 0) := by omega
  have k2 : (0 : Int) < (n : Int) := by omega
  have k3 : IntKind.i64.wrap (n : Int) = (n : Int) := by rw [IntKind.wrap_i64]; omega
  clear hR hs hG hGm
  go_enter Try.func124, Try.ntmps124
  go_wp2_with (at_builtin; refine Lib.wpList_append_run _ rfl _ _ _ _ rfl _ _ rfl rfl _ _ (hrz _) ?_)
  go_ret
  exact ⟨_, rfl, FIN.out⟩
theorem growk_any (w : World) (hn : n ≤ 4096) : Calls Try.prog 124 #[.slice none 0 0, .int .i64 (n : Int)] w fun e w' => ∃ v, e = .returned v ∧ KMade w w' v [] := by
  by_cases h0 : n = 0
  · subst h0
    exact (growk_none w).mono fun e w' ⟨a, b⟩ => ⟨_, a, b ▸ ⟨World.ownsRow_nil _ _ _ _, Cha.refl _ _⟩⟩
  · exact growk_some w (by omega) hn
/-- The first j of two lists, one behind the other. -/
def joinK (L1 L2 : List Int) (j : Nat) : List Int := if j = 0 then [] else if j = 1 then L1 else L1 ++ L2
set_option maxHeartbeats 1000000 in
theorem concatk_any {gs : Nat} {t : TypeId} {s1 s2 : Option Addr} {n1 n2 c1 c2 : Nat} {L1 L2 : List Int} (h1 : RdS 1 RdI (· < w.heap.size) w (.slice s1 n1 c1) L1) (e1 : n1 = L1.length) (h2 : RdS 1 RdI (· < w.heap.size) w (.slice s2 n2 c2) L2) (e2 : n2 = L2.length) (hg : w.heap[gs]? = some (.cells #[.slice s1 n1 c1, .slice s2 n2 c2] t (0, 0))) (hl : n1 + n2 ≤ 4096) :
    Calls Try.prog 116 #[.slice (some ⟨gs, 0, none⟩) 2 2] w fun e w' => ∃ v, e = .returned v ∧ KMade w w' v (L1 ++ L2) := by
  have HG : Hid (∀ W, Cha (fun _ => False) w W → W.cell? ⟨gs, 0, none⟩ = some (.slice s1 n1 c1) ∧ W.cell? ⟨gs, 1, none⟩ = some (.slice s2 n2 c2)) := Lib.hid fun W c => by
    have e := (c.old gs (Array.getElem?_eq_some_iff.1 hg).1 (fun f => f)).trans hg
    exact ⟨cell_of_row W gs 0 _ t (0, 0) e, cell_of_row W gs 1 _ t (0, 0) e⟩
  have H1 : Hid (∀ W, Cha (fun _ => False) w W → RdS 1 RdI (· < W.heap.size) W (.slice s1 n1 c1) L1) := Lib.hid fun W c => h1.ints c (fun _ f => f.elim) fun _ h => Nat.lt_of_lt_of_le h c.size
  have H2 : Hid (∀ W, Cha (fun _ => False) w W → RdS 1 RdI (· < W.heap.size) W (.slice s2 n2 c2) L2) := Lib.hid fun W c => h2.ints c (fun _ f => f.elim) fun _ h => Nat.lt_of_lt_of_le h c.size
  have HL := Lib.hid hl
  have HN1 := Lib.hid e1
  have HN2 := Lib.hid e2
  clear h1 h2 hg hl e1 e2
  obtain ⟨g0, g1⟩ := HG.out w (Cha.refl _ _)
  go_enter Try.func116, Try.ntmps116
  go_wp2
  go_loopw [3, 11] (fun m i wr => ∃ j k : Nat, j ≤ 2 ∧ i = .int .i64 (j : Int) ∧ m = .int .i64 (k : Int) ∧ (j = 0 → k = 0) ∧ (j = 1 → k = n1) ∧ (j = 2 → k = n1 + n2) ∧ w = wr) (fun _ i _ => 2 - (intOf i).toNat)
  case atStart => exact ⟨0, 0, by omega, rfl, rfl, fun _ => rfl, by omega, by omega, rfl⟩
  case round =>
    obtain ⟨j, k, hj, rfl, rfl, e0, e1, e2, rfl⟩ := hrel
    by_cases hj0 : j = 0
    · obtain rfl := hj0
      obtain rfl := e0 rfl
      have hb := HL.out
      have k1 : ¬ ((n1 : Int) < 0) := by omega
      have k2 : IntKind.i64.wrap (n1 : Int) = (n1 : Int) := by rw [IntKind.wrap_i64]; omega
      clear e0 e1 e2
      go_wp2
      go_roundw
      case rel => exact ⟨1, n1, by omega, rfl, by go_num, by omega, by omega, by omega, by first | rfl | trivial⟩
      case measure => simp [intOf]
    · by_cases hj1 : j = 1
      · obtain rfl := hj1
        obtain rfl := e1 rfl
        have hb := HL.out
        have k1 : ¬ ((k : Int) + (n2 : Int) < 0) := by omega
        have k2 : IntKind.i64.wrap ((k : Int) + (n2 : Int)) = (k : Int) + (n2 : Int) := by rw [IntKind.wrap_i64]; omega
        clear e0 e1 e2
        go_wp2
        go_roundw
        case rel => exact ⟨2, k + n2, by omega, rfl, by go_num, by omega, by omega, by omega, by first | rfl | trivial⟩
        case measure => simp [intOf]
      · obtain rfl : j = 2 := by omega
        have hk := e2 rfl
        have HK := Lib.hid hk
        clear hk
        have C := Lib.hid (growk_any (n := k) w (by have := HL.out; have := HK.out; omega))
        clear e0 e1 e2
        go_wp2_with (go_at_call 124; ((with_reducible refine (C.out).mono ?_); rintro e w1 ⟨v, rfl, h⟩; have HM := Lib.hid h; clear h))
        clear g0 g1
        go_loopw [6, 27] (fun m i wr => ∃ j : Nat, j ≤ 2 ∧ i = .int .i64 (j : Int) ∧ KMade w wr m (joinK L1 L2 j)) (fun _ i _ => 2 - (intOf i).toNat)
        case atStart => exact ⟨0, by omega, rfl, HM.out⟩
        case round =>
          clear HM
          obtain ⟨j, hj, rfl, hM2⟩ := hrel
          have HM2 := Lib.hid hM2
          clear hM2
          by_cases hj0 : j = 0
          · obtain rfl := hj0
            have hM := HM2.out
            obtain ⟨sv, cv, rfl⟩ := own_shape hM.own
            obtain ⟨v3, w3, hr, hA⟩ := run_kapp 23 hM (H1.out wr hM.cha) HN1.out (by have := HL.out; show 0 + n1 ≤ _; omega)
            have HF : Hid (KMade w w3 v3 (joinK L1 L2 1)) := Lib.hid hA
            obtain ⟨g0, g1⟩ := HG.out wr hM.cha
            clear hM hA HM2
            go_wp2_with (at_builtin; refine Lib.wpList_append_run _ rfl _ _ _ _ rfl _ _ rfl rfl _ _ hr ?_)
            go_roundw
            case rel => exact ⟨1, by omega, rfl, HF.out⟩
            case measure => simp [intOf]
          · by_cases hj1 : j = 1
            · obtain rfl := hj1
              have hM := HM2.out
              obtain ⟨sv, cv, rfl⟩ := own_shape hM.own
              obtain ⟨v3, w3, hr, hA⟩ := run_kapp 23 hM (H2.out wr hM.cha) HN2.out (by have := HL.out; have := HN1.out; show L1.length + n2 ≤ _; omega)
              have HF : Hid (KMade w w3 v3 (joinK L1 L2 2)) := Lib.hid hA
              obtain ⟨g0, g1⟩ := HG.out wr hM.cha
              clear hM hA HM2
              go_wp2_with (at_builtin; refine Lib.wpList_append_run _ rfl _ _ _ _ rfl _ _ rfl rfl _ _ hr ?_)
              go_roundw
              case rel => exact ⟨2, by omega, rfl, HF.out⟩
              case measure => simp [intOf]
            · obtain rfl : j = 2 := by omega
              have HF : Hid (KMade w wr _ (L1 ++ L2)) := Lib.hid HM2.out
              go_wp2
              go_ret
              exact ⟨_, rfl, HF.out⟩
end
end Go.Proofs.Ytpdjbhnpahkbpaa

namespace Go.Proofs.Ytpdjbhnpahkbpaa
set_option linter.unusedVariables false
open Go.ChangeShapes Go.WideShapes Go.ChangeAt Go.RowKit
section
variable {W w w' : World} {x : SV} {p : PZ} {f : FZ} {i : IZ}
/-- The slots of each function of a list have room enough. -/
def Caps (W : World) (a : Option Addr) (n : Nat) : Prop := ∀ b o, a = some ⟨b, o, none⟩ → ∀ k, k < n → b < W.heap.size ∧ ∀ a' n' c', W.cell? ⟨b, o + k * 4 + 1, none⟩ = some (.slice a' n' c') → n' ≤ c'
theorem Caps.cha {a : Option Addr} {n : Nat} (h : Caps W a n) (c : Cha (fun _ => False) W w) : Caps w a n := fun b o e k hk => by
  obtain ⟨h1, h2⟩ := h b o e k hk
  refine ⟨Nat.lt_of_lt_of_le h1 c.size, fun a' n' c' hc => h2 a' n' c' ?_⟩
  rw [← hc]
  exact (World.cell?_of_block (a := ⟨b, o + k * 4 + 1, none⟩) (c.old b h1 (fun f => f))).symm
def calledE (fu : List FZ) (a : Int) : Int := if 0 ≤ a ∧ a < fu.length then 0 else 13
/-- What a call leaves that answers a function and an error. -/
def SaysFn (W : World) (fu : List FZ) (a E : Int) : Ending → World → Prop := fun r w' =>
  ∃ pa s1 n1 c1 s2 n2 c2 s3 n3 c3, r = .returned (.tuple #[.agg #[.int .i64 pa, .slice s1 n1 c1, .slice s2 n2 c2, .slice s3 n3 c3], .int .i64 E]) ∧ Cha (fun _ => False) W w' ∧
    (E = 0 → pa = (fnZ fu a).pa ∧ n1 = (fnZ fu a).sl.length ∧ n1 ≤ c1 ∧ RdS 1 RdI (· < w'.heap.size) w' (.slice s1 n1 c1) (fnZ fu a).sl ∧ n2 = (fnZ fu a).re.length ∧ RdS 1 RdI (· < w'.heap.size) w' (.slice s2 n2 c2) (fnZ fu a).re)
set_option maxRecDepth 100000 in
set_option maxHeartbeats 1000000 in
theorem called_any (h : Sit W x p f i) (hc : Caps W x.aF x.nF) : Calls Try.prog 115 #[x.v f i] W (SaysFn W p.fu i.a (calledE p.fu i.a)) := by
  have HF := Lib.hid h.fu
  have HC := Lib.hid hc
  have hn := h.eF
  have hl := h.fu.len
  rw [← hn] at hl
  have HN := Lib.hid hn
  have ka := h.ka
  obtain ⟨E, hE⟩ : ∃ E, E = calledE p.fu i.a := ⟨_, rfl⟩
  have E1 : Hid (¬ (0 ≤ i.a ∧ i.a < x.nF) → E = 13) := Lib.hid fun e => by rw [hE]; exact if_neg (by rw [← hn]; exact e)
  have E2 : Hid ((0 ≤ i.a ∧ i.a < x.nF) → E = 0) := Lib.hid fun e => by rw [hE]; exact if_pos (by rw [← hn]; exact e)
  rw [← hE]
  clear h hc hn hE
  obtain ⟨aT, nT, cT, aG, nG, cG, aF, nF, cF, aS, nS, cS, aR, nR, cR, aC, nC, cC, aL, nL, cL⟩ := x
  obtain ⟨pa, sl, re, co⟩ := f
  obtain ⟨op, a, b, c, im, li⟩ := i
  dsimp only [SV.v] at *
  have CB : Hid (Cha (fun _ => False) W ((W.alloc (.cells #[.slice aT nT cT, .slice aG nG cG, .slice aF nF cF, .int .i64 pa, .slice aS nS cS, .slice aR nR cR, .slice aC nC cC, .int .i64 op, .int .i64 a, .int .i64 b, .int .i64 c, .int .u64 (im : Int), .slice aL nL cL] 92)).alloc (.cells #[.int .i64 0, .slice none 0 0, .slice none 0 0, .slice none 0 0] 55))) := Lib.hid (((Cha.refl _ W).alloc _).alloc _)
  have R0 := (res_keep (Cha.refl (fun _ => False) ((W.alloc (.cells #[.slice aT nT cT, .slice aG nG cG, .slice aF nF cF, .int .i64 pa, .slice aS nS cS, .slice aR nR cR, .slice aC nC cC, .int .i64 op, .int .i64 a, .int .i64 b, .int .i64 c, .int .u64 (im : Int), .slice aL nL cL] 92)).alloc (.cells #[.int .i64 0, .slice none 0 0, .slice none 0 0, .slice none 0 0] 55)))).1
  have RF := (res_keep (Cha.refl (fun _ => False) ((W.alloc (.cells #[.slice aT nT cT, .slice aG nG cG, .slice aF nF cF, .int .i64 pa, .slice aS nS cS, .slice aR nR cR, .slice aC nC cC, .int .i64 op, .int .i64 a, .int .i64 b, .int .i64 c, .int .u64 (im : Int), .slice aL nL cL] 92)).alloc (.cells #[.int .i64 0, .slice none 0 0, .slice none 0 0, .slice none 0 0] 55)))).2
  have y0 := R0 0
  have y1 := R0 1
  have y2 := R0 2
  have y3 := R0 3
  simp only [List.getElem?_toArray, List.getElem?_cons_zero, List.getElem?_cons_succ] at y0 y1 y2 y3
  clear R0 RF
  by_cases h0 : a < 0
  · have e := Lib.hid (E1.out (by omega))
    clear E1 E2
    go_enter Try.func115, Try.ntmps115
    go_wp2
    refine bodyPost_ret (v := .tuple #[.agg #[.int .i64 0, .slice none 0 0, .slice none 0 0, .slice none 0 0], .int .i64 13]) (by simp [results, Try.results115, go_sem, y0, y1, y2, y3]) rfl ?_
    unfold SaysFn
    exact ⟨_, _, _, _, _, _, _, _, _, _, by rw [e.out], CB.out, fun e2 => by rw [e.out] at e2; cases e2⟩
  · by_cases h1 : (nF : Int) ≤ a
    · have e := Lib.hid (E1.out (by omega))
      clear E1 E2
      go_enter Try.func115, Try.ntmps115
      go_wp2
      refine bodyPost_ret (v := .tuple #[.agg #[.int .i64 0, .slice none 0 0, .slice none 0 0, .slice none 0 0], .int .i64 13]) (by simp [results, Try.results115, go_sem, y0, y1, y2, y3]) rfl ?_
      unfold SaysFn
      exact ⟨_, _, _, _, _, _, _, _, _, _, by rw [e.out], CB.out, fun e2 => by rw [e.out] at e2; cases e2⟩
    · have e := Lib.hid (E2.out (by omega))
      obtain ⟨k, rfl⟩ : ∃ k : Nat, a = (k : Int) := ⟨a.toNat, by omega⟩
      have hlt : k < nF := by omega
      obtain ⟨g, hg⟩ : ∃ g, p.fu[k]? = some g := ⟨_, List.getElem?_eq_getElem (by have := HN.out; omega)⟩
      have hfn : fnZ p.fu (k : Int) = g := by unfold fnZ; rw [Int.toNat_natCast, hg]; rfl
      have HF1 : Hid ((fnZ p.fu (k : Int)).sl = g.sl) := Lib.hid (by rw [hfn])
      have HF2 : Hid ((fnZ p.fu (k : Int)).re = g.re) := Lib.hid (by rw [hfn])
      have HF3 : Hid ((fnZ p.fu (k : Int)).pa = g.pa) := Lib.hid (by rw [hfn])
      obtain ⟨bf, of_, _, he, hb0, hbs, hx⟩ := HF.out.at hg
      obtain rfl : aF = some ⟨bf, of_, none⟩ := by injection he
      have q0 := cell_cha (B := fun _ => True) CB.out (fun _ f => f.elim) trivial hx.c0
      obtain ⟨l1, q1, r1⟩ := hx.c1
      obtain ⟨l2, q2, r2⟩ := hx.c2
      obtain ⟨l3, q3, r3⟩ := hx.c3
      have R1 := Lib.hid r1
      have R2 := Lib.hid r2
      obtain ⟨s1, c1, rfl, _⟩ := r1
      obtain ⟨s2, c2, rfl, _⟩ := r2
      obtain ⟨s3, c3, rfl, _⟩ := r3
      have hcap : Hid (g.sl.length ≤ c1) := Lib.hid ((HC.out bf of_ rfl k hlt).2 _ _ _ q1)
      have q1 := cell_cha (B := fun _ => True) CB.out (fun _ f => f.elim) trivial q1
      have q2 := cell_cha (B := fun _ => True) CB.out (fun _ f => f.elim) trivial q2
      have q3 := cell_cha (B := fun _ => True) CB.out (fun _ f => f.elim) trivial q3
      have Z0 := (res_keep (Cha.refl (fun _ => False) ((W.alloc (.cells #[.slice aT nT cT, .slice aG nG cG, .slice (some ⟨bf, of_, none⟩) nF cF, .int .i64 pa, .slice aS nS cS, .slice aR nR cR, .slice aC nC cC, .int .i64 op, .int .i64 (k : Int), .int .i64 b, .int .i64 c, .int .u64 (im : Int), .slice aL nL cL] 92)).alloc (.cells #[.int .i64 g.pa, .slice s1 g.sl.length c1, .slice s2 g.re.length c2, .slice s3 g.co.length c3] 55)))).1
      have z0 := Z0 0
      have z1 := Z0 1
      have z2 := Z0 2
      have z3 := Z0 3
      simp only [List.getElem?_toArray, List.getElem?_cons_zero, List.getElem?_cons_succ] at z0 z1 z2 z3
      clear E1 E2 he hx hg hfn Z0 h0 h1 hb0
      generalize g.sl = L1 at *
      generalize g.re = L2 at *
      generalize g.co.length = n3 at *
      generalize g.pa = gp at *
      go_enter Try.func115, Try.ntmps115
      go_wp2
      refine bodyPost_ret (v := .tuple #[.agg #[.int .i64 gp, .slice s1 L1.length c1, .slice s2 L2.length c2, .slice s3 n3 c3], .int .i64 0]) (by simp [results, Try.results115, go_sem, z0, z1, z2, z3]) rfl ?_
      unfold SaysFn
      rw [HF1.out, HF2.out, HF3.out]
      have CF := ((Cha.refl (fun _ => False) W).alloc (.cells #[.slice aT nT cT, .slice aG nG cG, .slice (some ⟨bf, of_, none⟩) nF cF, .int .i64 pa, .slice aS nS cS, .slice aR nR cR, .slice aC nC cC, .int .i64 op, .int .i64 (k : Int), .int .i64 b, .int .i64 c, .int .u64 (im : Int), .slice aL nL cL] 92)).alloc (.cells #[.int .i64 gp, .slice s1 L1.length c1, .slice s2 L2.length c2, .slice s3 n3 c3] 55)
      exact ⟨_, _, _, _, _, _, _, _, _, _, by rw [e.out], CF, fun _ => ⟨rfl, rfl, hcap.out, R1.out.ints CF (fun _ f => f.elim) (fun _ h => Nat.lt_of_lt_of_le h CF.size), rfl, R2.out.ints CF (fun _ f => f.elim) (fun _ h => Nat.lt_of_lt_of_le h CF.size)⟩⟩
end
end Go.Proofs.Ytpdjbhnpahkbpaa

namespace Go.Proofs.Ytpdjbhnpahkbpaa
set_option linter.unusedVariables false
open Go.ChangeShapes Go.WideShapes Go.ChangeAt Go.RowKit
section
variable {W w w' : World} {x : SV} {p : PZ} {f : FZ} {i : IZ}
set_option maxRecDepth 100000 in
theorem take_kinds {B : Nat → Prop} {a : Option Addr} {n c : Nat} {L : List Int} (h : RdS 1 RdI B W (.slice a n c) L) (hn : n = L.length) (hc : n ≤ c) (k : Nat) (hk : k ≤ n) :
    ∃ a', (∀ w, (Instr.slice 23 (.slice a n c) none (some (.int .i64 (k : Int))) none).run Try.prog w = .ok (.slice a' k c) w) ∧ RdS 1 RdI B W (.slice a' k c) (L.take k) := by
  refine ⟨if c = 0 then a else a.map (·.add 0), fun w => ?_, ?_⟩
  · have e := run_slice_h (P := Try.prog) w 23 a n c Try.underlying23 .i64 (k : Int) (by omega) (by omega)
    rw [e]
    rfl
  · obtain ⟨a', c', e, hl, r⟩ := h
    injection e with e1 e2 e3
    subst e1
    subst e3
    refine ⟨_, _, by rw [List.length_take, ← hn, Nat.min_eq_left hk], by rw [List.length_take]; omega, fun h0 => ?_⟩
    rw [List.length_take] at h0
    obtain ⟨b, o, rfl, hb, hbs, hx⟩ := r (by omega)
    refine ⟨b, o, by rw [if_neg (by omega)]; simp [Addr.add], hb, hbs, fun j y hj => hx j y ?_⟩
    rw [List.getElem?_take] at hj
    split at hj
    · exact hj
    · cases hj
theorem own_rds {w0 : World} {a : Option Addr} {n c : Nat} {L : List Int} (h : KMade w0 w (.slice a n c) L) (hi : ∀ z ∈ L, I64 z) (hl : L.length ≤ 10000) : RdS 1 RdI (· < w.heap.size) w (.slice a n c) L ∧ n = L.length := by
  have hn : n = L.length := by
    rcases h.own.2 with ⟨e, h0⟩ | ⟨g, cap, cur, e, _⟩
    · injection e with _ e2 _
      have hz := iz_len L
      rw [h0] at hz
      simp at hz
      omega
    · injection e with _ e2 _
  obtain ⟨a', c', e, h1, r⟩ := own_ints h.own hi (by omega) rfl
  refine ⟨⟨a', c', e, h1, fun h0 => ?_⟩, hn⟩
  obtain ⟨b, o, e2, _, hbs, hx⟩ := r h0
  exact ⟨b, o, e2, hbs, hbs, hx⟩
/-- A function whose numbers are right. -/
structure GoodFn (f : FZ) : Prop where
  p0 : 0 ≤ f.pa
  p1 : f.pa ≤ f.sl.length
  s32 : f.sl.length ≤ 32
  r32 : f.re.length ≤ 32
theorem fnZ_mem {fu : List FZ} {a : Int} (h : calledE fu a = 0) : fnZ fu a ∈ fu := by
  unfold calledE at h
  by_cases c : 0 ≤ a ∧ a < fu.length
  · unfold fnZ
    rw [List.getElem?_eq_getElem (by omega)]
    exact List.getElem_mem _
  · rw [if_neg c] at h; cases h
set_option maxRecDepth 100000 in
set_option maxHeartbeats 1000000 in
theorem call_any (h : Sit W x p f i) (hc : Caps W x.aF x.nF) (hf : ∀ g ∈ p.fu, GoodFn g) : Calls Try.prog 95 #[x.v f i] W (Says W (.int .i64 (callZ p.fu f.sl i.l i.a))) := by
  have CF : Hid (∀ w, Cha (fun _ => False) W w → Calls Try.prog 115 #[x.v f i] w (SaysFn w p.fu i.a (calledE p.fu i.a))) := Lib.hid fun w c => called_any (h.cha c) (hc.cha c)
  have CL : Hid (∀ w a n c L, Cha (fun _ => False) W w → RdS 1 RdI (· < w.heap.size) w (.slice a n c) L → n = L.length → n ≤ 1000 → Calls Try.prog 96 #[x.v f i, .slice a n c] w (Says w (.int .i64 (listZ f.sl i.l L)))) := Lib.hid fun w a n c L hc hk hn hm => list_any (h.cha hc) hk hn hm
  obtain ⟨R, hR⟩ : ∃ R, R = callZ p.fu f.sl i.l i.a := ⟨_, rfl⟩
  obtain ⟨E, hE⟩ : ∃ E, E = calledE p.fu i.a := ⟨_, rfl⟩
  obtain ⟨G, hG⟩ : ∃ G, G = fnZ p.fu i.a := ⟨_, rfl⟩
  have hb : ∀ c : E ≠ 0, ¬ (0 ≤ i.a ∧ i.a < p.fu.length) := fun c d => c (by rw [hE]; exact if_pos d)
  have hb0 : ∀ c : E = 0, (0 ≤ i.a ∧ i.a < p.fu.length) := fun c => by
    by_cases d : 0 ≤ i.a ∧ i.a < p.fu.length
    · exact d
    · rw [hE] at c; unfold calledE at c; rw [if_neg d] at c; cases c
  have E1 : Hid (E ≠ 0 → R = E) := Lib.hid fun e => by rw [hR, hE]; unfold callZ calledE; rw [if_neg (hb e), if_neg (hb e)]
  have E2 : Hid (E = 0 → ∀ k : Nat, G.pa = (k : Int) → R = listZ f.sl i.l (G.sl.take k ++ G.re)) := Lib.hid fun e k hk => by rw [hR]; unfold callZ; rw [if_pos (hb0 e), ← hG, hk, Int.toNat_natCast]
  have GG : Hid (E = 0 → GoodFn G) := Lib.hid fun e => hf _ (by rw [hG]; exact fnZ_mem (by rw [← hE]; exact e))
  unfold SaysFn at CF
  rw [← hR]
  rw [← hE, ← hG] at CF
  clear h hc hR hE hG hb hb0
  obtain ⟨aT, nT, cT, aG, nG, cG, aF, nF, cF, aS, nS, cS, aR, nR, cR, aC, nC, cC, aL, nL, cL⟩ := x
  obtain ⟨pa, sl, re, co⟩ := f
  obtain ⟨op, a, b, c, im, li⟩ := i
  dsimp only [SV.v] at *
  by_cases h0 : E = 0
  · subst h0
    obtain ⟨g1, g2, g3, g4⟩ := GG.out rfl
    obtain ⟨gpa, gsl, gre, gco⟩ := G
    dsimp only at *
    obtain ⟨k, rfl⟩ : ∃ k : Nat, gpa = (k : Int) := ⟨gpa.toNat, by omega⟩
    obtain ⟨L, hL⟩ : ∃ L, L = gsl.take k ++ gre := ⟨_, rfl⟩
    obtain ⟨m, hm⟩ : ∃ m, m = L.length := ⟨_, rfl⟩
    have e : Hid (R = listZ sl li L) := Lib.hid (by rw [hL]; exact E2.out rfl k rfl)
    have hkl : k ≤ gsl.length := by omega
    have hlt : (gsl.take k ++ gre).length ≤ 64 := by rw [List.length_append, List.length_take]; omega
    have HLT : Hid (L.length ≤ 10000) := Lib.hid (by rw [hL]; omega)
    have HL1 : Hid (m ≤ 1000) := Lib.hid (by rw [hm, hL]; omega)
    have HL := Lib.hid hL
    have HM := Lib.hid hm
    clear hL hm
    have H44 : Hid (k + gre.length ≤ 64) := Lib.hid (by omega)
    have HKL : Hid ((gsl.take k).length = k) := Lib.hid (by rw [List.length_take]; omega)
    clear E1 E2 GG hlt
    go_enter Try.func95, Try.ntmps95
    go_wp2_with (go_at_call 115; ((with_reducible refine (CF.out _ cha_box).mono ?_); rintro e w1 ⟨pa', s1, n1, c1, s2, n2, c2, s3, n3, c3, rfl, k1, k2⟩; have C1 := Lib.hid (Cha.trans cha_box k1); have KK := Lib.hid k1; obtain ⟨b0, b1, b2, b3, b4, b5, b6, b7, b8, b9, b10, b11, b12⟩ := site_keep k1; have s0 := block_lt_of_cell b0; obtain ⟨rfl, rfl, hcap, r1, rfl, r2⟩ := k2 rfl; obtain ⟨s4, hsl, r4⟩ := take_kinds r1 rfl hcap k hkl; have R1 := Lib.hid r1; have R2 := Lib.hid r2; have R4 := Lib.hid r4; clear r1 r2 r4; clear k1 k2))
    have hA := (Cha.refl (fun _ => False) w1).alloc (.cells #[.int .i64 (k : Int), .slice s1 gsl.length c1, .slice s2 gre.length c2, .slice s3 n3 c3] 55)
    have HI64 : Hid (∀ z ∈ L, I64 z) := Lib.hid fun z hz => by
      rw [HL.out] at hz
      rcases List.mem_append.1 hz with hz | hz
      · exact R4.out.i64s z hz
      · exact R2.out.i64s z hz
    have c5 : Cha (fun _ => False) w1 (((w1.alloc (.cells #[.int .i64 (k : Int), .slice s1 gsl.length c1, .slice s2 gre.length c2, .slice s3 n3 c3] 55)).alloc (.cells #[.slice s4 k c1, .slice s2 gre.length c2] 23)).drew) := (((Cha.refl _ _).alloc _).alloc _).drew
    have hge : (((w1.alloc (.cells #[.int .i64 (k : Int), .slice s1 gsl.length c1, .slice s2 gre.length c2, .slice s3 n3 c3] 55)).alloc (.cells #[.slice s4 k c1, .slice s2 gre.length c2] 23)).drew).heap[w1.heap.size + 1]? = some (.cells #[.slice s4 k c1, .slice s2 gre.length c2] 23 (0, 0)) := by
      rw [show w1.heap.size + 1 = (w1.alloc (.cells #[.int .i64 (k : Int), .slice s1 gsl.length c1, .slice s2 gre.length c2, .slice s3 n3 c3] 55)).heap.size from (World.size_alloc ..).symm]
      exact heap_alloc_new (w1.alloc (.cells #[.int .i64 (k : Int), .slice s1 gsl.length c1, .slice s2 gre.length c2, .slice s3 n3 c3] 55)) _
    have CC : Hid (Calls Try.prog 116 #[.slice (some ⟨w1.heap.size + 1, 0, none⟩) 2 2] (((w1.alloc (.cells #[.int .i64 (k : Int), .slice s1 gsl.length c1, .slice s2 gre.length c2, .slice s3 n3 c3] 55)).alloc (.cells #[.slice s4 k c1, .slice s2 gre.length c2] 23)).drew) fun e w' => ∃ a c, e = .returned (.slice a m c) ∧ RdS 1 RdI (· < w'.heap.size) w' (.slice a m c) L ∧ Cha (fun _ => False) (((w1.alloc (.cells #[.int .i64 (k : Int), .slice s1 gsl.length c1, .slice s2 gre.length c2, .slice s3 n3 c3] 55)).alloc (.cells #[.slice s4 k c1, .slice s2 gre.length c2] 23)).drew) w') := Lib.hid
      ((concatk_any (R4.out.ints c5 (fun _ f => f.elim) fun _ h => Nat.lt_of_lt_of_le h c5.size) HKL.out.symm (R2.out.ints c5 (fun _ f => f.elim) fun _ h => Nat.lt_of_lt_of_le h c5.size) rfl hge (by have := H44.out; omega)).mono fun e w' ⟨v, e1, hM⟩ => by
        rw [← HL.out] at hM
        obtain ⟨a5, c5, rfl⟩ := own_shape hM.own
        rw [← HM.out] at e1 hM
        exact ⟨a5, c5, e1, (own_rds hM HI64.out HLT.out).1, hM.cha⟩)
    have H5 : Hid (Cha (fun _ => False) w1 (((w1.alloc (.cells #[.int .i64 (k : Int), .slice s1 gsl.length c1, .slice s2 gre.length c2, .slice s3 n3 c3] 55)).alloc (.cells #[.slice s4 k c1, .slice s2 gre.length c2] 23)).drew)) := Lib.hid c5
    have H5b : Hid (Cha (fun _ => False) (w1.alloc (.cells #[.int .i64 (k : Int), .slice s1 gsl.length c1, .slice s2 gre.length c2, .slice s3 n3 c3] 55)) (((w1.alloc (.cells #[.int .i64 (k : Int), .slice s1 gsl.length c1, .slice s2 gre.length c2, .slice s3 n3 c3] 55)).alloc (.cells #[.slice s4 k c1, .slice s2 gre.length c2] 23)).drew)) := Lib.hid (((Cha.refl _ _).alloc _).drew)
    clear c5 hge
    have r0 := box_keep (Cha.refl (fun _ => False) (w1.alloc (.cells #[.int .i64 (k : Int), .slice s1 gsl.length c1, .slice s2 gre.length c2, .slice s3 n3 c3] 55))) 0
    have r1 := box_keep (Cha.refl (fun _ => False) (w1.alloc (.cells #[.int .i64 (k : Int), .slice s1 gsl.length c1, .slice s2 gre.length c2, .slice s3 n3 c3] 55))) 1
    have r2 := box_keep (Cha.refl (fun _ => False) (w1.alloc (.cells #[.int .i64 (k : Int), .slice s1 gsl.length c1, .slice s2 gre.length c2, .slice s3 n3 c3] 55))) 2
    simp only [List.getElem?_toArray, List.getElem?_cons_zero, List.getElem?_cons_succ] at r0 r1 r2
    obtain ⟨a0, a1, a2, a3, a4, a5, a6, a7, a8, a9, a10, a11, a12⟩ := site_keep (KK.out.trans hA)
    go_region_held3 (fun w' => w'.cell? ⟨w1.heap.size, 0, none⟩ = some (.int .i64 (k : Int)) ∧ w'.cell? ⟨w1.heap.size, 1, none⟩ = some (.slice s1 gsl.length c1) ∧ w'.cell? ⟨w1.heap.size, 2, none⟩ = some (.slice s2 gre.length c2) ∧ w'.cell? ⟨W.heap.size, 0, none⟩ = some (.slice aT nT cT) ∧ w'.cell? ⟨W.heap.size, 1, none⟩ = some (.slice aG nG cG) ∧ w'.cell? ⟨W.heap.size, 2, none⟩ = some (.slice aF nF cF) ∧ w'.cell? ⟨W.heap.size, 3, none⟩ = some (.int .i64 pa) ∧ w'.cell? ⟨W.heap.size, 4, none⟩ = some (.slice aS nS cS) ∧ w'.cell? ⟨W.heap.size, 5, none⟩ = some (.slice aR nR cR) ∧ w'.cell? ⟨W.heap.size, 6, none⟩ = some (.slice aC nC cC) ∧ w'.cell? ⟨W.heap.size, 7, none⟩ = some (.int .i64 op) ∧ w'.cell? ⟨W.heap.size, 8, none⟩ = some (.int .i64 a) ∧ w'.cell? ⟨W.heap.size, 9, none⟩ = some (.int .i64 b) ∧ w'.cell? ⟨W.heap.size, 10, none⟩ = some (.int .i64 c) ∧ w'.cell? ⟨W.heap.size, 11, none⟩ = some (.int .u64 (im : Int)) ∧ w'.cell? ⟨W.heap.size, 12, none⟩ = some (.slice aL nL cL))
      (first
        | exact ⟨r0, r1, r2, a0, a1, a2, a3, a4, a5, a6, a7, a8, a9, a10, a11, a12⟩
        | exact ⟨t0, t1, t2, d0, d1, d2, d3, d4, d5, d6, d7, d8, d9, d10, d11, d12⟩
        | exact ⟨u0, u1, u2, e0, e1, e2, e3, e4, e5, e6, e7, e8, e9, e10, e11, e12⟩
        | go_keep)
      (first
        | (go_at_call 116; (with_reducible refine (CC.out).mono ?_); rintro e w5 ⟨a5, c5, rfl, hM, hMc⟩; have M5 := Lib.hid hM; have hE := H5.out.trans hMc; have C5 := Lib.hid (C1.out.trans hE); have hF := H5b.out.trans hMc; have HF5 := Lib.hid hF; have t0 := box_keep hF 0; have t1 := box_keep hF 1; have t2 := box_keep hF 2; simp only [List.getElem?_toArray, List.getElem?_cons_zero, List.getElem?_cons_succ] at t0 t1 t2; obtain ⟨d0, d1, d2, d3, d4, d5, d6, d7, d8, d9, d10, d11, d12⟩ := site_keep (KK.out.trans hE); clear hM hMc hE hF)
        | (go_at_call 96; (with_reducible refine (CL.out _ _ _ _ _ C5.out M5.out HM.out HL1.out).mono ?_); rintro e w6 ⟨rfl, hC⟩; have C6 := Lib.hid (C5.out.trans hC); have hF := HF5.out.trans hC; have hE := Cha.trans ((Cha.refl (fun _ => False) w1).alloc (.cells #[.int .i64 (k : Int), .slice s1 gsl.length c1, .slice s2 gre.length c2, .slice s3 n3 c3] 55)) hF; have u0 := box_keep hF 0; have u1 := box_keep hF 1; have u2 := box_keep hF 2; simp only [List.getElem?_toArray, List.getElem?_cons_zero, List.getElem?_cons_succ] at u0 u1 u2; obtain ⟨e0, e1, e2, e3, e4, e5, e6, e7, e8, e9, e10, e11, e12⟩ := site_keep (KK.out.trans hE); clear hC hE hF))
    all_goals
      go_wp2
      go_ret
      exact ⟨by first | (rw [e.out]; done) | (rw [e.out]; rfl), C6.out⟩
  · have e := Lib.hid (E1.out h0)
    have d1 : (E == 0) = false := by simpa using h0
    have d2 : (E != 0) = true := by simpa using h0
    clear E1 E2 GG h0
    go_enter Try.func95, Try.ntmps95
    go_wp2_with (go_at_call 115; ((with_reducible refine (CF.out _ cha_box).mono ?_); rintro e w1 ⟨pa', s1, n1, c1, s2, n2, c2, s3, n3, c3, rfl, k1, k2⟩; have C1 := Lib.hid (Cha.trans cha_box k1); have KK := Lib.hid k1; obtain ⟨b0, b1, b2, b3, b4, b5, b6, b7, b8, b9, b10, b11, b12⟩ := site_keep k1; have s0 := block_lt_of_cell b0; clear k1 k2))
    go_ret
    exact ⟨by first | (rw [e.out]; done) | (rw [e.out]; rfl), C1.out.alloc _⟩
end
end Go.Proofs.Ytpdjbhnpahkbpaa
