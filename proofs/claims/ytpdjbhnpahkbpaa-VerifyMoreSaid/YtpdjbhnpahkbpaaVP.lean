/- Check: go, defer, new objects, channels, a case. -/
import Derived.Test.YtpdjbhnpahkbpaaVO
namespace Go.Proofs.Ytpdjbhnpahkbpaa
set_option linter.unusedVariables false
open Go.ChangeShapes Go.WideShapes Go.ChangeAt Go.RowKit
section
variable {W w w' : World} {x : SV} {p : PZ} {f : FZ} {i : IZ}
theorem rds_box {v : Value} {L L0 : List Int} (h : RdS 1 RdI (· < w.heap.size) w v L0) (e : L = L0) (ob : Obj) : RdS 1 RdI (· < (w.alloc ob).heap.size) (w.alloc ob) v L :=
  e ▸ h.ints ((Cha.refl (fun _ => False) w).alloc ob) (fun _ f => f.elim) (fun _ h => Nat.lt_of_lt_of_le h ((Cha.refl (fun _ => False) w).alloc ob).size)
set_option maxRecDepth 100000 in
set_option maxHeartbeats 1000000 in
theorem begun_any (h : Sit W x p f i) (hc : Caps W x.aF x.nF) (hf : ∀ g ∈ p.fu, GoodFn g) : Calls Try.prog 97 #[x.v f i] W (Says W (.int .i64 (begunZ p.fu f.sl i.l i.a))) := by
  have CF : Hid (∀ w, Cha (fun _ => False) W w → Calls Try.prog 115 #[x.v f i] w (SaysFn w p.fu i.a (calledE p.fu i.a))) := Lib.hid fun w c => called_any (h.cha c) (hc.cha c)
  have CL : Hid (∀ w a n c L, Cha (fun _ => False) W w → RdS 1 RdI (· < w.heap.size) w (.slice a n c) L → n = L.length → n ≤ 1000 → Calls Try.prog 96 #[x.v f i, .slice a n c] w (Says w (.int .i64 (listZ f.sl i.l L)))) := Lib.hid fun w a n c L hc hk hn hm => list_any (h.cha hc) hk hn hm
  obtain ⟨R, hR⟩ : ∃ R, R = begunZ p.fu f.sl i.l i.a := ⟨_, rfl⟩
  obtain ⟨E, hE⟩ : ∃ E, E = calledE p.fu i.a := ⟨_, rfl⟩
  obtain ⟨G, hG⟩ : ∃ G, G = fnZ p.fu i.a := ⟨_, rfl⟩
  have hb : ∀ c : E ≠ 0, ¬ (0 ≤ i.a ∧ i.a < p.fu.length) := fun c d => c (by rw [hE]; exact if_pos d)
  have hb0 : ∀ c : E = 0, (0 ≤ i.a ∧ i.a < p.fu.length) := fun c => by
    by_cases d : 0 ≤ i.a ∧ i.a < p.fu.length
    · exact d
    · rw [hE] at c; unfold calledE at c; rw [if_neg d] at c; cases c
  have E1 : Hid (E ≠ 0 → R = E) := Lib.hid fun e => by rw [hR, hE]; unfold begunZ calledE; rw [if_neg (hb e), if_neg (hb e)]
  have E2 : Hid (E = 0 → ∀ k : Nat, G.pa = (k : Int) → (0 < G.re.length → R = 13) ∧ (¬ 0 < G.re.length → ((2 : Int) ∈ G.sl.take k → R = 10) ∧ ((2 : Int) ∉ G.sl.take k → R = listZ f.sl i.l (G.sl.take k)))) := Lib.hid fun e k hk => by
    refine ⟨fun c => ?_, fun c => ⟨fun d => ?_, fun d => ?_⟩⟩
    · rw [hR]; unfold begunZ; rw [if_pos (hb0 e), ← hG, if_pos c]
    · rw [hR]; unfold begunZ; rw [if_pos (hb0 e), ← hG, if_neg c, hk, Int.toNat_natCast, if_pos d]
    · rw [hR]; unfold begunZ; rw [if_pos (hb0 e), ← hG, if_neg c, hk, Int.toNat_natCast, if_neg d]
  have GG : Hid (E = 0 → GoodFn G) := Lib.hid fun e => hf _ (by rw [hG]; exact fnZ_mem (by rw [← hE]; exact e))
  unfold SaysFn at CF
  rw [← hR]
  rw [← hE, ← hG] at CF
  clear h hc hR hE hG hb hb0
  obtain ⟨aT, nT, cT, aG, nG, cG, aF, nF, cF, aS, nS, cS, aR, nR, cR, aC, nC, cC, aL, nL, cL⟩ := x
  obtain ⟨pa, sl, re, co⟩ := f
  obtain ⟨op, a, b, c, im, li⟩ := i
  dsimp only [SV.v] at *
  by_cases h0 : E = 0
  · subst h0
    obtain ⟨g1, g2, g3, g4⟩ := GG.out rfl
    obtain ⟨gpa, gsl, gre, gco⟩ := G
    dsimp only at *
    obtain ⟨k, rfl⟩ : ∃ k : Nat, gpa = (k : Int) := ⟨gpa.toNat, by omega⟩
    obtain ⟨e1, e2⟩ := E2.out rfl k rfl
    obtain ⟨L, hL⟩ : ∃ L, L = gsl.take k := ⟨_, rfl⟩
    obtain ⟨m, hm⟩ : ∃ m, gre.length = m := ⟨_, rfl⟩
    have hkl : k ≤ gsl.length := by omega
    have HKL : Hid (L.length = k) := Lib.hid (by rw [hL, List.length_take]; omega)
    have HL1 : Hid (k ≤ 1000) := Lib.hid (by omega)
    rw [← hL] at e2
    rw [hm] at e1 e2
    have HL := Lib.hid hL
    have HM := Lib.hid hm
    clear E1 E2 GG hL hm
    by_cases h1 : 0 < m
    · have e := Lib.hid (e1 h1)
      have d1 : (0 : Int) < (m : Int) := by omega
      clear e1 e2 h1
      go_enter Try.func97, Try.ntmps97
      go_wp2_with (go_at_call 115; ((with_reducible refine (CF.out _ cha_box).mono ?_); rintro e w1 ⟨pa', s1, n1, c1, s2, n2, c2, s3, n3, c3, rfl, k1, k2⟩; have C1 := Lib.hid (Cha.trans cha_box k1); have KK := Lib.hid k1; obtain ⟨b0, b1, b2, b3, b4, b5, b6, b7, b8, b9, b10, b11, b12⟩ := site_keep k1; have s0 := block_lt_of_cell b0; obtain ⟨rfl, rfl, hcap, r1, en2, r2⟩ := k2 rfl; obtain ⟨s4, hsl, r4⟩ := take_kinds r1 rfl hcap k hkl; have R4 : Hid (∀ ob, RdS 1 RdI (· < (w1.alloc ob).heap.size) (w1.alloc ob) (.slice s4 k c1) L) := Lib.hid fun ob => rds_box r4 HL.out ob; rw [HM.out] at en2; subst en2; clear r1 r2 r4; clear k1 k2))
      go_ret
      exact ⟨by first | (rw [e.out]; done) | (rw [e.out]; rfl), C1.out.alloc _⟩
    · obtain ⟨e3, e4⟩ := e2 h1
      obtain rfl : m = 0 := by omega
      clear e1 e2 h1
      by_cases h2 : (2 : Int) ∈ L
      · have e := Lib.hid (e3 h2)
        have d2 : decide ((2 : Int) ∈ L) = true := decide_eq_true h2
        clear e3 e4 h2
        go_enter Try.func97, Try.ntmps97
        go_wp2_with (first
          | (go_at_call 115; ((with_reducible refine (CF.out _ cha_box).mono ?_); rintro e w1 ⟨pa', s1, n1, c1, s2, n2, c2, s3, n3, c3, rfl, k1, k2⟩; have C1 := Lib.hid (Cha.trans cha_box k1); have KK := Lib.hid k1; obtain ⟨b0, b1, b2, b3, b4, b5, b6, b7, b8, b9, b10, b11, b12⟩ := site_keep k1; have s0 := block_lt_of_cell b0; obtain ⟨rfl, rfl, hcap, r1, en2, r2⟩ := k2 rfl; obtain ⟨s4, hsl, r4⟩ := take_kinds r1 rfl hcap k hkl; have R4 : Hid (∀ ob, RdS 1 RdI (· < (w1.alloc ob).heap.size) (w1.alloc ob) (.slice s4 k c1) L) := Lib.hid fun ob => rds_box r4 HL.out ob; rw [HM.out] at en2; subst en2; clear r1 r2 r4; clear k1 k2))
          | (go_at_call 117; ((with_reducible refine (contains_any (R4.out _) HKL.out.symm 2).mono ?_); rintro e w2 ⟨rfl, rfl⟩; rw [d2])))
        go_ret
        exact ⟨by first | (rw [e.out]; done) | (rw [e.out]; rfl), C1.out.alloc _⟩
      · have e := Lib.hid (e4 h2)
        have d2 : decide ((2 : Int) ∈ L) = false := decide_eq_false h2
        clear e3 e4 h2
        go_enter Try.func97, Try.ntmps97
        go_wp2_with (first
          | (go_at_call 115; ((with_reducible refine (CF.out _ cha_box).mono ?_); rintro e w1 ⟨pa', s1, n1, c1, s2, n2, c2, s3, n3, c3, rfl, k1, k2⟩; have C1 := Lib.hid (Cha.trans cha_box k1); have KK := Lib.hid k1; obtain ⟨b0, b1, b2, b3, b4, b5, b6, b7, b8, b9, b10, b11, b12⟩ := site_keep k1; have s0 := block_lt_of_cell b0; obtain ⟨rfl, rfl, hcap, r1, en2, r2⟩ := k2 rfl; obtain ⟨s4, hsl, r4⟩ := take_kinds r1 rfl hcap k hkl; have R4 : Hid (∀ ob, RdS 1 RdI (· < (w1.alloc ob).heap.size) (w1.alloc ob) (.slice s4 k c1) L) := Lib.hid fun ob => rds_box r4 HL.out ob; rw [HM.out] at en2; subst en2; clear r1 r2 r4; clear k1 k2))
          | (go_at_call 117; ((with_reducible refine (contains_any (R4.out _) HKL.out.symm 2).mono ?_); rintro e w2 ⟨rfl, rfl⟩; rw [d2]))
          | (go_at_call 96; ((with_reducible refine (CL.out _ _ _ _ _ (C1.out.alloc _) (R4.out _) HKL.out.symm HL1.out).mono ?_); rintro e w6 ⟨rfl, hC⟩; have C6 := Lib.hid (Cha.trans (C1.out.alloc _) hC); clear hC)))
        go_ret
        exact ⟨by first | (rw [e.out]; done) | (rw [e.out]; rfl), C6.out⟩
  · have e := Lib.hid (E1.out h0)
    have d1 : (E == 0) = false := by simpa using h0
    have d2 : (E != 0) = true := by simpa using h0
    clear E1 E2 GG h0
    go_enter Try.func97, Try.ntmps97
    go_wp2_with (go_at_call 115; ((with_reducible refine (CF.out _ cha_box).mono ?_); rintro e w1 ⟨pa', s1, n1, c1, s2, n2, c2, s3, n3, c3, rfl, k1, k2⟩; have C1 := Lib.hid (Cha.trans cha_box k1); have KK := Lib.hid k1; obtain ⟨b0, b1, b2, b3, b4, b5, b6, b7, b8, b9, b10, b11, b12⟩ := site_keep k1; have s0 := block_lt_of_cell b0; clear k1 k2))
    go_ret
    exact ⟨by first | (rw [e.out]; done) | (rw [e.out]; rfl), C1.out.alloc _⟩
theorem wants_own {B : Nat} {t : TypeId} {v : Value} {a1 k1 a2 k2 : Int} (h : w.ownsRow B t 2 v 2 ([.int .i64 a1, .int .i64 k1] ++ [.int .i64 a2, .int .i64 k2])) : ∃ g c, v = .slice (some ⟨g, 0, none⟩) 2 c ∧ RdS 2 RdW (· < w.heap.size) w v [(a1, k1), (a2, k2)] := by
  obtain ⟨g, c, rfl⟩ := ownsRow_succ h
  have hl : g < w.heap.size := by
    rcases h.2 with ⟨e, _⟩ | ⟨g', cap, cur, e, hb, hg, _⟩
    · cases e
    · cases e; exact (Array.getElem?_eq_some_iff.1 hg).1
  have hx := h.cells (g := g) rfl
  have h0 := hx 0 _ rfl
  have h1 := hx 1 _ rfl
  have h2 := hx 2 _ rfl
  have h3 := hx 3 _ rfl
  rw [Addr.add_mid] at h0 h1 h2 h3
  refine ⟨g, c, rfl, _, _, rfl, by simp, fun _ => ⟨g, 0, rfl, hl, hl, fun i y hy => ?_⟩⟩
  match i, hy with
  | 0, hy => cases hy; exact ⟨h0, h1⟩
  | 1, hy => cases hy; exact ⟨h2, h3⟩
set_option maxRecDepth 100000 in
set_option maxHeartbeats 2000000 in
theorem new_good (h : Sit W x p f i) (hT : p.ty.length ≤ 32) (arr : Bool) (hop : (i.op == 27) = arr) (hb : 0 ≤ i.b ∧ i.b < p.ty.length ∧ ((p.ty[i.b.toNat]?).getD ⟨false, []⟩).ar = arr) : Calls Try.prog 90 #[x.v f i] W (Says W (.int .i64 (newZ p.ty f.sl arr i.a i.b i.c))) := by
  have HT := Lib.hid h.ty
  have hn := h.eT
  have hl := h.ty.len
  rw [← hn] at hl hb
  have hlT : x.nT ≤ 32 := hn ▸ hT
  have CB : Hid (∀ o, Calls Try.prog 89 #[x.v f i, .slice (some ⟨W.heap.size + 1, 0, none⟩) 1 1] ((W.alloc o).alloc (.cells #[.int .i64 i.a, .int .i64 (16 + i.b)] 137)) (Says W (.int .i64 (wantsZ f.sl [(i.a, 16 + i.b)])))) := Lib.hid fun o => slots1_box h o _ _
  have CS : Hid (∀ w g c, Cha (fun _ => False) W w → RdS 2 RdW (· < w.heap.size) w (.slice (some ⟨g, 0, none⟩) 2 c) [(i.a, 16 + i.b), (i.c, 0)] → Calls Try.prog 89 #[x.v f i, .slice (some ⟨g, 0, none⟩) 2 c] w (Says w (.int .i64 (wantsZ f.sl [(i.a, 16 + i.b), (i.c, 0)])))) := Lib.hid fun w g c hc hw => slots_any (h.cha hc) hw rfl
  have HR : Hid (newZ p.ty f.sl arr i.a i.b i.c = wantsZ f.sl (if arr then [(i.a, 16 + i.b), (i.c, 0)] else [(i.a, 16 + i.b)])) := Lib.hid (if_pos (by rw [← hn]; exact hb))
  rw [HR.out]
  have HN := Lib.hid hn
  clear h hn HR hT
  obtain ⟨aT, nT, cT, aG, nG, cG, aF, nF, cF, aS, nS, cS, aR, nR, cR, aC, nC, cC, aL, nL, cL⟩ := x
  obtain ⟨pa, sl, re, co⟩ := f
  obtain ⟨op, a, b, c, im, li⟩ := i
  dsimp only [SV.v] at *
  obtain ⟨h0, h1, h2⟩ := hb
  obtain ⟨k, rfl⟩ : ∃ k : Nat, b = (k : Int) := ⟨b.toNat, by omega⟩
  have hlt : k < nT := by omega
  obtain ⟨t, ht⟩ : ∃ t, p.ty[k]? = some t := ⟨_, List.getElem?_eq_getElem (by have := HN.out; omega)⟩
  rw [Int.toNat_natCast, ht] at h2
  obtain ⟨bt, ot, _, he, hb0, hbs, hx⟩ := HT.out.at ht
  obtain rfl : aT = some ⟨bt, ot, none⟩ := by injection he
  have q0 := hx.c0
  have h2 : t.ar = arr := h2
  rw [h2] at q0
  have hk9 : (k : Int) ≤ 9000000000000000000 ∨ 9000000000000000000 < (k : Int) := by omega
  clear he hx ht hb0 h0 h1 h2
  obtain ⟨i0, hi, hz0, hz1, hz2⟩ := info_parts info_want
  have hw16 : IntKind.i64.wrap (16 + (k : Int)) = 16 + (k : Int) ∨ True := .inr trivial
  have hk32 : k < 9223372036854775000 := by have := hlT; omega
  have hw : IntKind.i64.wrap (16 + (k : Int)) = 16 + (k : Int) := by rw [IntKind.wrap_i64]; omega
  cases arr
  · show Calls _ _ _ _ (Says W (.int .i64 (wantsZ sl [(a, 16 + (k : Int))])))
    clear hw16 hk9
    go_enter Try.func90, Try.ntmps90
    go_wp2_with (go_at_call 89; ((with_reducible refine (CB.out _).mono ?_); rintro e w1 ⟨rfl, k1⟩; have C1 := Lib.hid k1; clear k1))
    go_ret
    exact ⟨rfl, C1.out⟩
  · show Calls _ _ _ _ (Says W (.int .i64 (wantsZ sl [(a, 16 + (k : Int)), (c, 0)])))
    clear hw16 hk9
    have s1 : (W.alloc (.cells #[.slice (some ⟨bt, ot, none⟩) nT cT, .slice aG nG cG, .slice aF nF cF, .int .i64 pa, .slice aS nS cS, .slice aR nR cR, .slice aC nC cC, .int .i64 op, .int .i64 a, .int .i64 (k : Int), .int .i64 c, .int .u64 (im : Int), .slice aL nL cL] 92)).heap.size = W.heap.size + 1 := World.size_alloc ..
    have s2 : ((W.alloc (.cells #[.slice (some ⟨bt, ot, none⟩) nT cT, .slice aG nG cG, .slice aF nF cF, .int .i64 pa, .slice aS nS cS, .slice aR nR cR, .slice aC nC cC, .int .i64 op, .int .i64 a, .int .i64 (k : Int), .int .i64 c, .int .u64 (im : Int), .slice aL nL cL] 92)).alloc (.cells #[.int .i64 a, .int .i64 (16 + (k : Int))] 137)).heap.size = W.heap.size + 1 + 1 := by rw [World.size_alloc, s1]
    have s3 : (((W.alloc (.cells #[.slice (some ⟨bt, ot, none⟩) nT cT, .slice aG nG cG, .slice aF nF cF, .int .i64 pa, .slice aS nS cS, .slice aR nR cR, .slice aC nC cC, .int .i64 op, .int .i64 a, .int .i64 (k : Int), .int .i64 c, .int .u64 (im : Int), .slice aL nL cL] 92)).alloc (.cells #[.int .i64 a, .int .i64 (16 + (k : Int))] 137)).alloc (.cells #[.int .i64 c, .int .i64 0] 137)).heap.size = W.heap.size + 1 + 1 + 1 := by rw [World.size_alloc, s2]
    have OW : (((W.alloc (.cells #[.slice (some ⟨bt, ot, none⟩) nT cT, .slice aG nG cG, .slice aF nF cF, .int .i64 pa, .slice aS nS cS, .slice aR nR cR, .slice aC nC cC, .int .i64 op, .int .i64 a, .int .i64 (k : Int), .int .i64 c, .int .u64 (im : Int), .slice aL nL cL] 92)).alloc (.cells #[.int .i64 a, .int .i64 (16 + (k : Int))] 137)).alloc (.cells #[.int .i64 c, .int .i64 0] 137)).ownsRow (W.heap.size + 1) 137 2 (.slice (some ⟨W.heap.size + 1, 0, none⟩) 1 1) 1 [.int .i64 a, .int .i64 (16 + (k : Int))] := by
      refine ⟨rfl, .inr ⟨W.heap.size + 1, 1, #[.int .i64 a, .int .i64 (16 + (k : Int))], rfl, Nat.le_refl _, ?_, Nat.le_refl _, by decide, rfl, rfl⟩⟩
      rw [heap_alloc_old _ _ (by rw [s2]; omega)]
      have q := heap_alloc_new (W.alloc (.cells #[.slice (some ⟨bt, ot, none⟩) nT cT, .slice aG nG cG, .slice aF nF cF, .int .i64 pa, .slice aS nS cS, .slice aR nR cR, .slice aC nC cC, .int .i64 op, .int .i64 a, .int .i64 (k : Int), .int .i64 c, .int .u64 (im : Int), .slice aL nL cL] 92)) (.cells #[.int .i64 a, .int .i64 (16 + (k : Int))] 137)
      rw [s1] at q
      exact q
    have NW : ∀ (j : Nat) (u : Value), [.int .i64 c, .int .i64 0][j]? = some u → (((W.alloc (.cells #[.slice (some ⟨bt, ot, none⟩) nT cT, .slice aG nG cG, .slice aF nF cF, .int .i64 pa, .slice aS nS cS, .slice aR nR cR, .slice aC nC cC, .int .i64 op, .int .i64 a, .int .i64 (k : Int), .int .i64 c, .int .u64 (im : Int), .slice aL nL cL] 92)).alloc (.cells #[.int .i64 a, .int .i64 (16 + (k : Int))] 137)).alloc (.cells #[.int .i64 c, .int .i64 0] 137)).cell? ((⟨W.heap.size + 1 + 1, 0, none⟩ : Addr).add j) = some u := by
      have q := heap_alloc_new ((W.alloc (.cells #[.slice (some ⟨bt, ot, none⟩) nT cT, .slice aG nG cG, .slice aF nF cF, .int .i64 pa, .slice aS nS cS, .slice aR nR cR, .slice aC nC cC, .int .i64 op, .int .i64 a, .int .i64 (k : Int), .int .i64 c, .int .u64 (im : Int), .slice aL nL cL] 92)).alloc (.cells #[.int .i64 a, .int .i64 (16 + (k : Int))] 137)) (.cells #[.int .i64 c, .int .i64 0] 137)
      rw [s2] at q
      intro j u hj
      rw [Addr.add_mid, cell_of_row _ _ _ _ 137 (0, 0) q]
      match j, hj with
      | 0, hj => cases hj; rfl
      | 1, hj => cases hj; rfl
    have ON : ∀ u ∈ ([.int .i64 c, .int .i64 0] : List Value), u.oneCell' = true := fun u h => by
      simp only [List.mem_cons, List.not_mem_nil, or_false] at h
      rcases h with rfl | rfl <;> rfl
    have C0 : Hid (Cha (fun _ => False) (W.alloc (.cells #[.slice (some ⟨bt, ot, none⟩) nT cT, .slice aG nG cG, .slice aF nF cF, .int .i64 pa, .slice aS nS cS, .slice aR nR cR, .slice aC nC cC, .int .i64 op, .int .i64 a, .int .i64 (k : Int), .int .i64 c, .int .u64 (im : Int), .slice aL nL cL] 92)) (((W.alloc (.cells #[.slice (some ⟨bt, ot, none⟩) nT cT, .slice aG nG cG, .slice aF nF cF, .int .i64 pa, .slice aS nS cS, .slice aR nR cR, .slice aC nC cC, .int .i64 op, .int .i64 a, .int .i64 (k : Int), .int .i64 c, .int .u64 (im : Int), .slice aL nL cL] 92)).alloc (.cells #[.int .i64 a, .int .i64 (16 + (k : Int))] 137)).alloc (.cells #[.int .i64 c, .int .i64 0] 137))) := Lib.hid (((Cha.refl _ _).alloc _).alloc _)
    have HOV : Hid (∀ w5 : World, (((W.alloc (.cells #[.slice (some ⟨bt, ot, none⟩) nT cT, .slice aG nG cG, .slice aF nF cF, .int .i64 pa, .slice aS nS cS, .slice aR nR cR, .slice aC nC cC, .int .i64 op, .int .i64 a, .int .i64 (k : Int), .int .i64 c, .int .u64 (im : Int), .slice aL nL cL] 92)).alloc (.cells #[.int .i64 a, .int .i64 (16 + (k : Int))] 137)).alloc (.cells #[.int .i64 c, .int .i64 0] 137)).grownBy w5 (some (W.heap.size + 1)) → Cha (fun _ => False) (W.alloc (.cells #[.slice (some ⟨bt, ot, none⟩) nT cT, .slice aG nG cG, .slice aF nF cF, .int .i64 pa, .slice aS nS cS, .slice aR nR cR, .slice aC nC cC, .int .i64 op, .int .i64 a, .int .i64 (k : Int), .int .i64 c, .int .u64 (im : Int), .slice aL nL cL] 92)) w5) := Lib.hid fun w5 hg => C0.out.over (Cha.of_grownBy (S := fun i => i = W.heap.size + 1) hg (fun k e => by cases e; rfl)) (fun i e => by have e : i = W.heap.size + 1 := e; exact .inr (by rw [s1]; omega))
    have s4 : W.heap.size + 1 ≤ (((W.alloc (.cells #[.slice (some ⟨bt, ot, none⟩) nT cT, .slice aG nG cG, .slice aF nF cF, .int .i64 pa, .slice aS nS cS, .slice aR nR cR, .slice aC nC cC, .int .i64 op, .int .i64 a, .int .i64 (k : Int), .int .i64 c, .int .u64 (im : Int), .slice aL nL cL] 92)).alloc (.cells #[.int .i64 a, .int .i64 (16 + (k : Int))] 137)).alloc (.cells #[.int .i64 c, .int .i64 0] 137)).heap.size := by rw [s3]; omega
    have OW := Lib.hid OW
    have NW := Lib.hid NW
    have ON := Lib.hid ON
    have S4 := Lib.hid s4
    clear s1 s2 s3 s4
    go_enter Try.func90, Try.ntmps90
    go_wp2_with (first
      | (at_builtin; go_loud (refine wpList_append_where _ rfl _ _ 143 rfl (W.heap.size + 1) 137 i0 (.agg #[.int .i64 0, .int .i64 0]) 2 16 Try.underlying143 hi hz0 hz1 hz2 rfl (by decide) (.slice (some ⟨W.heap.size + 1, 0, none⟩) 1 1) 1 _ rfl OW.out ⟨W.heap.size + 1 + 1, 0, none⟩ 1 1 _ rfl rfl NW.out ON.out (by decide) (by decide) S4.out ?_; intro v' w5 hown hg hw; obtain ⟨g, c5, rfl, hW⟩ := wants_own hown; have C5 := Lib.hid (HOV.out w5 hg); have HW := Lib.hid hW; obtain ⟨b0, b1, b2, b3, b4, b5, b6, b7, b8, b9, b10, b11, b12⟩ := site_keep (HOV.out w5 hg); clear hown hg hw hW))
      | (go_at_call 89; ((with_reducible refine (CS.out _ _ _ (Cha.trans cha_box C5.out) HW.out).mono ?_); rintro e w6 ⟨rfl, k6⟩; have C6 := Lib.hid (Cha.trans (Cha.trans cha_box C5.out) k6); clear k6)))
    go_ret
    exact ⟨rfl, C6.out⟩
theorem chan_any (h : Sit W x p f i) : Calls Try.prog 98 #[x.v f i] W (Says W (.int .i64 (chanZ f.sl i.imm i.a))) := by
  have CK : Hid (∀ w, Cha (fun _ => False) W w → Calls Try.prog 100 #[x.v f i, .int .i64 i.a] w (SaysK w (carK f.sl i.a) (carE f.sl i.a))) := Lib.hid fun w c => carried_slot (h.cha c) i.a
  have E1 : Hid (16 < i.imm → chanZ f.sl i.imm i.a = 16) := Lib.hid fun e => if_pos e
  have E2 : Hid (¬ 16 < i.imm → chanZ f.sl i.imm i.a = carE f.sl i.a) := Lib.hid fun e => if_neg e
  clear h
  obtain ⟨aT, nT, cT, aG, nG, cG, aF, nF, cF, aS, nS, cS, aR, nR, cR, aC, nC, cC, aL, nL, cL⟩ := x
  obtain ⟨pa, sl, re, co⟩ := f
  obtain ⟨op, a, b, c, im, li⟩ := i
  dsimp only [SV.v] at *
  generalize carK sl a = K at *
  generalize carE sl a = E at *
  generalize chanZ sl im a = R at *
  by_cases h1 : 16 < im
  · have e := Lib.hid (E1.out h1)
    have d1 : (16 : Int) < (im : Int) := by omega
    clear E1 E2 h1
    go_enter Try.func98, Try.ntmps98
    go_wp2
    go_ret
    exact ⟨by first | (rw [e.out]; done) | (rw [e.out]; rfl), cha_box⟩
  · have e := Lib.hid (E2.out h1)
    have d1 : ¬ (16 : Int) < (im : Int) := by omega
    clear E1 E2 h1
    go_enter Try.func98, Try.ntmps98
    go_wp2_with (go_at_call 100; ((with_reducible refine (CK.out _ cha_box).mono ?_); rintro e w1 ⟨rfl, k1⟩; have C1 := Lib.hid (Cha.trans cha_box k1); clear k1))
    go_ret
    exact ⟨by first | (rw [e.out]; done) | (rw [e.out]; rfl), C1.out⟩
theorem case_any (h : Sit W x p f i) (q y z : Int) : Calls Try.prog 119 #[x.v f i, .int .i64 q, .int .i64 y, .int .i64 z] W (Says W (.int .i64 (caseZ f.sl q y z))) := by
  have CK : Hid (∀ w, Cha (fun _ => False) W w → Calls Try.prog 99 #[x.v f i, .int .i64 y, .int .i64 z] w (Says w (.int .i64 (carriesZ f.sl y z)))) := Lib.hid fun w c => carries_any (h.cha c) y z
  have E1 : Hid (0 ≤ q ∧ q ≤ 1 → caseZ f.sl q y z = carriesZ f.sl y z) := Lib.hid fun e => if_pos e
  have E2 : Hid (¬ (0 ≤ q ∧ q ≤ 1) → caseZ f.sl q y z = 8) := Lib.hid fun e => if_neg e
  clear h
  obtain ⟨aT, nT, cT, aG, nG, cG, aF, nF, cF, aS, nS, cS, aR, nR, cR, aC, nC, cC, aL, nL, cL⟩ := x
  obtain ⟨pa, sl, re, co⟩ := f
  obtain ⟨op, a, b, c, im, li⟩ := i
  dsimp only [SV.v] at *
  generalize carriesZ sl y z = E at *
  generalize caseZ sl q y z = R at *
  by_cases h0 : q < 0
  · have e := Lib.hid (E2.out (by omega))
    clear E1 E2
    go_enter Try.func119, Try.ntmps119
    go_wp2
    go_ret
    exact ⟨by first | (rw [e.out]; done) | (rw [e.out]; rfl), cha_box⟩
  · by_cases h1 : 1 < q
    · have e := Lib.hid (E2.out (by omega))
      clear E1 E2
      go_enter Try.func119, Try.ntmps119
      go_wp2
      go_ret
      exact ⟨by first | (rw [e.out]; done) | (rw [e.out]; rfl), cha_box⟩
    · have e := Lib.hid (E1.out (by omega))
      clear E1 E2
      go_enter Try.func119, Try.ntmps119
      go_wp2_with (go_at_call 99; ((with_reducible refine (CK.out _ cha_box).mono ?_); rintro e w1 ⟨rfl, k1⟩; have C1 := Lib.hid (Cha.trans cha_box k1); clear k1))
      go_ret
      exact ⟨by first | (rw [e.out]; done) | (rw [e.out]; rfl), C1.out⟩
end
end Go.Proofs.Ytpdjbhnpahkbpaa
