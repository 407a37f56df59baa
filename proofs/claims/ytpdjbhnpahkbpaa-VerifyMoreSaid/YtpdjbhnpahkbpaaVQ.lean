/- Check: select. -/
import Derived.Test.YtpdjbhnpahkbpaaVQB
import Derived.Test.YtpdjbhnpahkbpaaVTA
namespace Go.Proofs.Ytpdjbhnpahkbpaa
set_option linter.unusedVariables false
open Go.RowKit Go.Shelf Go.ChangeShapes Go.WideShapes Go.ChangeAt
attribute [local go_sem] Oper.semAt_some
variable {W w w' : World} {x : SV} {p : PZ} {f : FZ} {i : IZ}
theorem grown_drew (W : World) : W.grownBy W.drew none := ⟨rfl, rfl, rfl, Nat.le_refl _, fun _ _ _ => rfl⟩
theorem chunk_stops (m B0 B1 b o q L c : Nat) (a : Option Addr) (ha : 0 < q → a = some ⟨b, o, none⟩) (hL : L = 3 * q) (hq : L ≤ 24) (hc : L ≤ c) (hm : 1 ≤ m) (w : World) (hB0 : w.heap[B0]? = some (.cells #[.slice a L c] 50 (0, 0))) (hB1 : w.heap[B1]? = some (.cells #[.int .i64 3] 3 (0, 0))) :
    SeqStopsK Fence.wide m Try.prog 126 #[.pointer (some ⟨B0, 0, none⟩), .pointer (some ⟨B1, 0, none⟩)] (encCh b o (q := q)) (Kp2 B0 B1) (fun ys => ys.map (·.1) = List.range q) (fun pre => pre.map (·.1) <+: List.range q) (q + 1) w :=
  fun l J Jx W hW hA _ hY h0 => iter_in m l B0 B1 b o q L c a ha hL hq hc hm J Jx (fun pre W h => hA pre W W.drew none h (grown_drew W) (fun r e => by cases e)) hY W ((hW.block B0 (Array.getElem?_eq_some_iff.1 hB0).1).trans hB0) ((hW.block B1 (Array.getElem?_eq_some_iff.1 hB1).1).trans hB1) h0
/-- The k-th case's error. -/
def cz (sl li : List Int) (k : Nat) : Int := caseZ sl ((li[3 * k]?).getD 0) ((li[3 * k + 1]?).getD 0) ((li[3 * k + 2]?).getD 0)
theorem cases_ok {sl : List Int} : ∀ (q : Nat) (li : List Int), li.length = 3 * q → (∀ k, k < q → cz sl li k = 0) → casesZ sl li = 0
  | 0, li, h, _ => by
    obtain rfl : li = [] := List.eq_nil_of_length_eq_zero (by omega)
    rfl
  | q + 1, li, h, hk => by
    match li, h with
    | s :: c :: v :: l, h =>
      have h0 : caseZ sl s c v = 0 := hk 0 (by omega)
      have h1 := cases_ok q l (by simp at h; omega) fun k hq => by
        have := hk (k + 1) (by omega)
        unfold cz at this ⊢
        rw [show 3 * (k + 1) + 2 = (3 * k + 2) + 1 + 1 + 1 by omega, show 3 * (k + 1) + 1 = (3 * k + 1) + 1 + 1 + 1 by omega, show 3 * (k + 1) = (3 * k) + 1 + 1 + 1 by omega] at this
        simpa using this
      show orZ (caseZ sl s c v) (casesZ sl l) = 0
      rw [h0, h1]; rfl
theorem cases_bad {sl : List Int} : ∀ (q : Nat) (li : List Int) (j : Nat), li.length = 3 * q → j < q → (∀ k, k < j → cz sl li k = 0) → cz sl li j ≠ 0 → casesZ sl li = cz sl li j
  | 0, li, j, h, hj, _, _ => by omega
  | q + 1, li, j, h, hj, hk, hb => by
    match li, h with
    | s :: c :: v :: l, h =>
      show orZ (caseZ sl s c v) (casesZ sl l) = _
      have sh : ∀ k, cz sl (s :: c :: v :: l) (k + 1) = cz sl l k := fun k => by
        unfold cz
        rw [show 3 * (k + 1) + 2 = (3 * k + 2) + 1 + 1 + 1 by omega, show 3 * (k + 1) + 1 = (3 * k + 1) + 1 + 1 + 1 by omega, show 3 * (k + 1) = (3 * k) + 1 + 1 + 1 by omega]
        simp
      cases j with
      | zero =>
        have hb : caseZ sl s c v ≠ 0 := hb
        unfold orZ
        rw [if_neg hb]; rfl
      | succ j =>
        have h0 : caseZ sl s c v = 0 := hk 0 (by omega)
        rw [sh] at hb ⊢
        rw [h0]
        exact cases_bad q l j (by simp at h; omega) (by omega) (fun k hq => by rw [← sh]; exact hk (k + 1) (by omega)) hb
/-- What the loop keeps while no case has an error. -/
structure Seen (sl li : List Int) (W2 W : World) {q : Nat} (pre : List (Ch q)) : Prop where
  cha : Cha (fun _ => False) W2 W
  ok : ∀ y ∈ pre, cz sl li y.1 = 0
/-- What a case with an error leaves. -/
structure Hit (sl li : List Int) (W2 W : World) (B : Nat) {q : Nat} (c : Code) (pre ini : List (Ch q)) (y : Ch q) : Prop where
  ret : c = .ret
  eq : pre = ini ++ [y]
  ok : ∀ z ∈ ini, cz sl li z.1 = 0
  bad : cz sl li y.1 ≠ 0
  box : W.heap[B]? = some (.cells #[.int .i64 (cz sl li y.1)] 28 (0, 0))
  cha : Cha (fun i => i = B) W2 W
theorem seen_own {sl li : List Int} {W2 : World} {q B : Nat} (hB : W2.heap.size ≤ B) : OwnFrom B (fun (pre : List (Ch q)) W => Seen sl li W2 W pre) :=
  fun s X Y row hs hg hr => ⟨hs.cha.over (Cha.of_grownBy (S := fun i => B ≤ i) hg fun k e => (hr k e).1) fun i hi => .inr (by omega), hs.ok⟩
theorem hit_own {sl li : List Int} {W2 : World} {q B R : Nat} (c : Code) (hB : W2.heap.size ≤ B) (hR : R < W2.heap.size) : OwnFrom B (fun (pre : List (Ch q)) W => ∃ ini y, Hit sl li W2 W R c pre ini y) :=
  fun s X Y row ⟨ini, y, h⟩ hg hr => ⟨ini, y, h.ret, h.eq, h.ok, h.bad, (hg.block R (Array.getElem?_eq_some_iff.1 h.box).1 (fun e => by have := (hr R e.symm).1; omega)).trans h.box, h.cha.over (Cha.of_grownBy (S := fun i => B ≤ i) hg fun k e => (hr k e).1) fun i hi => .inr (by omega)⟩
set_option maxRecDepth 100000 in
set_option maxHeartbeats 4000000 in
theorem select_in (m : Nat) (hm : 3 ≤ m) (h : Sit W x p f i) (hc : x.nL ≤ x.cL) (h24 : x.nL ≤ 24) (h0 : 0 ≤ i.b) (h1 : i.b ≤ 1) (q : Nat) (hq : x.nL = 3 * q) : CallsIn Fence.wide m Try.prog 101 #[x.v f i] W (Says W (.int .i64 (selectZ f.sl i.l i.a i.b))) := by
  have h1m : 1 ≤ m := by omega
  have HL := Lib.hid h.li
  have hl2 := h.eL
  have C := Lib.hid fun w a n c => chunk_box (.slice a n c) ⟨a, n, c, rfl⟩ w
  have CC : Hid (∀ w s c v, Cha (fun _ => False) W w → Calls Try.prog 119 #[x.v f i, .int .i64 s, .int .i64 c, .int .i64 v] w (Says w (.int .i64 (caseZ f.sl s c v)))) := Lib.hid fun w s c v k => case_any (h.cha k) s c v
  have CS : Hid (∀ w, Cha (fun _ => False) W w → Calls Try.prog 89 #[x.v f i, .slice (some ⟨w.heap.size, 0, none⟩) 1 1] (w.alloc (.cells #[.int .i64 i.a, .int .i64 0] 137)) (Says w (.int .i64 (wantsZ f.sl [(i.a, 0)])))) := Lib.hid fun w c => slots1 (h.cha c) _ _
  obtain ⟨bL, oL, haL⟩ : ∃ bL oL, 0 < q → x.aL = some ⟨bL, oL, none⟩ := by
    obtain ⟨a', c', e, _, r⟩ := h.li
    injection e with e1 e2 e3
    by_cases c0 : 0 < q
    · obtain ⟨b, o, e4, _⟩ := r (by omega)
      exact ⟨b, o, fun _ => e1.trans e4⟩
    · exact ⟨0, 0, fun c => absurd c c0⟩
  have HLI : Hid (∀ k w, k < x.nL → Cha (fun _ => False) W w → w.cell? ⟨bL, oL + k, none⟩ = some (.int .i64 ((i.l[k]?).getD 0))) := Lib.hid fun k w hk c => by
    obtain ⟨z, hz⟩ : ∃ z, i.l[k]? = some z := ⟨_, List.getElem?_eq_getElem (by omega)⟩
    obtain ⟨b', o', _, e, _, _, hx⟩ := (h.li.ints c (fun _ f => f.elim) (fun _ h => h) (B' := (· < W.heap.size))).at hz
    have e2 := haL (by omega)
    injection e with e1 _ _
    rw [e1] at e2
    cases e2
    have := hx.1
    rw [Nat.mul_one] at this
    rw [hz]; exact this
  obtain ⟨R, hR⟩ : ∃ R, R = selectZ f.sl i.l i.a i.b := ⟨_, rfl⟩
  rw [← hR]
  have HR := Lib.hid hR
  have HN := Lib.hid hl2
  clear h hl2 hR
  obtain ⟨aT, nT, cT, aG, nG, cG, aF, nF, cF, aS, nS, cS, aR, nR, cR, aC, nC, cC, aL, nL, cL⟩ := x
  obtain ⟨pa, sl, re, co⟩ := f
  obtain ⟨op, a, b, c, im, li⟩ := i
  dsimp only [SV.v] at *
  have hb2 : ¬ (1 < b) := by omega
  have hb1 : ¬ (b < 0) := by omega
  have hmod : Int.tmod (nL : Int) 3 = 0 := by rw [Int.tmod_eq_emod_of_nonneg (by omega)]; omega
  have hmod2 : (nL : Int) % 3 = 0 := by omega
  have hmod3 : nL % 3 = 0 := by omega
  have HQ := Lib.hid hq
  clear hq
  refine callsIn_of_wp_marks Try.func101 rfl trivial ?_ rfl
  simp only [Try.ntmps101, List.size_toArray, List.length_cons, List.length_nil, Nat.reduceAdd, Nat.reduceSub, Array.replicate_succ, Array.replicate_zero, List.push_toArray, List.append_toArray, List.nil_append, List.cons_append]
  gi_wp2_with (refine ⟨trivial, ?_⟩; gi_at_call 118; refine (callsIn_wide.2 (C.out _ _ _ _)).mono ?_; rintro e w1 ⟨rfl, rfl⟩)
  have s1 : (W.alloc (.cells #[.slice aT nT cT, .slice aG nG cG, .slice aF nF cF, .int .i64 pa, .slice aS nS cS, .slice aR nR cR, .slice aC nC cC, .int .i64 op, .int .i64 a, .int .i64 b, .int .i64 c, .int .u64 (im : Int), .slice aL nL cL] 92)).heap.size = W.heap.size + 1 := World.size_alloc ..
  have s2 : ((W.alloc (.cells #[.slice aT nT cT, .slice aG nG cG, .slice aF nF cF, .int .i64 pa, .slice aS nS cS, .slice aR nR cR, .slice aC nC cC, .int .i64 op, .int .i64 a, .int .i64 b, .int .i64 c, .int .u64 (im : Int), .slice aL nL cL] 92)).alloc (.cells #[.int .i64 0] 28)).heap.size = W.heap.size + 1 + 1 := by rw [World.size_alloc, s1]
  have s3 : (((W.alloc (.cells #[.slice aT nT cT, .slice aG nG cG, .slice aF nF cF, .int .i64 pa, .slice aS nS cS, .slice aR nR cR, .slice aC nC cC, .int .i64 op, .int .i64 a, .int .i64 b, .int .i64 c, .int .u64 (im : Int), .slice aL nL cL] 92)).alloc (.cells #[.int .i64 0] 28)).alloc (.cells #[.slice aL nL cL] 50)).heap.size = W.heap.size + 1 + 1 + 1 := by rw [World.size_alloc, s2]
  have hB0 : ((((W.alloc (.cells #[.slice aT nT cT, .slice aG nG cG, .slice aF nF cF, .int .i64 pa, .slice aS nS cS, .slice aR nR cR, .slice aC nC cC, .int .i64 op, .int .i64 a, .int .i64 b, .int .i64 c, .int .u64 (im : Int), .slice aL nL cL] 92)).alloc (.cells #[.int .i64 0] 28)).alloc (.cells #[.slice aL nL cL] 50)).alloc (.cells #[.int .i64 3] 3)).heap[W.heap.size + 1 + 1]? = some (.cells #[.slice aL nL cL] 50 (0, 0)) := by
    refine (heap_alloc_old (((W.alloc (.cells #[.slice aT nT cT, .slice aG nG cG, .slice aF nF cF, .int .i64 pa, .slice aS nS cS, .slice aR nR cR, .slice aC nC cC, .int .i64 op, .int .i64 a, .int .i64 b, .int .i64 c, .int .u64 (im : Int), .slice aL nL cL] 92)).alloc (.cells #[.int .i64 0] 28)).alloc (.cells #[.slice aL nL cL] 50)) _ (W.heap.size + 1 + 1) (by rw [s3]; omega)).trans ?_
    have q := heap_alloc_new ((W.alloc (.cells #[.slice aT nT cT, .slice aG nG cG, .slice aF nF cF, .int .i64 pa, .slice aS nS cS, .slice aR nR cR, .slice aC nC cC, .int .i64 op, .int .i64 a, .int .i64 b, .int .i64 c, .int .u64 (im : Int), .slice aL nL cL] 92)).alloc (.cells #[.int .i64 0] 28)) (.cells #[.slice aL nL cL] 50)
    rw [s2] at q
    exact q
  have hB1 : ((((W.alloc (.cells #[.slice aT nT cT, .slice aG nG cG, .slice aF nF cF, .int .i64 pa, .slice aS nS cS, .slice aR nR cR, .slice aC nC cC, .int .i64 op, .int .i64 a, .int .i64 b, .int .i64 c, .int .u64 (im : Int), .slice aL nL cL] 92)).alloc (.cells #[.int .i64 0] 28)).alloc (.cells #[.slice aL nL cL] 50)).alloc (.cells #[.int .i64 3] 3)).heap[W.heap.size + 1 + 1 + 1]? = some (.cells #[.int .i64 3] 3 (0, 0)) := by
    have q := heap_alloc_new (((W.alloc (.cells #[.slice aT nT cT, .slice aG nG cG, .slice aF nF cF, .int .i64 pa, .slice aS nS cS, .slice aR nR cR, .slice aC nC cC, .int .i64 op, .int .i64 a, .int .i64 b, .int .i64 c, .int .u64 (im : Int), .slice aL nL cL] 92)).alloc (.cells #[.int .i64 0] 28)).alloc (.cells #[.slice aL nL cL] 50)) (.cells #[.int .i64 3] 3)
    rw [s3] at q
    exact q
  have s4 : ((((W.alloc (.cells #[.slice aT nT cT, .slice aG nG cG, .slice aF nF cF, .int .i64 pa, .slice aS nS cS, .slice aR nR cR, .slice aC nC cC, .int .i64 op, .int .i64 a, .int .i64 b, .int .i64 c, .int .u64 (im : Int), .slice aL nL cL] 92)).alloc (.cells #[.int .i64 0] 28)).alloc (.cells #[.slice aL nL cL] 50)).alloc (.cells #[.int .i64 3] 3)).heap.size = W.heap.size + 1 + 1 + 1 + 1 := by rw [World.size_alloc, s3]
  obtain ⟨W2, hW2⟩ : ∃ w, w = ((W.alloc (.cells #[.slice aT nT cT, .slice aG nG cG, .slice aF nF cF, .int .i64 pa, .slice aS nS cS, .slice aR nR cR, .slice aC nC cC, .int .i64 op, .int .i64 a, .int .i64 b, .int .i64 c, .int .u64 (im : Int), .slice aL nL cL] 92)).alloc (.cells #[.int .i64 0] 28)) := ⟨_, rfl⟩
  have HC2 : Hid (Cha (fun _ => False) W W2) := Lib.hid (by rw [hW2]; exact ((Cha.refl _ W).alloc _).alloc _)
  have KS : Hid (∀ w', Cha (fun _ => False) W2 w' → (w'.cell? ⟨W.heap.size, 0, none⟩ = some (.slice aT nT cT) ∧ w'.cell? ⟨W.heap.size, 1, none⟩ = some (.slice aG nG cG) ∧ w'.cell? ⟨W.heap.size, 2, none⟩ = some (.slice aF nF cF) ∧ w'.cell? ⟨W.heap.size, 3, none⟩ = some (.int .i64 pa) ∧ w'.cell? ⟨W.heap.size, 4, none⟩ = some (.slice aS nS cS) ∧ w'.cell? ⟨W.heap.size, 5, none⟩ = some (.slice aR nR cR) ∧ w'.cell? ⟨W.heap.size, 6, none⟩ = some (.slice aC nC cC) ∧ w'.cell? ⟨W.heap.size, 7, none⟩ = some (.int .i64 op) ∧ w'.cell? ⟨W.heap.size, 8, none⟩ = some (.int .i64 a) ∧ w'.cell? ⟨W.heap.size, 9, none⟩ = some (.int .i64 b) ∧ w'.cell? ⟨W.heap.size, 10, none⟩ = some (.int .i64 c) ∧ w'.cell? ⟨W.heap.size, 11, none⟩ = some (.int .u64 (im : Int)) ∧ w'.cell? ⟨W.heap.size, 12, none⟩ = some (.slice aL nL cL)) ∧ w'.heap[W.heap.size + 1]? = some (.cells #[.int .i64 0] 28 (0, 0))) := Lib.hid fun w' h => by
    rw [hW2] at h
    refine ⟨site_keep (Cha.trans ((Cha.refl _ _).alloc _) h), ?_⟩
    have q := (h.old (W.alloc (.cells #[.slice aT nT cT, .slice aG nG cG, .slice aF nF cF, .int .i64 pa, .slice aS nS cS, .slice aR nR cR, .slice aC nC cC, .int .i64 op, .int .i64 a, .int .i64 b, .int .i64 c, .int .u64 (im : Int), .slice aL nL cL] 92)).heap.size (Array.getElem?_eq_some_iff.1 (heap_alloc_new _ _)).1 (fun f => f)).trans (heap_alloc_new _ _)
    rw [s1] at q
    exact q
  rw [← hW2] at s2 s3 hB0 hB1 s4 ⊢
  have hCI : Cha (fun _ => False) W2 ((W2.alloc (.cells #[.slice aL nL cL] 50)).alloc (.cells #[.int .i64 3] 3)) := ((Cha.refl _ _).alloc _).alloc _
  clear hW2
  obtain ⟨W4, hW4⟩ : ∃ w, w = (W2.alloc (.cells #[.slice aL nL cL] 50)).alloc (.cells #[.int .i64 3] 3) := ⟨_, rfl⟩
  rw [← hW4] at hB0 hB1 s4 hCI ⊢
  have HCI := Lib.hid hCI
  have S4 := Lib.hid s4
  clear hW4
  refine wpIn_rangeFunc_ownG rfl h1m (gf := 126) (lb := #[.pointer (some ⟨W.heap.size + 1 + 1, 0, none⟩), .pointer (some ⟨W.heap.size + 1 + 1 + 1, 0, none⟩)]) rfl trivial (enters_of Try.func126 (by kernel_rfl) rfl)
    (chunk_stops (m - 1) (W.heap.size + 1 + 1) (W.heap.size + 1 + 1 + 1) bL oL q nL cL aL haL HQ.out h24 hc (by omega) _ hB0 hB1) Kp2.trans (Kp2.put (by rw [s4]; omega) (by rw [s4]; omega)) (Below.refl _ _) (fun _ => rfl)
    (fun pre w => Seen sl li W4 w pre)
    (fun c pre w => ∃ ini y, Hit sl li W4 w (W.heap.size + 1) c pre ini y)
    (seen_own (Nat.le_refl _))
    (fun c => hit_own c (Nat.le_refl _) (by rw [s4]; omega))
    ⟨Cha.refl _ _, fun _ h => by cases h⟩
    (fun y => { tmps := #[.agg #[.slice aT nT cT, .slice aG nG cG, .slice aF nF cF, .int .i64 pa, .slice aS nS cS, .slice aR nR cR, .slice aC nC cC, .int .i64 op, .int .i64 a, .int .i64 b, .int .i64 c, .int .u64 (im : Int), .slice aL nL cL], .pointer (some ⟨W.heap.size, 0, none⟩), .pointer (some ⟨W.heap.size + 1, 0, none⟩), .slice (some ⟨bL, oL + 3 * y.1, none⟩) 3 3, undef, .pointer (some ⟨W.heap.size, 7, none⟩), .pointer (some ⟨W.heap.size, 9, none⟩), .int .i64 b, .bool false, .bool false, .pointer (some ⟨W.heap.size, 7, none⟩), .pointer (some ⟨W.heap.size, 9, none⟩), .int .i64 b, .bool false, .bool false, .bool false, .pointer (some ⟨W.heap.size, 7, none⟩), .pointer (some ⟨W.heap.size, 12, none⟩), .slice aL nL cL, .int .i64 (nL : Int), .int .i64 0, .bool false, .bool false, .pointer (some ⟨W.heap.size, 7, none⟩), .pointer (some ⟨W.heap.size, 12, none⟩), .slice aL nL cL, .func (.func 126) #[] #[.pointer (some ⟨W.heap.size + 1 + 1, 0, none⟩), .pointer (some ⟨W.heap.size + 1 + 1 + 1, 0, none⟩)], .slice (some ⟨bL, oL + 3 * y.1, none⟩) 3 3, undef, undef, undef, undef, undef, undef, undef, undef, undef, undef, undef, undef, undef, undef, undef, undef, undef, undef, undef, undef, undef], defers := [] }) ?assign ?body ?done ?stop
  case assign =>
    intro l y w K hK
    unfold encCh
    gi_wp2
    exact hK
  case body =>
    rintro l pre y w hS hlen
    have hy := y.2
    obtain ⟨⟨b0, b1, b2, b3, b4, b5, b6, b7, b8, b9, b10, b11, b12⟩, hbx⟩ := KS.out _ (HCI.out.trans hS.cha)
    have hCW := HC2.out.trans (HCI.out.trans hS.cha)
    have c0 := HLI.out (3 * y.1) w (by have := HQ.out; omega) hCW
    have c1 : w.cell? ⟨bL, oL + 3 * y.1 + 1, none⟩ = some (.int .i64 ((li[3 * y.1 + 1]?).getD 0)) := by rw [Nat.add_assoc]; exact HLI.out (3 * y.1 + 1) w (by have := HQ.out; omega) hCW
    have c2 : w.cell? ⟨bL, oL + 3 * y.1 + 2, none⟩ = some (.int .i64 ((li[3 * y.1 + 2]?).getD 0)) := by rw [Nat.add_assoc]; exact HLI.out (3 * y.1 + 2) w (by have := HQ.out; omega) hCW
    have HS := Lib.hid hS
    have HBX := Lib.hid hbx
    have fz := frozen_of_row w (W.heap.size + 1) 0 _ 28 hbx
    have HCW := Lib.hid hCW
    obtain ⟨E, hE⟩ : ∃ E, E = cz sl li y.1 := ⟨_, rfl⟩
    have CE : Hid (∀ w5, Cha (fun _ => False) W w5 → Calls Try.prog 119 #[.agg #[.slice aT nT cT, .slice aG nG cG, .slice aF nF cF, .int .i64 pa, .slice aS nS cS, .slice aR nR cR, .slice aC nC cC, .int .i64 op, .int .i64 a, .int .i64 b, .int .i64 c, .int .u64 (im : Int), .slice aL nL cL], .int .i64 ((li[3 * y.1]?).getD 0), .int .i64 ((li[3 * y.1 + 1]?).getD 0), .int .i64 ((li[3 * y.1 + 2]?).getD 0)] w5 (Says w5 (.int .i64 E))) := Lib.hid fun w5 k => by rw [hE]; exact CC.out w5 _ _ _ k
    have HE := Lib.hid hE
    clear hS hbx hCW hE CC
    generalize (li[3 * y.1]?).getD 0 = z0 at *
    generalize (li[3 * y.1 + 1]?).getD 0 = z1 at *
    generalize (li[3 * y.1 + 2]?).getD 0 = z2 at *
    have hHeld : (fun w' : World => w'.cell? ⟨bL, oL + 3 * y.1, none⟩ = some (.int .i64 z0) ∧ w'.cell? ⟨bL, oL + 3 * y.1 + 1, none⟩ = some (.int .i64 z1) ∧ w'.cell? ⟨bL, oL + 3 * y.1 + 2, none⟩ = some (.int .i64 z2) ∧ w'.cell? ⟨W.heap.size, 0, none⟩ = some (.slice aT nT cT) ∧ w'.cell? ⟨W.heap.size, 1, none⟩ = some (.slice aG nG cG) ∧ w'.cell? ⟨W.heap.size, 2, none⟩ = some (.slice aF nF cF) ∧ w'.cell? ⟨W.heap.size, 3, none⟩ = some (.int .i64 pa) ∧ w'.cell? ⟨W.heap.size, 4, none⟩ = some (.slice aS nS cS) ∧ w'.cell? ⟨W.heap.size, 5, none⟩ = some (.slice aR nR cR) ∧ w'.cell? ⟨W.heap.size, 6, none⟩ = some (.slice aC nC cC) ∧ w'.cell? ⟨W.heap.size, 7, none⟩ = some (.int .i64 op) ∧ w'.cell? ⟨W.heap.size, 8, none⟩ = some (.int .i64 a) ∧ w'.cell? ⟨W.heap.size, 9, none⟩ = some (.int .i64 b) ∧ w'.cell? ⟨W.heap.size, 10, none⟩ = some (.int .i64 c) ∧ w'.cell? ⟨W.heap.size, 11, none⟩ = some (.int .u64 (im : Int)) ∧ w'.cell? ⟨W.heap.size, 12, none⟩ = some (.slice aL nL cL)) w.drew := ⟨c0, c1, c2, b0, b1, b2, b3, b4, b5, b6, b7, b8, b9, b10, b11, b12⟩
    gi_wp2
    refine region_in (S := fun w' : World => w'.cell? ⟨bL, oL + 3 * y.1, none⟩ = some (.int .i64 z0) ∧ w'.cell? ⟨bL, oL + 3 * y.1 + 1, none⟩ = some (.int .i64 z1) ∧ w'.cell? ⟨bL, oL + 3 * y.1 + 2, none⟩ = some (.int .i64 z2) ∧ w'.cell? ⟨W.heap.size, 0, none⟩ = some (.slice aT nT cT) ∧ w'.cell? ⟨W.heap.size, 1, none⟩ = some (.slice aG nG cG) ∧ w'.cell? ⟨W.heap.size, 2, none⟩ = some (.slice aF nF cF) ∧ w'.cell? ⟨W.heap.size, 3, none⟩ = some (.int .i64 pa) ∧ w'.cell? ⟨W.heap.size, 4, none⟩ = some (.slice aS nS cS) ∧ w'.cell? ⟨W.heap.size, 5, none⟩ = some (.slice aR nR cR) ∧ w'.cell? ⟨W.heap.size, 6, none⟩ = some (.slice aC nC cC) ∧ w'.cell? ⟨W.heap.size, 7, none⟩ = some (.int .i64 op) ∧ w'.cell? ⟨W.heap.size, 8, none⟩ = some (.int .i64 a) ∧ w'.cell? ⟨W.heap.size, 9, none⟩ = some (.int .i64 b) ∧ w'.cell? ⟨W.heap.size, 10, none⟩ = some (.int .i64 c) ∧ w'.cell? ⟨W.heap.size, 11, none⟩ = some (.int .u64 (im : Int)) ∧ w'.cell? ⟨W.heap.size, 12, none⟩ = some (.slice aL nL cL)) (by kernel_rfl) (noDefer_spec (by kernel_rfl)) ?_
    refine wpAnyH_take (i := 0) (v := ?_) rfl (by kernel_rfl) (by kernel_rfl) (by kernel_rfl) (fun _ _ _ h => by cases h.1) (Or.inl ⟨by rfl, ?_⟩) (by assumption) ?_
    rotate_left
    · intro w hSw; (try dsimp only at hSw); go_simp; (try with_reducible rfl)
    try simp only [Act.put, List.setIfInBounds_toArray, List.set_cons_zero, List.set_cons_succ]
    refine wpAnyH_take (i := 1) (v := ?_) rfl (by kernel_rfl) (by kernel_rfl) (by kernel_rfl) (fun _ _ _ h => by cases h.1) (Or.inl ⟨by rfl, ?_⟩) (by assumption) ?_
    rotate_left
    · intro w hSw; (try dsimp only at hSw); go_simp; (try with_reducible rfl)
    try simp only [Act.put, List.setIfInBounds_toArray, List.set_cons_zero, List.set_cons_succ]
    refine wpAnyH_take (i := 2) (v := ?_) rfl (by kernel_rfl) (by kernel_rfl) (by kernel_rfl) (fun _ _ _ h => by cases h.1) (Or.inl ⟨by rfl, ?_⟩) (by assumption) ?_
    rotate_left
    · intro w hSw; (try dsimp only at hSw); go_simp; (try with_reducible rfl)
    try simp only [Act.put, List.setIfInBounds_toArray, List.set_cons_zero, List.set_cons_succ]
    refine wpAnyH_take (i := 3) (v := ?_) rfl (by kernel_rfl) (by kernel_rfl) (by kernel_rfl) (fun _ _ _ h => by cases h.1) (Or.inl ⟨by rfl, ?_⟩) (by assumption) ?_
    rotate_left
    · intro w hSw; (try dsimp only at hSw); go_simp; (try with_reducible rfl)
    try simp only [Act.put, List.setIfInBounds_toArray, List.set_cons_zero, List.set_cons_succ]
    refine wpAnyH_take (i := 4) (v := ?_) rfl (by kernel_rfl) (by kernel_rfl) (by kernel_rfl) (fun _ _ _ h => by cases h.1) (Or.inl ⟨by rfl, ?_⟩) (by assumption) ?_
    rotate_left
    · intro w hSw; (try dsimp only at hSw); go_simp; (try with_reducible rfl)
    try simp only [Act.put, List.setIfInBounds_toArray, List.set_cons_zero, List.set_cons_succ]
    refine wpAnyH_take (i := 5) (v := ?_) rfl (by kernel_rfl) (by kernel_rfl) (by kernel_rfl) (fun _ _ _ h => by cases h.1) (Or.inl ⟨by rfl, ?_⟩) (by assumption) ?_
    rotate_left
    · intro w hSw; (try dsimp only at hSw); go_simp; (try with_reducible rfl)
    try simp only [Act.put, List.setIfInBounds_toArray, List.set_cons_zero, List.set_cons_succ]
    refine wpAnyH_take (i := 6) (v := ?_) rfl (by kernel_rfl) (by kernel_rfl) (by kernel_rfl) (fun _ _ _ h => by cases h.1) (Or.inl ⟨by rfl, ?_⟩) (by assumption) ?_
    rotate_left
    · intro w hSw; (try dsimp only at hSw); go_simp; (try with_reducible rfl)
    try simp only [Act.put, List.setIfInBounds_toArray, List.set_cons_zero, List.set_cons_succ]
    refine wpAnyH_take (i := 7) (v := ?_) rfl (by kernel_rfl) (by kernel_rfl) (by kernel_rfl) (fun _ _ _ h => by cases h.1) (Or.inl ⟨by rfl, ?_⟩) (by assumption) ?_
    rotate_left
    · intro w hSw; (try dsimp only at hSw); go_simp; (try with_reducible rfl)
    try simp only [Act.put, List.setIfInBounds_toArray, List.set_cons_zero, List.set_cons_succ]
    refine wpAnyH_take (i := 8) (v := ?_) rfl (by kernel_rfl) (by kernel_rfl) (by kernel_rfl) (fun _ _ _ h => by cases h.1) (Or.inl ⟨by rfl, ?_⟩) (by assumption) ?_
    rotate_left
    · intro w hSw; (try dsimp only at hSw); go_simp; (try with_reducible rfl)
    try simp only [Act.put, List.setIfInBounds_toArray, List.set_cons_zero, List.set_cons_succ]
    refine wpAnyH_take (i := 9) (v := ?_) rfl (by kernel_rfl) (by kernel_rfl) (by kernel_rfl) (fun _ _ _ h => by cases h.1) (Or.inl ⟨by rfl, ?_⟩) (by assumption) ?_
    rotate_left
    · intro w hSw; (try dsimp only at hSw); go_simp; (try with_reducible rfl)
    try simp only [Act.put, List.setIfInBounds_toArray, List.set_cons_zero, List.set_cons_succ]
    refine wpAnyH_ready (rs := [10]) (by kernel_rfl) (by simp) ?_
    refine AllReadyH.cons rfl (fun K hK => ?_) AllReadyH.nil
    go_simp
    go_at_call 119
    refine (CE.out _ HCW.out.drew).mono ?_
    rintro e w5 ⟨rfl, k5⟩
    have K5 := Lib.hid (((Cha.refl (fun _ => False) w).drew).trans k5)
    clear k5
    obtain ⟨⟨d0, d1, d2, d3, d4, d5, d6, d7, d8, d9, d10, d11, d12⟩, dbx⟩ := KS.out _ (HCI.out.trans (HS.out.cha.trans K5.out))
    have e0 := cell_cha (B := fun _ => True) K5.out (fun _ f => f.elim) trivial c0
    have e1 := cell_cha (B := fun _ => True) K5.out (fun _ f => f.elim) trivial c1
    have e2 := cell_cha (B := fun _ => True) K5.out (fun _ f => f.elim) trivial c2
    have fz5 := frozen_of_row w5 (W.heap.size + 1) 0 _ 28 dbx
    have cz5 := cell_of_row w5 (W.heap.size + 1) 0 _ 28 (0, 0) dbx
    have DBX := Lib.hid dbx
    clear dbx
    refine hK.out _ _ ⟨e0, e1, e2, d0, d1, d2, d3, d4, d5, d6, d7, d8, d9, d10, d11, d12⟩ (fun hHeld => ?_)
    clear hK K hHeld
    have hHeld : (fun w' : World => w'.cell? ⟨bL, oL + 3 * y.1, none⟩ = some (.int .i64 z0) ∧ w'.cell? ⟨bL, oL + 3 * y.1 + 1, none⟩ = some (.int .i64 z1) ∧ w'.cell? ⟨bL, oL + 3 * y.1 + 2, none⟩ = some (.int .i64 z2) ∧ w'.cell? ⟨W.heap.size, 0, none⟩ = some (.slice aT nT cT) ∧ w'.cell? ⟨W.heap.size, 1, none⟩ = some (.slice aG nG cG) ∧ w'.cell? ⟨W.heap.size, 2, none⟩ = some (.slice aF nF cF) ∧ w'.cell? ⟨W.heap.size, 3, none⟩ = some (.int .i64 pa) ∧ w'.cell? ⟨W.heap.size, 4, none⟩ = some (.slice aS nS cS) ∧ w'.cell? ⟨W.heap.size, 5, none⟩ = some (.slice aR nR cR) ∧ w'.cell? ⟨W.heap.size, 6, none⟩ = some (.slice aC nC cC) ∧ w'.cell? ⟨W.heap.size, 7, none⟩ = some (.int .i64 op) ∧ w'.cell? ⟨W.heap.size, 8, none⟩ = some (.int .i64 a) ∧ w'.cell? ⟨W.heap.size, 9, none⟩ = some (.int .i64 b) ∧ w'.cell? ⟨W.heap.size, 10, none⟩ = some (.int .i64 c) ∧ w'.cell? ⟨W.heap.size, 11, none⟩ = some (.int .u64 (im : Int)) ∧ w'.cell? ⟨W.heap.size, 12, none⟩ = some (.slice aL nL cL)) w5 := ⟨e0, e1, e2, d0, d1, d2, d3, d4, d5, d6, d7, d8, d9, d10, d11, d12⟩
    try simp only [Act.put, List.setIfInBounds_toArray, List.set_cons_zero, List.set_cons_succ]
    refine wpAnyH_take (i := 11) (v := ?_) rfl (by kernel_rfl) (by kernel_rfl) (by kernel_rfl) (fun _ _ _ h => by cases h.1) (Or.inl ⟨by rfl, ?_⟩) (by assumption) ?_
    rotate_left
    · intro w hSw; (try dsimp only at hSw); go_simp; (try with_reducible rfl)
    try simp only [Act.put, List.setIfInBounds_toArray, List.set_cons_zero, List.set_cons_succ]
    refine wpAnyH_done (by kernel_rfl) ?_ _
    refine ⟨rfl, ?_⟩
    clear hHeld
    have KEEP : Hid (∀ k, k < W.heap.size + 1 + 1 + 1 + 1 → w5.heap[k]? = w.heap[k]?) := Lib.hid fun k hk => K5.out.old k (by have := HS.out.cha.size; have := S4.out; omega) (fun f => f)
    have KF : Hid (KeepsFrom W4.heap.size w w5) := Lib.hid ⟨K5.out.size, fun k o _ hk _ => (K5.out.old k (Array.getElem?_eq_some_iff.1 hk).1 (fun f => f)).trans hk⟩
    by_cases h5 : E = 0
    · subst h5
      gi_wp2
      refine ⟨KF.out, ⟨KEEP.out _ (by omega), KEEP.out _ (by omega)⟩, HS.out.cha.trans K5.out, fun z hz => ?_⟩
      rcases List.mem_append.1 hz with hz | hz
      · exact HS.out.ok z hz
      · obtain rfl : z = y := by simpa using hz
        exact HE.out.symm
    · have d5 : (E == 0) = false := by simpa using h5
      have d6 : (E != 0) = true := by simpa using h5
      have H5 := Lib.hid h5
      clear h5
      gi_wp2
      refine ⟨KF.out.trans ((KeepsOthers.setCell _ _ _).from _), pre, y, ⟨rfl, rfl, HS.out.ok, by rw [← HE.out]; exact H5.out, ?_, ?_⟩⟩
      · rw [← HE.out]
        exact heap_setCell_same w5 (W.heap.size + 1) 0 _ 28 _ DBX.out
      · exact ((HS.out.cha.trans K5.out).wide (S := fun i => i = W.heap.size + 1)).setCell (p := ⟨W.heap.size + 1, 0, none⟩) (fun _ => rfl) _
  case done =>
    rintro D ys w hD hys hS hK
    obtain ⟨⟨b0, b1, b2, b3, b4, b5, b6, b7, b8, b9, b10, b11, b12⟩, hbx⟩ := KS.out _ (HCI.out.trans hS.cha)
    have hCW := HC2.out.trans (HCI.out.trans hS.cha)
    have HBX := Lib.hid hbx
    have C5 := Lib.hid (CS.out w hCW)
    have HCW := Lib.hid hCW
    have HS := Lib.hid hS
    have HYS := Lib.hid hys
    have HK := Lib.hid hK
    have c0 := cell_of_row w (W.heap.size + 1) 0 _ 28 (0, 0) hbx
    have f0 := frozen_of_row w (W.heap.size + 1) 0 _ 28 hbx
    have s5 : W.heap.size + 1 < w.heap.size := (Array.getElem?_eq_some_iff.1 hbx).1
    have s6 : W.heap.size < w.heap.size := by omega
    have HR1 : Hid (R = wantsZ sl [(a, 0)]) := Lib.hid (by
      rw [HR.out]
      unfold selectZ
      rw [if_pos ⟨h0, h1, by rw [← HN.out]; omega⟩, cases_ok q li (by rw [← HN.out]; exact HQ.out) fun k hk => by
        have hm : k ∈ List.range q := List.mem_range.2 hk
        rw [← hys] at hm
        obtain ⟨y, hy, rfl⟩ := List.mem_map.1 hm
        exact hS.ok y hy]
      rfl)
    clear hS hys hK hbx hCW
    generalize wantsZ sl [(a, 0)] = V at *
    gi_wp2_with (refine ⟨trivial, ?_⟩; gi_at_call 89; refine (callsIn_wide.2 C5.out).mono ?_; rintro e w6 ⟨rfl, k6⟩; have K6 := Lib.hid k6; have bx6 := (k6.old (W.heap.size + 1) s5 (fun f => f)).trans HBX.out; have c6 := cell_of_row w6 (W.heap.size + 1) 0 _ 28 (0, 0) bx6; have f6 := frozen_of_row w6 (W.heap.size + 1) 0 _ 28 bx6; have BX6 := Lib.hid bx6; clear k6 bx6)
    have hDw : D < w.heap.size := (Array.getElem?_eq_some_iff.1 HK.out).1
    have hDn : W.heap.size + 1 ≠ D := by have := S4.out; omega
    have hK' : (w6.setCell ⟨W.heap.size + 1, 0, none⟩ (.int .i64 V)).heap[D]? = _ := (heap_setCell_other w6 ⟨W.heap.size + 1, 0, none⟩ D _ (fun e => hDn e.symm)).trans ((K6.out.old D hDw (fun f => f)).trans HK.out)
    refine ⟨by simp, .inl ⟨_, _, rfl, run_takeDeferred hK', ?_⟩⟩
    have b7 := heap_setCell_same w6 (W.heap.size + 1) 0 _ 28 (.int .i64 V) BX6.out
    have b8 : ∀ o', ((w6.setCell ⟨W.heap.size + 1, 0, none⟩ (.int .i64 V)).putObj D o').heap[W.heap.size + 1]? = _ := fun o' => (World.putObj_heap_other hDn).trans b7
    have g1 := cell_of_row _ _ 0 _ 28 (0, 0) (b8 (.deferred none))
    simp only [List.setIfInBounds_toArray, List.set_cons_zero, List.getElem?_toArray, List.getElem?_cons_zero] at g1
    refine ⟨.int .i64 V, ?_, by rw [HR1.out], ?_⟩
    · simp [results, Try.f101, go_sem, g1]
    · exact (((HCW.out.trans K6.out).over ((Cha.refl (fun i => i = W.heap.size + 1) w6).setCell (p := ⟨W.heap.size + 1, 0, none⟩) (fun _ => rfl) (.int .i64 V)) (fun i e => by have e : i = W.heap.size + 1 := e; exact .inr (by omega)))).putObj (by have := S4.out; omega) _
  case stop =>
    rintro D c' pre w hD hpre ⟨ini, y, hF⟩ hK
    obtain rfl := hF.ret
    have HF := Lib.hid hF
    have HR1 : Hid (R = cz sl li y.1) := Lib.hid (by
      rw [HR.out]
      unfold selectZ
      have hpl := hpre
      rw [hF.eq, List.map_append, List.map_cons, List.map_nil] at hpl
      obtain ⟨rest, hr⟩ := hpl
      have hin : ∀ k, k < y.1 → cz sl li k = 0 := fun k hk => by
        have hlen : (ini.map (·.1)).length = y.1 := by
          have h1 : (List.range q)[(ini.map (·.1)).length]? = some y.1 := by rw [← hr, List.append_assoc, List.getElem?_append_right (Nat.le_refl _)]; simp
          obtain ⟨h2, h3⟩ := List.getElem?_eq_some_iff.1 h1
          rw [List.getElem_range] at h3
          exact h3
        have h1 : (List.range q)[k]? = (ini.map (·.1))[k]? := by rw [← hr, List.append_assoc, List.getElem?_append_left (by omega)]
        rw [List.getElem?_range (by have := y.2; omega)] at h1
        have hm : k ∈ ini.map (·.1) := List.mem_of_getElem? h1.symm
        obtain ⟨z, hz, rfl⟩ := List.mem_map.1 hm
        exact hF.ok z hz
      rw [if_pos ⟨h0, h1, by rw [← HN.out]; omega⟩, cases_bad q li y.1 (by rw [← HN.out]; exact HQ.out) y.2 hin hF.bad]
      unfold orZ
      rw [if_neg hF.bad])
    clear hF
    gi_wp2
    refine ⟨by simp, .inl ⟨_, _, rfl, run_takeDeferred hK, ?_⟩⟩
    have hDn : W.heap.size + 1 ≠ D := by have := S4.out; omega
    have b8 : ∀ o', (w.putObj D o').heap[W.heap.size + 1]? = _ := fun o' => (World.putObj_heap_other hDn).trans HF.out.box
    have g1 := cell_of_row _ _ 0 _ 28 (0, 0) (b8 (.deferred none))
    simp only [List.getElem?_toArray, List.getElem?_cons_zero] at g1
    refine ⟨.int .i64 (cz sl li y.1), ?_, by rw [HR1.out], ?_⟩
    · simp [results, Try.f101, go_sem, g1]
    · exact ((HC2.out.trans HCI.out).over HF.out.cha (fun i e => by have e : i = W.heap.size + 1 := e; exact .inr (by omega))).putObj (by have := S4.out; omega) _
end Go.Proofs.Ytpdjbhnpahkbpaa
