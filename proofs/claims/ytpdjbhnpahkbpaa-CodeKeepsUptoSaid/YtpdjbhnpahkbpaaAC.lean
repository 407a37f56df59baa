/- The document's reader: a word, a number. -/
import Derived.Test.YtpdjbhnpahkbpaaN
namespace Go.Proofs.Ytpdjbhnpahkbpaa
open Go.ChangeShapes Go.WideShapes Go.ChangeAt Go.RowKit

/-- The document's reader at block br over the text T, which lies in blocks of B. -/
structure Dr (B : Nat → Prop) (W : World) (br : Nat) (T : List Nat) (s : RSt) : Prop where
  head : ∃ a c p, W.heap[br]? = some (.cells #[.slice a T.length c, .int .i64 ((p : Nat) : Int), .int .i64 s.e, .int .i64 (s.fa : Int)] 84 (0, 0)) ∧ (s.e = 0 → p = s.at_) ∧ p ≤ T.length ∧ RdS 1 RdU8 B W (.slice a T.length c) T ∧ T.length ≤ c
  low : ∀ i, B i → i < br
  ok : s.ok T
section
variable {m : Nat} {B : Nat → Prop} {br : Nat} {S : Nat → Prop} {W W' : World} {T : List Nat} {s : RSt}
theorem Dr.lt (h : Dr B W br T s) : br < W.heap.size := by
  obtain ⟨a, c, p, h1, _⟩ := h.head
  exact (Array.getElem?_eq_some_iff.1 h1).1
theorem Dr.cha (h : Dr B W br T s) (c : Cha S W W') (hs : ¬ S br) (hB : ∀ i, S i → ¬ B i) : Dr B W' br T s := by
  obtain ⟨a, k, p, h1, h2, h3, h4, h5⟩ := h.head
  exact ⟨⟨a, k, p, (c.old br h.lt hs).trans h1, h2, h3, h4.bytes c hB (fun _ h => h), h5⟩, h.low, h.ok⟩
theorem Dr.alloc (h : Dr B W br T s) (o : Obj) : Dr B (W.alloc o) br T s := h.cha ((Cha.refl (fun _ => False) W).alloc o) (fun f => f) (fun _ f => f.elim)
theorem Dr.err (h : Dr B W br T s) : W.cell? ⟨br, 2, none⟩ = some (.int .i64 s.e) := by
  obtain ⟨a, c, p, h1, _⟩ := h.head
  exact cell_of_row W br 2 _ 84 (0, 0) h1
theorem Dr.bad (h : Dr B W br T s) : W.cell? ⟨br, 3, none⟩ = some (.int .i64 (s.fa : Int)) := by
  obtain ⟨a, c, p, h1, _⟩ := h.head
  exact cell_of_row W br 3 _ 84 (0, 0) h1
theorem Dr.pos (h : Dr B W br T s) : ∃ p : Nat, W.cell? ⟨br, 1, none⟩ = some (.int .i64 (p : Int)) ∧ (s.e = 0 → p = s.at_) ∧ p ≤ T.length := by
  obtain ⟨a, c, p, h1, h2, h3, _⟩ := h.head
  exact ⟨p, cell_of_row W br 1 _ 84 (0, 0) h1, h2, h3⟩
theorem Dr.cell1 (h : Dr B W br T ⟨m, 0, 0⟩) : W.cell? ⟨br, 1, none⟩ = some (.int .i64 (m : Int)) := by
  obtain ⟨a, c, p, h1, h2, h3, _⟩ := h.head
  rw [cell_of_row W br 1 _ 84 (0, 0) h1, h2 rfl]
  rfl
theorem Dr.free (h : Dr B W br T s) (i : Nat) : W.frozen? ⟨br, i, none⟩ = false := by
  obtain ⟨a, c, p, h1, _⟩ := h.head
  exact frozen_of_row W br i _ 84 h1
theorem Dr.bytes (h : Dr B W br T s) : ∀ x ∈ T, x < 256 := by
  obtain ⟨_, _, _, _, _, _, h, _⟩ := h.head
  exact h.small
theorem Dr.move (h : Dr B W br T s) (n : Nat) (s' : RSt) (he : s'.e = s.e) (hf : s'.fa = s.fa) (hn : s'.e = 0 → n = s'.at_) (hn2 : n ≤ T.length) (ho : s'.ok T) : Dr B (W.setCell ⟨br, 1, none⟩ (.int .i64 (n : Int))) br T s' ∧ Cha (fun i => i = br) W (W.setCell ⟨br, 1, none⟩ (.int .i64 (n : Int))) := by
  obtain ⟨a, c, p, h1, h2, h3, h4, h5⟩ := h.head
  have k : Cha (fun i => i = br) W (W.setCell ⟨br, 1, none⟩ (.int .i64 (n : Int))) := (Cha.refl (fun i => i = br) W).setCell (p := ⟨br, 1, none⟩) (fun _ => rfl) _
  have e1 := heap_setCell_same W br 1 _ 84 (.int .i64 (n : Int)) h1
  refine ⟨⟨⟨a, c, n, ?_, hn, hn2, h4.bytes k (fun i e hb => by have e : i = br := e; subst e; have := h.low _ hb; omega) (fun _ h => h), h5⟩, h.low, ho⟩, k⟩
  rw [e1, he, hf]
  rfl
theorem Dr.fails (h : Dr B W br T s) (e : Int) (f : Nat) (s' : RSt) (hs : s' = ⟨s.at_, e, f⟩) (he : e ≠ 0) (ho : s'.ok T) :
    Dr B ((W.setCell ⟨br, 2, none⟩ (.int .i64 e)).setCell ⟨br, 3, none⟩ (.int .i64 (f : Int))) br T s' ∧ Cha (fun i => i = br) W ((W.setCell ⟨br, 2, none⟩ (.int .i64 e)).setCell ⟨br, 3, none⟩ (.int .i64 (f : Int))) := by
  obtain ⟨a, c, p, h1, h2, h3, h4, h5⟩ := h.head
  have k : Cha (fun i => i = br) W ((W.setCell ⟨br, 2, none⟩ (.int .i64 e)).setCell ⟨br, 3, none⟩ (.int .i64 (f : Int))) :=
    ((Cha.refl (fun i => i = br) W).setCell (p := ⟨br, 2, none⟩) (fun _ => rfl) _).setCell (p := ⟨br, 3, none⟩) (fun _ => rfl) _
  have e1 := heap_setCell_same W br 2 _ 84 (.int .i64 e) h1
  have e2 := heap_setCell_same _ br 3 _ 84 (.int .i64 (f : Int)) e1
  subst hs
  exact ⟨⟨⟨a, c, p, e2, fun c => absurd c he, h3, h4.bytes k (fun i e hb => by have e : i = br := e; subst e; have := h.low _ hb; omega) (fun _ h => h), h5⟩, h.low, ho⟩, k⟩
/-- What a call of the document's reader's leaves. -/
def DRead (B : Nat → Prop) (br : Nat) (T : List Nat) (v : Value) (s : RSt) (W : World) : Ending → World → Prop := fun e w' => e = .returned v ∧ Dr B w' br T s ∧ Cha (fun i => i = br) W w'
theorem DRead.of {v v' : Value} {s s' : RSt} {e : Ending} {w' : World} (h : DRead B br T v s W e w') (hv : v = v') (hs : s = s') : DRead B br T v' s' W e w' := hv ▸ hs ▸ h
theorem fail_goes (e : Int) (f : Nat) (h : Dr B W br T s) (h0 : s.e = 0) (he : e ≠ 0) (hf : f ≤ T.length) :
    Calls Try.prog 38 #[.pointer (some ⟨br, 0, none⟩), .int .i64 e, .int .i64 (f : Int)] W (DRead B br T (.tuple #[]) ⟨s.at_, e, f⟩ W) := by
  have c2 := h.err
  rw [h0] at c2
  have c3 := h.bad
  have f2 := h.free 2
  have f3 := h.free 3
  have HF := Lib.hid (h.fails e f ⟨s.at_, e, f⟩ rfl he ⟨h.ok.le, hf, fun c => absurd c he⟩)
  clear h h0 he hf
  go_enter Try.func38, Try.ntmps38
  go_wp2
  go_end0
  exact ⟨rfl, HF.out.1, HF.out.2⟩
theorem Dr.re {m m' : Nat} {e : Int} {f : Nat} (h : Dr B W br T ⟨m, e, f⟩) (he : e ≠ 0) (hm : m' ≤ T.length) : Dr B W br T ⟨m', e, f⟩ := by
  obtain ⟨a, c, p, h1, h2, h3⟩ := h.head
  exact ⟨⟨a, c, p, h1, fun c => absurd c he, h3⟩, h.low, ⟨hm, h.ok.fa, fun c => absurd c he⟩⟩
theorem dword_stop (h : Dr B W br T s) (he : s.e ≠ 0) : Calls Try.prog 60 #[.pointer (some ⟨br, 0, none⟩)] W (DRead B br T (.int .u64 0) s W) := by
  have c2 := h.err
  obtain ⟨p, c1, _⟩ := h.pos
  have H := Lib.hid h
  have he1 : (s.e == 0) = false := by simpa using he
  clear h
  obtain ⟨E, hE⟩ : ∃ E, E = s.e := ⟨_, rfl⟩
  rw [← hE] at c2 he1
  clear hE he
  go_enter Try.func60, Try.ntmps60
  go_wp2
  go_loopw [5] (fun i wr => i = .int .i64 0 ∧ wr = W) (fun _ _ => 0)
  case atStart => exact ⟨rfl, rfl⟩
  case round =>
    obtain ⟨rfl, rfl⟩ := hrel
    go_wp2
    go_ret
    exact ⟨rfl, H.out, Cha.refl _ _⟩
set_option maxRecDepth 100000 in
set_option maxHeartbeats 2000000 in
theorem dword_goes (h : Dr B W br T s) (he : s.e = 0) : Calls Try.prog 60 #[.pointer (some ⟨br, 0, none⟩)] W (DRead B br T (.int .u64 ((rWord T 18446744073709551615 8 s).1 : Int)) (rWord T 18446744073709551615 8 s).2 W) := by
  have hT := h.bytes
  have HO := Lib.hid (rWord_ok (lim := 18446744073709551615) (ab := 8) hT h.ok (by decide))
  have hfb := fw_bound (T.drop s.at_) 0 0 (by omega) (by simp) fun x hx => hT x (List.mem_of_mem_drop hx)
  have HW : Hid (rWord T 18446744073709551615 8 s = if (fw (T.drop s.at_) 0 0).2.2 ≠ 0 then (0, ⟨s.at_, (fw (T.drop s.at_) 0 0).2.2, s.at_⟩) else ((fw (T.drop s.at_) 0 0).1, ⟨s.at_ + (fw (T.drop s.at_) 0 0).2.1, 0, 0⟩)) := Lib.hid (by
    have e : rErr 18446744073709551615 8 (fw (T.drop s.at_) 0 0) = (fw (T.drop s.at_) 0 0).2.2 := by unfold rErr; rw [if_neg (fun c => by have := c.2; have := hfb.1; omega)]
    conv => lhs; unfold rWord
    rw [if_neg (fun c => c he), e])
  have HT := Lib.hid hT
  obtain ⟨st, se, sf⟩ := s
  have he : se = 0 := he
  subst he
  have hf0 : sf = 0 := h.ok.z rfl
  subst hf0
  have hle := h.ok.le
  obtain ⟨p, c1, hp, _⟩ := h.pos
  obtain rfl : p = st := hp rfl
  have c2 := h.err
  have H := Lib.hid h
  obtain ⟨n, hn⟩ : ∃ n, n = T.length := ⟨_, rfl⟩
  have HN := Lib.hid hn
  have hlen : n ≤ 9223372036854775807 := by obtain ⟨_, _, _, _, _, _, h, _⟩ := h.head; have := h.len; omega
  have hle : p ≤ n := by have h2 : p ≤ T.length := hle; omega
  obtain ⟨R, hR⟩ : ∃ R, R = fw (T.drop p) 0 0 := ⟨_, rfl⟩
  have HR := Lib.hid hR
  simp only at HW
  rw [← hR] at HW
  clear h hT hfb hn hp hR
  go_enter Try.func60, Try.ntmps60
  go_wp2
  go_loopw [4, 5] (fun x i wr => ∃ (k N : Nat), k ≤ 9 ∧ p + k ≤ n ∧ i = .int .i64 (k : Int) ∧ x = .int .u64 (N : Int) ∧ N < 2 ^ (7 * k) ∧ fw (T.drop (p + k)) k N = R ∧ Dr B wr br T ⟨p + k, 0, 0⟩ ∧ Cha (fun i => i = br) W wr) (fun _ i _ => 10 - (intOf i).toNat)
  case atStart => exact ⟨0, 0, by omega, hle, rfl, rfl, by simp, HR.out.symm, H.out, Cha.refl _ _⟩
  case round =>
    clear c1 c2
    obtain ⟨k, N, hk9, hkn, rfl, rfl, hN, hf, hD, hC⟩ := hrel
    have HF := Lib.hid hf
    have HP := Lib.hid hN
    have HD := Lib.hid hD
    have HC := Lib.hid hC
    have c2 : wr.cell? ⟨br, 2, none⟩ = some (.int .i64 0) := hD.err
    have f1 := hD.free 1
    obtain ⟨a, c, q, h1, hq, _, h4, h5⟩ := hD.head
    obtain rfl : q = p + k := hq rfl
    have c0 : wr.cell? ⟨br, 0, none⟩ = some (.slice a n c) := by rw [HN.out]; exact cell_of_row wr br 0 _ 84 (0, 0) h1
    have c1 : wr.cell? ⟨br, 1, none⟩ = some (.int .i64 ((p + k : Nat) : Int)) := cell_of_row wr br 1 _ 84 (0, 0) h1
    have H4 := Lib.hid h4
    obtain ⟨m, hm⟩ : ∃ m, m = p + k := ⟨_, rfl⟩
    rw [← hm] at c1 hkn HF HD
    have HM := Lib.hid hm
    have HFA : Hid (∀ (m' : Nat), m' ≤ m + 1 → ∀ (e : Int), e ≠ 0 → R = (0, 0, e) → ∀ w, Dr B w br T ⟨m', 0, 0⟩ → Calls Try.prog 38 #[.pointer (some ⟨br, 0, none⟩), .int .i64 e, .int .i64 (p : Int)] w (DRead B br T (.tuple #[]) ⟨m', e, p⟩ w)) := Lib.hid (fun m' _ e he _ w h => fail_goes e p h rfl he (by have := HN.out; omega))
    clear hf hN hD hC h1 h4 hq hm
    by_cases hlt : m < n
    · obtain ⟨b, hb⟩ : ∃ b, T[m]? = some b := ⟨_, List.getElem?_eq_getElem (by have := HN.out; omega)⟩
      obtain ⟨g, o, _, hea, _, _, hx⟩ := H4.out.at hb
      obtain rfl : a = some ⟨g, o, none⟩ := by injection hea
      have hc := hx.1
      rw [Nat.mul_one] at hc
      have hb256 := hx.2
      have HFD : Hid (fw (T.drop m) k N = fw (b :: T.drop (m + 1)) k N) := Lib.hid (by
        have hkl : m < T.length := by have := HN.out; omega
        rw [List.getElem?_eq_getElem hkl] at hb
        injection hb with hb
        rw [List.drop_eq_getElem_cons hkl, hb])
      clear hea hx hb
      have HX : Hid (∀ w, Cha (fun _ => False) wr w → w.cell? ⟨br, 0, none⟩ = some (.slice (some ⟨g, o, none⟩) n c) ∧ w.cell? ⟨br, 1, none⟩ = some (.int .i64 (m : Int)) ∧ w.cell? ⟨br, 2, none⟩ = some (.int .i64 0) ∧ w.cell? ⟨g, o + m, none⟩ = some (.int .u8 (b : Int)) ∧ w.frozen? ⟨br, 1, none⟩ = false ∧ Dr B w br T ⟨m, 0, 0⟩) := Lib.hid (fun w hw => by
        have hd := HD.out.cha hw (fun f => f) (fun _ f => f.elim)
        exact ⟨cell_cha (B := fun _ => True) hw (fun _ f => f.elim) trivial c0, hd.cell1, hd.err, cell_cha (B := fun _ => True) hw (fun _ f => f.elim) trivial hc, hd.free 1, hd⟩)
      have hkm : ((p + k : Nat) : Int) = (m : Int) := by have := HM.out; omega
      clear hkm
      have hmn : (m : Int) < (n : Int) := by omega
      have hmw : IntKind.i64.wrap ((m : Int) + 1) = ((m + 1 : Nat) : Int) := by rw [IntKind.wrap_i64]; omega
      have hm0 : (0 : Int) ≤ (m : Int) := by omega
      have hmt : ((m : Int)).toNat = m := by omega
      by_cases h9 : k = 9 ∧ 1 < b
      · have HE : Hid (R = (0, 0, 8)) := Lib.hid (by rw [← HF.out, HFD.out, fw_long h9])
        have CF := Lib.hid (fun w h => HFA.out (m + 1) (by omega) 8 (by decide) HE.out w (h : Dr B w br T ⟨m + 1, 0, 0⟩))
        have h9c : ((k : Int) == 9) = true := by simp; omega
        have h9d : (1 : Int) < (b : Int) := by omega
        clear HFA h9
        go_wp2
        go_quiet (fail)
        obtain ⟨c0', c1', c2', cb', f1', hd'⟩ := HX.out (wr.drewN nq) ((Cha.refl _ wr).drewN nq)
        have HC2 : Hid (Cha (fun i => i = br) W (wr.drewN nq)) := Lib.hid (HC.out.drewN nq)
        have HX1 : Hid (Cha (fun _ => False) wr (wr.drewN nq)) := Lib.hid ((Cha.refl _ wr).drewN nq)
        clear hd' c0 c1 c2 f1 hc
        generalize wr.drewN nq = w1 at *
        go_wp2
        go_quiet (fail)
        clear c0' c1' c2' cb' f1'
        obtain ⟨c0, c1, c2, cb, f1, hd⟩ := HX.out (w1.drewN nq) (HX1.out.drewN nq)
        have HC4 : Hid (Cha (fun i => i = br) W (w1.drewN nq)) := Lib.hid (HC2.out.drewN nq)
        generalize w1.drewN nq = w2 at *
        have MV := hd.move (m + 1) ⟨m + 1, 0, 0⟩ rfl rfl (fun _ => rfl) (by have := HN.out; omega) ⟨by have := HN.out; show m + 1 ≤ _; omega, Nat.zero_le _, fun _ => rfl⟩
        rw [show ((m + 1 : Nat) : Int) = (m : Int) + 1 by omega] at MV
        have HD3 := Lib.hid MV.1
        have HC3 := Lib.hid (HC4.out.trans MV.2)
        clear MV hd HX1 HC2 HC4
        go_wp2_with (go_at_call 38; ((with_reducible refine (CF.out _ HD3.out).mono ?_); rintro e w3 ⟨rfl, k1, k2⟩; have K1 := Lib.hid k1; have K2 := Lib.hid k2; clear k1 k2))
        all_goals
          go_ret
          exact DRead.of ⟨rfl, K1.out.re (m' := p) (by decide) (by have := HN.out; omega), HC3.out.trans K2.out⟩ (by rw [HW.out, HE.out]; rfl) (by rw [HW.out, HE.out]; rfl)
      · by_cases h0 : b = 0 ∧ 0 < k
        · have HE : Hid (R = (0, 0, 8)) := Lib.hid (by rw [← HF.out, HFD.out, fw_zero h0.1 h0.2])
          have CF := Lib.hid (fun w h => HFA.out (m + 1) (by omega) 8 (by decide) HE.out w (h : Dr B w br T ⟨m + 1, 0, 0⟩))
          have h2 : ¬ (1 : Int) < (b : Int) := by omega
          have h3 : ((b : Int) == 0) = true := by simp; omega
          have h4 : 0 < k := h0.2
          clear HFA h9 h0
          go_wp2
          go_quiet (fail)
          obtain ⟨c0', c1', c2', cb', f1', hd'⟩ := HX.out (wr.drewN nq) ((Cha.refl _ wr).drewN nq)
          have HC2 : Hid (Cha (fun i => i = br) W (wr.drewN nq)) := Lib.hid (HC.out.drewN nq)
          have HX1 : Hid (Cha (fun _ => False) wr (wr.drewN nq)) := Lib.hid ((Cha.refl _ wr).drewN nq)
          clear hd' c0 c1 c2 f1 hc
          generalize wr.drewN nq = w1 at *
          go_wp2
          go_quiet (fail)
          clear c0' c1' c2' cb' f1'
          obtain ⟨c0, c1, c2, cb, f1, hd⟩ := HX.out (w1.drewN nq) (HX1.out.drewN nq)
          have HC4 : Hid (Cha (fun i => i = br) W (w1.drewN nq)) := Lib.hid (HC2.out.drewN nq)
          generalize w1.drewN nq = w2 at *
          have MV := hd.move (m + 1) ⟨m + 1, 0, 0⟩ rfl rfl (fun _ => rfl) (by have := HN.out; omega) ⟨by have := HN.out; show m + 1 ≤ _; omega, Nat.zero_le _, fun _ => rfl⟩
          rw [show ((m + 1 : Nat) : Int) = (m : Int) + 1 by omega] at MV
          have HD3 := Lib.hid MV.1
          have HC3 := Lib.hid (HC4.out.trans MV.2)
          clear MV hd HX1 HC2 HC4
          go_wp2_with (go_at_call 38; ((with_reducible refine (CF.out _ HD3.out).mono ?_); rintro e w3 ⟨rfl, k1, k2⟩; have K1 := Lib.hid k1; have K2 := Lib.hid k2; clear k1 k2))
          all_goals
            go_ret
            exact DRead.of ⟨rfl, K1.out.re (m' := p) (by decide) (by have := HN.out; omega), HC3.out.trans K2.out⟩ (by rw [HW.out, HE.out]; rfl) (by rw [HW.out, HE.out]; rfl)
        · have H9 := Lib.hid h9
          have H0 := Lib.hid h0
          have hb1 : Hid (N + b % 128 * 2 ^ (7 * k) < 18446744073709551616 ∧ N + b % 128 * 2 ^ (7 * k) < 2 ^ (7 * (k + 1))) := Lib.hid (by
            have hP := HP.out
            have e2 := digs_pow (i := k)
            have h127 : b % 128 * 2 ^ (7 * k) ≤ 127 * 2 ^ (7 * k) := Nat.mul_le_mul_right _ (by omega)
            refine ⟨?_, by omega⟩
            by_cases c9 : k = 9
            · have hb1 : b ≤ 1 := by by_cases c : b ≤ 1; exact c; exact absurd ⟨c9, by omega⟩ h9
              subst c9
              have : b % 128 * 2 ^ (7 * 9) ≤ 1 * 2 ^ (7 * 9) := Nat.mul_le_mul_right _ (by omega)
              have e1 : (2 : Nat) ^ (7 * 9) = 9223372036854775808 := by decide
              omega
            · have : (2 : Nat) ^ (7 * (k + 1)) ≤ 2 ^ 63 := Nat.pow_le_pow_right (by omega) (by omega)
              have e1 : (2 : Nat) ^ 63 = 9223372036854775808 := by decide
              omega)
          have hor : Hid (IntKind.u64.wrap ((N : Int) + IntKind.u64.wrap ((b : Int) % 128 * 2 ^ (7 * k))) = ((N + b % 128 * 2 ^ (7 * k) : Nat) : Int)) := Lib.hid (by
            have e1 : ((b : Int) % 128 * 2 ^ (7 * k)) = ((b % 128 * 2 ^ (7 * k) : Nat) : Int) := by simp
            have := hb1.out.1
            rw [e1, IntKind.wrap_u64, IntKind.wrap_u64]
            omega)
          clear HFA h9 h0
          by_cases h128 : 128 ≤ b
          · have hk8 : k ≤ 8 := by by_cases c : k = 9; exact absurd ⟨c, by omega⟩ H9.out; omega
            have HE : Hid (fw (T.drop (m + 1)) (k + 1) (N + b % 128 * 2 ^ (7 * k)) = R) := Lib.hid (by rw [← HF.out, HFD.out, fw_more H9.out h128])
            have h1 : (128 : Int) ≤ (b : Int) := by omega
            have h2 : ((k : Int) == 9) = false := by simp; omega
            have h3 : ((b : Int) == 0) = false := by simp; omega
            clear h128
            go_wp2
            go_quiet (fail)
            obtain ⟨c0', c1', c2', cb', f1', hd'⟩ := HX.out (wr.drewN nq) ((Cha.refl _ wr).drewN nq)
            have HC2 : Hid (Cha (fun i => i = br) W (wr.drewN nq)) := Lib.hid (HC.out.drewN nq)
            have HX1 : Hid (Cha (fun _ => False) wr (wr.drewN nq)) := Lib.hid ((Cha.refl _ wr).drewN nq)
            clear hd' c0 c1 c2 f1 hc
            generalize wr.drewN nq = w1 at *
            go_wp2
            go_quiet (fail)
            clear c0' c1' c2' cb' f1'
            obtain ⟨c0, c1, c2, cb, f1, hd⟩ := HX.out (w1.drewN nq) (HX1.out.drewN nq)
            have HC4 : Hid (Cha (fun i => i = br) W (w1.drewN nq)) := Lib.hid (HC2.out.drewN nq)
            generalize w1.drewN nq = w2 at *
            have MV := hd.move (m + 1) ⟨m + 1, 0, 0⟩ rfl rfl (fun _ => rfl) (by have := HN.out; omega) ⟨by have := HN.out; show m + 1 ≤ _; omega, Nat.zero_le _, fun _ => rfl⟩
            rw [show ((m + 1 : Nat) : Int) = (m : Int) + 1 by omega] at MV
            have HD3 := Lib.hid MV.1
            have HC3 := Lib.hid (HC4.out.trans MV.2)
            clear MV hd HX1 HC2 HC4
            go_wp2
            all_goals
              go_roundw
              case rel => exact ⟨k + 1, N + b % 128 * 2 ^ (7 * k), by omega, by have := HM.out; omega, by go_num, by rw [hor.out], hb1.out.2, by rw [show p + (k + 1) = m + 1 by have := HM.out; omega]; exact HE.out, by rw [show p + (k + 1) = m + 1 by have := HM.out; omega]; exact HD3.out, HC3.out⟩
              case measure => simp [intOf]; omega
          · have HE : Hid (R = (N + b % 128 * 2 ^ (7 * k), k + 1, 0)) := Lib.hid (by rw [← HF.out, HFD.out, fw_last H9.out h128 H0.out])
            have h1 : ¬ (128 : Int) ≤ (b : Int) := by omega
            have h1' : (b : Int) < 128 := by omega
            clear h128
            by_cases hb0 : b = 0
            · have hk0 : ¬ 0 < k := fun c => H0.out ⟨by omega, c⟩
              have hk1 : ((k : Int) == 9) = false := by simp; omega
              have hk2 : ((b : Int) == 0) = true := by simp; omega
              clear hb0
              go_wp2
              go_quiet (fail)
              obtain ⟨c0', c1', c2', cb', f1', hd'⟩ := HX.out (wr.drewN nq) ((Cha.refl _ wr).drewN nq)
              have HC2 : Hid (Cha (fun i => i = br) W (wr.drewN nq)) := Lib.hid (HC.out.drewN nq)
              have HX1 : Hid (Cha (fun _ => False) wr (wr.drewN nq)) := Lib.hid ((Cha.refl _ wr).drewN nq)
              clear hd' c0 c1 c2 f1 hc
              generalize wr.drewN nq = w1 at *
              go_wp2
              go_quiet (fail)
              clear c0' c1' c2' cb' f1'
              obtain ⟨c0, c1, c2, cb, f1, hd⟩ := HX.out (w1.drewN nq) (HX1.out.drewN nq)
              have HC4 : Hid (Cha (fun i => i = br) W (w1.drewN nq)) := Lib.hid (HC2.out.drewN nq)
              generalize w1.drewN nq = w2 at *
              have MV := hd.move (m + 1) ⟨m + 1, 0, 0⟩ rfl rfl (fun _ => rfl) (by have := HN.out; omega) ⟨by have := HN.out; show m + 1 ≤ _; omega, Nat.zero_le _, fun _ => rfl⟩
              rw [show ((m + 1 : Nat) : Int) = (m : Int) + 1 by omega] at MV
              have HD3 := Lib.hid MV.1
              have HC3 := Lib.hid (HC4.out.trans MV.2)
              clear MV hd HX1 HC2 HC4
              go_wp2
              go_ret
              exact DRead.of ⟨rfl, HD3.out, HC3.out⟩ (by rw [HW.out, HE.out, hor.out]; rfl) (by rw [HW.out, HE.out]; show (⟨m + 1, 0, 0⟩ : RSt) = ⟨p + (k + 1), 0, 0⟩; congr 1; have := HM.out; omega)
            · have hk2 : ((b : Int) == 0) = false := by simp; omega
              clear hb0
              by_cases hk9 : k = 9
              · have hb1' : ¬ (1 : Int) < (b : Int) := by have a := H9.out; omega
                have hk1 : ((k : Int) == 9) = true := by simp; omega
                have hk3 : 0 < k := by omega
                clear hk9
                go_wp2
                go_quiet (fail)
                obtain ⟨c0', c1', c2', cb', f1', hd'⟩ := HX.out (wr.drewN nq) ((Cha.refl _ wr).drewN nq)
                have HC2 : Hid (Cha (fun i => i = br) W (wr.drewN nq)) := Lib.hid (HC.out.drewN nq)
                have HX1 : Hid (Cha (fun _ => False) wr (wr.drewN nq)) := Lib.hid ((Cha.refl _ wr).drewN nq)
                clear hd' c0 c1 c2 f1 hc
                generalize wr.drewN nq = w1 at *
                go_wp2
                go_quiet (fail)
                clear c0' c1' c2' cb' f1'
                obtain ⟨c0, c1, c2, cb, f1, hd⟩ := HX.out (w1.drewN nq) (HX1.out.drewN nq)
                have HC4 : Hid (Cha (fun i => i = br) W (w1.drewN nq)) := Lib.hid (HC2.out.drewN nq)
                generalize w1.drewN nq = w2 at *
                have MV := hd.move (m + 1) ⟨m + 1, 0, 0⟩ rfl rfl (fun _ => rfl) (by have := HN.out; omega) ⟨by have := HN.out; show m + 1 ≤ _; omega, Nat.zero_le _, fun _ => rfl⟩
                rw [show ((m + 1 : Nat) : Int) = (m : Int) + 1 by omega] at MV
                have HD3 := Lib.hid MV.1
                have HC3 := Lib.hid (HC4.out.trans MV.2)
                clear MV hd HX1 HC2 HC4
                go_wp2
                go_ret
                exact DRead.of ⟨rfl, HD3.out, HC3.out⟩ (by rw [HW.out, HE.out, hor.out]; rfl) (by rw [HW.out, HE.out]; show (⟨m + 1, 0, 0⟩ : RSt) = ⟨p + (k + 1), 0, 0⟩; congr 1; have := HM.out; omega)
              · have hk1 : ((k : Int) == 9) = false := by simp; omega
                clear hk9
                go_wp2
                go_quiet (fail)
                obtain ⟨c0', c1', c2', cb', f1', hd'⟩ := HX.out (wr.drewN nq) ((Cha.refl _ wr).drewN nq)
                have HC2 : Hid (Cha (fun i => i = br) W (wr.drewN nq)) := Lib.hid (HC.out.drewN nq)
                have HX1 : Hid (Cha (fun _ => False) wr (wr.drewN nq)) := Lib.hid ((Cha.refl _ wr).drewN nq)
                clear hd' c0 c1 c2 f1 hc
                generalize wr.drewN nq = w1 at *
                go_wp2
                go_quiet (fail)
                clear c0' c1' c2' cb' f1'
                obtain ⟨c0, c1, c2, cb, f1, hd⟩ := HX.out (w1.drewN nq) (HX1.out.drewN nq)
                have HC4 : Hid (Cha (fun i => i = br) W (w1.drewN nq)) := Lib.hid (HC2.out.drewN nq)
                generalize w1.drewN nq = w2 at *
                have MV := hd.move (m + 1) ⟨m + 1, 0, 0⟩ rfl rfl (fun _ => rfl) (by have := HN.out; omega) ⟨by have := HN.out; show m + 1 ≤ _; omega, Nat.zero_le _, fun _ => rfl⟩
                rw [show ((m + 1 : Nat) : Int) = (m : Int) + 1 by omega] at MV
                have HD3 := Lib.hid MV.1
                have HC3 := Lib.hid (HC4.out.trans MV.2)
                clear MV hd HX1 HC2 HC4
                go_wp2
                all_goals
                  go_ret
                  exact DRead.of ⟨rfl, HD3.out, HC3.out⟩ (by rw [HW.out, HE.out, hor.out]; rfl) (by rw [HW.out, HE.out]; show (⟨m + 1, 0, 0⟩ : RSt) = ⟨p + (k + 1), 0, 0⟩; congr 1; have := HM.out; omega)
    · have HE : Hid (R = (0, 0, 7)) := Lib.hid (by rw [← HF.out, List.drop_of_length_le (by have := HN.out; omega), fw_nil])
      have hge : (n : Int) ≤ (m : Int) := by omega
      have CF := Lib.hid (fun w h => HFA.out m (by omega) 7 (by decide) HE.out w h)
      clear HFA
      go_wp2
      go_quiet (fail)
      have HD2 := Lib.hid (HD.out.cha ((Cha.refl (fun _ => False) wr).drewN nq) (fun f => f) (fun _ f => f.elim))
      have HC2 : Hid (Cha (fun i => i = br) W (wr.drewN nq)) := Lib.hid (HC.out.drewN nq)
      generalize wr.drewN nq = w1 at *
      clear c0 c1 c2 f1
      go_wp2_with (go_at_call 38; ((with_reducible refine (CF.out _ HD2.out).mono ?_); rintro e w2 ⟨rfl, k1, k2⟩; have K1 := Lib.hid k1; have K2 := Lib.hid k2; clear k1 k2))
      go_ret
      exact DRead.of ⟨rfl, K1.out.re (m' := p) (by decide) (by have := HN.out; omega), HC2.out.trans K2.out⟩ (by rw [HW.out, HE.out]; rfl) (by rw [HW.out, HE.out]; rfl)
end
end Go.Proofs.Ytpdjbhnpahkbpaa
