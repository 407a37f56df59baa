/- The document's reader: a word, a number. -/
import Derived.Test.YtpdjbhnpahkbpaaN
namespace Go.Proofs.Ytpdjbhnpahkbpaa
open Go.ChangeShapes Go.WideShapes Go.ChangeAt Go.RowKit

/-- The document's reader at block br over the text T, which lies in blocks of B. -/
structure Dr (B : Nat → Prop) (W : World) (br : Nat) (T : List Nat) (s : RSt) : Prop where
  head : ∃ a c p, W.heap[br]? = some (.cells #[.slice a T.length c, .int .i64 ((p : Nat) : Int), .int .i64 s.e, .int .i64 (s.fa : Int)] 84 (0, 0)) ∧ (s.e = 0 → p = s.at_) ∧ p ≤ T.length ∧ RdS 1 RdU8 B W (.slice a T.length c) T ∧ T.length ≤ c
  low : ∀ i, B i → i < br
  ok : s.ok T
section
variable {m : Nat} {B : Nat → Prop} {br : Nat} {S : Nat → Prop} {W W' : World} {T : List Nat} {s : RSt}
theorem Dr.lt (h : Dr B W br T s) : br < W.heap.size := by
  obtain ⟨a, c, p, h1, _⟩ := h.head
  exact (Array.getElem?_eq_some_iff.1 h1).1
theorem Dr.cha (h : Dr B W br T s) (c : Cha S W W') (hs : ¬ S br) (hB : ∀ i, S i → ¬ B i) : Dr B W' br T s := by
  obtain ⟨a, k, p, h1, h2, h3, h4, h5⟩ := h.head
  exact ⟨⟨a, k, p, (c.old br h.lt hs).trans h1, h2, h3, h4.bytes c hB (fun _ h => h), h5⟩, h.low, h.ok⟩
theorem Dr.alloc (h : Dr B W br T s) (o : Obj) : Dr B (W.alloc o) br T s := h.cha ((Cha.refl (fun _ => False) W).alloc o) (fun f => f) (fun _ f => f.elim)
theorem Dr.err (h : Dr B W br T s) : W.cell? ⟨br, 2, none⟩ = some (.int .i64 s.e) := by
  obtain ⟨a, c, p, h1, _⟩ := h.head
  exact cell_of_row W br 2 _ 84 (0, 0) h1
theorem Dr.bad (h : Dr B W br T s) : W.cell? ⟨br, 3, none⟩ = some (.int .i64 (s.fa : Int)) := by
  obtain ⟨a, c, p, h1, _⟩ := h.head
  exact cell_of_row W br 3 _ 84 (0, 0) h1
theorem Dr.pos (h : Dr B W br T s) : ∃ p : Nat, W.cell? ⟨br, 1, none⟩ = some (.int .i64 (p : Int)) ∧ (s.e = 0 → p = s.at_) ∧ p ≤ T.length := by
  obtain ⟨a, c, p, h1, h2, h3, _⟩ := h.head
  exact ⟨p, cell_of_row W br 1 _ 84 (0, 0) h1, h2, h3⟩
theorem Dr.cell1 (h : Dr B W br T ⟨m, 0, 0⟩) : W.cell? ⟨br, 1, none⟩ = some (.int .i64 (m : Int)) := by
  obtain ⟨a, c, p, h1, h2, h3, _⟩ := h.head
  rw [cell_of_row W br 1 _ 84 (0, 0) h1, h2 rfl]
  rfl
theorem Dr.free (h : Dr B W br T s) (i : Nat) : W.frozen? ⟨br, i, none⟩ = false := by
  obtain ⟨a, c, p, h1, _⟩ := h.head
  exact frozen_of_row W br i _ 84 h1
theorem Dr.bytes (h : Dr B W br T s) : ∀ x ∈ T, x < 256 := by
  obtain ⟨_, _, _, _, _, _, h, _⟩ := h.head
  exact h.small
theorem Dr.move (h : Dr B W br T s) (n : Nat) (s' : RSt) (he : s'.e = s.e) (hf : s'.fa = s.fa) (hn : s'.e = 0 → n = s'.at_) (hn2 : n ≤ T.length) (ho : s'.ok T) : Dr B (W.setCell ⟨br, 1, none⟩ (.int .i64 (n : Int))) br T s' ∧ Cha (fun i => i = br) W (W.setCell ⟨br, 1, none⟩ (.int .i64 (n : Int))) := by
  obtain ⟨a, c, p, h1, h2, h3, h4, h5⟩ := h.head
  have k : Cha (fun i => i = br) W (W.setCell ⟨br, 1, none⟩ (.int .i64 (n : Int))) := (Cha.refl (fun i => i = br) W).setCell (p := ⟨br, 1, none⟩) (fun _ => rfl) _
  have e1 := heap_setCell_same W br 1 _ 84 (.int .i64 (n : Int)) h1
  refine ⟨⟨⟨a, c, n, ?_, hn, hn2, h4.bytes k (fun i e hb => by have e : i = br := e; subst e; have := h.low _ hb; omega) (fun _ h => h), h5⟩, h.low, ho⟩, k⟩
  rw [e1, he, hf]
  rfl
theorem Dr.fails (h : Dr B W br T s) (e : Int) (f : Nat) (s' : RSt) (hs : s' = ⟨s.at_, e, f⟩) (he : e ≠ 0) (ho : s'.ok T) :
    Dr B ((W.setCell ⟨br, 2, none⟩ (.int .i64 e)).setCell ⟨br, 3, none⟩ (.int .i64 (f : Int))) br T s' ∧ Cha (fun i => i = br) W ((W.setCell ⟨br, 2, none⟩ (.int .i64 e)).setCell ⟨br, 3, none⟩ (.int .i64 (f : Int))) := by
  obtain ⟨a, c, p, h1, h2, h3, h4, h5⟩ := h.head
  have k : Cha (fun i => i = br) W ((W.setCell ⟨br, 2, none⟩ (.int .i64 e)).setCell ⟨br, 3, none⟩ (.int .i64 (f : Int))) :=
    ((Cha.refl (fun i => i = br) W).setCell (p := ⟨br, 2, none⟩) (fun _ => rfl) _).setCell (p := ⟨br, 3, none⟩) (fun _ => rfl) _
  have e1 := heap_setCell_same W br 2 _ 84 (.int .i64 e) h1
  have e2 := heap_setCell_same _ br 3 _ 84 (.int .i64 (f : Int)) e1
  subst hs
  exact ⟨⟨⟨a, c, p, e2, fun c => absurd c he, h3, h4.bytes k (fun i e hb => by have e : i = br := e; subst e; have := h.low _ hb; omega) (fun _ h => h), h5⟩, h.low, ho⟩, k⟩
/-- What a call of the document's reader's leaves. -/
def DRead (B : Nat → Prop) (br : Nat) (T : List Nat) (v : Value) (s : RSt) (W : World) : Ending → World → Prop := fun e w' => e = .returned v ∧ Dr B w' br T s ∧ Cha (fun i => i = br) W w'
theorem DRead.of {v v' : Value} {s s' : RSt} {e : Ending} {w' : World} (h : DRead B br T v s W e w') (hv : v = v') (hs : s = s') : DRead B br T v' s' W e w' := hv ▸ hs ▸ h
theorem fail_goes (e : Int) (f : Nat) (h : Dr B W br T s) (h0 : s.e = 0) (he : e ≠ 0) (hf : f ≤ T.length) :
    Calls Try.prog 38 #[.pointer (some ⟨br, 0, none⟩), .int .i64 e, .int .i64 (f : Int)] W (DRead B br T (.tuple #[]) ⟨s.at_, e, f⟩ W) := by
  have c2 := h.err
  rw [h0] at c2
  have c3 := h.bad
  have f2 := h.free 2
  have f3 := h.free 3
  have HF := Lib.hid (h.fails e f ⟨s.at_, e, f⟩ rfl he ⟨h.ok.le, hf, fun c => absurd c he⟩)
  clear h h0 he hf
  go_enter Try.func38, Try.ntmps38
  go_wp2
  go_end0
  exact ⟨rfl, HF.out.1, HF.out.2⟩
theorem Dr.re {m m' : Nat} {e : Int} {f : Nat} (h : Dr B W br T ⟨m, e, f⟩) (he : e ≠ 0) (hm : m' ≤ T.length) : Dr B W br T ⟨m', e, f⟩ := by
  obtain ⟨a, c, p, h1, h2, h3⟩ := h.head
  exact ⟨⟨a, c, p, h1, fun c => absurd c he, h3⟩, h.low, ⟨hm, h.ok.fa, fun c => absurd c he⟩⟩
theorem dword_stop (h : Dr B W br T s) (he : s.e ≠ 0) : Calls Try.prog 60 #[.pointer (some ⟨br, 0, none⟩)] W (DRead B br T (.int .u64 0) s W) := by
  have c2 := h.err
  obtain ⟨p, c1, _⟩ := h.pos
  have H := Lib.hid h
  have he1 : (s.e == 0) = false := by simpa using he
  clear h
  obtain ⟨E, hE⟩ : ∃ E, E = s.e := ⟨_, rfl⟩
  rw [← hE] at c2 he1
  clear hE he
  go_enter Try.func60, Try.ntmps60
  go_wp2
  go_loopw [5] (fun i wr => i = .int .i64 0 ∧ wr = W) (fun _ _ => 0)
  case atStart => exact ⟨rfl, rfl⟩
  case round =>
    obtain ⟨rfl, rfl⟩ := hrel
    go_wp2
    go_ret
    exact ⟨rfl, H.out, Cha.refl _ _⟩
set_option maxRecDepth 100000 in
set_option maxHeartbeats 2000000 in
theorem dword_goes (h : Dr B W br T s) (he : s.e = 0) : Calls Try.prog 60 #[.pointer (some ⟨br, 0, none⟩)] W (DRead B br T (.int .u64 ((rWord T 18446744073709551615 8 s).1 : Int)) (rWord T 18446744073709551615 8 s).2 W) := by
  have hT := h.bytes
  have HO := Lib.hid (rWord_ok (lim := 18446744073709551615) (ab := 8) hT h.ok (by decide))
  have hfb := fw_bound (T.drop s.at_) 0 0 (by omega) (by simp) fun x hx => hT x (List.mem_of_mem_drop hx)
  have HW : Hid (rWord T 18446744073709551615 8 s = if (fw (T.drop s.at_) 0 0).2.2 ≠ 0 then (0, ⟨s.at_, (fw (T.drop s.at_) 0 0).2.2, s.at_⟩) else ((fw (T.drop s.at_) 0 0).1, ⟨s.at_ + (fw (T.drop s.at_) 0 0).2.1, 0, 0⟩)) := Lib.hid (by
    have e : rErr 18446744073709551615 8 (fw (T.drop s.at_) 0 0) = (fw (T.drop s.at_) 0 0).2.2 := by unfold rErr; rw [if_neg (fun c => by have := c.2; have := hfb.1; omega)]
    conv => lhs; unfold rWord
    rw [if_neg (fun c => c he), e])
  have HT := Lib.hid hT
  obtain ⟨st, se, sf⟩ := s
  have he : se = 0 := he
  subst he
  have hf0 : sf = 0 := h.ok.z rfl
  subst hf0
  have hle := h.ok.le
  obtain ⟨p, c1, hp, _⟩ := h.pos
  obtain rfl : p = st := hp rfl
  have c2 := h.err
  have H := Lib.hid h
  obtain ⟨n, hn⟩ : ∃ n, n = T.length := ⟨_, rfl⟩
  have HN := Lib.hid hn
  have hlen : n ≤ 9223372036854775807 := by obtain ⟨_, _, _, _, _, _, h, _⟩ := h.head; have := h.len; omega
  have hle : p ≤ n := by have h2 : p ≤ T.length := hle; omega
  obtain ⟨R, hR⟩ : ∃ R, R = fw (T.drop p) 0 0 := ⟨_, rfl⟩
  have HR := Lib.hid hR
  simp only at HW
  rw [← hR] at HW
  clear h hT hfb hn hp hR
  go_enter Try.func60, Try.ntmps60
  go_wp2
  go_loopw [4, 5] (fun x i wr => ∃ (k N : Nat), k ≤ 9 ∧ p + k ≤ n ∧ i = .int .i64 (k : Int) ∧ x = .int .u64 (N : Int) ∧ N < 2 ^ (7 * k) ∧ fw (T.drop (p + k)) k N = R ∧ Dr B wr br T ⟨p + k, 0, 0⟩ ∧ Cha (fun i => i = br) W wr) (fun _ i _ => 10 - (intOf i).toNat)
  case atStart => exact ⟨0, 0, by omega, hle, rfl, rfl, by simp, HR.out.symm, H.out, Cha.refl _ _⟩
  case round =>
    clear c1 c2
    obtain ⟨k, N, hk9, hkn, rfl, rfl, hN, hf, hD, hC⟩ := hrel
    have HF := Lib.hid hf
    have HP := Lib.hid hN
    have HD := Lib.hid hD
    have HC := Lib.hid hC
    have c2 : wr.cell? ⟨br, 2, none⟩ = some (.int .i64 0) := hD.err
    have f1 := hD.free 1
    obtain ⟨a, c, q, h1, hq, _, h4, h5⟩ := hD.head
    obtain rfl : q = p + k := hq rfl
    have c0 : wr.cell? ⟨br, 0, none⟩ = some (.slice a n c) := by rw [HN.out]; exact cell_of_row wr br 0 _ 84 (0, 0) h1
    have c1 : wr.cell? ⟨br, 1, none⟩ = some (.int .i64 ((p + k : Nat) : Int)) := cell_of_row wr br 1 _ 84 (0, 0) h1
    have H4 := Lib.hid h4
    obtain ⟨m, hm⟩ : ∃ m, m = p + k := ⟨_, rfl⟩
    rw [← hm] at c1 hkn HF HD
    have HM := Lib.hid hm
    have HFA : Hid (∀ (m' : Nat), m' ≤ m + 1 → ∀ (e : Int), e ≠ 0 → R = (0, 0, e) → ∀ w, Dr B w br T ⟨m', 0, 0⟩ → Calls Try.prog 38 #[.pointer (some ⟨br, 0, none⟩), .int .i64 e, .int .i64 (p : Int)] w (DRead B br T (.tuple #[]) ⟨m', e, p⟩ w)) := Lib.hid (fun m' _ e he _ w h => fail_goes e p h rfl he (by have := HN.out; omega))
    clear hf hN hD hC h1 h4 hq hm
    by_cases hlt : m < n
    · obtain ⟨b, hb⟩ : ∃ b, T[m]? = some b := ⟨_, List.getElem?_eq_getElem (by have := HN.out; omega)⟩
      obtain ⟨g, o, _, hea, _, _, hx⟩ := H4.out.at hb
      obtain rfl : a = some ⟨g, o, none⟩ := by injection hea
      have hc := hx.1
      rw [Nat.mul_one] at hc
      have hb256 := hx.2
      have HFD : Hid (fw (T.drop m) k N = fw (b :: T.drop (m + 1)) k N) := Lib.hid (by
        have hkl : m < T.length := by have := HN.out; omega
        rw [List.getElem?_eq_getElem hkl] at hb
        injection hb with hb
        rw [List.drop_eq_getElem_cons hkl, hb])
      clear hea hx hb
      have HX : Hid (∀ w, Cha (fun _ => False) wr w → w.cell? ⟨br, 0, none⟩ = some (.slice (some ⟨g, o, none⟩) n c) ∧ w.cell? ⟨br, 1, none⟩ = some (.int .i64 (m : Int)) ∧ w.cell? ⟨br, 2, none⟩ = some (.int .i64 0) ∧ w.cell? ⟨g, o + m, none⟩ = some (.int .u8 (b : Int)) ∧ w.frozen? ⟨br, 1, none⟩ = false ∧ Dr B w br T ⟨m, 0, 0⟩) := Lib.hid (fun w hw => by
        have hd := HD.out.cha hw (fun f => f) (fun _ f => f.elim)
        exact ⟨cell_cha (B := fun _ => True) hw (fun _ f => f.elim) trivial c0, hd.cell1, hd.err, cell_cha (B := fun _ => True) hw (fun _ f => f.elim) trivial hc, hd.free 1, hd⟩)
      have hkm : ((p + k : Nat) : Int) = (m : Int) := by have := HM.out; omega
      clear hkm
      have hmn : (m : Int) < (n : Int) := by omega
      have hmw : IntKind.i64.wrap ((m : Int) + 1) = ((m + 1 : Nat) : Int) := by rw [IntKind.wrap_i64]; omega
      have hm0 : (0 : Int) ≤ (m : Int) := by omega
      have hmt : ((m : Int)).toNat = m := by omega
      by_cases h9 : k = 9 ∧ 1 < b
      · have HE : Hid (R = (0, 0, 8)) := Lib.hid (by rw [← HF.out, HFD.out, fw_long h9])
        have CF := Lib.hid (fun w h => HFA.out (m + 1) (by omega) 8 (by decide) HE.out w (h : Dr B w br T ⟨m + 1, 0, 0⟩))
        have h9c : ((k : Int) == 9) = true := by simp; omega
        have h9d : (1 : Int) < (b : Int) := by omega
        clear HFA h9
        go_wp2
        go_quiet (fail)
        obtain ⟨c0', c1', c2', cb', f1', hd'⟩ := HX.out (wr.drewN nq) ((Cha.refl _ wr).drewN nq)
        have HC2 : Hid (Cha (fun i => i = br) W (wr.drewN nq)) := Lib.hid (HC.out.drewN nq)
        have HX1 : Hid (Cha (fun _ => False) wr (wr.drewN nq)) := Lib.hid ((Cha.refl _ wr).drewN nq)
        clear hd' c0 c1 c2 f1 hc
        generalize wr.drewN nq = w1 at *
        go_wp2
        go_quiet (fail)
        clear c0' c1' c2' cb' f1'
        obtain ⟨c0, c1, c2, cb, f1, hd⟩ := HX.out (w1.drewN nq) (HX1.out.drewN nq)
        have HC4 : Hid (Cha (fun i => i = br) W (w1.drewN nq)) := Lib.hid (HC2.out.drewN nq)
        generalize w1.drewN nq = w2 at *
        have MV := hd.move (m + 1) ⟨m + 1, 0, 0⟩ rfl rfl (fun _ => rfl) (by have := HN.out; omega) ⟨by have := HN.out; show m + 1 ≤ _; omega, Nat.zero_le _, fun _ => rfl⟩
        rw [show ((m + 1 : Nat) : Int) = (m : Int) + 1 by omega] at MV
        have HD3 := Lib.hid MV.1
        have HC3 := Lib.hid (HC4.out.trans MV.2)
        clear MV hd HX1 HC2 HC4
        go_wp2_with (go_at_call 38; ((with_reducible refine (CF.out _ HD3.out).mono ?_); rintro e w3 ⟨rfl, k1, k2⟩; have K1 := Lib.hid k1; have K2 := Lib.hid k2; clear k1 k2))
        all_goals
          go_ret
          exact DRead.of ⟨rfl, K1.out.re (m' := p) (by decide) (by have := HN.out; omega), HC3.out.trans K2.out⟩ (by rw [HW.out, HE.out]; rfl) (by rw [HW.out, HE.out]; rfl)
      · by_cases h0 : b = 0 ∧ 0 < k
        · have HE : Hid (R = (0, 0, 8)) := Lib.hid (by rw [← HF.out, HFD.out, fw_zero h0.1 h0.2])
          have CF := Lib.hid (fun w h => HFA.out (m + 1) (by omega) 8 (by decide) HE.out w (h : Dr B w br T ⟨m + 1, 0, 0⟩))
          have h2 : ¬ (1 : Int) < (b : Int) := by omega
          have h3 : ((b : Int) == 0) = true := by simp; omega
          have h4 : 0 < k := h0.2
          clear HFA h9 h0
          go_wp2
          go_quiet (fail)
          obtain ⟨c0', c1', c2', cb', f1', hd'⟩ := HX.out (wr.drewN nq) ((Cha.refl _ wr).drewN nq)
          have HC2 : Hid (Cha (fun i => i = br) W (wr.drewN nq)) := Lib.hid (HC.out.drewN nq)
          have HX1 : Hid (Cha (fun _ => False) wr (wr.drewN nq)) := Lib.hid ((Cha.refl _ wr).drewN nq)
          clear hd' c0 c1 c2 f1 hc
          generalize wr.drewN nq = w1 at *
          go_wp2
          go_quiet (fail)
          clear c0' c1' c2' cb' f1'
          obtain ⟨c0, c1, c2, cb, f1, hd⟩ := HX.out (w1.drewN nq) (HX1.out.drewN nq)
          have HC4 : Hid (Cha (fun i => i = br) W (w1.drewN nq)) := Lib.hid (HC2.out.drewN nq)
          generalize w1.drewN nq = w2 at *
          have MV := hd.move (m + 1) ⟨m + 1, 0, 0⟩ rfl rfl (fun _ => rfl) (by have := HN.out; omega) ⟨by have := HN.out; show m + 1 ≤ _; omega, Nat.zero_le _, fun _ => rfl⟩
          rw [show ((m + 1 : Nat) : Int) = (m : Int) + 1 by omega] at MV
          have HD3 := Lib.hid MV.1
          have HC3 := Lib.hid (HC4.out.trans MV.2)
          clear MV hd HX1 HC2 HC4
          go_wp2_with (go_at_call 38; ((with_reducible refine (CF.out _ HD3.out).mono ?_); rintro e w3 ⟨rfl, k1, k2⟩; have K1 := Lib.hid k1; have K2 := Lib.hid k2; clear k1 k2))
          all_goals
            go_ret
            exact DRead.of ⟨rfl, K1.out.re (m' := p) (by decide) (by have := HN.out; omega), HC3.out.trans K2.out⟩ (by rw [HW.out, HE.out]; rfl) (by rw [HW.out, HE.out]; rfl)
        · have H9 := Lib.hid h9
          have H0 := Lib.hid h0
          have hb1 : Hid (N + b % 128 * 2 ^ (7 * k) < 18446744073709551616 ∧ N + b % 128 * 2 ^ (7 * k) < 2 ^ (7 * (k + 1))) := Lib.hid (by
            have hP := HP.out
            have e2 := digs_pow (i := k)
            have h127 : b % 128 * 2 ^ (7 * k) ≤ 127 * 2 ^ (7 * k) := Nat.mul_le_mul_right _ (by omega)
            refine ⟨?_, by omega⟩
            by_cases c9 : k = 9
            · have hb1 : b ≤ 1 := by by_cases c : b ≤ 1; exact c; exact absurd ⟨c9, by omega⟩ h9
              subst c9
              have : b % 128 * 2 ^ (7 * 9) ≤ 1 * 2 ^ (7 * 9) := Nat.mul_le_mul_right _ (by omega)
              have e1 : (2 : Nat) ^ (7 * 9) = 9223372036854775808 := by decide
              omega
            · have : (2 : Nat) ^ (7 * (k + 1)) ≤ 2 ^ 63 := Nat.pow_le_pow_right (by omega) (by omega)
              have e1 : (2 : Nat) ^ 63 = 9223372036854775808 := by decide
              omega)
          have hor : Hid (IntKind.u64.wrap ((N : Int) + IntKind.u64.wrap ((b : Int) % 128 * 2 ^ (7 * k))) = ((N + b % 128 * 2 ^ (7 * k) : Nat) : Int)) := Lib.hid (by
            have e1 : ((b : Int) % 128 * 2 ^ (7 * k)) = ((b % 128 * 2 ^ (7 * k) : Nat) : Int) := by simp
            have := hb1.out.1
            rw [e1, IntKind.wrap_u64, IntKind.wrap_u64]
            omega)
          clear HFA h9 h0
          by_cases h128 : 128 ≤ b
          · have hk8 : k ≤ 8 := by by_cases c : k = 9; exact absurd ⟨c, by omega⟩ H9.out; omega
            have HE : Hid (fw (T.drop (m + 1)) (k + 1) (N + b % 128 * 2 ^ (7 * k)) = R) := Lib.hid (by rw [← HF.out, HFD.out, fw_more H9.out h128])
            have h1 : (128 : Int) ≤ (b : Int) := by omega
            have h2 : ((k : Int) == 9) = false := by simp; omega
            have h3 : ((b : Int) == 0) = false := by simp; omega
            clear h128
            go_wp2
            go_quiet (fail)
            obtain ⟨c0', c1', c2', cb', f1', hd'⟩ := HX.out (wr.drewN nq) ((Cha.refl _ wr).drewN nq)
            have HC2 : Hid (Cha (fun i => i = br) W (wr.drewN nq)) := Lib.hid (HC.out.drewN nq)
            have HX1 : Hid (Cha (fun _ => False) wr (wr.drewN nq)) := Lib.hid ((Cha.refl _ wr).drewN nq)
            clear hd' c0 c1 c2 f1 hc
            generalize wr.drewN nq = w1 at *
            go_wp2
            go_quiet (fail)
            clear c0' c1' c2' cb' f1'
            obtain ⟨c0, c1, c2, cb, f1, hd⟩ := HX.out (w1.drewN nq) (HX1.out.drewN nq)
            have HC4 : Hid (Cha (fun i => i = br) W (w1.drewN nq)) := Lib.hid (HC2.out.drewN nq)
            generalize w1.drewN nq = w2 at *
            have MV := hd.move (m + 1) ⟨m + 1, 0, 0⟩ rfl rfl (fun _ => rfl) (by have := HN.out; omega) ⟨by have := HN.out; show m + 1 ≤ _; omega, Nat.zero_le _, fun _ => rfl⟩
            rw [show ((m + 1 : Nat) : Int) = (m : Int) + 1 by omega] at MV
            have HD3 := Lib.hid MV.1
            have HC3 := Lib.hid (HC4.out.trans MV.2)
            clear MV hd HX1 HC2 HC4
            go_wp2
            all_goals
              go_roundw
              case rel => exact ⟨k + 1, N + b % 128 * 2 ^ (7 * k), by omega, by have := HM.out; omega, by go_num, by rw [hor.out], hb1.out.2, by rw [show p + (k + 1) = m + 1 by have := HM.out; omega]; exact HE.out, by rw [show p + (k + 1) = m + 1 by have := HM.out; omega]; exact HD3.out, HC3.out⟩
              case measure => simp [intOf]; omega
          · have HE : Hid (R = (N + b % 128 * 2 ^ (7 * k), k + 1, 0)) := Lib.hid (by rw [← HF.out, HFD.out, fw_last H9.out h128 H0.out])
            have h1 : ¬ (128 : Int) ≤ (b : Int) := by omega
            have h1' : (b : Int) < 128 := by omega
            clear h128
            by_cases hb0 : b = 0
            · have hk0 : ¬ 0 < k := fun c => H0.out ⟨by omega, c⟩
              have hk1 : ((k : Int) == 9) = false := by simp; omega
              have hk2 : ((b : Int) == 0) = true := by simp; omega
              clear hb0
              go_wp2
              go_quiet (fail)
              obtain ⟨c0', c1', c2', cb', f1', hd'⟩ := HX.out (wr.drewN nq) ((Cha.refl _ wr).drewN nq)
              have HC2 : Hid (Cha (fun i => i = br) W (wr.drewN nq)) := Lib.hid (HC.out.drewN nq)
              have HX1 : Hid (Cha (fun _ => False) wr (wr.drewN nq)) := Lib.hid ((Cha.refl _ wr).drewN nq)
              clear hd' c0 c1 c2 f1 hc
              generalize wr.drewN nq = w1 at *
              go_wp2
              go_quiet (fail)
              clear c0' c1' c2' cb' f1'
              obtain ⟨c0, c1, c2, cb, f1, hd⟩ := HX.out (w1.drewN nq) (HX1.out.drewN nq)
              have HC4 : Hid (Cha (fun i => i = br) W (w1.drewN nq)) := Lib.hid (HC2.out.drewN nq)
              generalize w1.drewN nq = w2 at *
              have MV := hd.move (m + 1) ⟨m + 1, 0, 0⟩ rfl rfl (fun _ => rfl) (by have := HN.out; omega) ⟨by have := HN.out; show m + 1 ≤ _; omega, Nat.zero_le _, fun _ => rfl⟩
              rw [show ((m + 1 : Nat) : Int) = (m : Int) + 1 by omega] at MV
              have HD3 := Lib.hid MV.1
              have HC3 := Lib.hid (HC4.out.trans MV.2)
              clear MV hd HX1 HC2 HC4
              go_wp2
              go_ret
              exact DRead.of ⟨rfl, HD3.out, HC3.out⟩ (by rw [HW.out, HE.out, hor.out]; rfl) (by rw [HW.out, HE.out]; show (⟨m + 1, 0, 0⟩ : RSt) = ⟨p + (k + 1), 0, 0⟩; congr 1; have := HM.out; omega)
            · have hk2 : ((b : Int) == 0) = false := by simp; omega
              clear hb0
              by_cases hk9 : k = 9
              · have hb1' : ¬ (1 : Int) < (b : Int) := by have a := H9.out; omega
                have hk1 : ((k : Int) == 9) = true := by simp; omega
                have hk3 : 0 < k := by omega
                clear hk9
                go_wp2
                go_quiet (fail)
                obtain ⟨c0', c1', c2', cb', f1', hd'⟩ := HX.out (wr.drewN nq) ((Cha.refl _ wr).drewN nq)
                have HC2 : Hid (Cha (fun i => i = br) W (wr.drewN nq)) := Lib.hid (HC.out.drewN nq)
                have HX1 : Hid (Cha (fun _ => False) wr (wr.drewN nq)) := Lib.hid ((Cha.refl _ wr).drewN nq)
                clear hd' c0 c1 c2 f1 hc
                generalize wr.drewN nq = w1 at *
                go_wp2
                go_quiet (fail)
                clear c0' c1' c2' cb' f1'
                obtain ⟨c0, c1, c2, cb, f1, hd⟩ := HX.out (w1.drewN nq) (HX1.out.drewN nq)
                have HC4 : Hid (Cha (fun i => i = br) W (w1.drewN nq)) := Lib.hid (HC2.out.drewN nq)
                generalize w1.drewN nq = w2 at *
                have MV := hd.move (m + 1) ⟨m + 1, 0, 0⟩ rfl rfl (fun _ => rfl) (by have := HN.out; omega) ⟨by have := HN.out; show m + 1 ≤ _; omega, Nat.zero_le _, fun _ => rfl⟩
                rw [show ((m + 1 : Nat) : Int) = (m : Int) + 1 by omega] at MV
                have HD3 := Lib.hid MV.1
                have HC3 := Lib.hid (HC4.out.trans MV.2)
                clear MV hd HX1 HC2 HC4
                go_wp2
                go_ret
                exact DRead.of ⟨rfl, HD3.out, HC3.out⟩ (by rw [HW.out, HE.out, hor.out]; rfl) (by rw [HW.out, HE.out]; show (⟨m + 1, 0, 0⟩ : RSt) = ⟨p + (k + 1), 0, 0⟩; congr 1; have := HM.out; omega)
              · have hk1 : ((k : Int) == 9) = false := by simp; omega
                clear hk9
                go_wp2
                go_quiet (fail)
                obtain ⟨c0', c1', c2', cb', f1', hd'⟩ := HX.out (wr.drewN nq) ((Cha.refl _ wr).drewN nq)
                have HC2 : Hid (Cha (fun i => i = br) W (wr.drewN nq)) := Lib.hid (HC.out.drewN nq)
                have HX1 : Hid (Cha (fun _ => False) wr (wr.drewN nq)) := Lib.hid ((Cha.refl _ wr).drewN nq)
                clear hd' c0 c1 c2 f1 hc
                generalize wr.drewN nq = w1 at *
                go_wp2
                go_quiet (fail)
                clear c0' c1' c2' cb' f1'
                obtain ⟨c0, c1, c2, cb, f1, hd⟩ := HX.out (w1.drewN nq) (HX1.out.drewN nq)
                have HC4 : Hid (Cha (fun i => i = br) W (w1.drewN nq)) := Lib.hid (HC2.out.drewN nq)
                generalize w1.drewN nq = w2 at *
                have MV := hd.move (m + 1) ⟨m + 1, 0, 0⟩ rfl rfl (fun _ => rfl) (by have := HN.out; omega) ⟨by have := HN.out; show m + 1 ≤ _; omega, Nat.zero_le _, fun _ => rfl⟩
                rw [show ((m + 1 : Nat) : Int) = (m : Int) + 1 by omega] at MV
                have HD3 := Lib.hid MV.1
                have HC3 := Lib.hid (HC4.out.trans MV.2)
                clear MV hd HX1 HC2 HC4
                go_wp2
                all_goals
                  go_ret
                  exact DRead.of ⟨rfl, HD3.out, HC3.out⟩ (by rw [HW.out, HE.out, hor.out]; rfl) (by rw [HW.out, HE.out]; show (⟨m + 1, 0, 0⟩ : RSt) = ⟨p + (k + 1), 0, 0⟩; congr 1; have := HM.out; omega)
    · have HE : Hid (R = (0, 0, 7)) := Lib.hid (by rw [← HF.out, List.drop_of_length_le (by have := HN.out; omega), fw_nil])
      have hge : (n : Int) ≤ (m : Int) := by omega
      have CF := Lib.hid (fun w h => HFA.out m (by omega) 7 (by decide) HE.out w h)
      clear HFA
      go_wp2
      go_quiet (fail)
      have HD2 := Lib.hid (HD.out.cha ((Cha.refl (fun _ => False) wr).drewN nq) (fun f => f) (fun _ f => f.elim))
      have HC2 : Hid (Cha (fun i => i = br) W (wr.drewN nq)) := Lib.hid (HC.out.drewN nq)
      generalize wr.drewN nq = w1 at *
      clear c0 c1 c2 f1
      go_wp2_with (go_at_call 38; ((with_reducible refine (CF.out _ HD2.out).mono ?_); rintro e w2 ⟨rfl, k1, k2⟩; have K1 := Lib.hid k1; have K2 := Lib.hid k2; clear k1 k2))
      go_ret
      exact DRead.of ⟨rfl, K1.out.re (m' := p) (by decide) (by have := HN.out; omega), HC2.out.trans K2.out⟩ (by rw [HW.out, HE.out]; rfl) (by rw [HW.out, HE.out]; rfl)
end
end Go.Proofs.Ytpdjbhnpahkbpaa

namespace Go.Proofs.Ytpdjbhnpahkbpaa
open Go.ChangeShapes Go.WideShapes Go.ChangeAt Go.RowKit
section
variable {B : Nat → Prop} {br : Nat} {S : Nat → Prop} {W W' : World} {T : List Nat} {s : RSt}
theorem dword_any (h : Dr B W br T s) : Calls Try.prog 60 #[.pointer (some ⟨br, 0, none⟩)] W (DRead B br T (.int .u64 ((rWord T 18446744073709551615 8 s).1 : Int)) (rWord T 18446744073709551615 8 s).2 W) := by
  by_cases he : s.e = 0
  · exact dword_goes h he
  · have e : rWord T 18446744073709551615 8 s = (0, s) := by unfold rWord; rw [if_pos he]
    rw [e]
    exact dword_stop h he
theorem rword_lim {lim : Nat} {ab : Int} (hT : ∀ x ∈ T, x < 256) (_hs : s.ok T) (he : s.e = 0) (hab : ab ≠ 0) : ((rWord T 18446744073709551615 8 s).2.e ≠ 0 ∧ (rWord T 18446744073709551615 8 s).1 = 0 ∧ rWord T lim ab s = rWord T 18446744073709551615 8 s) ∨ ((rWord T 18446744073709551615 8 s).2.e = 0 ∧ lim < (rWord T 18446744073709551615 8 s).1 ∧ rWord T lim ab s = (0, ⟨s.at_, ab, s.at_⟩)) ∨ ((rWord T 18446744073709551615 8 s).2.e = 0 ∧ ¬ lim < (rWord T 18446744073709551615 8 s).1 ∧ rWord T lim ab s = rWord T 18446744073709551615 8 s) := by
  have hfb := fw_bound (T.drop s.at_) 0 0 (by omega) (by simp) fun x hx => hT x (List.mem_of_mem_drop hx)
  have e1 : rErr 18446744073709551615 8 (fw (T.drop s.at_) 0 0) = (fw (T.drop s.at_) 0 0).2.2 := by unfold rErr; rw [if_neg (fun c => by have := c.2; have := hfb.1; omega)]
  have hw : ∀ (l : Nat) (a : Int), rWord T l a s = if rErr l a (fw (T.drop s.at_) 0 0) ≠ 0 then (0, ⟨s.at_, rErr l a (fw (T.drop s.at_) 0 0), s.at_⟩) else ((fw (T.drop s.at_) 0 0).1, ⟨s.at_ + (fw (T.drop s.at_) 0 0).2.1, 0, 0⟩) := fun l a => by
    conv => lhs; unfold rWord
    rw [if_neg (fun c => c he)]
  rw [hw 18446744073709551615 8, hw lim ab, e1]
  generalize fw (T.drop s.at_) 0 0 = r at *
  obtain ⟨n, sz, e⟩ := r
  by_cases c : e = 0
  · subst c
    by_cases d : lim < n
    · have e2 : rErr lim ab (n, sz, 0) = ab := by unfold rErr; rw [if_pos ⟨rfl, d⟩]
      right; left
      rw [if_neg (fun c => c rfl), e2, if_pos hab]
      exact ⟨rfl, d, rfl⟩
    · have e2 : rErr lim ab (n, sz, 0) = 0 := by unfold rErr; rw [if_neg (fun c => d c.2)]
      right; right
      rw [if_neg (fun c => c rfl), e2, if_neg (fun c => c rfl)]
      exact ⟨rfl, d, rfl⟩
  · have e2 : rErr lim ab (n, sz, e) = e := by unfold rErr; rw [if_neg (fun k => c k.1)]
    left
    rw [if_pos c, e2, if_pos c]
    exact ⟨c, rfl, rfl⟩
set_option maxRecDepth 100000 in
theorem dnum_any (lim : Nat) (ab : Int) (h : Dr B W br T s) (hab : ab ≠ 0) (hlim : lim ≤ 1000000) :
    Calls Try.prog 35 #[.pointer (some ⟨br, 0, none⟩), .int .i64 (lim : Int), .int .i64 ab] W (DRead B br T (.int .i64 ((rWord T lim ab s).1 : Int)) (rWord T lim ab s).2 W) := by
  have C := Lib.hid (dword_any h)
  obtain ⟨p, c1, hp, hpl⟩ := h.pos
  have hO := (rWord_ok (lim := lim) (ab := ab) h.bytes h.ok hab).2.1
  have hlw : IntKind.u64.wrap (lim : Int) = (lim : Int) := by rw [IntKind.wrap_u64]; omega
  have hiw : IntKind.i64.wrap ((rWord T lim ab s).1 : Int) = ((rWord T lim ab s).1 : Int) := by rw [IntKind.wrap_i64]; omega
  by_cases he : s.e = 0
  · have hpa := hp he
    rcases rword_lim (lim := lim) h.bytes h.ok he hab with ⟨a1, a2, a3⟩ | ⟨a1, a2, a3⟩ | ⟨a1, a2, a3⟩
    · have HE := Lib.hid a3
      have h0 : Hid ((rWord T 18446744073709551615 8 s).1 = 0) := Lib.hid a2
      rw [a2] at C
      have hlt : ¬ (lim : Int) < ((0 : Nat) : Int) := by omega
      clear a1 a2 a3 h hp hpl hO hiw hpa
      go_enter Try.func35, Try.ntmps35
      go_wp2_with (go_at_call 60; ((with_reducible refine (C.out).mono ?_); rintro e w1 ⟨rfl, k1, k2⟩; have K1 := Lib.hid k1; have K2 := Lib.hid k2; clear k1 k2))
      go_ret
      exact DRead.of ⟨rfl, K1.out, K2.out⟩ (by rw [HE.out, h0.out]; rfl) (by rw [HE.out])
    · obtain ⟨n, hn⟩ : ∃ n, n = (rWord T 18446744073709551615 8 s).1 := ⟨_, rfl⟩
      rw [← hn] at C a2
      have HE := Lib.hid a3
      have H1 := Lib.hid a1
      have hlt : (lim : Int) < (n : Int) := by omega
      have HS : Hid ((rWord T 18446744073709551615 8 s).2.at_ ≤ T.length ∧ s.at_ ≤ T.length ∧ p = s.at_) := Lib.hid ⟨(rWord_ok (lim := 18446744073709551615) (ab := 8) h.bytes h.ok (by decide)).1.le, h.ok.le, hpa⟩
      clear a1 a2 a3 h hp hpl hO hiw hpa hn
      go_enter Try.func35, Try.ntmps35
      go_wp2_with (first
        | (go_at_call 60; ((with_reducible refine (C.out).mono ?_); rintro e w1 ⟨rfl, k1, k2⟩; have K1 := Lib.hid k1; have K2 := Lib.hid k2; clear k1 k2))
        | (go_at_call 38; ((with_reducible refine (fail_goes ab p K1.out H1.out hab (by have := HS.out; omega)).mono ?_); rintro e w2 ⟨rfl, k1, k2⟩; have K3 := Lib.hid k1; have K4 := Lib.hid (K2.out.trans k2); clear k1 k2)))
      go_ret
      refine DRead.of (s := ⟨s.at_, ab, s.at_⟩) ⟨rfl, ?_, K4.out⟩ (by rw [HE.out]; rfl) (by rw [HE.out])
      have a := K3.out.re (m' := s.at_) hab HS.out.2.1
      rw [HS.out.2.2] at a
      exact a
    · rw [a3] at hiw hO
      obtain ⟨n, hn⟩ : ∃ n, n = (rWord T 18446744073709551615 8 s).1 := ⟨_, rfl⟩
      have HN := Lib.hid hn
      rw [← hn] at C a2 hiw hO
      have HE := Lib.hid a3
      have hlt : ¬ (lim : Int) < (n : Int) := by omega
      clear a1 a2 a3 h hp hpl hpa hn
      go_enter Try.func35, Try.ntmps35
      go_wp2_with (go_at_call 60; ((with_reducible refine (C.out).mono ?_); rintro e w1 ⟨rfl, k1, k2⟩; have K1 := Lib.hid k1; have K2 := Lib.hid k2; clear k1 k2))
      go_ret
      exact DRead.of ⟨rfl, K1.out, K2.out⟩ (by rw [HE.out, ← HN.out]; rfl) (by rw [HE.out])
  · have e1 : rWord T 18446744073709551615 8 s = (0, s) := by unfold rWord; rw [if_pos he]
    have e2 : rWord T lim ab s = (0, s) := by unfold rWord; rw [if_pos he]
    rw [e1] at C
    rw [e2]
    have hlt : ¬ (lim : Int) < ((0 : Nat) : Int) := by omega
    clear h hp hpl hO hiw e1 e2 he
    go_enter Try.func35, Try.ntmps35
    go_wp2_with (go_at_call 60; ((with_reducible refine (C.out).mono ?_); rintro e w1 ⟨rfl, k1, k2⟩; have K1 := Lib.hid k1; have K2 := Lib.hid k2; clear k1 k2))
    go_ret
    exact ⟨rfl, K1.out, K2.out⟩
theorem DRead.of2 {v : Value} {r : Nat × RSt} {e : Ending} {w' : World} (h : DRead B br T v r.2 W e w') : DRead B br T v r.2 W e w' := h
/-- Ints as cells. -/
def iz (xs : List Int) : List Value := xs.map fun z => .int .i64 z
theorem iz_snoc (xs : List Int) (x : Int) : iz (xs ++ [x]) = iz xs ++ [.int .i64 x] := by unfold iz; simp
theorem iz_len (xs : List Int) : (iz xs).length = xs.length := by unfold iz; simp
theorem one_int (x : Int) : ∀ u ∈ ([.int .i64 x] : List Value), u.oneCell' = true := fun u h => by
  obtain rfl := List.mem_singleton.1 h
  rfl
theorem own_ints {B0 n : Nat} {t : TypeId} {v : Value} {xs : List Int} (h : W.ownsRow B0 t 1 v n (iz xs)) (hx : ∀ z ∈ xs, I64 z) (hl : xs.length ≤ 9223372036854775807) (hn : n = xs.length) : RdS 1 RdI (fun i => B0 ≤ i) W v xs := by
  subst hn
  rcases h.2 with ⟨e, h1⟩ | ⟨g, cap, cur, e, hb, hg, hnc, hcm, hcs, htk⟩
  · subst e
    obtain rfl : xs = [] := List.eq_nil_of_length_eq_zero h1
    exact RdS.nil _ _ _ _
  · subst e
    have hl2 : g < W.heap.size := (Array.getElem?_eq_some_iff.1 hg).1
    refine ⟨_, _, rfl, hl, fun _ => ⟨g, 0, rfl, hb, hl2, fun i x hi => ?_⟩⟩
    have hx2 := h.cells (g := g) rfl i (.int .i64 x) (by unfold iz; rw [List.getElem?_map, hi]; rfl)
    have e0 : (⟨g, 0, none⟩ : Addr).add i = ⟨g, 0 + i * 1, none⟩ := by rw [Addr.add_mid, Nat.mul_one]
    rw [e0] at hx2
    exact ⟨hx2, hx x (List.mem_of_getElem? hi)⟩
theorem rnum_ok (hT : ∀ x ∈ T, x < 256) (h : s.ok T) : (rNum T s).2.ok T := (rWord_ok (lim := 65535) (ab := 1) hT h (by decide)).1
theorem rep_ok {α : Type} {f : RSt → α × RSt} {Q : α → Prop} (hf : ∀ s, s.ok T → (f s).2.ok T ∧ Q (f s).1) (k : Nat) (h : s.ok T) : (rRep f k s).2.ok T ∧ ∀ x ∈ (rRep f k s).1, Q x := by
  induction k with
  | zero => exact ⟨h, fun x hx => by have hx : x ∈ ([] : List α) := hx; simp at hx⟩
  | succ k ih =>
    rw [rRep_succ]
    refine ⟨(hf _ ih.1).1, fun x hx => ?_⟩
    rcases List.mem_append.1 hx with hx | hx
    · exact ih.2 x hx
    · obtain rfl := List.mem_singleton.1 hx
      exact (hf _ ih.1).2
theorem nums_ok (hT : ∀ x ∈ T, x < 256) (k : Nat) (h : s.ok T) : (rRep (rNum T) k s).2.ok T ∧ ∀ x ∈ (rRep (rNum T) k s).1, I64 x := rep_ok (fun _ h => ⟨rnum_ok hT h, rn_fits hT h⟩) k h
theorem rep_stopped {α : Type} {f : List Nat → RSt → α × RSt} (hf : ∀ T s, s.e ≠ 0 → (f T s).2 = s) {k n : Nat} (hk : k ≤ n) (he : (rRep (f T) k s).2.e ≠ 0) : (rRep (f T) n s).2 = (rRep (f T) k s).2 := by
  induction n with
  | zero =>
    obtain rfl : k = 0 := by omega
    rfl
  | succ n ih =>
    by_cases c : k = n + 1
    · rw [c]
    · rw [rRep_succ]
      have := ih (by omega)
      show (f T (rRep (f T) n s).2).2 = _
      rw [this]
      exact hf T _ he
/-- What a call leaves that answers a list: what was read, but where a fault came. -/
def DReadV {α : Type} (V : (Nat → Prop) → World → Value → α → Prop) (B : Nat → Prop) (br : Nat) (T : List Nat) (r : α × RSt) (W : World) : Ending → World → Prop := fun e w' =>
  ∃ v x, e = .returned v ∧ V (fun i => W.heap.size ≤ i) w' v x ∧ (r.2.e = 0 → x = r.1) ∧ Dr B w' br T r.2 ∧ Cha (fun i => i = br) W w'
theorem info64 : (Try.prog.info? 64).map (fun i => (i.zero, i.size, i.bytes)) = some (some (.int .i64 0), 1, 8) := by kernel_rfl
set_option maxRecDepth 100000 in
set_option maxHeartbeats 2000000 in
theorem dkinds_any (lim : Nat) (hlim : lim ≤ 1000) (h : Dr B W br T s) :
    Calls Try.prog 36 #[.pointer (some ⟨br, 0, none⟩), .int .i64 (lim : Int)] W (DReadV (RdS 1 RdI) B br T (rList T (rNum T) lim s) W) := by
  have hT := h.bytes
  have CW := Lib.hid (dnum_any lim 16 h (by decide) (by omega))
  have hO := rWord_ok (lim := lim) (ab := 16) hT h.ok (by decide)
  have HL : Hid (rList T (rNum T) lim s = rRep (rNum T) (rWord T lim 16 s).1 (rWord T lim 16 s).2) := Lib.hid rfl
  have hbr := h.lt
  have HLOW := Lib.hid h.low
  generalize rWord T lim 16 s = r at *
  obtain ⟨n, s1⟩ := r
  simp only at hO CW HL
  have hn1 : n ≤ 1000 := by have := hO.2.1; omega
  have HK : Hid (∀ k, (rRep (rNum T) k s1).2.ok T ∧ ∀ x ∈ (rRep (rNum T) k s1).1, I64 x) := Lib.hid (fun k => nums_ok hT k hO.1)
  obtain ⟨i0, hi, hz0, hz1, hz2⟩ := info_parts info64
  clear h hT hO
  go_enter Try.func36, Try.ntmps36
  go_wp2_with (go_at_call 35; ((with_reducible refine (CW.out).mono ?_); rintro e w1 ⟨rfl, k1, k2⟩; have K1 := Lib.hid k1; have K2 := Lib.hid k2; clear k1 k2))
  have HB : Hid (W.heap.size ≤ w1.heap.size ∧ br < w1.heap.size) := Lib.hid ⟨K2.out.size, K1.out.lt⟩
  obtain ⟨b0, hb0⟩ : ∃ b, b = w1.heap.size := ⟨_, rfl⟩
  rw [← hb0] at HB
  have HB1 : Hid (b0 ≤ w1.heap.size) := Lib.hid (by omega)
  clear hb0
  go_loopw [5, 7] (fun l i wr => ∃ (k : Nat), k ≤ n ∧ i = .int .i64 (k : Int) ∧ wr.ownsRow b0 64 1 l k (iz (rRep (rNum T) k s1).1) ∧ Dr B wr br T (rRep (rNum T) k s1).2 ∧ Cha (fun i => i = br) W wr ∧ b0 ≤ wr.heap.size) (fun _ i _ => n - (intOf i).toNat)
  case atStart => exact ⟨0, Nat.zero_le _, rfl, World.ownsRow_nil _ _ _ _, K1.out, K2.out, HB1.out⟩
  case round =>
    clear CW K1 K2 HB1
    obtain ⟨k, hk, rfl, hO, hR, hC, hbw⟩ := hrel
    have c2 := hR.err
    obtain ⟨va, vc, rfl⟩ := own_shape hO
    have O := Lib.hid hO
    have R := Lib.hid hR
    have HC := Lib.hid hC
    have HBW := Lib.hid hbw
    clear hO hR hC hbw
    by_cases hlt : k < n
    · by_cases he : (rRep (rNum T) k s1).2.e = 0
      · rw [he] at c2
        have C : Hid (Calls Try.prog 35 #[.pointer (some ⟨br, 0, none⟩), .int .i64 65535, .int .i64 1] wr (DRead B br T (.int .i64 ((rNum T (rRep (rNum T) k s1).2).1)) (rNum T (rRep (rNum T) k s1).2).2 wr)) := Lib.hid (dnum_any 65535 1 R.out (by decide) (by decide))
        go_wp2_with (first
          | (go_at_call 35; ((with_reducible refine (C.out).mono ?_); rintro e w2 ⟨rfl, k1, k2⟩; have O2 := Lib.hid (own_but O.out k2 (fun g hg e => by have e : g = br := e; have := (O.out.lt g hg).1; have := HB.out; omega)); have R2 := Lib.hid k1; have HC2 := Lib.hid (HC.out.trans k2); have HS2 := Lib.hid k2.size; clear k1 k2))
          | (at_builtin; refine wpList_append_where _ rfl _ _ 23 rfl b0 64 i0 (.int .i64 0) 1 8 Try.underlying23 hi hz0 hz1 hz2 rfl (by decide) _ _ _ rfl (O2.out.alloc _) ⟨w2.heap.size, 0, none⟩ 1 1 [.int .i64 (rNum T (rRep (rNum T) k s1).2).1] rfl rfl (one_new _ _ _) (one_int _) (by unfold maxLen; omega) (by omega) (by rw [World.size_alloc]; have := HBW.out; have := HS2.out; omega) ?_; intro v' w3 hown hg hw; obtain ⟨a3, k3, rfl⟩ := own_shape hown; have c3 : Cha (fun i => b0 ≤ i) w2 w3 := ((Cha.refl _ w2).alloc _).trans (Cha.of_grownBy hg (fun k e => (O2.out.lt k e).1)); have O3 := Lib.hid hown; have R3 := Lib.hid (R2.out.cha c3 (fun e => by have e : b0 ≤ br := e; have := HB.out; omega) (fun i e hb => by have e : b0 ≤ i := e; have := HLOW.out i hb; have := HB.out; omega)); have HC3 := Lib.hid (HC2.out.over c3 (fun i e => by have e : b0 ≤ i := e; have := HB.out; exact .inr (by omega))); have HS3 : Hid (b0 ≤ w3.heap.size) := Lib.hid (by have := c3.size; have := HBW.out; have := HS2.out; omega); clear hown hg hw c3))
        go_roundw
        case rel => exact ⟨k + 1, by omega, by go_num, by rw [rRep_succ, iz_snoc]; exact O3.out, by rw [rRep_succ]; exact R3.out, HC3.out, HS3.out⟩
        case measure => simp [intOf]; omega
      · obtain ⟨E, hE⟩ : ∃ E, E = (rRep (rNum T) k s1).2.e := ⟨_, rfl⟩
        have HE := Lib.hid he
        rw [← hE] at c2 he
        have he1 : (E == 0) = false := by simpa using he
        clear hE he
        go_wp2
        go_ret
        have st := rep_stopped (n := n) rnum_stop hk HE.out
        refine ⟨_, _, rfl, (own_ints O.out (HK.out k).2 (by rw [rep_len]; omega) (rep_len _ _).symm).map (fun i hi => by have hi : b0 ≤ i := hi; have := HB.out; show W.heap.size ≤ i; omega) (Nat.le_refl _) (fun _ _ _ _ h => h), fun c => ?_, ?_, HC.out⟩
        · rw [HL.out, st] at c; exact absurd c HE.out
        · rw [HL.out, st]; exact R.out
    · obtain rfl : k = n := by omega
      go_wp2
      go_ret
      refine ⟨_, _, rfl, (own_ints O.out (HK.out k).2 (by rw [rep_len]; omega) (rep_len _ _).symm).map (fun i hi => by have hi : b0 ≤ i := hi; have := HB.out; show W.heap.size ≤ i; omega) (Nat.le_refl _) (fun _ _ _ _ h => h), fun _ => by rw [HL.out], ?_, HC.out⟩
      rw [HL.out]; exact R.out
end
end Go.Proofs.Ytpdjbhnpahkbpaa
