/- The document's reader: numbers, lists of them. -/
import Derived.Test.YtpdjbhnpahkbpaaAC
namespace Go.Proofs.Ytpdjbhnpahkbpaa
open Go.ChangeShapes Go.WideShapes Go.ChangeAt Go.RowKit
section
variable {B : Nat → Prop} {br : Nat} {S : Nat → Prop} {W W' : World} {T : List Nat} {s : RSt}
theorem dword_any (h : Dr B W br T s) : Calls Try.prog 60 #[.pointer (some ⟨br, 0, none⟩)] W (DRead B br T (.int .u64 ((rWord T 18446744073709551615 8 s).1 : Int)) (rWord T 18446744073709551615 8 s).2 W) := by
  by_cases he : s.e = 0
  · exact dword_goes h he
  · have e : rWord T 18446744073709551615 8 s = (0, s) := by unfold rWord; rw [if_pos he]
    rw [e]
    exact dword_stop h he
theorem rword_lim {lim : Nat} {ab : Int} (hT : ∀ x ∈ T, x < 256) (_hs : s.ok T) (he : s.e = 0) (hab : ab ≠ 0) : ((rWord T 18446744073709551615 8 s).2.e ≠ 0 ∧ (rWord T 18446744073709551615 8 s).1 = 0 ∧ rWord T lim ab s = rWord T 18446744073709551615 8 s) ∨ ((rWord T 18446744073709551615 8 s).2.e = 0 ∧ lim < (rWord T 18446744073709551615 8 s).1 ∧ rWord T lim ab s = (0, ⟨s.at_, ab, s.at_⟩)) ∨ ((rWord T 18446744073709551615 8 s).2.e = 0 ∧ ¬ lim < (rWord T 18446744073709551615 8 s).1 ∧ rWord T lim ab s = rWord T 18446744073709551615 8 s) := by
  have hfb := fw_bound (T.drop s.at_) 0 0 (by omega) (by simp) fun x hx => hT x (List.mem_of_mem_drop hx)
  have e1 : rErr 18446744073709551615 8 (fw (T.drop s.at_) 0 0) = (fw (T.drop s.at_) 0 0).2.2 := by unfold rErr; rw [if_neg (fun c => by have := c.2; have := hfb.1; omega)]
  have hw : ∀ (l : Nat) (a : Int), rWord T l a s = if rErr l a (fw (T.drop s.at_) 0 0) ≠ 0 then (0, ⟨s.at_, rErr l a (fw (T.drop s.at_) 0 0), s.at_⟩) else ((fw (T.drop s.at_) 0 0).1, ⟨s.at_ + (fw (T.drop s.at_) 0 0).2.1, 0, 0⟩) := fun l a => by
    conv => lhs; unfold rWord
    rw [if_neg (fun c => c he)]
  rw [hw 18446744073709551615 8, hw lim ab, e1]
  generalize fw (T.drop s.at_) 0 0 = r at *
  obtain ⟨n, sz, e⟩ := r
  by_cases c : e = 0
  · subst c
    by_cases d : lim < n
    · have e2 : rErr lim ab (n, sz, 0) = ab := by unfold rErr; rw [if_pos ⟨rfl, d⟩]
      right; left
      rw [if_neg (fun c => c rfl), e2, if_pos hab]
      exact ⟨rfl, d, rfl⟩
    · have e2 : rErr lim ab (n, sz, 0) = 0 := by unfold rErr; rw [if_neg (fun c => d c.2)]
      right; right
      rw [if_neg (fun c => c rfl), e2, if_neg (fun c => c rfl)]
      exact ⟨rfl, d, rfl⟩
  · have e2 : rErr lim ab (n, sz, e) = e := by unfold rErr; rw [if_neg (fun k => c k.1)]
    left
    rw [if_pos c, e2, if_pos c]
    exact ⟨c, rfl, rfl⟩
set_option maxRecDepth 100000 in
theorem dnum_any (lim : Nat) (ab : Int) (h : Dr B W br T s) (hab : ab ≠ 0) (hlim : lim ≤ 1000000) :
    Calls Try.prog 35 #[.pointer (some ⟨br, 0, none⟩), .int .i64 (lim : Int), .int .i64 ab] W (DRead B br T (.int .i64 ((rWord T lim ab s).1 : Int)) (rWord T lim ab s).2 W) := by
  have C := Lib.hid (dword_any h)
  obtain ⟨p, c1, hp, hpl⟩ := h.pos
  have hO := (rWord_ok (lim := lim) (ab := ab) h.bytes h.ok hab).2.1
  have hlw : IntKind.u64.wrap (lim : Int) = (lim : Int) := by rw [IntKind.wrap_u64]; omega
  have hiw : IntKind.i64.wrap ((rWord T lim ab s).1 : Int) = ((rWord T lim ab s).1 : Int) := by rw [IntKind.wrap_i64]; omega
  by_cases he : s.e = 0
  · have hpa := hp he
    rcases rword_lim (lim := lim) h.bytes h.ok he hab with ⟨a1, a2, a3⟩ | ⟨a1, a2, a3⟩ | ⟨a1, a2, a3⟩
    · have HE := Lib.hid a3
      have h0 : Hid ((rWord T 18446744073709551615 8 s).1 = 0) := Lib.hid a2
      rw [a2] at C
      have hlt : ¬ (lim : Int) < ((0 : Nat) : Int) := by omega
      clear a1 a2 a3 h hp hpl hO hiw hpa
      go_enter Try.func35, Try.ntmps35
      go_wp2_with (go_at_call 60; ((with_reducible refine (C.out).mono ?_); rintro e w1 ⟨rfl, k1, k2⟩; have K1 := Lib.hid k1; have K2 := Lib.hid k2; clear k1 k2))
      go_ret
      exact DRead.of ⟨rfl, K1.out, K2.out⟩ (by rw [HE.out, h0.out]; rfl) (by rw [HE.out])
    · obtain ⟨n, hn⟩ : ∃ n, n = (rWord T 18446744073709551615 8 s).1 := ⟨_, rfl⟩
      rw [← hn] at C a2
      have HE := Lib.hid a3
      have H1 := Lib.hid a1
      have hlt : (lim : Int) < (n : Int) := by omega
      have HS : Hid ((rWord T 18446744073709551615 8 s).2.at_ ≤ T.length ∧ s.at_ ≤ T.length ∧ p = s.at_) := Lib.hid ⟨(rWord_ok (lim := 18446744073709551615) (ab := 8) h.bytes h.ok (by decide)).1.le, h.ok.le, hpa⟩
      clear a1 a2 a3 h hp hpl hO hiw hpa hn
      go_enter Try.func35, Try.ntmps35
      go_wp2_with (first
        | (go_at_call 60; ((with_reducible refine (C.out).mono ?_); rintro e w1 ⟨rfl, k1, k2⟩; have K1 := Lib.hid k1; have K2 := Lib.hid k2; clear k1 k2))
        | (go_at_call 38; ((with_reducible refine (fail_goes ab p K1.out H1.out hab (by have := HS.out; omega)).mono ?_); rintro e w2 ⟨rfl, k1, k2⟩; have K3 := Lib.hid k1; have K4 := Lib.hid (K2.out.trans k2); clear k1 k2)))
      go_ret
      refine DRead.of (s := ⟨s.at_, ab, s.at_⟩) ⟨rfl, ?_, K4.out⟩ (by rw [HE.out]; rfl) (by rw [HE.out])
      have a := K3.out.re (m' := s.at_) hab HS.out.2.1
      rw [HS.out.2.2] at a
      exact a
    · rw [a3] at hiw hO
      obtain ⟨n, hn⟩ : ∃ n, n = (rWord T 18446744073709551615 8 s).1 := ⟨_, rfl⟩
      have HN := Lib.hid hn
      rw [← hn] at C a2 hiw hO
      have HE := Lib.hid a3
      have hlt : ¬ (lim : Int) < (n : Int) := by omega
      clear a1 a2 a3 h hp hpl hpa hn
      go_enter Try.func35, Try.ntmps35
      go_wp2_with (go_at_call 60; ((with_reducible refine (C.out).mono ?_); rintro e w1 ⟨rfl, k1, k2⟩; have K1 := Lib.hid k1; have K2 := Lib.hid k2; clear k1 k2))
      go_ret
      exact DRead.of ⟨rfl, K1.out, K2.out⟩ (by rw [HE.out, ← HN.out]; rfl) (by rw [HE.out])
  · have e1 : rWord T 18446744073709551615 8 s = (0, s) := by unfold rWord; rw [if_pos he]
    have e2 : rWord T lim ab s = (0, s) := by unfold rWord; rw [if_pos he]
    rw [e1] at C
    rw [e2]
    have hlt : ¬ (lim : Int) < ((0 : Nat) : Int) := by omega
    clear h hp hpl hO hiw e1 e2 he
    go_enter Try.func35, Try.ntmps35
    go_wp2_with (go_at_call 60; ((with_reducible refine (C.out).mono ?_); rintro e w1 ⟨rfl, k1, k2⟩; have K1 := Lib.hid k1; have K2 := Lib.hid k2; clear k1 k2))
    go_ret
    exact ⟨rfl, K1.out, K2.out⟩
theorem DRead.of2 {v : Value} {r : Nat × RSt} {e : Ending} {w' : World} (h : DRead B br T v r.2 W e w') : DRead B br T v r.2 W e w' := h
/-- Ints as cells. -/
def iz (xs : List Int) : List Value := xs.map fun z => .int .i64 z
theorem iz_snoc (xs : List Int) (x : Int) : iz (xs ++ [x]) = iz xs ++ [.int .i64 x] := by unfold iz; simp
theorem iz_len (xs : List Int) : (iz xs).length = xs.length := by unfold iz; simp
theorem one_int (x : Int) : ∀ u ∈ ([.int .i64 x] : List Value), u.oneCell' = true := fun u h => by
  obtain rfl := List.mem_singleton.1 h
  rfl
theorem own_ints {B0 n : Nat} {t : TypeId} {v : Value} {xs : List Int} (h : W.ownsRow B0 t 1 v n (iz xs)) (hx : ∀ z ∈ xs, I64 z) (hl : xs.length ≤ 9223372036854775807) (hn : n = xs.length) : RdS 1 RdI (fun i => B0 ≤ i) W v xs := by
  subst hn
  rcases h.2 with ⟨e, h1⟩ | ⟨g, cap, cur, e, hb, hg, hnc, hcm, hcs, htk⟩
  · subst e
    obtain rfl : xs = [] := List.eq_nil_of_length_eq_zero h1
    exact RdS.nil _ _ _ _
  · subst e
    have hl2 : g < W.heap.size := (Array.getElem?_eq_some_iff.1 hg).1
    refine ⟨_, _, rfl, hl, fun _ => ⟨g, 0, rfl, hb, hl2, fun i x hi => ?_⟩⟩
    have hx2 := h.cells (g := g) rfl i (.int .i64 x) (by unfold iz; rw [List.getElem?_map, hi]; rfl)
    have e0 : (⟨g, 0, none⟩ : Addr).add i = ⟨g, 0 + i * 1, none⟩ := by rw [Addr.add_mid, Nat.mul_one]
    rw [e0] at hx2
    exact ⟨hx2, hx x (List.mem_of_getElem? hi)⟩
theorem rnum_ok (hT : ∀ x ∈ T, x < 256) (h : s.ok T) : (rNum T s).2.ok T := (rWord_ok (lim := 65535) (ab := 1) hT h (by decide)).1
theorem rep_ok {α : Type} {f : RSt → α × RSt} {Q : α → Prop} (hf : ∀ s, s.ok T → (f s).2.ok T ∧ Q (f s).1) (k : Nat) (h : s.ok T) : (rRep f k s).2.ok T ∧ ∀ x ∈ (rRep f k s).1, Q x := by
  induction k with
  | zero => exact ⟨h, fun x hx => by have hx : x ∈ ([] : List α) := hx; simp at hx⟩
  | succ k ih =>
    rw [rRep_succ]
    refine ⟨(hf _ ih.1).1, fun x hx => ?_⟩
    rcases List.mem_append.1 hx with hx | hx
    · exact ih.2 x hx
    · obtain rfl := List.mem_singleton.1 hx
      exact (hf _ ih.1).2
theorem nums_ok (hT : ∀ x ∈ T, x < 256) (k : Nat) (h : s.ok T) : (rRep (rNum T) k s).2.ok T ∧ ∀ x ∈ (rRep (rNum T) k s).1, I64 x := rep_ok (fun _ h => ⟨rnum_ok hT h, rn_fits hT h⟩) k h
theorem rep_stopped {α : Type} {f : List Nat → RSt → α × RSt} (hf : ∀ T s, s.e ≠ 0 → (f T s).2 = s) {k n : Nat} (hk : k ≤ n) (he : (rRep (f T) k s).2.e ≠ 0) : (rRep (f T) n s).2 = (rRep (f T) k s).2 := by
  induction n with
  | zero =>
    obtain rfl : k = 0 := by omega
    rfl
  | succ n ih =>
    by_cases c : k = n + 1
    · rw [c]
    · rw [rRep_succ]
      have := ih (by omega)
      show (f T (rRep (f T) n s).2).2 = _
      rw [this]
      exact hf T _ he
/-- What a call leaves that answers a list: what was read, but where a fault came. -/
def DReadV {α : Type} (V : (Nat → Prop) → World → Value → α → Prop) (B : Nat → Prop) (br : Nat) (T : List Nat) (r : α × RSt) (W : World) : Ending → World → Prop := fun e w' =>
  ∃ v x, e = .returned v ∧ V (fun i => W.heap.size ≤ i) w' v x ∧ (r.2.e = 0 → x = r.1) ∧ Dr B w' br T r.2 ∧ Cha (fun i => i = br) W w'
theorem info64 : (Try.prog.info? 64).map (fun i => (i.zero, i.size, i.bytes)) = some (some (.int .i64 0), 1, 8) := by kernel_rfl
set_option maxRecDepth 100000 in
set_option maxHeartbeats 2000000 in
theorem dkinds_any (lim : Nat) (hlim : lim ≤ 1000) (h : Dr B W br T s) :
    Calls Try.prog 36 #[.pointer (some ⟨br, 0, none⟩), .int .i64 (lim : Int)] W (DReadV (RdS 1 RdI) B br T (rList T (rNum T) lim s) W) := by
  have hT := h.bytes
  have CW := Lib.hid (dnum_any lim 16 h (by decide) (by omega))
  have hO := rWord_ok (lim := lim) (ab := 16) hT h.ok (by decide)
  have HL : Hid (rList T (rNum T) lim s = rRep (rNum T) (rWord T lim 16 s).1 (rWord T lim 16 s).2) := Lib.hid rfl
  have hbr := h.lt
  have HLOW := Lib.hid h.low
  generalize rWord T lim 16 s = r at *
  obtain ⟨n, s1⟩ := r
  simp only at hO CW HL
  have hn1 : n ≤ 1000 := by have := hO.2.1; omega
  have HK : Hid (∀ k, (rRep (rNum T) k s1).2.ok T ∧ ∀ x ∈ (rRep (rNum T) k s1).1, I64 x) := Lib.hid (fun k => nums_ok hT k hO.1)
  obtain ⟨i0, hi, hz0, hz1, hz2⟩ := info_parts info64
  clear h hT hO
  go_enter Try.func36, Try.ntmps36
  go_wp2_with (go_at_call 35; ((with_reducible refine (CW.out).mono ?_); rintro e w1 ⟨rfl, k1, k2⟩; have K1 := Lib.hid k1; have K2 := Lib.hid k2; clear k1 k2))
  have HB : Hid (W.heap.size ≤ w1.heap.size ∧ br < w1.heap.size) := Lib.hid ⟨K2.out.size, K1.out.lt⟩
  obtain ⟨b0, hb0⟩ : ∃ b, b = w1.heap.size := ⟨_, rfl⟩
  rw [← hb0] at HB
  have HB1 : Hid (b0 ≤ w1.heap.size) := Lib.hid (by omega)
  clear hb0
  go_loopw [5, 7] (fun l i wr => ∃ (k : Nat), k ≤ n ∧ i = .int .i64 (k : Int) ∧ wr.ownsRow b0 64 1 l k (iz (rRep (rNum T) k s1).1) ∧ Dr B wr br T (rRep (rNum T) k s1).2 ∧ Cha (fun i => i = br) W wr ∧ b0 ≤ wr.heap.size) (fun _ i _ => n - (intOf i).toNat)
  case atStart => exact ⟨0, Nat.zero_le _, rfl, World.ownsRow_nil _ _ _ _, K1.out, K2.out, HB1.out⟩
  case round =>
    clear CW K1 K2 HB1
    obtain ⟨k, hk, rfl, hO, hR, hC, hbw⟩ := hrel
    have c2 := hR.err
    obtain ⟨va, vc, rfl⟩ := own_shape hO
    have O := Lib.hid hO
    have R := Lib.hid hR
    have HC := Lib.hid hC
    have HBW := Lib.hid hbw
    clear hO hR hC hbw
    by_cases hlt : k < n
    · by_cases he : (rRep (rNum T) k s1).2.e = 0
      · rw [he] at c2
        have C : Hid (Calls Try.prog 35 #[.pointer (some ⟨br, 0, none⟩), .int .i64 65535, .int .i64 1] wr (DRead B br T (.int .i64 ((rNum T (rRep (rNum T) k s1).2).1)) (rNum T (rRep (rNum T) k s1).2).2 wr)) := Lib.hid (dnum_any 65535 1 R.out (by decide) (by decide))
        go_wp2_with (first
          | (go_at_call 35; ((with_reducible refine (C.out).mono ?_); rintro e w2 ⟨rfl, k1, k2⟩; have O2 := Lib.hid (own_but O.out k2 (fun g hg e => by have e : g = br := e; have := (O.out.lt g hg).1; have := HB.out; omega)); have R2 := Lib.hid k1; have HC2 := Lib.hid (HC.out.trans k2); have HS2 := Lib.hid k2.size; clear k1 k2))
          | (at_builtin; refine wpList_append_where _ rfl _ _ 23 rfl b0 64 i0 (.int .i64 0) 1 8 Try.underlying23 hi hz0 hz1 hz2 rfl (by decide) _ _ _ rfl (O2.out.alloc _) ⟨w2.heap.size, 0, none⟩ 1 1 [.int .i64 (rNum T (rRep (rNum T) k s1).2).1] rfl rfl (one_new _ _ _) (one_int _) (by unfold maxLen; omega) (by omega) (by rw [World.size_alloc]; have := HBW.out; have := HS2.out; omega) ?_; intro v' w3 hown hg hw; obtain ⟨a3, k3, rfl⟩ := own_shape hown; have c3 : Cha (fun i => b0 ≤ i) w2 w3 := ((Cha.refl _ w2).alloc _).trans (Cha.of_grownBy hg (fun k e => (O2.out.lt k e).1)); have O3 := Lib.hid hown; have R3 := Lib.hid (R2.out.cha c3 (fun e => by have e : b0 ≤ br := e; have := HB.out; omega) (fun i e hb => by have e : b0 ≤ i := e; have := HLOW.out i hb; have := HB.out; omega)); have HC3 := Lib.hid (HC2.out.over c3 (fun i e => by have e : b0 ≤ i := e; have := HB.out; exact .inr (by omega))); have HS3 : Hid (b0 ≤ w3.heap.size) := Lib.hid (by have := c3.size; have := HBW.out; have := HS2.out; omega); clear hown hg hw c3))
        go_roundw
        case rel => exact ⟨k + 1, by omega, by go_num, by rw [rRep_succ, iz_snoc]; exact O3.out, by rw [rRep_succ]; exact R3.out, HC3.out, HS3.out⟩
        case measure => simp [intOf]; omega
      · obtain ⟨E, hE⟩ : ∃ E, E = (rRep (rNum T) k s1).2.e := ⟨_, rfl⟩
        have HE := Lib.hid he
        rw [← hE] at c2 he
        have he1 : (E == 0) = false := by simpa using he
        clear hE he
        go_wp2
        go_ret
        have st := rep_stopped (n := n) rnum_stop hk HE.out
        refine ⟨_, _, rfl, (own_ints O.out (HK.out k).2 (by rw [rep_len]; omega) (rep_len _ _).symm).map (fun i hi => by have hi : b0 ≤ i := hi; have := HB.out; show W.heap.size ≤ i; omega) (Nat.le_refl _) (fun _ _ _ _ h => h), fun c => ?_, ?_, HC.out⟩
        · rw [HL.out, st] at c; exact absurd c HE.out
        · rw [HL.out, st]; exact R.out
    · obtain rfl : k = n := by omega
      go_wp2
      go_ret
      refine ⟨_, _, rfl, (own_ints O.out (HK.out k).2 (by rw [rep_len]; omega) (rep_len _ _).symm).map (fun i hi => by have hi : b0 ≤ i := hi; have := HB.out; show W.heap.size ≤ i; omega) (Nat.le_refl _) (fun _ _ _ _ h => h), fun _ => by rw [HL.out], ?_, HC.out⟩
      rw [HL.out]; exact R.out
end
end Go.Proofs.Ytpdjbhnpahkbpaa
