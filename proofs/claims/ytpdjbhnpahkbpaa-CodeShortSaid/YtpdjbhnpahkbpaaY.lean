/- CodeShort: the walk. -/
import Derived.Test.YtpdjbhnpahkbpaaX
namespace Go.Proofs.Ytpdjbhnpahkbpaa
open Go.ChangeShapes Go.WideShapes Go.ChangeAt Go.RowKit

theorem enc8_err {p : PZ} (h : (enc8 p).e ≠ 0) : (enc8 p).t = [] := by
  unfold enc8 at h ⊢
  simp only at h ⊢
  split
  · rfl
  · rename_i c
    rw [if_neg c] at h
    split
    · rfl
    · rename_i d
      rw [if_neg d] at h
      exact absurd h c
theorem enc8_some {p : PZ} {T : List Nat} (hp : PFit p) (h : enc8 p = ⟨T, 0⟩) : 0 < T.length := by
  have a := dec_enc hp h
  cases T with
  | nil =>
    have b : (dec8 []).2.e = 7 := by decide
    rw [a] at b
    exact absurd b (show ¬ (0 : Int) = 7 by decide)
  | cons x l => simp
theorem take_text {W : World} {a : Option Addr} {n c : Nat} {T : List Nat} (h : HasT W a n c T) {k : Nat} (hk : k < n) : ∃ a', sliced a 0 k c 1 = .slice a' k c ∧ HasT W a' k c (T.take k) := by
  obtain ⟨⟨a0, c0, e, hl, h⟩, hn, hc⟩ := h
  injection e with e1 e2 e3
  subst e1 e3
  obtain ⟨b, o, rfl, hb, hbs, hx⟩ := h (by omega)
  refine ⟨some ⟨b, o, none⟩, ?_, ⟨some ⟨b, o, none⟩, _, by rw [List.length_take]; congr 1; omega, by rw [List.length_take]; omega, fun _ => ⟨b, o, rfl, hb, hbs, fun i x hi => hx i x ?_⟩⟩, by rw [List.length_take]; omega, by omega⟩
  · unfold sliced
    split
    · simp
    · simp [Addr.add]
  · rw [List.getElem?_take] at hi
    split at hi
    · exact hi
    · cases hi
theorem text_cells {W : World} {a : Option Addr} {n c : Nat} {T : List Nat} (h : HasT W a n c T) (h0 : 0 < n) : ∃ b o, a = some ⟨b, o, none⟩ ∧ b < W.heap.size ∧ ∀ (j : Nat) (u : Value), (bz T)[j]? = some u → W.cell? ((⟨b, o, none⟩ : Addr).add j) = some u := by
  obtain ⟨⟨a0, c0, e, hl, h⟩, hn, hc⟩ := h
  injection e with e1 e2 e3
  subst e1
  obtain ⟨b, o, rfl, hb, hbs, hx⟩ := h (by omega)
  refine ⟨b, o, rfl, hbs, fun j u hu => ?_⟩
  unfold bz at hu
  rw [List.getElem?_map] at hu
  cases hj : T[j]? with
  | none => rw [hj] at hu; cases hu
  | some x =>
    rw [hj] at hu
    injection hu with hu
    have := (hx j x hj).1
    rw [Nat.mul_one] at this
    rw [Addr.add_mid, ← hu]
    exact this
theorem bz_one (T : List Nat) : ∀ u ∈ bz T, u.oneCell' = true := fun u hu => by
  obtain ⟨x, _, rfl⟩ := List.mem_map.1 hu
  rfl
theorem bz_len (T : List Nat) : (bz T).length = T.length := by unfold bz; simp
theorem own_has {W : World} {B0 : Nat} {v : Value} {n : Nat} {T : List Nat} (h : W.ownsRow B0 5 1 v n (bz T)) (hT : ∀ x ∈ T, x < 256) (hl : T.length ≤ 9223372036854775807) (hn : n = T.length) : ∃ a c, v = .slice a n c ∧ HasT W a n c T := by
  obtain ⟨a, c, rfl⟩ := own_shape h
  subst hn
  obtain ⟨k1, k2⟩ := own_bytes h hT hl
  exact ⟨a, c, rfl, k1.bytes (Cha.refl (fun _ => False) _) (fun _ f => f.elim) (fun _ hi => hi.2), rfl, k2⟩
set_option maxRecDepth 100000 in
set_option maxHeartbeats 4000000 in
theorem short_bad {W : World} {v0 v1 v2 : Value} {p : PZ} {cut tail : Int} (hp : HasP W (.agg #[v0, v1, v2]) p) (hb : (enc8 p).e ≠ 0 ∨ 16000 < (enc8 p).t.length) :
    Calls Try.prog 7 #[.agg #[v0, v1, v2], .int .u16 cut, .int .u8 tail] W fun e w' => e = .returned (.bool true) ∧ Cha (fun _ => False) W w' := by
  obtain ⟨⟨a0, n0, c0, rfl⟩, ⟨a1, n1, c1, rfl⟩, ⟨a2, n2, c2, rfl⟩⟩ := rdp_shape hp
  have HP := Lib.hid hp
  have EE := Lib.hid (enc8_err (p := p))
  have C0 : Hid (Cha (fun _ => False) W (W.alloc (.cells #[.slice a0 n0 c0, .slice a1 n1 c1, .slice a2 n2 c2] 26))) := Lib.hid ((Cha.refl _ W).alloc _)
  have CE := Lib.hid (encode_c (HP.out.cha C0.out))
  obtain ⟨s, hs⟩ : ∃ s, s = enc8 p := ⟨_, rfl⟩
  rw [← hs] at CE EE hb
  clear hp hs
  obtain ⟨T1, E1⟩ := s
  by_cases hE : E1 = 0
  · subst hE
    have hl : (16000 : Int) < (T1.length : Int) := by
      rcases hb with h | h
      · exact absurd rfl h
      · have h : 16000 < T1.length := h
        omega
    have hl0 : ((T1.length : Int) == 0) = false := by simp; intro h; subst h; simp at hl
    clear EE hb
    go_enter Try.func7, Try.ntmps7
    go_wp2_with (first
      | (go_at_call 15; ((with_reducible refine (CE.out).mono ?_); rintro e w2 ⟨x2, y2, rfl, k1, k2⟩; have C2 := Lib.hid (C0.out.trans k2); clear k1 k2; have AW := Lib.hid (awake_any w2)))
      | (go_at_call 17; ((with_reducible refine (AW.out).mono ?_); rintro e w3 ⟨rfl, k1⟩; have C3 := Lib.hid (C2.out.trans k1); clear k1)))
    go_ret
    exact ⟨rfl, C3.out⟩
  · have hE1 : (E1 != 0) = true := by simpa using hE
    have hE2 : (E1 == 0) = false := by simpa using hE
    have ht : T1 = [] := EE.out hE
    subst ht
    clear EE hb hE
    go_enter Try.func7, Try.ntmps7
    go_wp2_with (first
      | (go_at_call 15; ((with_reducible refine (CE.out).mono ?_); rintro e w2 ⟨x2, y2, rfl, k1, k2⟩; have C2 := Lib.hid (C0.out.trans k2); clear k1 k2; have AW := Lib.hid (awake_any w2)))
      | (go_at_call 17; ((with_reducible refine (AW.out).mono ?_); rintro e w3 ⟨rfl, k1⟩; have C3 := Lib.hid (C2.out.trans k1); clear k1)))
    go_ret
    exact ⟨rfl, C3.out⟩
set_option maxRecDepth 100000 in
set_option maxHeartbeats 4000000 in
theorem short_good {W : World} {v0 v1 v2 : Value} {p : PZ} {T : List Nat} (cut tail : Nat) (hcut : cut ≤ 65535) (htail : tail ≤ 255) (hp : HasP W (.agg #[v0, v1, v2]) p) (hT : enc8 p = ⟨T, 0⟩) (hl : T.length ≤ 16000) :
    Calls Try.prog 7 #[.agg #[v0, v1, v2], .int .u16 (cut : Int), .int .u8 (tail : Int)] W fun e w' => e = .returned (.bool true) ∧ Cha (fun _ => False) W w' := by
  obtain ⟨⟨a0, n0, c0, rfl⟩, ⟨a1, n1, c1, rfl⟩, ⟨a2, n2, c2, rfl⟩⟩ := rdp_shape hp
  have HP := Lib.hid hp
  have h0 := enc8_some hp.fit hT
  obtain ⟨m, hm⟩ : ∃ m, m = cut % T.length := ⟨_, rfl⟩
  have hml : m < T.length := by rw [hm]; exact Nat.mod_lt _ h0
  obtain ⟨at_, hcutd, hatm⟩ := dec_cut hp.fit hT hml
  have HCUT := Lib.hid hcutd
  have HMORE := Lib.hid (dec_more hp.fit hT hl tail)
  have C0 : Hid (Cha (fun _ => False) W (W.alloc (.cells #[.slice a0 n0 c0, .slice a1 n1 c1, .slice a2 n2 c2] 26))) := Lib.hid ((Cha.refl _ W).alloc _)
  have CE : Hid (Calls Try.prog 15 #[.agg #[.slice a0 n0 c0, .slice a1 n1 c1, .slice a2 n2 c2]] (W.alloc (.cells #[.slice a0 n0 c0, .slice a1 n1 c1, .slice a2 n2 c2] 26)) (Enc1 (W.alloc (.cells #[.slice a0 n0 c0, .slice a1 n1 c1, .slice a2 n2 c2] 26)) ⟨T, 0⟩)) := Lib.hid (by
    have := encode_c (HP.out.cha C0.out)
    rw [hT] at this
    exact this)
  have HTB : Hid (∀ x ∈ T, x < 256) := Lib.hid (by have := (enc8_bytes hp.ok).1; rw [hT] at this; exact this)
  obtain ⟨n, hn⟩ : ∃ n, n = T.length := ⟨_, rfl⟩
  have HN := Lib.hid hn
  rw [← hn] at hml h0 hl
  have hrem : (cut : Int) % (n : Int) = (m : Int) := by rw [hm, ← hn]; simp
  have hrem2 : (cut : Int).tmod (n : Int) = (m : Int) := by rw [Int.tmod_eq_emod_of_nonneg (by omega)]; exact hrem
  have hn0 : ((n : Int) == 0) = false := by simp; omega
  obtain ⟨i0, hi, hz0, hz1, hz2⟩ := info_parts info5
  have hat2 : ¬ (m : Int) < (at_ : Int) := by omega
  have DC : Hid (∀ w a c, HasT w a m c (T.take m) → Calls Try.prog 19 #[.slice a m c] w (Dec1 w (noP, ⟨7, -1, (at_ : Int)⟩))) := Lib.hid (fun w a c h => by have := decode_c h; rw [HCUT.out] at this; exact this)
  have DM : Hid (∀ w a c, HasT w a (n + 1) c (T ++ [tail]) → Calls Try.prog 19 #[.slice a (n + 1) c] w (Dec1 w (noP, ⟨7, -1, (n : Int)⟩))) := Lib.hid (fun w a c h => by have := decode_c h; rw [HMORE.out, ← HN.out] at this; exact this)
  have HA := Lib.hid hatm
  clear hp hT hm hcutd hn hatm HMORE HCUT
  go_enter Try.func7, Try.ntmps7
  go_wp2_with (first
    | (go_at_call 15; ((with_reducible refine (CE.out).mono ?_); rintro e w2 ⟨x2, y2, rfl, k1, k2⟩; rw [← HN.out] at k1; simp only [← HN.out]; have C2 := Lib.hid (C0.out.trans k2); obtain ⟨tb, to_, rfl, _, _⟩ := text_cells k1 h0; have T2 := Lib.hid k1; clear k1 k2; have AW := Lib.hid (awake_any w2)))
    | (go_at_call 17; ((with_reducible refine (AW.out).mono ?_); rintro e w3 ⟨rfl, k1⟩; have C3 := Lib.hid (C2.out.trans k1); have T3 := Lib.hid (T2.out.cha k1); clear k1; obtain ⟨ta, hsl0, ht3⟩ := take_text T3.out hml; have HS3 := Lib.hid ht3; have hsl : ∀ w, (Instr.slice 27 (.slice (some ⟨tb, to_, none⟩) n y2) none (some (.int .i64 (m : Int))) none).run Try.prog w = .ok (.slice ta m y2) w := (fun w => by have := run_slice_h (P := Try.prog) w 27 (some ⟨tb, to_, none⟩) n y2 Try.underlying27 .i64 (m : Int) (by omega) (by have := T3.out.2.2; omega); rw [this, ← hsl0]; rfl); clear ht3 hsl0))
    | (go_at_call 19; ((with_reducible refine (DC.out _ _ _ HS3.out).mono ?_); rintro e w4 ⟨e0, i0', f0, e1, i1, f1, e2, i2, f2, rfl, k1, k2⟩; have C4 : Hid (Cha (fun _ => False) W ((w4.alloc (.cells #[.slice e0 i0' f0, .slice e1 i1 f1, .slice e2 i2 f2] 26)).alloc (.cells #[.int .i64 7, .int .i64 (-1), .int .i64 (at_ : Int)] 37))) := Lib.hid (((C3.out.trans k2).alloc _).alloc _); have T4 : Hid (HasT ((w4.alloc (.cells #[.slice e0 i0' f0, .slice e1 i1 f1, .slice e2 i2 f2] 26)).alloc (.cells #[.int .i64 7, .int .i64 (-1), .int .i64 (at_ : Int)] 37)) (some ⟨tb, to_, none⟩) n y2 T) := Lib.hid (T3.out.cha ((k2.alloc _).alloc _)); clear k1 k2 hsl))
    | (at_builtin; refine wpList_append_where _ rfl _ _ 27 rfl W.heap.size 5 i0 (.int .u8 0) 1 1 Try.underlying27 hi hz0 hz1 hz2 rfl (by decide) (.slice none 0 0) 0 [] rfl (World.ownsRow_nil _ _ _ _) ⟨tb, to_, none⟩ n y2 (bz T) rfl (by rw [bz_len, Nat.mul_one]; exact HN.out.symm) (by obtain ⟨_, _, q, _, hh⟩ := text_cells T4.out h0; cases q; exact hh) (bz_one T) (by unfold maxLen; omega) (by omega) C4.out.size ?_; intro v' w6 hown hg hw; simp only [Nat.zero_add, List.nil_append] at hown; obtain ⟨a6, k6, rfl⟩ := own_shape hown; have O6 := Lib.hid hown; have C6 := Lib.hid (C4.out.trans (Cha.of_grownBy hg (fun k e => by cases e))); clear hown hg hw)
    | (at_builtin; refine wpList_append_where _ rfl _ _ 27 rfl W.heap.size 5 i0 (.int .u8 0) 1 1 Try.underlying27 hi hz0 hz1 hz2 rfl (by decide) (.slice a6 n k6) n (bz T) rfl (O6.out.alloc _) ⟨w6.heap.size, 0, none⟩ 1 1 [.int .u8 (tail : Int)] rfl rfl (one_new _ _ _) (one_byte _) (by unfold maxLen; omega) (by omega) (Nat.le_trans C6.out.size (by rw [World.size_alloc]; omega)) ?_; intro v' w7 hown hg hw; go_loud (rw [← bz_snoc] at hown; obtain ⟨a7, k7, e7, h7⟩ := own_has hown (fun x hx => by rcases List.mem_append.1 hx with h | h; exact HTB.out x h; obtain rfl := List.mem_singleton.1 h; omega) (by rw [List.length_append, ← HN.out]; simp only [List.length_singleton]; omega) (by rw [List.length_append, ← HN.out]; rfl); subst e7; have T7 := Lib.hid h7; have C7 := Lib.hid ((C6.out.alloc (.cells #[.int .u8 (tail : Int)] 5)).over (Cha.of_grownBy (S := fun i => W.heap.size ≤ i) hg (fun k e => (O6.out.lt k e).1)) (fun i hi => .inr hi)); clear hown hg hw h7))
    | (go_at_call 19; ((with_reducible refine (DM.out _ _ _ T7.out).mono ?_); rintro e w8 ⟨g0, j0, l0, g1, j1, l1, g2, j2, l2, rfl, k1, k2⟩; have C8 := Lib.hid (((C7.out.trans k2).alloc (.cells #[.slice g0 j0 l0, .slice g1 j1 l1, .slice g2 j2 l2] 26)).alloc (.cells #[.int .i64 7, .int .i64 (-1), .int .i64 (n : Int)] 37)); clear k1 k2)))
  go_ret
  exact ⟨rfl, C8.out⟩
end Go.Proofs.Ytpdjbhnpahkbpaa
