/- ChansNone: the walk. -/
import Derived.Test.YtnhjkmkocpjkmaaO
namespace Go.Proofs.Ytnhjkmkocpjkmaa
open Go.ChangeShapes Go.WideShapes Go.ChangeAt Go.RowKit

/-- What stands in a channel to which nobody came. -/
structure Fill (c : Nat) (s : St) (L : List Int) : Prop where
  cap : s.cap = c
  op : s.shut = false
  rn : s.rcvs = []
  vs : s.values = L
  vc : s.vals.length ≤ c
  sf : s.snds ≠ [] → s.vals.length = c
theorem Fill.size {c : Nat} {s : St} {L : List Int} (h : Fill c s L) : s.size = L.length := by
  rw [← h.vs]; unfold St.size St.values; rw [h.rn, List.length_append, List.length_map]; simp
theorem fill_new (c : Nat) : Fill c (St.new c) [] := ⟨rfl, rfl, rfl, rfl, Nat.zero_le _, fun h => absurd rfl h⟩
theorem Fill.send {c : Nat} {s : St} {L : List Int} (h : Fill c s L) (id v : Int) : Fill c (s.send id v true).2 (L ++ [v]) := by
  unfold St.send
  rw [if_neg (by simp [h.op]), h.rn]
  dsimp only
  by_cases hl : s.vals.length < s.cap
  · rw [if_pos hl]
    have hsn : s.snds = [] := by
      by_cases hn : s.snds = []
      · exact hn
      · have := h.sf hn; have := h.cap; omega
    refine ⟨h.cap, h.op, rfl, ?_, ?_, fun hn => absurd hsn hn⟩
    · have hv := h.vs
      unfold St.values at hv ⊢
      rw [hsn] at hv
      show (s.vals ++ [v]) ++ s.snds.map Snd.val = _
      rw [hsn, ← hv]; simp
    · show (s.vals ++ [v]).length ≤ c
      have := h.cap
      simp only [List.length_append, List.length_singleton]; omega
  · rw [if_neg hl, if_pos rfl]
    have hfull : s.vals.length = c := by have := h.cap; have := h.vc; omega
    refine ⟨h.cap, h.op, h.rn, ?_, h.vc, fun _ => hfull⟩
    rw [← h.vs]
    unfold St.values
    show s.vals ++ (s.snds ++ [_]).map Snd.val = _
    simp
section
variable {α : Type} {E : Enc α} {w0 w w' W : World} {F : Nat → Prop} {bc : Nat} {s s' : St} {v y : Value} {A Y N : List α}
/-- A list is written at one place. -/
theorem Lies.set {w : World} {g o n cap i : Nat} {A : List Int} (h : Lies u64E w (.slice (some ⟨g, o, none⟩) n cap) A) (hi : i < n) (x : Int) : Lies u64E (w.setCell ⟨g, o + i, none⟩ (.int .u64 x)) (.slice (some ⟨g, o, none⟩) n cap) (A.set i x) := by
  rcases h with ⟨_, e⟩ | ⟨g', o', cap', cur, e, h1, h2, h3, h4, h5⟩
  · cases e
  · cases e
    have h4 : o + cap * 1 ≤ cur.size := h4
    refine .inr ⟨g, o, cap, _, by rw [List.length_set], by rw [List.length_set]; exact h1, h2, heap_setCell_same w g (o + i) _ _ _ h3, by rw [Array.size_setIfInBounds]; exact h4, fun k hk => ?_⟩
    rw [List.length_set] at hk
    have hk2 : k < A.length := by have : k < A.length * 1 := hk; omega
    have c1 : (u64E.cs A)[k]? = some (.int .u64 A[k]) := by
      have := u64E_ok.cs_get A (i := k) (j := 0) hk2 (by decide)
      have e1 : k * u64E.k + 0 = k := Nat.mul_one k
      rw [e1] at this
      rw [this]; rfl
    have hk3 : k < (A.set i x).length := by rw [List.length_set]; exact hk2
    have c2 : (u64E.cs (A.set i x))[k]? = some (.int .u64 (A.set i x)[k]) := by
      have := u64E_ok.cs_get (A.set i x) (i := k) (j := 0) hk3 (by decide)
      have e1 : k * u64E.k + 0 = k := Nat.mul_one k
      rw [e1] at this
      rw [this]; rfl
    rw [c2, Array.getElem?_setIfInBounds]
    by_cases e : i = k
    · subst e
      rw [if_pos rfl, if_pos (by omega)]
      simp
    · rw [if_neg (by omega), h5 k hk, c1]
      simp [List.getElem_set_ne e]
/-- A channel, a list beside it, and a list that is written. -/
structure Tri (w0 w : World) (bc : Nat) (s : St) (y : Value) (Y : List Int) (v : Value) (A : List Int) : Prop where
  all : ∃ F, Side u64E w0 w F bc s y Y ∧ ∀ g, v.ownBlock = some g → w0.heap.size ≤ g ∧ ¬ F g ∧ y.ownBlock ≠ some g
  lies : Lies u64E w v A
end
variable {w0 w w' W : World} {bc g o cap : Nat} {s : St} {v y : Value} {A Y N : List Int}
theorem Tri.beside (h : Tri w0 w bc s y Y v A) : Beside u64E w0 w bc s y Y := by obtain ⟨⟨F, h, _⟩, _⟩ := h; exact ⟨F, h⟩
theorem Tri.same (h : Tri w0 w bc s y Y v A) (c : Cha (fun _ => False) w w') : Tri w0 w' bc s y Y v A := by
  obtain ⟨⟨F, ⟨⟨v1, v2, v3, q⟩, c0, n1, l, n2⟩, n3⟩, l2⟩ := h
  exact ⟨⟨F, ⟨⟨v1, v2, v3, q.same c⟩, c0.trans c, n1, l.same c, n2⟩, n3⟩, l2.same c⟩
theorem Tri.turn (h : Tri w0 w bc s y Y v A) (c : Cha (fun i => v.ownBlock = some i) w w') {u : Value} {B : List Int} (l : Lies u64E w' u B) (hn : ∀ g, u.ownBlock = some g → v.ownBlock = some g ∨ w.heap.size ≤ g) : Tri w0 w' bc s y Y u B := by
  obtain ⟨⟨F, ⟨⟨v1, v2, v3, q⟩, c0, n1, ly, n2⟩, n3⟩, l2⟩ := h
  refine ⟨⟨F, ⟨⟨v1, v2, v3, q.cha c fun i hi e => (n3 i e).2.1 hi⟩, c0.over c fun i e => .inr (n3 i e).1, n1, ly.cha c fun g hg e => (n3 g e).2.2 hg, n2⟩, fun g hg => ?_⟩, l⟩
  rcases hn g hg with e | e
  · exact n3 g e
  · exact ⟨Nat.le_trans c0.size e, fun e2 => by have := q.old g e2; omega, fun e2 => by have := ly.lt e2; omega⟩
theorem Beside.tri (h : Beside u64E w0 w bc s v A) (m : Made u64E w w' y Y) : Tri w0 w' bc s y Y v A := by
  obtain ⟨F, ⟨v1, v2, v3, q⟩, c, n1, l, n2⟩ := h
  exact ⟨⟨F, ⟨⟨v1, v2, v3, q.same m.cha⟩, c.trans m.cha, n1, m.lies, fun g e => ⟨Nat.le_trans c.size (m.own g e), fun e2 => by have := q.old g e2; have := m.own g e; omega⟩⟩, fun g e => ⟨(n2 g e).1, (n2 g e).2, fun e2 => by have := l.lt e; have := m.own g e2; omega⟩⟩, l.same m.cha⟩
theorem WordAt.keep {a : Option Addr} {L : List Int} (h : WordAt w a L) (c : Cha (fun _ => False) w W) : WordAt W a L := fun hp => by
  obtain ⟨g, o, e, hz⟩ := h hp
  exact ⟨g, o, e, fun W' c' => hz W' (c.trans c')⟩
set_option maxHeartbeats 1000000 in
theorem same_words_at {a b : Option Addr} {n m c d : Nat} {L M : List Int} (h1 : WordAt w a L) (h2 : WordAt w b M) (hn : n = L.length) (hm : m = M.length) (hx : n ≤ 9223372036854775807) :
    Calls Try.prog 24 #[.slice a n c, .slice b m d] w fun e w' => e = .returned (.bool (decide (L = M))) ∧ Cha (fun _ => False) w w' := by
  have Z1 := Lib.hid h1
  have Z2 := Lib.hid h2
  have HN := Lib.hid hn
  have HM := Lib.hid hm
  have H0 := Lib.hid (Cha.refl (fun _ => False) w)
  clear h1 h2
  by_cases hl : n = m
  · subst hl
    clear hn hm
    go_enter Try.func24, Try.ntmps24
    go_wp2
    go_loopw [5] (fun i wr => ∃ j : Nat, j ≤ n ∧ i = .int .i64 (j : Int) ∧ (∀ k, k < j → L.getD k 0 = M.getD k 0) ∧ Cha (fun _ => False) w wr) (fun i _ => n - (intOf i).toNat)
    case atStart => exact ⟨0, Nat.zero_le _, rfl, fun k hk => absurd hk (Nat.not_lt_zero _), H0.out⟩
    case round =>
      obtain ⟨j, hj, rfl, hlo, hC⟩ := hrel
      have HLO := Lib.hid hlo
      have HC := Lib.hid hC
      clear hlo hC
      by_cases hlt : j < n
      · obtain ⟨g, o, rfl, hz⟩ := Z1.out (by rw [← HN.out]; omega)
        obtain ⟨g2, o2, rfl, hz2⟩ := Z2.out (by rw [← HM.out]; omega)
        have z1 := hz wr HC.out j (by rw [← HN.out]; exact hlt)
        have z2 := hz2 wr HC.out j (by rw [← HM.out]; exact hlt)
        have k1 : (j : Int) < (n : Int) := by omega
        have k2 : (0 : Int) ≤ (j : Int) := by omega
        obtain ⟨x, hx2⟩ : ∃ x, x = L.getD j 0 := ⟨_, rfl⟩
        obtain ⟨y, hy⟩ : ∃ y, y = M.getD j 0 := ⟨_, rfl⟩
        have HX := Lib.hid hx2
        have HY := Lib.hid hy
        rw [← hx2] at z1
        rw [← hy] at z2
        clear hz hz2 hx2 hy
        by_cases hq : x = y
        · subst hq
          go_wp2
          go_region
          go_wp2
          go_roundw
          case rel => exact ⟨j + 1, by omega, by go_num, fun k hk => by
            by_cases e : k = j
            · rw [e, ← HX.out, ← HY.out]
            · exact HLO.out k (by omega), HC.out.drew⟩
          case measure => simp [intOf]; omega
        · have hq2 : (x == y) = false := by simpa using hq
          have HD : Hid (decide (L = M) = false) := Lib.hid (decide_eq_false fun e => hq (by rw [HX.out, HY.out, e]))
          clear hq
          go_wp2
          go_region
          go_wp2
          go_ret
          exact ⟨by rw [HD.out]; rfl, HC.out.drew⟩
      · obtain rfl : j = n := by omega
        have HD : Hid (decide (L = M) = true) := Lib.hid (decide_eq_true (lists_eq (HN.out.symm.trans HM.out) fun k hk => HLO.out k (by rw [HN.out]; exact hk)))
        go_wp2
        go_ret
        exact ⟨by rw [HD.out]; rfl, HC.out⟩
  · have e : decide (L = M) = false := decide_eq_false fun e => hl (by rw [hn, hm, e])
    rw [e]
    have hl2 : ¬ ((n : Int) = (m : Int)) := by omega
    clear hn hm e
    go_enter Try.func24, Try.ntmps24
    go_wp2
    go_ret
    exact ⟨rfl, H0.out⟩
theorem Lies.place {w : World} {a : Option Addr} {n cp i : Nat} {A : List Int} (h : Lies u64E w (.slice a n cp) A) (hi : i < n) : ∃ g o, a = some ⟨g, o, none⟩ ∧ w.cell? ⟨g, o + i, none⟩ = some (.int .u64 (A.getD i 0)) ∧ w.frozen? ⟨g, o + i, none⟩ = false ∧ g < w.heap.size := by
  have hn : n = A.length := by obtain ⟨a', cap', e, _⟩ := h.form; cases e; rfl
  obtain ⟨g, o, e, hz⟩ := word_at h (by omega)
  have h1 := hz w (Cha.refl _ _) i (by omega)
  refine ⟨g, o, e, h1, ?_, ?_⟩
  · rcases h with ⟨_, e2⟩ | ⟨g', o', cap', cur, e2, _, _, h3, _⟩
    · cases e2; cases e
    · cases e2; cases e; exact frozen_of_row w _ _ _ _ h3
  · exact block_lt_of_cell h1
set_option maxRecDepth 100000 in
set_option maxHeartbeats 8000000 in
theorem none_walk (a : Option Addr) (n c : Nat) (w : World) (hnc : n ≤ c) (hc63 : c ≤ 9223372036854775807)
    (hs : 0 < n → ∃ (b o : Nat) (z : Nat → Int), a = some ⟨b, o, none⟩ ∧ ∀ i, i < n → w.cell? ⟨b, o + i, none⟩ = some (.int .u64 (z i))) :
    Calls Try.prog 5 #[.slice a n c] w fun e w' => e = .returned (.bool true) ∧ Cha (fun _ => False) w w' := by
  obtain ⟨k, hk⟩ : ∃ k, k = min n 9 := ⟨_, rfl⟩
  have hkn : k ≤ n := by omega
  have hk9 : k ≤ 9 := by omega
  obtain ⟨z, hz⟩ : ∃ z : Nat → Int, 0 < n → ∃ b o, a = some ⟨b, o, none⟩ ∧ ∀ i, i < n → w.cell? ⟨b, o + i, none⟩ = some (.int .u64 (z i)) := by
    by_cases h : 0 < n
    · obtain ⟨b, o, z, h1, h2⟩ := hs h
      exact ⟨z, fun _ => ⟨b, o, h1, h2⟩⟩
    · exact ⟨fun _ => 0, fun h2 => absurd h2 h⟩
  have WA : Hid (WordAt w a (zs z k)) := Lib.hid fun hp => by
    rw [zs_len] at hp
    obtain ⟨b, o, e, h2⟩ := hz (by omega)
    refine ⟨b, o, e, fun W cc j hj => ?_⟩
    rw [zs_len] at hj
    have h3 := h2 j (by omega)
    have e2 : (zs z k).getD j 0 = z j := by simp [zs, List.getD, hj]
    rw [e2]
    exact (World.cell?_of_block (cc.old b (block_lt_of_cell h3) (fun f => f))).trans h3
  have HS := Lib.hid hz
  have C0 : Hid (∀ W, Cha (fun _ => False) w W → Calls Try.prog 9 #[.int .i64 4] W fun e w' => e = .returned (.tuple #[.pointer (some ⟨W.heap.size, 0, none⟩), .int .i64 0]) ∧ Live w w' W.heap.size (St.new 4)) := Lib.hid fun W => live_new (w0 := w) (w := W) 4 (by decide)
  have AW := Lib.hid awake_any
  have N1 := Lib.hid close_none
  have N2 := Lib.hid counts_none
  have N3 := Lib.hid queue_none
  have N4 := Lib.hid leave_none
  have N5 : Hid (∀ id v b W, Calls Try.prog 13 #[.pointer none, .int .i64 id, .int .u64 v, .bool b] W fun e w' => e = .returned (.agg #[.int .i64 0, .int .i64 0, .int .u64 0]) ∧ Cha (fun _ => False) W w') := Lib.hid send_none
  have N6 : Hid (∀ id b W, Calls Try.prog 15 #[.pointer none, .int .i64 id, .bool b] W fun e w' => e = .returned (.agg #[.int .i64 0, .int .i64 0, .int .u64 0]) ∧ Cha (fun _ => False) W w') := Lib.hid recv_none
  have N7 := Lib.hid ready_none
  have N8 := Lib.hid closed_none
  have N9 := Lib.hid values_none
  have K1 : Hid (∀ W bc s, Live w W bc s → Fill 4 s (zs z k) → Calls Try.prog 25 #[.pointer (some ⟨bc, 0, none⟩)] W fun e w' => ∃ a c, e = .returned (.slice a k c) ∧ Made u64E W w' (.slice a k c) (zs z k) ∧ Live w w' bc s) := Lib.hid fun W bc s h f => by
    refine (live_values h (by rw [f.size, zs_len]; omega)).mono fun e w' ⟨v, a, b, d⟩ => ?_
    rw [f.vs] at b
    obtain ⟨a', c', e', _, _⟩ := b.lies.form
    rw [zs_len] at e'
    exact ⟨a', c', by rw [a, e'], e' ▸ b, d⟩
  have SW : Hid (∀ W b c d e, WordAt W b (zs z k) → WordAt W d (zs z k) → Calls Try.prog 24 #[.slice b k c, .slice d k e] W fun e w' => e = .returned (.bool true) ∧ Cha (fun _ => False) W w') := Lib.hid fun W b c d e h1 h2 => by
    have := same_words_at (c := c) (d := e) h1 h2 (zs_len z k).symm (zs_len z k).symm (by omega)
    rwa [decide_eq_true rfl] at this
  have mn1 : (if 9 < n then (9 : Int) else (n : Int)) = (k : Int) := by split <;> omega
  have mn2 : (if (9 : Int) < (n : Int) then (9 : Int) else (n : Int)) = (k : Int) := by split <;> omega
  have hk2 : (k : Int) ≤ (c : Int) := by omega
  clear hs hk hz
  go_enter Try.func5, Try.ntmps5
  go_wp2_with (first
    | (go_at_call 18; ((with_reducible refine (N1.out _).mono ?_); rintro e w1 ⟨rfl, rfl⟩))
    | (go_at_call 23; ((with_reducible refine (N2.out _).mono ?_); rintro e w1 ⟨rfl, rfl⟩))
    | (go_at_call 16; ((with_reducible refine (N3.out _ _ _ _).mono ?_); rintro e w1 ⟨rfl, rfl⟩))
    | (go_at_call 21; ((with_reducible refine (N4.out _ _).mono ?_); rintro e w2 ⟨rfl, h⟩; have H2 := Lib.hid h; clear h))
    | (go_at_call 11; ((with_reducible refine (AW.out _).mono ?_); rintro e w3 ⟨rfl, h⟩; have H3 := Lib.hid (H2.out.trans h); clear h))
    | (go_at_call 13; ((with_reducible refine (N5.out _ _ _ _).mono ?_); rintro e w4 ⟨rfl, h⟩; have H4 := Lib.hid (H3.out.trans h); clear h))
    | (go_at_call 15; ((with_reducible refine (N6.out _ _ _).mono ?_); rintro e w5 ⟨rfl, h⟩; have H5 := Lib.hid (H4.out.trans h); clear h))
    | (go_at_call 28; ((with_reducible refine (N7.out _ _).mono ?_); rintro e w6 ⟨rfl, rfl⟩))
    | (go_at_call 27; ((with_reducible refine (N8.out _).mono ?_); rintro e w7 ⟨rfl, rfl⟩))
    | (go_at_call 25; ((with_reducible refine (N9.out _).mono ?_); rintro e w8 ⟨rfl, rfl⟩))
    | (go_at_call 9; ((with_reducible refine (C0.out _ H5.out).mono ?_); rintro e w9 ⟨rfl, h⟩; have H9 := Lib.hid h; clear h)))
  clear N1 N2 N3 N4 N5 N6 N7 N8 N9 H2 H3 H4 AW C0
  have H10 : Hid (∃ s, Live w w9 w5.heap.size s ∧ Fill 4 s (zs z 0)) := Lib.hid ⟨_, H9.out, fill_new 4⟩
  clear H9
  generalize w5.heap.size = bc at *
  clear H5 mn1
  go_loopw [11, 12, 87] (fun _ _ i wr => ∃ j : Nat, j ≤ k ∧ i = .int .i64 (j : Int) ∧ ∃ s, Live w wr bc s ∧ Fill 4 s (zs z j)) (fun _ _ i _ => k - (intOf i).toNat)
  case atStart => exact ⟨0, Nat.zero_le _, rfl, H10.out⟩
  case round =>
    clear H10
    obtain ⟨j, hj, rfl, s, hL, hF⟩ := hrel
    by_cases hlt : j < k
    · obtain ⟨b, o, rfl, hz⟩ := HS.out (by omega)
      have hz1 := hz j (by omega)
      have hz4 : wr.cell? ⟨b, o + j, none⟩ = some (.int .u64 (z j)) := (World.cell?_of_block (hL.cha.old b (block_lt_of_cell hz1) (fun f => f))).trans hz1
      have D : Hid (Calls Try.prog 13 #[.pointer (some ⟨bc, 0, none⟩), .int .i64 (j : Int), .int .u64 (z j), .bool true] wr fun e w' => ∃ t r x, e = .returned (.agg #[.int .i64 t, .int .i64 r, .int .u64 x]) ∧ ∃ s, Live w w' bc s ∧ Fill 4 s (zs z (j + 1))) := Lib.hid ((live_send hL j (z j) true (by rw [hF.size, zs_len]; omega)).mono fun e w' ⟨a, b⟩ => ⟨_, _, _, a, _, b, by rw [zs_succ]; exact hF.send _ _⟩)
      clear hz hz1 hL hF
      generalize z j = y at *
      go_wp2_with (go_at_call 13; ((with_reducible refine (D.out).mono ?_); rintro e w3 ⟨t, r, x, rfl, h⟩; have H4 := Lib.hid h; clear h))
      go_roundw
      case rel => exact ⟨j + 1, by omega, by go_num, H4.out⟩
      case measure => simp [intOf]; omega
    · obtain rfl : j = k := by omega
      have V1 := Lib.hid (K1.out _ _ _ hL hF)
      have HF := Lib.hid hF
      have HL := Lib.hid hL
      clear hL hF
      go_wp2_with (first
        | (go_at_call 25; ((with_reducible refine (V1.out).mono ?_); rintro e wA ⟨ax, cx, rfl, hM, _⟩; have HB := Lib.hid (HL.out.made hM); have V2 := Lib.hid (K1.out _ _ _ HB.out.live HF.out); clear hM))
        | (go_at_call 25; ((with_reducible refine (V2.out).mono ?_); rintro e wB ⟨ay, cy, rfl, hM, _⟩; have HT := Lib.hid (HB.out.tri hM); clear hM)))
      clear V1 V2 HB HL
      go_loopw [15, 103] (fun _ i wr => ∃ (i' : Nat) (A : List Int), i' ≤ j ∧ i = .int .i64 (i' : Int) ∧ A.length = j ∧ Tri w wr bc s (.slice ay j cy) (zs z j) (.slice ax j cx) A) (fun _ i _ => j - (intOf i).toNat)
      case atStart => exact ⟨0, _, Nat.zero_le _, rfl, zs_len z j, HT.out⟩
      case round =>
        clear HT
        obtain ⟨i, A, hi, rfl, hA, hT⟩ := hrel
        by_cases hlt : i < j
        · obtain ⟨g, o, rfl, z0, z1, hgl⟩ := hT.lies.place hlt
          have HT := Lib.hid hT
          have HA := Lib.hid hA
          generalize A.getD i 0 = y at *
          clear hT hA
          go_wp2
          go_roundw
          case rel => exact ⟨i + 1, A.set i 1099511627776, by omega, by go_num, by rw [List.length_set]; exact HA.out, HT.out.turn ((Cha.refl (fun i => (Value.slice (some ⟨g, o, none⟩) j cx).ownBlock = some i) _).setCell (p := ⟨g, o + i, none⟩) (fun _ => rfl) _) (HT.out.lies.set hlt _) (fun g' e => .inl e)⟩
          case measure => simp [intOf]; omega
        · obtain rfl : i = j := by omega
          have HT := Lib.hid hT
          have HA := Lib.hid hA
          have BB : Hid (A.length + [(3 : Int)].length ≤ 100) := Lib.hid (by rw [hA]; simp only [List.length_singleton]; omega)
          have HF2 := HF.out
          have ks : IntKind.i64.wrap ((i : Int) + 1 - 1) = (i : Int) := by rw [IntWalk.i64_in _ (by omega)]; omega
          have kt : (i : Int) < (i : Int) + 1 := by omega
          clear hT hA
          go_wp2_with (first
            | (at_builtin; refine wpList_app u64E_ok rfl (.tmp 110) (.tmp 111) rfl rfl (HT.out.lies.same ((Cha.refl _ wr).alloc _)) ⟨wr.heap.size, 0, none⟩ 1 1 [3] rfl rfl (just_new u64E wr 3 31) Nat.zero_lt_one (Nat.le_trans BB.out (by decide)) (Nat.le_trans (Nat.mul_le_mul_right 8 BB.out) (by decide)) ?_; intro g3 o3 cap3 w4 hA3; have T4 := Lib.hid ((HT.out.same ((Cha.refl _ wr).alloc _)).turn hA3.cha hA3.lies (fun g e => by cases e; exact hA3.at')); rw [HA.out] at T4 ⊢; dsimp only [List.length_singleton] at T4 ⊢; clear hA3; have C4 := Lib.hid (SW.out w4 ay cy a c (word_at T4.out.beside.lies) (WA.out.keep T4.out.beside.cha)))
            | (go_at_call 24; ((with_reducible refine (C4.out).mono ?_); rintro e w5 ⟨rfl, h⟩; have T5 := Lib.hid (T4.out.same h); have V3 := Lib.hid (K1.out _ _ _ T5.out.beside.live HF.out); clear h))
            | (go_at_call 25; ((with_reducible refine (V3.out).mono ?_); rintro e w6 ⟨av, cv, rfl, hM, _⟩; have T6 := Lib.hid (T5.out.same hM.cha); have C6 := Lib.hid (SW.out w6 av cv ay cy (word_at hM.lies) (word_at T6.out.beside.lies)); clear hM))
            | (go_at_call 24; ((with_reducible refine (C6.out).mono ?_); rintro e w7 ⟨rfl, h⟩; have T7 := Lib.hid (T6.out.same h); obtain ⟨g', o', e', z0, _, _⟩ := T7.out.lies.place (i := i) (Nat.lt_succ_self i); cases e'; have e3 : (A ++ [(3 : Int)]).getD i 0 = 3 := (by rw [← HA.out]; simp [List.getD]); rw [e3] at z0; clear e3 h)))
          go_ret
          exact ⟨rfl, T7.out.beside.cha⟩
end Go.Proofs.Ytnhjkmkocpjkmaa
