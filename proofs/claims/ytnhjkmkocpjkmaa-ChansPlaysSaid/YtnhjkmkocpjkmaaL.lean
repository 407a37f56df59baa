/- Channels that a law made; awake; two lists alike. -/
import Derived.Test.YtnhjkmkocpjkmaaK
namespace Go.Proofs.Ytnhjkmkocpjkmaa
open Go.ChangeShapes Go.WideShapes Go.ChangeAt Go.RowKit
variable {w0 w w' W : World} {bc : Nat} {s : St}

/-- A channel that was made since w0. -/
def Live (w0 w : World) (bc : Nat) (s : St) : Prop := ∃ F v1 v2 v3, Ch w F bc v1 v2 v3 s ∧ Cha (fun _ => False) w0 w ∧ ∀ i, F i → w0.heap.size ≤ i
theorem Live.same (h : Live w0 w bc s) (c : Cha (fun _ => False) w w') : Live w0 w' bc s := by
  obtain ⟨F, v1, v2, v3, q, k, n⟩ := h
  exact ⟨F, v1, v2, v3, q.same c, k.trans c, n⟩
theorem Live.cha (h : Live w0 w bc s) : Cha (fun _ => False) w0 w := by obtain ⟨F, v1, v2, v3, q, k, n⟩ := h; exact k
theorem live_is {s' : St} (h : Live w0 w bc s) (e : s = s') : Live w0 w bc s' := e ▸ h
theorem Live.left {F : Nat → Prop} {s' : St} (c : Cha (fun _ => False) w0 w) (n : ∀ i, F i → w0.heap.size ≤ i) (k : Left w w' F bc s') : Live w0 w' bc s' := by
  obtain ⟨F', v1, v2, v3, q, c', n1⟩ := k
  refine ⟨F', v1, v2, v3, q, c.over c' (fun i hi => .inr (n i hi)), fun i hi => ?_⟩
  rcases n1 i hi with e | e
  · exact n i e
  · exact Nat.le_trans c.size e
theorem live_made (n : Nat) (hn : n ≤ 16) (c : Cha (fun _ => False) w0 w) : Live w0 (w.alloc (.cells #[.int .i64 (n : Int), .bool false, .slice none 0 0, .slice none 0 0, .slice none 0 0] 65)) w.heap.size (St.new n) :=
  ⟨_, _, _, _, ch_new n w hn, c.trans ((Cha.refl _ w).alloc _), fun i (e : i = _) => e ▸ c.size⟩
theorem live_new (n : Nat) (hn : n ≤ 16) (c : Cha (fun _ => False) w0 w) : Calls Try.prog 9 #[.int .i64 (n : Int)] w fun e w' => e = .returned (.tuple #[.pointer (some ⟨w.heap.size, 0, none⟩), .int .i64 0]) ∧ Live w0 w' w.heap.size (St.new n) :=
  (new_ok n w hn).mono fun _ _ ⟨a, b⟩ => ⟨a, b ▸ live_made n hn c⟩
theorem live_send (h : Live w0 w bc s) (id v : Int) (b : Bool) (hA : s.size < 8796093022208) :
    Calls Try.prog 13 #[.pointer (some ⟨bc, 0, none⟩), .int .i64 id, .int .u64 v, .bool b] w fun e w' => e = .returned (s.send id v b).1.v ∧ Live w0 w' bc (s.send id v b).2 := by
  obtain ⟨F, v1, v2, v3, q, c, n⟩ := h
  exact (send_any q id v b hA).mono fun e w' ⟨a, k⟩ => ⟨a, Live.left c n k⟩
theorem live_recv (h : Live w0 w bc s) (id : Int) (b : Bool) (hA : s.size < 8796093022208) :
    Calls Try.prog 15 #[.pointer (some ⟨bc, 0, none⟩), .int .i64 id, .bool b] w fun e w' => e = .returned (s.recv id b).1.v ∧ Live w0 w' bc (s.recv id b).2 := by
  obtain ⟨F, v1, v2, v3, q, c, n⟩ := h
  exact (recv_any q id b hA).mono fun e w' ⟨a, k⟩ => ⟨a, Live.left c n k⟩
theorem live_queue (h : Live w0 w bc s) (id v : Int) (b : Bool) (hA : s.size < 8796093022208) :
    Calls Try.prog 16 #[.pointer (some ⟨bc, 0, none⟩), .int .i64 id, .int .u64 v, .bool b] w fun e w' => e = .returned (.tuple #[]) ∧ Live w0 w' bc (s.queue id v b) := by
  obtain ⟨F, v1, v2, v3, q, c, n⟩ := h
  exact (queue_any q id v b hA).mono fun e w' ⟨a, k⟩ => ⟨a, Live.left c n k⟩
theorem live_leave (h : Live w0 w bc s) (id : Int) :
    Calls Try.prog 21 #[.pointer (some ⟨bc, 0, none⟩), .int .i64 id] w fun e w' => e = .returned (.tuple #[]) ∧ Live w0 w' bc (s.leave id) := by
  obtain ⟨F, v1, v2, v3, q, c, n⟩ := h
  exact (leave_any q id).mono fun e w' ⟨a, k⟩ => ⟨a, Live.left c n k⟩
theorem live_counts (h : Live w0 w bc s) : Calls Try.prog 23 #[.pointer (some ⟨bc, 0, none⟩)] w fun e w' => e = .returned (.tuple #[.int .i64 (s.vals.length : Nat), .int .i64 (s.snds.length : Nat), .int .i64 (s.rcvs.length : Nat)]) ∧ Live w0 w' bc s := by
  have h0 := h
  obtain ⟨F, v1, v2, v3, q, c, n⟩ := h0
  exact (counts_any q).mono fun e w' ⟨a, k⟩ => ⟨a, h.same k⟩
theorem live_ready (h : Live w0 w bc s) (b : Bool) : Calls Try.prog 28 #[.pointer (some ⟨bc, 0, none⟩), .bool b] w fun e w' => e = .returned (.bool (s.ready b)) ∧ Live w0 w' bc s := by
  have h0 := h
  obtain ⟨F, v1, v2, v3, q, c, n⟩ := h0
  exact (ready_any q b).mono fun e w' ⟨a, k⟩ => ⟨a, h.same k⟩
theorem live_closed (h : Live w0 w bc s) : Calls Try.prog 27 #[.pointer (some ⟨bc, 0, none⟩)] w fun e w' => e = .returned (.bool s.shut) ∧ w = w' := by
  obtain ⟨F, v1, v2, v3, q, c, n⟩ := h
  exact closed_any q
/-- Lists that were made since, beside. -/
theorem live_values (h : Live w0 w bc s) (hA : s.size < 8796093022208) : Calls Try.prog 25 #[.pointer (some ⟨bc, 0, none⟩)] w fun e w' => ∃ v, e = .returned v ∧ Made u64E w w' v s.values ∧ Live w0 w' bc s := by
  have h0 := h
  obtain ⟨F, v1, v2, v3, q, c, n⟩ := h0
  exact (values_any q hA).mono fun e w' ⟨v, a, k⟩ => ⟨v, a, k, h.same k.cha⟩
theorem live_close (h : Live w0 w bc s) (hA : s.size < 8796093022208) : Calls Try.prog 18 #[.pointer (some ⟨bc, 0, none⟩)] w fun e w' => ∃ v, e = .returned (.tuple #[v, .bool s.close.1.2]) ∧ Lies intE w' v s.close.1.1 ∧ Live w0 w' bc s.close.2 := by
  have h0 := h
  obtain ⟨F, v1, v2, v3, q, c, n⟩ := h0
  by_cases hs : s.shut = true
  · have e : s.close = (([], false), s) := if_pos hs
    rw [e]
    exact (close_shut q hs).mono fun e w' ⟨a, b⟩ => ⟨_, a, Lies.nil _ _, b ▸ h⟩
  · have hs2 : s.shut = false := by simpa using hs
    have e : s.close.1.2 = true := by unfold St.close; rw [if_neg hs]
    rw [e]
    exact (close_open q hs2 hA).mono fun e w' ⟨v, a, k1, k2, k3, k4⟩ => ⟨v, a, k3, F, _, _, _, k1, c.over k2 (fun i hi => .inr (n i hi)), n⟩

theorem lists_eq {L M : List Int} (h : L.length = M.length) (k : ∀ j, j < L.length → L.getD j 0 = M.getD j 0) : L = M := by
  apply List.ext_getElem h
  intro j h1 h2
  have := k j h1
  simpa [List.getD, List.getElem?_eq_getElem h1, List.getElem?_eq_getElem h2] using this
set_option maxHeartbeats 1000000 in
theorem same_ints {a b : Option Addr} {n m c d : Nat} {L M : List Int} (h1 : Lies intE w (.slice a n c) L) (h2 : Lies intE w (.slice b m d) M) :
    Calls Try.prog 20 #[.slice a n c, .slice b m d] w fun e w' => e = .returned (.bool (decide (L = M))) ∧ Cha (fun _ => False) w w' := by
  have hn : n = L.length := by obtain ⟨a', cap', e, _⟩ := h1.form; cases e; rfl
  have hm : m = M.length := by obtain ⟨a', cap', e, _⟩ := h2.form; cases e; rfl
  have hx : n ≤ maxLen := by obtain ⟨a', cap', e, k1, k2⟩ := h1.form; cases e; exact Nat.le_trans k1 k2
  unfold maxLen at hx
  have Z1 := Lib.hid (int_at h1)
  have Z2 := Lib.hid (int_at h2)
  have HN := Lib.hid hn
  have HM := Lib.hid hm
  have H0 := Lib.hid (Cha.refl (fun _ => False) w)
  clear h1 h2
  by_cases hl : n = m
  · subst hl
    clear hn hm
    go_enter Try.func20, Try.ntmps20
    go_wp2
    go_loopw [5] (fun i wr => ∃ j : Nat, j ≤ n ∧ i = .int .i64 (j : Int) ∧ (∀ k, k < j → L.getD k 0 = M.getD k 0) ∧ Cha (fun _ => False) w wr) (fun i _ => n - (intOf i).toNat)
    case atStart => exact ⟨0, Nat.zero_le _, rfl, fun k hk => absurd hk (Nat.not_lt_zero _), H0.out⟩
    case round =>
      obtain ⟨j, hj, rfl, hlo, hC⟩ := hrel
      have HLO := Lib.hid hlo
      have HC := Lib.hid hC
      clear hlo hC
      by_cases hlt : j < n
      · obtain ⟨g, o, rfl, hz⟩ := Z1.out (by rw [← HN.out]; omega)
        obtain ⟨g2, o2, rfl, hz2⟩ := Z2.out (by rw [← HM.out]; omega)
        have z1 := hz wr HC.out j (by rw [← HN.out]; exact hlt)
        have z2 := hz2 wr HC.out j (by rw [← HM.out]; exact hlt)
        have k1 : (j : Int) < (n : Int) := by omega
        have k2 : (0 : Int) ≤ (j : Int) := by omega
        obtain ⟨x, hx2⟩ : ∃ x, x = L.getD j 0 := ⟨_, rfl⟩
        obtain ⟨y, hy⟩ : ∃ y, y = M.getD j 0 := ⟨_, rfl⟩
        have HX := Lib.hid hx2
        have HY := Lib.hid hy
        rw [← hx2] at z1
        rw [← hy] at z2
        clear hz hz2 hx2 hy
        by_cases hq : x = y
        · subst hq
          go_wp2
          go_region
          go_wp2
          go_roundw
          case rel => exact ⟨j + 1, by omega, by go_num, fun k hk => by
            by_cases e : k = j
            · rw [e, ← HX.out, ← HY.out]
            · exact HLO.out k (by omega), HC.out.drew⟩
          case measure => simp [intOf]; omega
        · have hq2 : (x == y) = false := by simpa using hq
          have HD : Hid (decide (L = M) = false) := Lib.hid (decide_eq_false fun e => hq (by rw [HX.out, HY.out, e]))
          clear hq
          go_wp2
          go_region
          go_wp2
          go_ret
          exact ⟨by rw [HD.out]; rfl, HC.out.drew⟩
      · obtain rfl : j = n := by omega
        have HD : Hid (decide (L = M) = true) := Lib.hid (decide_eq_true (lists_eq (HN.out.symm.trans HM.out) fun k hk => HLO.out k (by rw [HN.out]; exact hk)))
        go_wp2
        go_ret
        exact ⟨by rw [HD.out]; rfl, HC.out⟩
  · have e : decide (L = M) = false := decide_eq_false fun e => hl (by rw [hn, hm, e])
    rw [e]
    have hl2 : ¬ ((n : Int) = (m : Int)) := by omega
    clear hn hm e
    go_enter Try.func20, Try.ntmps20
    go_wp2
    go_ret
    exact ⟨rfl, H0.out⟩
/-- Words, one by one. -/
def WordAt (w : World) (a : Option Addr) (L : List Int) : Prop := 0 < L.length → ∃ g o, a = some ⟨g, o, none⟩ ∧ ∀ W, Cha (fun _ => False) w W → ∀ j, j < L.length → W.cell? ⟨g, o + j, none⟩ = some (.int .u64 (L.getD j 0))
theorem word_at {a : Option Addr} {L : List Int} {n cap : Nat} (h : Lies u64E w (.slice a n cap) L) : WordAt w a L := fun hp => by
  obtain ⟨g, o, cap', e, _, _, hc⟩ := h.cells u64E_ok hp
  cases e
  refine ⟨g, o, rfl, fun W c j hj => ?_⟩
  have x := (hc W c.wide).1 j 0 hj (by decide)
  have e : L.getD j 0 = L[j] := by simp [List.getD, List.getElem?_eq_getElem hj]
  rw [e]
  have e1 : o + j * u64E.k + 0 = o + j := by show o + j * 1 + 0 = _; omega
  rw [e1] at x
  simpa [u64E] using x
set_option maxHeartbeats 1000000 in
theorem same_words {a b : Option Addr} {n m c d : Nat} {L M : List Int} (h1 : Lies u64E w (.slice a n c) L) (h2 : Lies u64E w (.slice b m d) M) :
    Calls Try.prog 24 #[.slice a n c, .slice b m d] w fun e w' => e = .returned (.bool (decide (L = M))) ∧ Cha (fun _ => False) w w' := by
  have hn : n = L.length := by obtain ⟨a', cap', e, _⟩ := h1.form; cases e; rfl
  have hm : m = M.length := by obtain ⟨a', cap', e, _⟩ := h2.form; cases e; rfl
  have hx : n ≤ maxLen := by obtain ⟨a', cap', e, k1, k2⟩ := h1.form; cases e; exact Nat.le_trans k1 k2
  unfold maxLen at hx
  have Z1 := Lib.hid (word_at h1)
  have Z2 := Lib.hid (word_at h2)
  have HN := Lib.hid hn
  have HM := Lib.hid hm
  have H0 := Lib.hid (Cha.refl (fun _ => False) w)
  clear h1 h2
  by_cases hl : n = m
  · subst hl
    clear hn hm
    go_enter Try.func24, Try.ntmps24
    go_wp2
    go_loopw [5] (fun i wr => ∃ j : Nat, j ≤ n ∧ i = .int .i64 (j : Int) ∧ (∀ k, k < j → L.getD k 0 = M.getD k 0) ∧ Cha (fun _ => False) w wr) (fun i _ => n - (intOf i).toNat)
    case atStart => exact ⟨0, Nat.zero_le _, rfl, fun k hk => absurd hk (Nat.not_lt_zero _), H0.out⟩
    case round =>
      obtain ⟨j, hj, rfl, hlo, hC⟩ := hrel
      have HLO := Lib.hid hlo
      have HC := Lib.hid hC
      clear hlo hC
      by_cases hlt : j < n
      · obtain ⟨g, o, rfl, hz⟩ := Z1.out (by rw [← HN.out]; omega)
        obtain ⟨g2, o2, rfl, hz2⟩ := Z2.out (by rw [← HM.out]; omega)
        have z1 := hz wr HC.out j (by rw [← HN.out]; exact hlt)
        have z2 := hz2 wr HC.out j (by rw [← HM.out]; exact hlt)
        have k1 : (j : Int) < (n : Int) := by omega
        have k2 : (0 : Int) ≤ (j : Int) := by omega
        obtain ⟨x, hx2⟩ : ∃ x, x = L.getD j 0 := ⟨_, rfl⟩
        obtain ⟨y, hy⟩ : ∃ y, y = M.getD j 0 := ⟨_, rfl⟩
        have HX := Lib.hid hx2
        have HY := Lib.hid hy
        rw [← hx2] at z1
        rw [← hy] at z2
        clear hz hz2 hx2 hy
        by_cases hq : x = y
        · subst hq
          go_wp2
          go_region
          go_wp2
          go_roundw
          case rel => exact ⟨j + 1, by omega, by go_num, fun k hk => by
            by_cases e : k = j
            · rw [e, ← HX.out, ← HY.out]
            · exact HLO.out k (by omega), HC.out.drew⟩
          case measure => simp [intOf]; omega
        · have hq2 : (x == y) = false := by simpa using hq
          have HD : Hid (decide (L = M) = false) := Lib.hid (decide_eq_false fun e => hq (by rw [HX.out, HY.out, e]))
          clear hq
          go_wp2
          go_region
          go_wp2
          go_ret
          exact ⟨by rw [HD.out]; rfl, HC.out.drew⟩
      · obtain rfl : j = n := by omega
        have HD : Hid (decide (L = M) = true) := Lib.hid (decide_eq_true (lists_eq (HN.out.symm.trans HM.out) fun k hk => HLO.out k (by rw [HN.out]; exact hk)))
        go_wp2
        go_ret
        exact ⟨by rw [HD.out]; rfl, HC.out⟩
  · have e : decide (L = M) = false := decide_eq_false fun e => hl (by rw [hn, hm, e])
    rw [e]
    have hl2 : ¬ ((n : Int) = (m : Int)) := by omega
    clear hn hm e
    go_enter Try.func24, Try.ntmps24
    go_wp2
    go_ret
    exact ⟨rfl, H0.out⟩
set_option maxRecDepth 100000 in
set_option maxHeartbeats 1000000 in
theorem awake_any (w : World) : Calls Try.prog 11 #[] w fun e w' => e = .returned (.bool true) ∧ Cha (fun _ => False) w w' := by
  have C0 : Calls Try.prog 9 #[.int .i64 1] w _ := live_new 1 (by decide) (Cha.refl _ w)
  have C0 := Lib.hid C0
  have S1 : Hid (∀ bc W, Live w W bc (St.new 1) → Calls Try.prog 13 #[.pointer (some ⟨bc, 0, none⟩), .int .i64 1, .int .u64 5, .bool true] W fun e w' => e = .returned (.agg #[.int .i64 1, .int .i64 0, .int .u64 0]) ∧ Live w w' bc ⟨1, false, [5], [], []⟩) := Lib.hid fun bc W h => live_send h 1 5 true (by decide)
  have S2 : Hid (∀ bc W, Live w W bc ⟨1, false, [5], [], []⟩ → Calls Try.prog 13 #[.pointer (some ⟨bc, 0, none⟩), .int .i64 2, .int .u64 6, .bool true] W fun e w' => e = .returned (.agg #[.int .i64 3, .int .i64 0, .int .u64 0]) ∧ Live w w' bc ⟨1, false, [5], [⟨2, 6⟩], []⟩) := Lib.hid fun bc W h => live_send h 2 6 true (by decide)
  have R1 : Hid (∀ bc W, Live w W bc ⟨1, false, [5], [⟨2, 6⟩], []⟩ → Calls Try.prog 15 #[.pointer (some ⟨bc, 0, none⟩), .int .i64 3, .bool true] W fun e w' => e = .returned (.agg #[.int .i64 2, .int .i64 2, .int .u64 5]) ∧ Live w w' bc ⟨1, false, [6], [], []⟩) := Lib.hid fun bc W h => live_recv h 3 true (by decide)
  have R2 : Hid (∀ bc W, Live w W bc ⟨1, false, [6], [], []⟩ → Calls Try.prog 15 #[.pointer (some ⟨bc, 0, none⟩), .int .i64 3, .bool true] W fun e w' => e = .returned (.agg #[.int .i64 1, .int .i64 0, .int .u64 6]) ∧ Live w w' bc ⟨1, false, [], [], []⟩) := Lib.hid fun bc W h => live_recv h 3 true (by decide)
  go_enter Try.func11, Try.ntmps11
  go_wp2_with (first
    | (go_at_call 9; ((with_reducible refine (C0.out).mono ?_); rintro e w1 ⟨rfl, h⟩; have H1 := Lib.hid h; clear h))
    | (go_at_call 13; ((with_reducible refine (S1.out _ _ H1.out).mono ?_); rintro e w2 ⟨rfl, h⟩; have H2 := Lib.hid h; clear h))
    | (go_at_call 13; ((with_reducible refine (S2.out _ _ H2.out).mono ?_); rintro e w3 ⟨rfl, h⟩; have H3 := Lib.hid h; clear h))
    | (go_at_call 15; ((with_reducible refine (R1.out _ _ H3.out).mono ?_); rintro e w4 ⟨rfl, h⟩; have H4 := Lib.hid h; clear h))
    | (go_at_call 15; ((with_reducible refine (R2.out _ _ H4.out).mono ?_); rintro e w5 ⟨rfl, h⟩; have H5 := Lib.hid h.cha; clear h)))
  go_ret
  exact ⟨rfl, H5.out⟩
end Go.Proofs.Ytnhjkmkocpjkmaa
