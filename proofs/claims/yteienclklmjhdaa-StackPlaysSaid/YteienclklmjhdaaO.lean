/- Contracts of stack: New, Push, Pop. -/
import Derived.Test.YteienclklmjhdaaN
namespace Go.Proofs.Yteienclklmjhdaa
open Go.ChangeShapes Go.WideShapes Go.ChangeAt Go.RowKit
variable {W W' : World} {F : Nat → Prop} {bs bw bm : Nat} {s : St}

theorem new_any (W : World) : Calls Try.prog 8 #[] W fun e W' => ∃ bs bw bm F, e = .returned (.pointer (some ⟨bs, 0, none⟩)) ∧ Sk W' F bs bw bm St.new ∧ Cha (fun _ => False) W W' ∧ ∀ i, F i → W.heap.size ≤ i := by
  have kmk : ∀ W : World, (Instr.makeSlice 50 (.int .i64 64) (.int .i64 64)).run Try.prog W = .ok (.slice (some ⟨W.heap.size, 0, none⟩) 64 64) (W.alloc (.cells (fcells 64 (fun _ => .int .u64 0)) 28)) := mk 64 (by omega)
  have HE : Hid (Sk (((W.alloc (.cells (fcells 64 (fun _ => .int .u64 0)) 28)).alloc (.map #[] 0)).alloc (.cells (St.new.cells W.heap.size (W.heap.size + 1)) 57)) (fun i => i = W.heap.size + 2 ∨ i = W.heap.size ∨ i = W.heap.size + 1) (W.heap.size + 2) W.heap.size (W.heap.size + 1) St.new) := Lib.hid (by
    have e1 : (W.alloc (.cells (fcells 64 (fun _ => .int .u64 0)) 28)).heap.size = W.heap.size + 1 := World.size_alloc _ _
    have e2 : ((W.alloc (.cells (fcells 64 (fun _ => .int .u64 0)) 28)).alloc (.map #[] 0)).heap.size = W.heap.size + 2 := by rw [World.size_alloc, e1]
    refine ⟨?_, ⟨fun _ => .int .u64 0, ?_, fun e h1 h2 => absurd (show e ≤ 0 from h2) (by omega)⟩, ?_, Ok.new, ⟨by omega, by omega, by omega⟩, .inl rfl, .inr (.inl rfl), .inr (.inr rfl), fun i hi => by rw [World.size_alloc, e2]; omega⟩
    · have := heap_alloc_new ((W.alloc (.cells (fcells 64 (fun _ => .int .u64 0)) 28)).alloc (.map #[] 0)) (.cells (St.new.cells W.heap.size (W.heap.size + 1)) 57)
      rwa [e2] at this
    · have := row_new W 64 (fun _ => .int .u64 0)
      exact (((Cha.refl (fun _ => False) _).alloc _).alloc _).row this id
    · have := SM.made (W.alloc (.cells (fcells 64 (fun _ => .int .u64 0)) 28))
      rw [e1] at this
      refine (this.cha ((Cha.refl (fun _ => False) _).alloc _) id).congr fun x => ?_
      unfold St.isPlace
      show false = (decide (x < 64) && decide (64 ≤ x + 0) && false)
      simp)
  have hmm := @run_makeMap Try.prog
  go_enter Try.func8, Try.ntmps8
  go_wp2
  go_returns
  exact ⟨W.heap.size + 2, _, _, _, rfl, HE.out, (((Cha.refl _ W).alloc _).alloc _).alloc _, fun i hi => by omega⟩

/-- What Push leaves. -/
def St.pushR (s : St) (a : Int) : Int × St := if a < 0 ∨ 32 < a then (1, s) else if s.fs.length = 64 then (3, s) else (0, s.push a.toNat)
theorem push_none (a : Int) (W : World) : Calls Try.prog 11 #[.pointer none, .int .i64 a] W fun e W' => e = .returned (.int .i64 5) ∧ W = W' := by
  go_enter Try.func11, Try.ntmps11
  go_wp2
  go_returns
  exact ⟨rfl, rfl⟩
theorem pop_none (W : World) : Calls Try.prog 13 #[.pointer none] W fun e W' => e = .returned (.int .i64 5) ∧ W = W' := by
  go_enter Try.func13, Try.ntmps13
  go_wp2
  go_returns
  exact ⟨rfl, rfl⟩
theorem push_in (h : Sk W F bs bw bm s) (n : Nat) (hn : n ≤ 32) (hl : s.fs.length < 64) :
    Calls Try.prog 11 #[.pointer (some ⟨bs, 0, none⟩), .int .i64 (n : Int)] W fun e W' => e = .returned (.int .i64 0) ∧ Left W W' F bs (s.push n) := by
  obtain ⟨c0, c1, c2, c3, c4⟩ := h.facts
  have hN := h.ok.n_le
  have hf := h.ok.fit
  have H := Lib.hid h
  have hl1 : ((s.fs.length : Nat) : Int) ≠ 64 := by omega
  have hpb : pos s.fs + (n + 1) ≤ 2112 := by
    have hb : pos (n :: s.fs) ≤ (n :: s.fs).length * 33 := pos_bound (m := 32) fun k hk => by
      rcases List.mem_cons.1 hk with rfl | hk
      · exact hn
      · exact h.ok.slots k hk
    have hl' : (n :: s.fs).length * 33 ≤ 64 * 33 := Nat.mul_le_mul_right _ hl
    have : pos (n :: s.fs) = pos s.fs + (n + 1) := rfl
    omega
  have CU : Hid (∀ k, Calls Try.prog 27 #[.pointer (some ⟨bs, 0, none⟩)] (W.drewN k) fun e W' => e = .returned (.int .i64 (pos s.fs : Nat)) ∧ ∃ m, W' = W.drewN m) := Lib.hid fun k =>
    (used_any (h.same ((Cha.refl _ W).drewN k))).mono fun _ _ ⟨he, j, hj⟩ => ⟨he, k + j, by rw [hj, World.drewN_drewN]⟩
  have CE : Hid (∀ k, Calls Try.prog 26 #[.int .i64 (s.n : Int), .int .i64 ((pos s.fs : Nat) + 1 + (n : Int))] (W.drewN k) fun e W' => e = .returned (.int .i64 ((if s.n < pos s.fs + (n + 1) then 2 * s.n else s.n : Nat) : Int)) ∧ W' = W.drewN k) := Lib.hid fun k => by
    have := enough_any s.n (pos s.fs + (n + 1)) hN.1 hN.2 (by omega) (W.drewN k)
    rw [show ((pos s.fs + (n + 1) : Nat) : Int) = (pos s.fs : Nat) + 1 + (n : Int) by omega] at this
    exact this.mono fun _ _ ⟨a, b⟩ => ⟨a, b.symm⟩
  have e1 : (pos s.fs : Int) + 1 + (n : Int) = (pos s.fs : Nat) + 1 + (n : Int) := rfl
  by_cases hw : s.n < pos s.fs + (n + 1)
  · have hpush : s.push n = (s.moved (2 * s.n)).lay n := by unfold St.push; rw [if_pos hw]
    rw [if_pos hw] at CE
    have h4 : s.n ≤ 2048 := by have := h.ok.p2; omega
    have hm : 2 * s.n = 64 ∨ 2 * s.n = 128 ∨ 2 * s.n = 256 ∨ 2 * s.n = 512 ∨ 2 * s.n = 1024 ∨ 2 * s.n = 2048 ∨ 2 * s.n = 4096 := by have := h.ok.p2; omega
    have CM : Hid (∀ k, Calls Try.prog 28 #[.pointer (some ⟨bs, 0, none⟩), .int .i64 ((2 * s.n : Nat) : Int)] (W.drewN k) fun e W' => e = .returned (.tuple #[]) ∧ Left W W' F bs (s.moved (2 * s.n))) := Lib.hid fun k =>
      (move_any (h.same ((Cha.refl _ W).drewN k)) (2 * s.n) hm (by omega)).mono fun _ _ ⟨a, b⟩ => ⟨a, Left.before ((Cha.refl _ W).drewN k) b⟩
    have CLy : Hid (∀ W1 F1 bw1 bm1, Sk W1 F1 bs bw1 bm1 (s.moved (2 * s.n)) → Calls Try.prog 29 #[.pointer (some ⟨bs, 0, none⟩), .int .i64 (n : Int)] W1 fun e W' => e = .returned (.tuple #[]) ∧ Left W1 W' F1 bs ((s.moved (2 * s.n)).lay n)) := Lib.hid fun W1 F1 bw1 bm1 h1 =>
      lay_any h1 n hn hl (by show pos s.fs + (n + 1) ≤ 2 * s.n; omega)
    obtain ⟨m, hm2⟩ : ∃ m, m = 2 * s.n := ⟨_, rfl⟩
    rw [← hm2] at CE CM CLy hpush
    have hm3 : ¬ (4096 < m) := by omega
    have hm4 : s.n < m := by omega
    rw [hpush]
    have HP := Lib.hid hpush
    clear h hm hm2 hw hpush
    go_enter Try.func11, Try.ntmps11
    go_wp2
    go_quiet ((first | (go_at_call 27; exact CU.out _) | (go_at_call 26; exact Calls.quiet_of_same (CE.out _))))
    go_wp2_with (first
      | (go_at_call 28; ((with_reducible refine (CM.out _).mono ?_); rintro e w2 ⟨rfl, hL⟩; have HL := Lib.hid hL; obtain ⟨F1, bw1, bm1, h1, c5, n1⟩ := hL; have C9 := Lib.hid (CLy.out _ _ _ _ h1); have HN1 := Lib.hid n1; have HC5 := Lib.hid c5; clear h1 c5 n1))
      | (go_at_call 29; ((with_reducible refine (C9.out).mono ?_); rintro e w3 ⟨rfl, hL⟩; have HL2 := Lib.hid hL; clear hL)))
    go_returns
    refine ⟨rfl, ?_⟩
    obtain ⟨F2, bw2, bm2, q2, c2, n2⟩ := HL2.out
    refine ⟨F2, bw2, bm2, q2, HC5.out.over c2 HN1.out, fun i hi => ?_⟩
    rcases n2 i hi with e | e
    · exact HN1.out i e
    · exact .inr (Nat.le_trans HC5.out.size e)
  · have hpush : s.push n = s.lay n := by unfold St.push; rw [if_neg hw]
    rw [if_neg hw] at CE
    have CLy : Hid (∀ k, Calls Try.prog 29 #[.pointer (some ⟨bs, 0, none⟩), .int .i64 (n : Int)] (W.drewN k) fun e W' => e = .returned (.tuple #[]) ∧ Left W W' F bs (s.lay n)) := Lib.hid fun k =>
      (lay_any (h.same ((Cha.refl _ W).drewN k)) n hn hl (by omega)).mono fun _ _ ⟨a, b⟩ => ⟨a, Left.before ((Cha.refl _ W).drewN k) b⟩
    rw [hpush]
    clear h hw hpush
    go_enter Try.func11, Try.ntmps11
    go_wp2
    go_quiet ((first | (go_at_call 27; exact CU.out _) | (go_at_call 26; exact Calls.quiet_of_same (CE.out _))))
    go_wp2_with (go_at_call 29; ((with_reducible refine (CLy.out _).mono ?_); rintro e w3 ⟨rfl, hL⟩; have HL2 := Lib.hid hL; clear hL))
    go_returns
    exact ⟨rfl, HL2.out⟩
theorem push_any (h : Sk W F bs bw bm s) (a : Int) :
    Calls Try.prog 11 #[.pointer (some ⟨bs, 0, none⟩), .int .i64 a] W fun e W' => e = .returned (.int .i64 (s.pushR a).1) ∧ Left W W' F bs (s.pushR a).2 := by
  unfold St.pushR
  by_cases c : a < 0 ∨ 32 < a
  · rw [if_pos c]
    have HL := Lib.hid (h.left (Cha.refl _ W))
    clear h
    go_enter Try.func11, Try.ntmps11
    by_cases c1 : a < 0
    · go_wp2
      go_returns
      exact ⟨rfl, HL.out⟩
    · have c2 : 32 < a := by omega
      clear c
      go_wp2
      go_returns
      exact ⟨rfl, HL.out⟩
  · rw [if_neg c]
    by_cases c2 : s.fs.length = 64
    · rw [if_pos c2]
      obtain ⟨c0, c1, _, c3, c4⟩ := h.facts
      have HL := Lib.hid (h.left (Cha.refl _ W))
      have k1 : ¬ a < 0 := by omega
      have k2 : ¬ 32 < a := by omega
      rw [c2] at c3
      clear h c
      go_enter Try.func11, Try.ntmps11
      go_wp2
      go_returns
      exact ⟨rfl, HL.out⟩
    · rw [if_neg c2]
      obtain ⟨n, rfl⟩ : ∃ n : Nat, a = n := ⟨a.toNat, by omega⟩
      exact push_in h n (by omega) (by have := h.ok.len; omega)
/-- What Pop leaves. -/
def St.popR (s : St) : Int × St := if s.fs.length = 0 then (4, s) else (0, s.pop)
theorem pop_in (h : Sk W F bs bw bm s) (n : Nat) (l : List Nat) (hl : s.fs = n :: l) :
    Calls Try.prog 13 #[.pointer (some ⟨bs, 0, none⟩)] W fun e W' => e = .returned (.int .i64 0) ∧ Left W W' F bs s.pop := by
  obtain ⟨c0, c1, c2, c3, c4⟩ := h.facts
  have hN := h.ok.n_le
  have hf := h.ok.fit
  have hne := h.ne
  have f1 := h.free
  have hp : pos s.fs = pos l + (n + 1) := by rw [hl]; rfl
  have hn32 := h.ok.slots n (by rw [hl]; exact List.mem_cons_self ..)
  have hhd := h.ok.head 0 (by rw [hl]; exact Nat.zero_lt_succ _)
  have hlen : s.fs.length = l.length + 1 := by rw [hl]; rfl
  have hl64 := h.ok.len
  have hw := h.word (e := pos s.fs) (by omega) (Nat.le_refl _)
  have hh : s.ct (pos s.fs) = .num (n : Int) := by
    have e : s.fs[0]'(by rw [hl]; exact Nat.zero_lt_succ _) = n := by simp [hl]
    rw [e] at hhd
    simpa using hhd
  rw [hh] at hw
  obtain ⟨t0, ht0⟩ : ∃ t0, t0 = s.n - pos s.fs := ⟨_, rfl⟩
  obtain ⟨t1, ht1⟩ : ∃ t1, t1 = s.n - pos l := ⟨_, rfl⟩
  have CB : Hid (Calls Try.prog 31 #[.pointer (some ⟨bs, 0, none⟩), .int .i64 (t0 : Int)] W fun e W' => e = .returned (.int .i64 (t1 : Int)) ∧ W = W') := Lib.hid (by
    have := behind_any (v := n) c0 hN.2 (p := s.n - pos s.fs) (by omega) hw (by omega)
    rwa [show s.n - pos s.fs + 1 + n = t1 by omega, ← ht0] at this)
  rw [← ht0] at c1
  rw [hlen] at c3
  have HD : Hid (s.drop.fs = l ∧ s.drop.n = s.n) := Lib.hid ⟨by show s.fs.tail = l; rw [hl]; rfl, rfl⟩
  obtain ⟨W2, hW2⟩ : ∃ W2, W2 = (W.setCell ⟨bs, 1, none⟩ (.int .i64 (t1 : Int))).setCell ⟨bs, 3, none⟩ (.int .i64 (l.length : Int)) := ⟨_, rfl⟩
  have e1 := heap_setCell_same W bs 1 _ 57 (.int .i64 (t1 : Int)) h.head
  have e2 := heap_setCell_same _ bs 3 _ 57 (.int .i64 (l.length : Int)) e1
  rw [← hW2] at e2
  have cW2 : Cha (fun i => i = bs) W W2 := by rw [hW2]; exact ((Cha.refl (fun i => i = bs) W).setCell (p := ⟨bs, 1, none⟩) (fun _ => rfl) _).setCell (p := ⟨bs, 3, none⟩) (fun _ => rfl) _
  have CF : Hid (Calls Try.prog 32 #[.pointer (some ⟨bs, 0, none⟩)] W2 fun e W' => e = .returned (.tuple #[]) ∧ SM W' bm (fun x => s.isPlace x && decide (t1 ≤ x)) ∧ Cha (fun i => i = bm) W2 W') := Lib.hid
    (forget_any (by rw [cell_of_row W2 bs 1 _ 57 (0, 0) e2]; rfl) (by rw [cell_of_row W2 bs 2 _ 57 (0, 0) e2]; rfl) (Nat.lt_of_lt_of_le (h.old _ h.fs) cW2.size) hne.2.1 (h.map.cha cW2 (fun e => hne.2.1 e.symm)))
  have HS : Hid (∀ W3, SM W3 bm (fun x => s.isPlace x && decide (t1 ≤ x)) → Cha (fun i => i = bm) W2 W3 → Sk W3 F bs bw bm s.drop ∧ Cha F W W3) := Lib.hid fun W3 hm hc => by
    have hc3 : Cha (fun i => i = bs ∨ i = bm) W W3 := (cW2.mono fun _ _ e => .inl e).trans (hc.mono fun _ _ e => .inr e)
    obtain ⟨r, r1, r2⟩ := h.row
    have hd := HD.out
    refine ⟨⟨?_, ⟨r, hc3.row r1 (fun e => e.elim (fun e => hne.1 e.symm) hne.2.2), fun e a1 a2 => ?_⟩, ?_, h.ok.drop, hne, h.fs, h.fw, h.fm, fun i hi => Nat.lt_of_lt_of_le (h.old i hi) hc3.size⟩, hc3.mono fun i _ e => e.elim (fun e => e ▸ h.fs) fun e => e ▸ h.fm⟩
    · rw [hc.old bs (Nat.lt_of_lt_of_le (h.old _ h.fs) cW2.size) hne.2.1, e2]
      unfold St.cells
      rw [hd.1, hd.2, ← ht1]
      rfl
    · rw [hd.1] at a2
      exact r2 e a1 (by omega)
    · refine hm.congr fun x => ?_
      unfold St.isPlace
      rw [hd.1, hd.2]
      show (decide (x < s.n) && decide (s.n ≤ x + pos s.fs) && (s.ct (s.n - x)).isRef && decide (t1 ≤ x)) = (decide (x < s.n) && decide (s.n ≤ x + pos l) && (s.ct (s.n - x)).isRef)
      by_cases k : s.n ≤ x + pos l
      · rw [decide_eq_true k, decide_eq_true (show s.n ≤ x + pos s.fs by omega), decide_eq_true (show t1 ≤ x by omega)]; simp
      · rw [decide_eq_false k, decide_eq_false (show ¬ t1 ≤ x by omega)]; simp
  have CU : Hid (∀ W3, Sk W3 F bs bw bm s.drop → Calls Try.prog 27 #[.pointer (some ⟨bs, 0, none⟩)] W3 fun e W' => e = .returned (.int .i64 (pos l : Nat)) ∧ ∃ k, W' = W3.drewN k) := Lib.hid fun W3 h3 => by
    have := used_any h3
    rwa [HD.out.1] at this
  have K0 : Hid (∀ W3, Sk W3 F bs bw bm s.drop → W3.cell? ⟨bs, 0, none⟩ = some (.slice (some ⟨bw, 0, none⟩) s.n s.n)) := Lib.hid fun W3 h3 => h3.cell 0
  have HP : Hid (s.pop = if 64 < s.n ∧ pos l ≤ s.n / 4 then s.drop.moved (s.n / 2) else s.drop) := Lib.hid (by unfold St.pop; rw [hl]; rfl)
  have HK := Lib.hid h.ok
  have hl63 : l.length ≤ 63 := by omega
  subst hW2
  by_cases hcut : 64 < s.n ∧ pos l ≤ s.n / 4
  · have HM : Hid (∀ W3 k, Sk W3 F bs bw bm s.drop → Calls Try.prog 28 #[.pointer (some ⟨bs, 0, none⟩), .int .i64 ((s.n : Int) / 2)] (W3.drewN k) fun e W' => e = .returned (.tuple #[]) ∧ Left W3 W' F bs (s.drop.moved (s.n / 2))) := Lib.hid fun W3 k h3 =>
      (move_any (h3.same ((Cha.refl _ W3).drewN k)) (s.n / 2) (by have := h.ok.p2; omega) (by rw [HD.out.1]; omega)).mono fun _ _ ⟨a, b⟩ => ⟨a, Left.before ((Cha.refl _ W3).drewN k) b⟩
    rw [HP.out, if_pos hcut]
    obtain ⟨hc1, hc2⟩ := hcut
    have hc3 : ((pos l : Nat) : Int) ≤ (s.n : Int) / 4 := by omega
    clear h hp hhd hlen hw hh ht0 ht1 e1 e2 cW2 hl HP
    go_enter Try.func13, Try.ntmps13
    go_wp2_with (first
      | (go_at_call 31; ((with_reducible refine (CB.out).mono ?_); rintro e w1 ⟨rfl, rfl⟩))
      | (go_at_call 32; ((with_reducible refine (CF.out).mono ?_); rintro e w1 ⟨rfl, hm, hc⟩; obtain ⟨h3, cc3⟩ := HS.out _ hm hc; have y0 := K0.out _ h3; have CU3 := Lib.hid (CU.out _ h3); have H3 := Lib.hid h3; have CC3 := Lib.hid cc3; clear hm hc h3 cc3))
      | (go_at_call 27; ((with_reducible refine (CU3.out).mono ?_); rintro e w2 ⟨rfl, k, rfl⟩; have CM3 := Lib.hid (HM.out _ k H3.out)))
      | (go_at_call 28; ((with_reducible refine (CM3.out).mono ?_); rintro e w2 ⟨rfl, hL⟩; have HL := Lib.hid hL; clear hL)))
    go_returns
    refine ⟨rfl, ?_⟩
    obtain ⟨F2, bw2, bm2, q2, c2, n2⟩ := HL.out
    exact ⟨F2, bw2, bm2, q2, CC3.out.trans c2, fun i hi => (n2 i hi).imp id fun e => Nat.le_trans CC3.out.size e⟩
  · rw [HP.out, if_neg hcut]
    clear h hp hhd hlen hw hh ht0 ht1 e1 e2 cW2 hl HP
    by_cases hc1 : 64 < s.n
    · have hc3 : ¬ (((pos l : Nat) : Int) ≤ (s.n : Int) / 4) := by omega
      go_enter Try.func13, Try.ntmps13
      go_wp2_with (first
        | (go_at_call 31; ((with_reducible refine (CB.out).mono ?_); rintro e w1 ⟨rfl, rfl⟩))
        | (go_at_call 32; ((with_reducible refine (CF.out).mono ?_); rintro e w1 ⟨rfl, hm, hc⟩; obtain ⟨h3, cc3⟩ := HS.out _ hm hc; have y0 := K0.out _ h3; have CU3 := Lib.hid (CU.out _ h3); have H3 := Lib.hid h3; have CC3 := Lib.hid cc3; clear hm hc h3 cc3))
        | (go_at_call 27; ((with_reducible refine (CU3.out).mono ?_); rintro e w2 ⟨rfl, k, rfl⟩)))
      go_returns
      exact ⟨rfl, F, bw, bm, H3.out.same ((Cha.refl _ _).drewN _), CC3.out.drewN _, fun _ h => .inl h⟩
    · go_enter Try.func13, Try.ntmps13
      go_wp2_with (first
        | (go_at_call 31; ((with_reducible refine (CB.out).mono ?_); rintro e w1 ⟨rfl, rfl⟩))
        | (go_at_call 32; ((with_reducible refine (CF.out).mono ?_); rintro e w1 ⟨rfl, hm, hc⟩; obtain ⟨h3, cc3⟩ := HS.out _ hm hc; have y0 := K0.out _ h3; have CU3 := Lib.hid (CU.out _ h3); have H3 := Lib.hid h3; have CC3 := Lib.hid cc3; clear hm hc h3 cc3)))
      go_returns
      exact ⟨rfl, F, bw, bm, H3.out, CC3.out, fun _ h => .inl h⟩
theorem pop_any (h : Sk W F bs bw bm s) : Calls Try.prog 13 #[.pointer (some ⟨bs, 0, none⟩)] W fun e W' => e = .returned (.int .i64 s.popR.1) ∧ Left W W' F bs s.popR.2 := by
  unfold St.popR
  cases hf : s.fs with
  | nil =>
    rw [if_pos (show ([] : List Nat).length = 0 from rfl)]
    obtain ⟨_, _, _, c3, _⟩ := h.facts
    rw [hf] at c3
    have HL := Lib.hid (h.left (Cha.refl _ W))
    have c3 : W.cell? ⟨bs, 3, none⟩ = some (.int .i64 0) := c3
    clear h hf
    go_enter Try.func13, Try.ntmps13
    go_wp2
    go_returns
    exact ⟨rfl, HL.out⟩
  | cons n l =>
    rw [if_neg (by simp)]
    exact pop_in h n l hf
end Go.Proofs.Yteienclklmjhdaa
