/- StackShrinks: frames that go give the words back. -/
import Derived.Test.YteienclklmjhdaaQ
namespace Go.Proofs.Yteienclklmjhdaa
open Go.ChangeShapes Go.WideShapes Go.ChangeAt Go.RowKit

theorem pos_rep (m n : Nat) : pos (List.replicate m n) = m * (n + 1) := by
  induction m with
  | zero => rw [Nat.zero_mul]; rfl
  | succ m ih => rw [List.replicate_succ, Nat.succ_mul, ← ih]; rfl
/-- m frames of n slots each, and no more words than it takes. -/
structure Rp (n m : Nat) (s : St) : Prop where
  fs : s.fs = List.replicate m n
  wds : s.n = 64 ∨ s.n / 4 < m * (n + 1)
theorem Rp.push {n m : Nat} {s : St} (h : Rp n m s) (ho : Ok s) : Rp n (m + 1) (s.push n) := by
  refine ⟨by rw [push_fs, h.fs]; rfl, ?_⟩
  have hp : pos s.fs = m * (n + 1) := by rw [h.fs, pos_rep]
  have h2 := h.wds
  have h3 := ho.n_le
  have e : (m + 1) * (n + 1) = m * (n + 1) + (n + 1) := Nat.succ_mul _ _
  unfold St.push
  split
  · rename_i c
    show 2 * s.n = 64 ∨ 2 * s.n / 4 < (m + 1) * (n + 1)
    rw [e]
    generalize m * (n + 1) = U at *
    omega
  · show s.n = 64 ∨ s.n / 4 < (m + 1) * (n + 1)
    rw [e]
    generalize m * (n + 1) = U at *
    omega
theorem Rp.pop {n m : Nat} {s : St} (h : Rp n (m + 1) s) (ho : Ok s) (hn : n ≤ 32) : Rp n m s.pop := by
  have ht : s.fs.tail = List.replicate m n := by rw [h.fs]; rfl
  have hp : pos s.fs.tail = m * (n + 1) := by rw [ht, pos_rep]
  have h2 := h.wds
  have h3 := ho.p2
  rw [Nat.succ_mul] at h2
  have h33 : n = 32 → m * (n + 1) = m * 33 := fun e => by rw [e]
  unfold St.pop
  rw [hp]
  split
  · rename_i c
    refine ⟨ht, ?_⟩
    show s.n / 2 = 64 ∨ s.n / 2 / 4 < m * (n + 1)
    generalize m * (n + 1) = U at *
    by_cases e : n = 32
    · have := h33 e; omega
    · omega
  · rename_i c
    refine ⟨ht, ?_⟩
    show s.n = 64 ∨ s.n / 4 < m * (n + 1)
    generalize m * (n + 1) = U at *
    omega
theorem Rp.new (n : Nat) : Rp n 0 St.new := ⟨rfl, .inl rfl⟩
def Rpl (w W : World) (bs n m : Nat) : Prop := ∃ s, Live w W bs s ∧ Rp n m s
variable {w W W' : World} {bs n m : Nat}
theorem Rpl.push (h : Rpl w W bs n m) (hn : n ≤ 32) (hm : m < 64) : Calls Try.prog 11 #[.pointer (some ⟨bs, 0, none⟩), .int .i64 (n : Int)] W fun e W' => e = .returned (.int .i64 0) ∧ Rpl w W' bs n (m + 1) := by
  obtain ⟨s, h, r⟩ := h
  exact (live_push h n hn (by rw [r.fs]; simpa using hm)).mono fun _ _ ⟨he, h2⟩ => ⟨he, _, h2, r.push h.ok⟩
theorem Rpl.pop (h : Rpl w W bs n (m + 1)) (hn : n ≤ 32) : Calls Try.prog 13 #[.pointer (some ⟨bs, 0, none⟩)] W fun e W' => e = .returned (.int .i64 0) ∧ Rpl w W' bs n m := by
  obtain ⟨s, h, r⟩ := h
  have hne : ¬ s.fs.length = 0 := by rw [r.fs]; simp
  have q := live_pop h
  unfold St.popR at q
  rw [if_neg hne] at q
  exact q.mono fun _ _ ⟨he, h2⟩ => ⟨he, _, h2, r.pop h.ok hn⟩
theorem Rpl.counts (h : Rpl w W bs n m) : ∃ N : Nat, ∃ c : Int, 64 ≤ N ∧ N ≤ 4096 ∧ m * (n + 1) ≤ N ∧ (N = 64 ∨ N / 4 < m * (n + 1)) ∧
    Calls Try.prog 25 #[.pointer (some ⟨bs, 0, none⟩)] W fun e W' => e = .returned (.tuple #[.int .i64 (m : Nat), .int .i64 (N : Nat), .int .i64 c]) ∧ Cha (fun _ => False) w W' := by
  obtain ⟨s, h, r⟩ := h
  have q := live_counts h
  have hp : pos s.fs = m * (n + 1) := by rw [r.fs, pos_rep]
  have hl : s.fs.length = m := by rw [r.fs]; simp
  refine ⟨s.n, s.cop, h.ok.n_le.1, h.ok.n_le.2, by have := h.ok.fit; omega, r.wds, ?_⟩
  rw [hl] at q
  exact q.mono fun _ _ ⟨he, h2⟩ => ⟨he, h2.cha⟩
set_option maxRecDepth 100000 in
set_option maxHeartbeats 2000000 in
theorem shrinks_walk (a b c : Int) (w : World) (a0 : 0 ≤ a) (b0 : 0 ≤ b) (c0 : 0 ≤ c) (a1 : a ≤ 255) (b1 : b ≤ 255) (c1 : c ≤ 255) : Calls Try.prog 7 #[.int .u8 a, .int .u8 b, .int .u8 c] w fun e w' => e = .returned (.bool true) ∧ Cha (fun _ => False) w w' := by
  obtain ⟨n, hn⟩ : ∃ n : Nat, a % 33 = (n : Int) := ⟨(a % 33).toNat, by omega⟩
  obtain ⟨k1, hk⟩ : ∃ k1 : Nat, b % 64 = (k1 : Int) := ⟨(b % 64).toNat, by omega⟩
  obtain ⟨p, hp⟩ : ∃ p : Nat, c % ((k1 : Int) + 1 + 1) = (p : Int) := ⟨(c % ((k1 : Int) + 1 + 1)).toNat, by have := Int.emod_nonneg c (show (k1 : Int) + 1 + 1 ≠ 0 by omega); omega⟩
  have hpk : p ≤ k1 + 1 := by have := Int.emod_lt_of_pos c (show 0 < (k1 : Int) + 1 + 1 by omega); omega
  have hn32 : n ≤ 32 := by omega
  have hk63 : k1 ≤ 63 := by omega
  have C0 := Lib.hid (live_new (Cha.refl (fun _ => False) w))
  have CA : Hid (∀ bs W, Live w W bs St.new → Calls Try.prog 10 #[] W fun e W' => e = .returned (.bool true) ∧ Rpl w W' bs n 0) := Lib.hid fun bs W h => (awake_any (Cha.refl (fun _ => False) W)).mono fun _ _ ⟨a, c⟩ => ⟨a, _, h.same c, Rp.new n⟩
  have CP : Hid (∀ bs W m, m < 64 → Rpl w W bs n m → Calls Try.prog 11 #[.pointer (some ⟨bs, 0, none⟩), .int .i64 (n : Int)] W fun e W' => e = .returned (.int .i64 0) ∧ Rpl w W' bs n (m + 1)) := Lib.hid fun bs W m hm h => h.push hn32 hm
  have CQ : Hid (∀ bs W m, Rpl w W bs n (m + 1) → Calls Try.prog 13 #[.pointer (some ⟨bs, 0, none⟩)] W fun e W' => e = .returned (.int .i64 0) ∧ Rpl w W' bs n m) := Lib.hid fun bs W m h => h.pop hn32
  go_enter Try.func7, Try.ntmps7
  go_wp2_with (first
    | (go_at_call 8; ((with_reducible refine (C0.out).mono ?_); rintro e w1 ⟨bs, rfl, h⟩; have D1 := Lib.hid (CA.out _ _ h); clear h))
    | (go_at_call 10; ((with_reducible refine (D1.out).mono ?_); rintro e w2 ⟨rfl, h⟩; have H5 := Lib.hid h; clear h)))
  simp only [hn, hk]
  clear hn hk
  go_loopw [30] (fun i wr => ∃ j : Nat, j ≤ k1 + 1 ∧ i = .int .i64 (j : Int) ∧ Rpl w wr bs n j) (fun i _ => k1 + 1 - (intOf i).toNat)
  case atStart => exact ⟨0, by omega, rfl, H5.out⟩
  case round =>
    clear H5 D1
    obtain ⟨j, hj, rfl, hL⟩ := hrel
    by_cases hlt : j < k1 + 1
    · have D := Lib.hid (CP.out bs wr j (by omega) hL)
      have hlt2 : (j : Int) < (k1 : Int) + 1 := by omega
      clear hL
      go_wp2_with (go_at_call 11; ((with_reducible refine (D.out).mono ?_); rintro e w2 ⟨rfl, h⟩; have H2 := Lib.hid h; clear h))
      go_roundw
      case rel => exact ⟨j + 1, by omega, by congr 1, H2.out⟩
      case measure => simp [intOf]; omega
    · obtain rfl : j = k1 + 1 := by omega
      have HL := Lib.hid hL
      clear hL
      go_wp2
      simp only [hp]
      clear hp
      rw [show ((k1 + 1 : Nat) : Int) = (k1 : Int) + 1 from rfl]
      go_loopw [43] (fun i wr2 => ∃ j : Nat, j ≤ p ∧ i = .int .i64 (j : Int) ∧ Rpl w wr2 bs n (k1 + 1 - j)) (fun i _ => p - (intOf i).toNat)
      case atStart => exact ⟨0, by omega, rfl, HL.out⟩
      case round =>
        clear HL
        obtain ⟨j, hj, rfl, hL⟩ := hrel
        by_cases hlt : j < p
        · have D := Lib.hid (CQ.out bs wr (k1 + 1 - (j + 1)) (by rwa [show k1 + 1 - (j + 1) + 1 = k1 + 1 - j by omega]))
          have hlt2 : (j : Int) < (p : Int) := by omega
          clear hL
          go_wp2_with (go_at_call 13; ((with_reducible refine (D.out).mono ?_); rintro e w2 ⟨rfl, h⟩; have H2 := Lib.hid h; clear h))
          go_roundw
          case rel => exact ⟨j + 1, by omega, by congr 1, H2.out⟩
          case measure => simp [intOf]; omega
        · obtain rfl : j = p := by omega
          obtain ⟨N, cp, n1, n2, n3, n4, C25⟩ := hL.counts
          have C := Lib.hid C25
          clear C25 hL CP CQ
          obtain ⟨m, hm⟩ : ∃ m : Nat, m = k1 + 1 - j := ⟨_, rfl⟩
          rw [← hm] at n3 n4 C
          have q1 : (k1 : Int) + 1 - (j : Int) = (m : Int) := by omega
          have q0 : m = 0 → m * (n + 1) = 0 := fun e => by rw [e, Nat.zero_mul]
          have qm : (m : Int) * ((n : Int) + 1) = ((m * (n + 1) : Nat) : Int) := by rw [Int.natCast_mul]; rfl
          obtain ⟨U, hU⟩ : ∃ U : Nat, U = m * (n + 1) := ⟨_, rfl⟩
          rw [← hU] at n3 n4 qm q0
          have HU := Lib.hid hU
          have HM := Lib.hid hm
          clear hU hm
          have t1 : (U : Int) ≤ (N : Int) := by omega
          have t2 : (64 : Int) ≤ (N : Int) := by omega
          have t3 : (N : Int) ≤ 4096 := by omega
          have t4 : N = 64 ∨ (N : Int) / 8 < (U : Int) := by omega
          have t5 : (0 < m) ∨ (m = 0 ∧ N = 64) := by omega
          have H1 : Hid (j = 0 ∨ N = 64 ∨ (N : Int) / 8 < (U : Int)) := Lib.hid (.inr t4)
          have H2 := Lib.hid t5
          have e0 : ((m : Int) == (m : Int)) = true := by simp
          clear n1 n2 n3 n4 q0 t4 t5
          by_cases e1 : j = 0
          · have e2 : 0 < m := by have := HM.out; omega
            have e3 : ((j : Int) == 0) = true := by simp [e1]
            clear e1
            go_wp2_with (go_at_call 25; ((with_reducible refine (C.out).mono ?_); rintro e w2 ⟨rfl, h⟩; have HH := Lib.hid h; clear h))
            go_ret
            exact ⟨rfl, HH.out⟩
          · have e3 : ((j : Int) == 0) = false := by simp; exact e1
            clear e1
            by_cases e4 : N = 64
            · subst e4
              by_cases e2 : 0 < m
              · go_wp2_with (go_at_call 25; ((with_reducible refine (C.out).mono ?_); rintro e w2 ⟨rfl, h⟩; have HH := Lib.hid h; clear h))
                go_ret
                exact ⟨rfl, HH.out⟩
              · obtain rfl : m = 0 := by omega
                go_wp2_with (go_at_call 25; ((with_reducible refine (C.out).mono ?_); rintro e w2 ⟨rfl, h⟩; have HH := Lib.hid h; clear h))
                go_ret
                exact ⟨rfl, HH.out⟩
            · have e5 : ((N : Int) == 64) = false := by simp; omega
              have e6 : (N : Int) / 8 < (U : Int) := by
                have := H1.out
                have e3' : ¬ j = 0 := fun c => by rw [c] at e3; cases e3
                omega
              have e2 : 0 < m := by
                have := H2.out
                omega
              clear e4
              go_wp2_with (go_at_call 25; ((with_reducible refine (C.out).mono ?_); rintro e w2 ⟨rfl, h⟩; have HH := Lib.hid h; clear h))
              go_ret
              exact ⟨rfl, HH.out⟩
end Go.Proofs.Yteienclklmjhdaa
