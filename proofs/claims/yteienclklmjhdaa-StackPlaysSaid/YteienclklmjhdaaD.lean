/- Contracts of stack: find, used, isRef, enough. -/
import Derived.Test.YteienclklmjhdaaC
namespace Go.Proofs.Yteienclklmjhdaa
open Go.ChangeShapes Go.WideShapes Go.ChangeAt Go.RowKit
variable {W : World} {F : Nat → Prop} {bs bw bm : Nat} {s : St}

def foundV (n : Nat) (o : Option Nat) : Value := .tuple (match o with | some d => #[.int .i64 ((n - d : Nat) : Int), .bool true] | none => #[.int .i64 0, .bool false])
theorem foundV_some (n d : Nat) : foundV n (some d) = .tuple #[.int .i64 ((n - d : Nat) : Int), .bool true] := rfl
theorem foundV_none (n : Nat) : foundV n none = .tuple #[.int .i64 0, .bool false] := rfl
set_option maxHeartbeats 1000000 in
theorem find_low (h : Sk W F bs bw bm s) (b i : Int) (hb : b < 0 ∨ (s.fs.length : Int) ≤ b) :
    Calls Try.prog 33 #[.pointer (some ⟨bs, 0, none⟩), .int .i64 b, .int .i64 i] W fun e W' => e = .returned (.tuple #[.int .i64 0, .bool false]) ∧ W = W' := by
  obtain ⟨c0, c1, c2, c3, c4⟩ := h.facts
  clear h
  go_enter Try.func33, Try.ntmps33
  by_cases h0 : b < 0
  · go_wp2
    go_returns
    exact ⟨rfl, rfl⟩
  · have h1 : (s.fs.length : Int) ≤ b := by omega
    clear hb
    go_wp2
    go_returns
    exact ⟨rfl, rfl⟩
set_option maxHeartbeats 1000000 in
theorem find_in (h : Sk W F bs bw bm s) (j : Nat) (i : Int) (hj : j < s.fs.length) :
    Calls Try.prog 33 #[.pointer (some ⟨bs, 0, none⟩), .int .i64 (j : Int), .int .i64 i] W fun e W' => e = .returned (foundV s.n (find s.fs j i)) ∧ W = W' := by
  obtain ⟨c0, c1, c2, c3, c4⟩ := h.facts
  have hn := h.ok.n_le
  have hl := h.ok.len
  have hf := h.ok.fit
  have H := Lib.hid h
  have hpl := fun k => pos_le s.fs k
  have HP := Lib.hid hpl
  have hj1 : ¬ (s.fs.length ≤ j) := by omega
  have hj0 : ¬ ((j : Int) < 0) := by omega
  have HB : Hid (∀ k, k < s.fs.length → Calls Try.prog 31 #[.pointer (some ⟨bs, 0, none⟩), .int .i64 ((s.n - pos (s.fs.drop k) : Nat) : Int)] W fun e W' => e = .returned (.int .i64 ((s.n - pos (s.fs.drop (k + 1)) : Nat) : Int)) ∧ W = W') := Lib.hid fun k hk => by
    have e1 := pos_drop hk
    have e2 := hpl k
    have e3 := hpl (k + 1)
    have e4 := h.ok.slots _ (List.getElem_mem hk)
    have hw := h.word (e := pos (s.fs.drop k)) (by omega) (by omega)
    rw [h.ok.head k hk] at hw
    have := behind_any (v := s.fs[k]) c0 hn.2 (p := s.n - pos (s.fs.drop k)) (by omega) hw (by omega)
    rwa [show s.n - pos (s.fs.drop k) + 1 + s.fs[k] = s.n - pos (s.fs.drop (k + 1)) by omega] at this
  have HS : Hid (Calls Try.prog 39 #[.pointer (some ⟨bs, 0, none⟩), .int .i64 ((s.n - pos (s.fs.drop j) : Nat) : Int)] W fun e W' => e = .returned (.int .i64 ((s.fs[j] : Nat) : Int)) ∧ W = W') := Lib.hid (by
    have e1 := pos_drop hj
    have e2 := hpl j
    have e4 := h.ok.slots _ (List.getElem_mem hj)
    have hw := h.word (e := pos (s.fs.drop j)) (by omega) (by omega)
    rw [h.ok.head j hj] at hw
    exact slots_any c0 (by omega) hw (by omega) (by omega))
  have e32 := h.ok.slots _ (List.getElem_mem hj)
  have E1 := Lib.hid (pos_drop hj)
  have e2 := hpl j
  clear h hpl
  go_enter Try.func33, Try.ntmps33
  go_wp2
  go_loopw [8, 24] (fun p k wr => ∃ m : Nat, k = .int .i64 (m : Int) ∧ m ≤ j ∧ p = .int .i64 ((s.n - pos (s.fs.drop m) : Nat) : Int) ∧ W = wr) (fun _ k _ => j - (intOf k).toNat)
  case atStart => exact ⟨0, rfl, Nat.zero_le _, by simp, rfl⟩
  case round =>
    obtain ⟨m, rfl, hm, rfl, rfl⟩ := hrel
    by_cases hlt : m < j
    · have C := Lib.hid (HB.out m (by omega))
      have hlt2 : (m : Int) < (j : Int) := by omega
      clear HS
      go_wp2_with (go_at_call 31; ((with_reducible refine (C.out).mono ?_); rintro e w1 ⟨rfl, rfl⟩))
      go_roundw
      case rel => refine ⟨m + 1, ?_, ?_, ?_, ?_⟩ <;> first | rfl | trivial | omega
      case measure => simp [intOf]; omega
    · obtain rfl : m = j := by omega
      by_cases hi : i < 0
      · have e0 : find s.fs m i = none := by unfold find; rw [if_neg]; omega
        clear HS
        go_wp2
        go_returns
        exact ⟨by rw [e0]; rfl, rfl⟩
      · by_cases hi2 : i < (s.fs[m] : Int)
        · have e0 : find s.fs m i = some (pos (s.fs.drop m) - 1 - i.toNat) := by
            have := find_nat hj (i := i.toNat) (by omega)
            rwa [show ((i.toNat : Nat) : Int) = i by omega] at this
          obtain ⟨k, rfl⟩ : ∃ k : Nat, i = k := ⟨i.toNat, by omega⟩
          go_wp2_with (go_at_call 39; ((with_reducible refine (HS.out).mono ?_); rintro e w1 ⟨rfl, rfl⟩))
          go_returns
          refine ⟨?_, rfl⟩
          rw [e0]
          have e1 := E1.out
          have e5 : s.n - (pos (s.fs.drop m) - 1 - (k : Int).toNat) = s.n - pos (s.fs.drop m) + 1 + k := by simp only [Int.toNat_natCast]; omega
          unfold foundV
          simp only [e5]
          rfl
        · have e0 : find s.fs m i = none := by
            unfold find; rw [if_neg]
            have : s.fs.getD (m : Int).toNat 0 = s.fs[m] := by simp [hj]
            rw [this]; omega
          go_wp2_with (go_at_call 39; ((with_reducible refine (HS.out).mono ?_); rintro e w1 ⟨rfl, rfl⟩))
          go_returns
          exact ⟨by rw [e0]; rfl, rfl⟩
theorem find_any (h : Sk W F bs bw bm s) (b i : Int) :
    Calls Try.prog 33 #[.pointer (some ⟨bs, 0, none⟩), .int .i64 b, .int .i64 i] W fun e W' => e = .returned (foundV s.n (find s.fs b i)) ∧ W = W' := by
  by_cases c : b < 0 ∨ (s.fs.length : Int) ≤ b
  · have e0 : find s.fs b i = none := by unfold find; rw [if_neg]; omega
    rw [e0]
    exact find_low h b i c
  · obtain ⟨j, rfl⟩ : ∃ j : Nat, b = j := ⟨b.toNat, by omega⟩
    exact find_in h j i (by omega)
theorem used_any (h : Sk W F bs bw bm s) : Calls Try.prog 27 #[.pointer (some ⟨bs, 0, none⟩)] W fun e W' => e = .returned (.int .i64 (pos s.fs : Nat)) ∧ ∃ k, W' = W.drewN k := by
  obtain ⟨c0, c1, _⟩ := h.facts
  have hn := h.ok.n_le
  have hf := h.ok.fit
  have e : IntKind.i64.wrap ((s.n : Int) - ((s.n - pos s.fs : Nat) : Int)) = (pos s.fs : Nat) := by rw [IntWalk.i64_in _ (by omega)]; omega
  clear h
  go_enter Try.func27, Try.ntmps27
  go_wp2
  go_quiet (fail)
  go_wp2
  go_returns
  exact ⟨rfl, _, rfl⟩
theorem isRef_any (h : Sk W F bs bw bm s) (x : Nat) (hx : x < 1000000) : Calls Try.prog 35 #[.pointer (some ⟨bs, 0, none⟩), .int .i64 (x : Int)] W fun e W' => e = .returned (.bool (s.isPlace x)) ∧ Cha (fun _ => False) W W' := by
  obtain ⟨c0, c1, c2, _⟩ := h.facts
  obtain ⟨D, hown, hset⟩ := h.map
  have hx2 : Maps.has D (.int .i64 (x : Int)) = s.isPlace x := hset.1 x
  clear h hset
  go_enter Try.func35, Try.ntmps35
  go_wp2_with (at_lookup; refine wpList_lookup_own_unit _ rfl _ _ 55 rfl 3 66 keyed3 Try.underlying55 (zero66 _) bm 1000000 D rfl hown _ _ rfl (key3 (by omega) (by omega)) ?_; rw [hx2])
  go_returns
  exact ⟨rfl, (Cha.refl _ _).alloc _⟩
/-- So many words, doubled once at most. -/
theorem enough_any (n m : Nat) (hn : 64 ≤ n) (h4 : n ≤ 4096) (hm : m ≤ 2 * n) (w : World) : Calls Try.prog 26 #[.int .i64 (n : Int), .int .i64 (m : Int)] w fun e w' => e = .returned (.int .i64 ((if n < m then 2 * n else n : Nat) : Int)) ∧ w = w' := by
  go_enter Try.func26, Try.ntmps26
  go_wp2
  go_loopw [0] (fun x wr => (x = .int .i64 (n : Int) ∨ (n < m ∧ x = .int .i64 ((2 * n : Nat) : Int))) ∧ w = wr) (fun x _ => m - (intOf x).toNat)
  case atStart => exact ⟨.inl rfl, rfl⟩
  case round =>
    obtain ⟨h, rfl⟩ := hrel
    rcases h with rfl | ⟨hlt, rfl⟩
    · by_cases hlt : n < m
      · have hlt2 : (n : Int) < (m : Int) := by omega
        go_wp2
        go_roundw
        case rel => refine ⟨.inr ⟨hlt, ?_⟩, ?_⟩ <;> first | trivial | rfl | omega | (congr 1; omega)
        case measure => simp [intOf]; omega
      · have hlt2 : ¬ ((n : Int) < (m : Int)) := by omega
        go_wp2
        go_returns
        exact ⟨rfl, rfl⟩
    · have h2 : ¬ (2 * (n : Int) < (m : Int)) := by omega
      go_wp2
      go_returns
      exact ⟨rfl, rfl⟩
end Go.Proofs.Yteienclklmjhdaa
