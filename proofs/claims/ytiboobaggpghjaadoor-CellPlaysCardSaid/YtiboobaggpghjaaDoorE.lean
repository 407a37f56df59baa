/- Contracts of layer 4's New, and of the document's New, Turn and Run. -/
import Derived.Test.YtiboobaggpghjaaDoorD
namespace Go.Proofs.YtiboobaggpghjaaDoor
open Go.ChangeShapes Go.WideShapes Go.ChangeAt Go.RowKit

variable {w : World} {bm bp n : Nat} {us : Nat → Bool}

theorem info4 : (Tryd.prog.info? 4).map (fun i => (i.zero, i.size, i.bytes)) = some (some (.bool false), 1, 1) := by kernel_rfl
theorem made_bools (m : Nat) : madeCells (Value.bool false).cells (m * 1) = fcells m fun _ => .bool false := by
  rw [Nat.mul_one]
  unfold madeCells fcells
  congr 1
  funext x
  show (#[Value.bool false])[x % 1]! = _
  rw [Nat.mod_one]
  rfl
theorem mk_bools (m : Nat) (hm : m ≤ 1000000) (W : World) : (Instr.makeSlice 79 (.int .i64 (m : Int)) (.int .i64 (m : Int))).run Tryd.prog W = .ok (.slice (some ⟨W.heap.size, 0, none⟩) m m) (W.alloc (.cells (fcells m fun _ => .bool false) 4)) := by
  obtain ⟨i, hi, hz, hs, hb⟩ := info_parts info4
  have h := run_make (P := Tryd.prog) W 79 4 i _ Tryd.underlying79 hi hz .i64 .i64 (m : Int) (m : Int) (by omega) (by omega) (by rw [hb]; omega) (by omega)
  rw [hs, Int.toNat_natCast, made_bools] at h
  exact h

def nou : Nat → Bool := fun _ => false
structure Made (t : TypeId) (w w' : World) (n : Nat) : Prop where
  pg : Pg t w' (w.heap.size + 1) w.heap.size n nou
  cha : Cha (fun _ => False) w w'
  size : w'.heap.size = w.heap.size + 2
theorem made (t : TypeId) (w : World) (n : Nat) (h1 : 1 ≤ n) (h2 : n ≤ 4096) : Made t w ((w.alloc (.cells (fcells n fun _ => .bool false) 4)).alloc (.cells #[.slice (some ⟨w.heap.size, 0, none⟩) n n] t)) n :=
  ⟨⟨heap_alloc2_new w _ _, heap_alloc2_old w _ _, by omega, h1, h2⟩, ((Cha.refl _ w).alloc _).alloc _, by simp⟩
theorem new_ok (n : Nat) (w : World) (h1 : 1 ≤ n) (h2 : n ≤ 4096) : Calls Tryd.prog 57 #[.int .i64 (n : Int)] w fun e w' => e = .returned (.tuple #[.pointer (some ⟨w.heap.size + 1, 0, none⟩), .int .i64 0]) ∧ Made 113 w w' n := by
  have hmk := mk_bools n (by omega)
  have HM := Lib.hid (made 113 w n h1 h2)
  obtain ⟨c, hc⟩ : ∃ c, c = fcells n fun _ => .bool false := ⟨_, rfl⟩
  rw [← hc] at HM hmk
  clear hc
  go_enter Tryd.func57, Tryd.ntmps57
  go_wp2
  go_ret2
  exact ⟨rfl, HM.out⟩
theorem new_bad (n : Int) (w : World) (h : n < 1 ∨ 4096 < n) : Calls Tryd.prog 57 #[.int .i64 n] w fun e w' => e = .returned (.tuple #[.pointer none, .int .i64 1]) ∧ w = w' := by
  rcases h with h | h
  · go_enter Tryd.func57, Tryd.ntmps57
    go_wp2
    go_ret2
    exact ⟨rfl, rfl⟩
  · have h0 : ¬ n < 1 := by omega
    go_enter Tryd.func57, Tryd.ntmps57
    go_wp2
    go_ret2
    exact ⟨rfl, rfl⟩
theorem rnew_ok (n : Nat) (w : World) (h1 : 1 ≤ n) (h2 : n ≤ 4096) : Calls Tryd.prog 58 #[.int .i64 (n : Int)] w fun e w' => e = .returned (.tuple #[.pointer (some ⟨w.heap.size + 1, 0, none⟩), .int .i64 0]) ∧ Made 107 w w' n := by
  have hmk := mk_bools n (by omega)
  have HM := Lib.hid (made 107 w n h1 h2)
  obtain ⟨c, hc⟩ : ∃ c, c = fcells n fun _ => .bool false := ⟨_, rfl⟩
  rw [← hc] at HM hmk
  clear hc
  go_enter Tryd.func58, Tryd.ntmps58
  go_wp2
  go_ret2
  exact ⟨rfl, HM.out⟩
theorem rnew_bad (n : Int) (w : World) (h : n < 1 ∨ 4096 < n) : Calls Tryd.prog 58 #[.int .i64 n] w fun e w' => e = .returned (.tuple #[.pointer none, .int .i64 1]) ∧ w = w' := by
  rcases h with h | h
  · go_enter Tryd.func58, Tryd.ntmps58
    go_wp2
    go_ret2
    exact ⟨rfl, rfl⟩
  · have h0 : ¬ n < 1 := by omega
    go_enter Tryd.func58, Tryd.ntmps58
    go_wp2
    go_ret2
    exact ⟨rfl, rfl⟩

set_option maxHeartbeats 1000000 in
theorem turn_arg (b k : Int) (v : Bool) (h : Pg 107 w bm bp n us) (hk : k ≤ 9223372036854775807) (hx : k < 1 ∨ b < 0 ∨ (n : Int) - k < b) :
    Calls Tryd.prog 74 #[.pointer (some ⟨bm, 0, none⟩), .int .i64 b, .int .i64 k, .bool v] w fun e w' => e = .returned (.int .i64 1) ∧ w = w' := by
  have hp := h.ptr
  have hl := h.le
  clear h
  by_cases h2 : b < 0
  · clear hx
    go_enter Tryd.func74, Tryd.ntmps74
    go_wp2
    go_ret
    exact ⟨rfl, rfl⟩
  · by_cases h1 : k < 1
    · have h5 : 0 ≤ b := by omega
      clear hx h2
      go_enter Tryd.func74, Tryd.ntmps74
      go_wp2
      go_ret
      exact ⟨rfl, rfl⟩
    · have h3 : (n : Int) - k < b := by omega
      have h4 : 1 ≤ k := by omega
      have h5 : 0 ≤ b := by omega
      clear hx h1 h2
      by_cases h6 : (n : Int) ≤ b
      · go_enter Tryd.func74, Tryd.ntmps74
        go_wp2
        go_ret
        exact ⟨rfl, rfl⟩
      · have h7 : b < (n : Int) := by omega
        have h8 : (n : Int) - b < k := by omega
        clear h6 h3
        go_enter Tryd.func74, Tryd.ntmps74
        go_wp2
        go_ret
        exact ⟨rfl, rfl⟩
set_option maxHeartbeats 2000000 in
theorem turn_state (b k : Nat) (v : Bool) (h : Pg 107 w bm bp n us) (hb : b + k ≤ n) (x : Nat) (hx : x < k) (hu : us (b + x) = v) :
    Calls Tryd.prog 74 #[.pointer (some ⟨bm, 0, none⟩), .int .i64 (b : Int), .int .i64 (k : Int), .bool v] w fun e w' => e = .returned (.int .i64 5) ∧ w = w' := by
  have hp := h.ptr
  have hl := h.le
  have hk : 1 ≤ k := by omega
  have H := Lib.hid h
  have HU := Lib.hid hu
  clear h hu
  go_enter Tryd.func74, Tryd.ntmps74
  go_wp2
  go_loop [9] (fun i => ∃ j : Nat, j ≤ x ∧ i = .int .i64 ((b + j : Nat) : Int)) (fun i => b + k - (intOf i).toNat)
  case atStart => exact ⟨0, Nat.zero_le _, rfl⟩
  case round =>
    obtain ⟨j, hj, rfl⟩ := hrel
    have hm := H.out.mark (i := b + j) (by omega)
    by_cases hv : us (b + j) = v
    · rw [hv] at hm
      have hv2 : (v == v) = true := by cases v <;> rfl
      have hc : ((b + j : Nat) : Int) < b + k := by omega
      have hc2 : b + j < n := by omega
      clear hv
      generalize b + j = c at *
      go_wp2
      go_ret
      exact ⟨rfl, rfl⟩
    · have hne : ¬ j = x := fun e => hv (by rw [e]; exact HU.out)
      have hv2 : (us (b + j) == v) = false := by
        cases h1 : us (b + j) <;> cases v <;> simp_all
      clear hv
      have hc : ((b + j : Nat) : Int) < b + k := by omega
      have hc2 : b + j < n := by omega
      have hc3 : ((b + j : Nat) : Int) + 1 = ((b + (j + 1) : Nat) : Int) := by omega
      have HE := Lib.hid hc3
      clear hc3
      generalize hbj : b + j = c at *
      have HB := Lib.hid hbj
      clear hbj
      go_wp2
      go_round
      case rel => exact ⟨j + 1, by omega, by rw [← HE.out]⟩
      case measure => simp [intOf]; omega
set_option maxHeartbeats 2000000 in
theorem turn_ok (b k : Nat) (v : Bool) (h : Pg 107 w bm bp n us) (hk : 1 ≤ k) (hb : b + k ≤ n) (hall : ∀ i, i < k → us (b + i) = !v) :
    Calls Tryd.prog 74 #[.pointer (some ⟨bm, 0, none⟩), .int .i64 (b : Int), .int .i64 (k : Int), .bool v] w fun e w' =>
      e = .returned (.int .i64 0) ∧ Pg 107 w' bm bp n (fil us b k v) ∧ Cha (· = bp) w w' := by
  have hp := h.ptr
  have hl := h.le
  have F := Lib.hid (set_any b k v h hb)
  have H := Lib.hid h
  have HA := Lib.hid hall
  clear h hall
  go_enter Tryd.func74, Tryd.ntmps74
  go_wp2
  go_loop [9] (fun i => ∃ j : Nat, j ≤ k ∧ i = .int .i64 ((b + j : Nat) : Int)) (fun i => b + k - (intOf i).toNat)
  case atStart => exact ⟨0, Nat.zero_le _, rfl⟩
  case round =>
    obtain ⟨j, hj, rfl⟩ := hrel
    by_cases hlt : j < k
    · have hm := H.out.mark (i := b + j) (by omega)
      rw [HA.out j hlt] at hm
      have hv2 : ((!v) == v) = false := by cases v <;> rfl
      have hc : ((b + j : Nat) : Int) < b + k := by omega
      have hc2 : b + j < n := by omega
      have hc3 : ((b + j : Nat) : Int) + 1 = ((b + (j + 1) : Nat) : Int) := by omega
      have HE := Lib.hid hc3
      clear hc3
      generalize hbj : b + j = c at *
      have HB := Lib.hid hbj
      clear hbj
      go_wp2
      go_round
      case rel => exact ⟨j + 1, by omega, by rw [← HE.out]⟩
      case measure => simp [intOf]; have := HB.out; omega
    · obtain rfl : j = k := by omega
      go_wp2_with (go_at_call 81; ((with_reducible refine (F.out).mono ?_); rintro e w1 ⟨rfl, hm, hc⟩; have HM := Lib.hid hm; have HC := Lib.hid hc; clear hm hc))
      go_ret
      exact ⟨rfl, HM.out, HC.out⟩
theorem turn_any {b k r : Int} {v : Bool} {us' : Nat → Bool} (c : Chn n us b k v r us') (hk : k ≤ 9223372036854775807) (h : Pg 107 w bm bp n us) :
    Calls Tryd.prog 74 #[.pointer (some ⟨bm, 0, none⟩), .int .i64 b, .int .i64 k, .bool v] w fun e w' =>
      e = .returned (.int .i64 r) ∧ Pg 107 w' bm bp n us' ∧ Cha (· = bp) w w' := by
  cases c with
  | arg hx => exact (turn_arg b k v h hk hx).mono fun _ _ ⟨he, hw⟩ => ⟨he, hw ▸ h, hw ▸ Cha.refl _ _⟩
  | state b' k' x h1 h2 h3 h4 h5 =>
    subst h1; subst h2
    exact (turn_state b' k' v h h3 x h4 h5).mono fun _ _ ⟨he, hw⟩ => ⟨he, hw ▸ h, hw ▸ Cha.refl _ _⟩
  | ok b' k' h1 h2 h3 h4 h5 =>
    subst h1; subst h2
    exact turn_ok b' k' v h h3 h4 h5

set_option maxHeartbeats 1000000 in
/-- How many free pages follow one another from a on. -/
theorem run_any (a K : Nat) (h : Pg 107 w bm bp n us) (hf : FR (isU us n) a K) (ha : a + K ≤ n) : Calls Tryd.prog 65 #[.pointer (some ⟨bm, 0, none⟩), .int .i64 (a : Int)] w fun e w' => e = .returned (.int .i64 (K : Int)) ∧ w = w' := by
  have hp := h.ptr
  have hl := h.le
  have H := Lib.hid h
  have HF := Lib.hid hf
  clear h hf
  go_enter Tryd.func65, Tryd.ntmps65
  go_wp2
  go_loop [5] (fun i => ∃ j : Nat, j ≤ K ∧ i = .int .i64 (j : Int)) (fun i => K - (intOf i).toNat)
  case atStart => exact ⟨0, Nat.zero_le _, rfl⟩
  case round =>
    obtain ⟨j, hj, rfl⟩ := hrel
    by_cases hlt : j < K
    · have hu := (isU_false.1 (HF.out.1 j hlt)).2
      have hm := H.out.mark (i := a + j) (by omega)
      rw [hu] at hm
      clear hu
      go_wp2
      go_round
      case rel => exact ⟨j + 1, by omega, by go_num⟩
      case measure => simp [intOf]; omega
    · obtain rfl : j = K := by omega
      by_cases he : a + j < n
      · have hu := HF.out.2
        rw [isU_lt he] at hu
        have hm := H.out.mark (i := a + j) he
        rw [hu] at hm
        clear hu
        go_wp2
        go_ret
        exact ⟨rfl, rfl⟩
      · have he2 : (n : Int) ≤ a + j := by omega
        go_wp2
        go_ret
        exact ⟨rfl, rfl⟩
end Go.Proofs.YtiboobaggpghjaaDoor
