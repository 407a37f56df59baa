/- Timers: New, Count. -/
import Derived.Test.YtaloafihbdamiaaTC
import Derived.Handy
namespace Go.Proofs.Ytaloafihbdamiaa
open Go.ChangeShapes Go.WideShapes Go.ChangeAt Go.RowKit
variable {w w' : World} {F F' : Nat → Prop} {bt bp : Nat} {lv : Nat → Value} {P : List (List Ent)} {a x : Int} {y : Ent} {l : List Ent}

/-- How many timers there are. -/
def many (P : List (List Ent)) : Nat := (P.map List.length).sum
theorem many_take (P : List (List Ent)) (j : Nat) (hj : j < P.length) : many (P.take (j + 1)) = many (P.take j) + (P.getD j []).length := by
  unfold many
  rw [List.take_add_one, List.getElem?_eq_getElem hj, List.map_append, List.sum_append]
  simp [List.getD, List.getElem?_eq_getElem hj]
theorem many_le (P : List (List Ent)) (j : Nat) : many (P.take j) ≤ many P := by
  have h : many P = many (P.take j) + many (P.drop j) := by
    unfold many
    rw [← List.sum_append, ← List.map_append, List.take_append_drop]
  omega
theorem tcount_none (w : World) : Calls Try.prog 35 #[.pointer none] w fun e w' => e = .returned (.int .i64 0) ∧ w = w' := by
  go_enter Try.func35, Try.ntmps35
  go_wp2
  go_ret
  exact ⟨rfl, rfl⟩
set_option maxRecDepth 100000 in
theorem tcount_any (h : Ts w F bt bp lv P a) (hm : many P ≤ 1024) : Calls Try.prog 35 #[.pointer (some ⟨bt, 0, none⟩)] w fun e w' => e = .returned (.int .i64 (many P : Int)) ∧ ∃ k, w' = w.drewN k := by
  have c0 := h.ptr
  have h8 := h.k8
  have H := Lib.hid h
  clear h
  obtain ⟨n, hn⟩ : ∃ n, n = P.length := ⟨_, rfl⟩
  have HN := Lib.hid hn
  rw [← hn] at c0 h8
  clear hn
  go_enter Try.func35, Try.ntmps35
  go_wp2
  go_loopw [3, 5, 13] (fun sx _ ix wr => ∃ j : Nat, j ≤ n ∧ sx = .int .i64 (many (P.take j) : Int) ∧ ix = .int .i64 (j : Int) ∧ ∃ k, wr = w.drewN k) (fun _ _ ix _ => n - (intOf ix).toNat)
  case atStart => exact ⟨0, Nat.zero_le _, by simp [many], rfl, 0, rfl⟩
  case round =>
    obtain ⟨j, hj, rfl, rfl, k, rfl⟩ := hrel
    by_cases hlt : j < n
    · have hp : P[j]? = some (P.getD j []) := by rw [HN.out] at hlt; simp [List.getD, List.getElem?_eq_getElem hlt]
      obtain ⟨s, cap, hv⟩ := (H.out.lst j _ hp).form
      have c1 : (w.drewN k).cell? ⟨bp, j, none⟩ = some (lv j) := H.out.tab.cell (i := j) (by rw [← HN.out]; exact hlt)
      rw [hv] at c1
      have HS := many_take P j (by rw [← HN.out]; exact hlt)
      have HL := many_le P (j + 1)
      obtain ⟨q, hq⟩ : ∃ q, q = (P.getD j []).length := ⟨_, rfl⟩
      obtain ⟨s0, hs0⟩ : ∃ s0, s0 = many (P.take j) := ⟨_, rfl⟩
      rw [← hq] at c1 HS
      rw [← hs0] at HS ⊢
      rw [HS] at HL
      have HSS := Lib.hid HS
      have h1 : IntKind.i64.wrap ((s0 : Int) + (q : Int)) = (s0 : Int) + q := IntWalk.i64_in _ (by omega)
      have k1 : (j : Int) < (n : Int) := by omega
      have k2 : (0 : Int) ≤ (j : Int) := by omega
      clear HS HL hv hp hq hs0
      go_wp2
      go_roundw
      case rel => exact ⟨j + 1, by omega, by rw [HSS.out]; go_num, by go_num, k, rfl⟩
      case measure => simp [intOf]; omega
    · obtain rfl : j = n := by omega
      have HT : Hid (many (P.take j) = many P) := Lib.hid (by rw [HN.out, List.take_length])
      go_wp2
      go_ret
      exact ⟨by rw [HT.out]; rfl, k, rfl⟩
theorem tnew_bad (n : Int) (w : World) (h : n < 1 ∨ 8 < n) : Calls Try.prog 25 #[.int .i64 n] w fun e w' => e = .returned (.tuple #[.pointer none, .int .i64 1]) ∧ w = w' := by
  by_cases h1 : n < 1
  · have h2 : decide (n < 1) = true := by simpa using h1
    clear h
    go_enter Try.func25, Try.ntmps25
    go_wp2
    go_returns
    exact ⟨rfl, rfl⟩
  · have h2 : decide (n < 1) = false := by simpa using h1
    have h3 : decide (8 < n) = true := by simp; omega
    have h4 : 8 < n := by omega
    clear h
    go_enter Try.func25, Try.ntmps25
    go_wp2
    go_returns
    exact ⟨rfl, rfl⟩
theorem info92 : (Try.prog.info? 95).map (fun i => (i.zero, i.size, i.bytes)) = some (some (.slice none 0 0), 1, 24) := by kernel_rfl
theorem made_lists (m : Nat) : madeCells (Value.slice none 0 0).cells (m * 1) = fcells m (fun _ => .slice none 0 0) := by
  rw [Nat.mul_one]
  unfold madeCells fcells
  congr 1
  funext x
  show (#[Value.slice none 0 0])[x % 1]! = _
  rw [Nat.mod_one]
  rfl
theorem mk_tabs (m : Nat) (hm : m ≤ 1000000) (W : World) : (Instr.makeSlice 86 (.int .i64 (m : Int)) (.int .i64 (m : Int))).run Try.prog W = .ok (.slice (some ⟨W.heap.size, 0, none⟩) m m) (W.alloc (.cells (fcells m (fun _ => .slice none 0 0)) 95)) := by
  obtain ⟨i, hi, hz, hs, hb⟩ := info_parts info92
  have h := run_make (P := Try.prog) W 86 95 i _ Try.underlying86 hi hz .i64 .i64 (m : Int) (m : Int) (by omega) (by omega) (by rw [hb]; omega) (by omega)
  rw [hs, Int.toNat_natCast, made_lists] at h
  exact h
/-- Timers that were just made. -/
def TFresh (n : Nat) (w w' : World) : Prop := Ts w' (fun i => i = w.heap.size + 1 ∨ i = w.heap.size) (w.heap.size + 1) w.heap.size (fun _ => .slice none 0 0) (List.replicate n []) 0 ∧ Cha (fun _ => False) w w'
theorem tnew_ok (n : Nat) (w : World) (h1 : 1 ≤ n) (h2 : n ≤ 8) : Calls Try.prog 25 #[.int .i64 (n : Int)] w fun e w' => e = .returned (.tuple #[.pointer (some ⟨w.heap.size + 1, 0, none⟩), .int .i64 0]) ∧ TFresh n w w' := by
  have hmk := mk_tabs n (by omega)
  have I0 : Hid (((w.alloc (.cells (fcells n (fun _ => .slice none 0 0)) 95)).alloc (.cells #[.slice (some ⟨w.heap.size, 0, none⟩) n n, .int .u64 0] 88)).heap[w.heap.size]? = some (.cells (fcells n (fun _ => .slice none 0 0)) 95 (0, 0))) := Lib.hid (heap_alloc2_old w _ _)
  have I1 : Hid (((w.alloc (.cells (fcells n (fun _ => .slice none 0 0)) 95)).alloc (.cells #[.slice (some ⟨w.heap.size, 0, none⟩) n n, .int .u64 0] 88)).heap[w.heap.size + 1]? = some (.cells #[.slice (some ⟨w.heap.size, 0, none⟩) n n, .int .u64 0] 88 (0, 0))) := Lib.hid (heap_alloc2_new w _ _)
  have I2 : Hid (Cha (fun _ => False) w ((w.alloc (.cells (fcells n (fun _ => .slice none 0 0)) 95)).alloc (.cells #[.slice (some ⟨w.heap.size, 0, none⟩) n n, .int .u64 0] 88))) := Lib.hid (((Cha.refl _ w).alloc _).alloc _)
  have key : ∀ W', W'.heap[w.heap.size]? = some (.cells (fcells n (fun _ => .slice none 0 0)) 95 (0, 0)) → W'.heap[w.heap.size + 1]? = some (.cells #[.slice (some ⟨w.heap.size, 0, none⟩) n n, .int .u64 0] 88 (0, 0)) → Cha (fun _ => False) w W' → TFresh n w W' := fun W' k0 k1 k2 => by
    refine ⟨⟨by rw [List.length_replicate]; exact k1, by simpa using h1, by simpa using h2, by rw [List.length_replicate]; exact k0, fun p L hL => ?_, by omega, .inl rfl, .inr rfl, (fun p g _ hg => by cases hg), (fun p q g _ _ _ hg => by cases hg), fun i hi => ?_⟩, k2⟩
    · rw [List.getElem?_replicate] at hL
      split at hL
      · obtain rfl := Option.some.inj hL
        exact World.ownsRow_nil _ _ 93 3
      · cases hL
    · have := (Array.getElem?_eq_some_iff.1 k1).1
      omega
  have KEY := Lib.hid key
  clear key
  obtain ⟨c, hc⟩ : ∃ c, c = fcells n (fun _ => .slice none 0 0) := ⟨_, rfl⟩
  rw [← hc] at I0 I1 I2 hmk KEY
  clear hc
  go_enter Try.func25, Try.ntmps25
  go_wp2
  go_returns
  exact ⟨rfl, KEY.out _ I0.out I1.out I2.out⟩
end Go.Proofs.Ytaloafihbdamiaa
