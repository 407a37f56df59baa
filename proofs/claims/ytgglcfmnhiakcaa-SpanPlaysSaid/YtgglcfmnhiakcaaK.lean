/- The document's Same; the statements' runs. -/
import Derived.Test.YtgglcfmnhiakcaaJ
import Derived.Test.YtgglcfmnhiakcaaH
import Derived.Deep.QuietTactic
import Derived.ChangeKeysEq
namespace Go.Proofs.Ytgglcfmnhiakcaa
open Go.ChangeShapes Go.WideShapes Go.ChangeAt Go.RowKit Go.Shelf

theorem info3 : (Try.prog.info? 3).map (fun i => (i.zero, i.size, i.bytes)) = some (some (.int .i64 0), 1, 8) := by kernel_rfl
theorem cells3 : Try.prog.cellsOf 3 = 1 := by kernel_rfl
theorem plain3 : Try.prog.plainKey 3 = true := by kernel_rfl
theorem eq55 (w : World) (a b c d : Int) : (Op.equalIn 10000 55 (.agg #[.int .i64 a, .int .i64 b]) (.agg #[.int .i64 c, .int .i64 d])).run Try.prog w = .ok (a == c && b == d) w := by
  obtain ⟨i, hi, _, hs, _⟩ := info_parts info3
  have h3 : ∀ (d : Nat) (x y : Int), (Op.equalIn (d + 1) 3 (.int .i64 x) (.int .i64 y)).run Try.prog w = .ok (x == y) w := fun d x y => run_equalIn_int w d 3 .i64 .i64 x y Try.underlying3
  have p1 : (part 3 #[.int .i64 a, .int .i64 b] (0 * 1)).run Try.prog w = .ok (.int .i64 a) w := run_part_plain w plain3 rfl
  have p2 : (part 3 #[.int .i64 c, .int .i64 d] (0 * 1)).run Try.prog w = .ok (.int .i64 c) w := run_part_plain w plain3 rfl
  have p3 : (part 3 #[.int .i64 a, .int .i64 b] (1 * 1)).run Try.prog w = .ok (.int .i64 b) w := run_part_plain w plain3 rfl
  have p4 : (part 3 #[.int .i64 c, .int .i64 d] (1 * 1)).run Try.prog w = .ok (.int .i64 d) w := run_part_plain w plain3 rfl
  rw [show (10000 : Nat) = 9998 + 1 + 1 from rfl, run_equalIn_array w (9998 + 1) _ _ Try.underlying55 hi, cells3]
  show (Op.eqItems (9998 + 1) 3 1 _ _ [0, 1]).run _ _ = _
  simp only [Op.eqItems, Sem.run_bind, p1, p2, Result.andThen_ok, h3]
  cases hx : a == c <;> cases hy : b == d <;> simp only [Bool.not_false, Bool.not_true, if_true, Bool.false_eq_true, if_false, Sem.run_bind, Sem.run_pure, p3, p4, Result.andThen_ok, h3, hy, Bool.and_self, Bool.and_true, Bool.and_false]
theorem Pairs.drewN {W : World} {v : Value} {l : List (Nat × Nat)} (h : Pairs W v l) (k : Nat) : Pairs (W.drewN k) v l := h
set_option maxHeartbeats 2000000 in
theorem same_any {w : World} {v u : Value} {l : List (Nat × Nat)} (hlen : l.length ≤ 5000) (h1 : Pairs w v l) (h2 : Pairs w u l) : Calls Try.prog 23 #[v, u] w fun e w' => e = .returned (.bool true) ∧ Cha (fun _ => False) w w' := by
  obtain ⟨a, c, rfl, hz⟩ := h1
  obtain ⟨b, d, rfl, hy⟩ := h2
  have HZ := Lib.hid hz
  have HY := Lib.hid hy
  clear hz hy
  have HL : Hid (∀ i, i < l.length → ∃ x : Nat × Nat, l[i]? = some x) := Lib.hid fun i hi => ⟨l[i], List.getElem?_eq_getElem hi⟩
  generalize hn : l.length = n at *
  have HN := Lib.hid hn
  clear hn
  go_enter Try.func23, Try.ntmps23
  go_wp2
  go_loopw [5] (fun i wr => ∃ j k : Nat, j ≤ n ∧ i = .int .i64 (j : Int) ∧ wr = w.drewN k) (fun i _ => n - (intOf i).toNat)
  case atStart => exact ⟨0, 0, Nat.zero_le _, rfl, rfl⟩
  case round =>
    obtain ⟨j, k, hj, rfl, rfl⟩ := hrel
    by_cases hlt : j < n
    · obtain ⟨g, rfl, hg⟩ := HZ.out (by omega)
      obtain ⟨g', rfl, hg'⟩ := HY.out (by omega)
      obtain ⟨x, hx⟩ := HL.out j hlt
      obtain ⟨p1, p2⟩ := hg j x hx
      obtain ⟨q1, q2⟩ := hg' j x hx
      have E := fun W => eq55 W x.1 x.2 x.1 x.2
      simp only [beq_self_eq_true, Bool.and_self] at E
      clear hg hg' hx
      go_wp2
      go_quiet (fail)
      go_wp2
      go_roundw
      case rel => exact ⟨j + 1, _, by omega, by go_num, rfl⟩
      case measure => simp [intOf]; omega
    · obtain rfl : j = n := by omega
      go_wp2
      go_ret
      exact ⟨rfl, (Cha.refl _ w).drewN k⟩
end Go.Proofs.Ytgglcfmnhiakcaa
