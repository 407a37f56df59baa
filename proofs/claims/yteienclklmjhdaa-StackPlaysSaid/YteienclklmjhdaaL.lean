/- Contracts of stack: what move needs: make, copy, makeMap. -/
import Derived.Test.YteienclklmjhdaaK
namespace Go.Proofs.Yteienclklmjhdaa
open Go.ChangeShapes Go.WideShapes Go.ChangeAt Go.RowKit

theorem info28 : (Try.prog.info? 28).map (fun i => (i.zero, i.size, i.bytes)) = some (some (.int .u64 0), 1, 8) := by kernel_rfl
theorem size28 : (Try.prog.info? 28).map (·.size) = some 1 := by kernel_rfl
theorem made_zero (m : Nat) : madeCells (Value.int .u64 0).cells (m * 1) = fcells m (fun _ => .int .u64 0) := by
  rw [Nat.mul_one]
  unfold madeCells fcells
  congr 1
  funext x
  show (#[Value.int .u64 0])[x % 1]! = _
  rw [Nat.mod_one]
  rfl
theorem mk (m : Nat) (hm : m ≤ 1000000) (W : World) : (Instr.makeSlice 50 (.int .i64 (m : Int)) (.int .i64 (m : Int))).run Try.prog W = .ok (.slice (some ⟨W.heap.size, 0, none⟩) m m) (W.alloc (.cells (fcells m (fun _ => .int .u64 0)) 28)) := by
  obtain ⟨i, hi, hz, hs, hb⟩ := info_parts info28
  have h := run_make (P := Try.prog) W 50 28 i _ Try.underlying50 hi hz .i64 .i64 (m : Int) (m : Int) (by omega) (by omega) (by rw [hb]; omega) (by omega)
  rw [hs, Int.toNat_natCast, made_zero] at h
  exact h
theorem row_new (w : World) (m : Nat) (r : Nat → Value) : FRow 28 (w.alloc (.cells (fcells m r) 28)) w.heap.size m r := heap_alloc_new w _
theorem mkMap (x : Int) (W : World) : (Instr.makeMap 55 (some (.int .i64 x))).run Try.prog W = .ok (.map (some W.heap.size)) (W.alloc (.map #[] 0)) := by
  simp [Instr.makeMap, run_underlying Try.underlying55, asInt, asIntOf]

theorem spliced {k off u : Nat} (r f : Nat → Value) (hf : off + u ≤ k) : ((fcells k r).toList.take off ++ ((List.range u).map f ++ (fcells k r).toList.drop (off + u))).toArray = fcells k (fun i => if off ≤ i ∧ i < off + u then f (i - off) else r i) := by
  have hL : (fcells k r).toList.length = k := by simp [fcells]
  have hg : ∀ i, (fcells k r).toList[i]? = if i < k then some (r i) else none := fun i => by rw [Array.getElem?_toList, get_fcells]
  apply Array.ext_getElem?
  intro i
  rw [get_fcells, List.getElem?_toArray]
  by_cases c1 : i < off
  · rw [List.getElem?_append_left (by rw [List.length_take, hL]; omega), List.getElem?_take_of_lt c1, hg, if_pos (show i < k by omega), if_pos (show i < k by omega), if_neg (by omega)]
  · rw [List.getElem?_append_right (by rw [List.length_take, hL]; omega), List.length_take, hL, Nat.min_eq_left (by omega)]
    by_cases c2 : i < off + u
    · rw [List.getElem?_append_left (by simp; omega), List.getElem?_map, List.getElem?_range (by omega), if_pos (by omega), if_pos (by omega)]
      rfl
    · rw [List.getElem?_append_right (by simp; omega), List.getElem?_drop, hg]
      simp only [List.length_map, List.length_range]
      rw [show off + u + (i - off - u) = i by omega]
      split
      · rw [if_neg (by omega)]
      · rfl

/-- s[q:] of a slice that fills its block. -/
theorem run_from (b n q : Nat) (hq : q ≤ n) : ∃ p : Option Addr, (q < n → p = some ⟨b, q, none⟩) ∧ ∀ w, (Instr.slice 50 (.slice (some ⟨b, 0, none⟩) n n) (some (.int .i64 (q : Int))) none none).run Try.prog w = .ok (.slice p (n - q) (n - q)) w := by
  refine ⟨if n = q then some ⟨b, 0, none⟩ else (some (⟨b, 0, none⟩ : Addr)).map (·.add (q * 1)), fun hp => ?_, fun w => ?_⟩
  · rw [if_neg (by omega)]
    simp [Addr.add]; omega
  · have h := run_slice_l (P := Try.prog) w 50 (some ⟨b, 0, none⟩) n n Try.underlying50 .i64 (q : Int) (by omega) (by omega)
    rw [h]
    rfl
/-- copy from one row to another. -/
theorem run_copyR {w : World} (ty : TypeId) (dp sp : Option Addr) (dl dc sl sc : Nat) (g off k b so n : Nat) (r r0 : Nat → Value) (hg : FRow 28 w g k r) (hb : FRow 28 w b n r0) (u : Nat) (hl : Nat.min sl dl = u)
    (hpos : 0 < u → dp = some ⟨g, off, none⟩ ∧ sp = some ⟨b, so, none⟩) (hf : off + u ≤ k) (hf2 : so + u ≤ n) (h1 : ∀ i, i < u → (r0 (so + i)).oneCell' = true) :
    ∃ w', (Builtin.copy_ #[50, 50] ty #[.slice dp dl dc, .slice sp sl sc]).run Try.prog w = .ok (goInt u) w' ∧ FRow 28 w' g k (fun i => if off ≤ i ∧ i < off + u then r0 (so + (i - off)) else r i) ∧ Cha (fun i => i = g) w w' := by
  by_cases h0 : u = 0
  · have hrun := run_copy_none (P := Try.prog) w 50 50 ty 28 dp sp dl dc sl sc Try.underlying50 size28 (by omega)
    subst h0
    exact ⟨w, hrun, hg.congr fun i _ => by rw [if_neg (by omega)], Cha.refl _ _⟩
  · obtain ⟨rfl, rfl⟩ := hpos (by omega)
    have hrun := run_copy_row (P := Try.prog) w 50 50 ty 28 g off dl dc ⟨b, so, none⟩ sl sc (fcells k r) 28 ((List.range u).map fun i => r0 (so + i)) Try.underlying50 size28 hg (by simp [hl])
      (fun j v hj => by
        simp only [List.getElem?_map] at hj
        by_cases c : j < u
        · have ea : (⟨b, so, none⟩ : Addr).add j = ⟨b, so + j, none⟩ := by unfold Addr.add; split <;> simp_all
          rw [List.getElem?_range c] at hj
          rw [ea, hb.cell (by omega)]
          exact hj
        · rw [List.getElem?_eq_none (by simp; omega)] at hj; cases hj)
      (by simp [size_fcells]; omega) (fun v hv => by
        obtain ⟨i, hi, rfl⟩ := List.mem_map.1 hv
        exact h1 i (List.mem_range.1 hi))
    simp only [List.length_map, List.length_range] at hrun
    refine ⟨_, hrun, ?_, ?_⟩
    · unfold FRow
      rw [setRow_heap w g _ _ 28 _ hg, List.append_assoc, spliced r _ hf]
    · exact ⟨rfl, rfl, by simp [World.setRow], fun i _ hi => setRow_other w g i _ hi⟩
theorem wpList_copyR {ops : Array Oper} {rest : List Oper} {o : Oper} {a : Act} {w : World} {Q : Exit → Act → World → Prop} (hgd : o.guard = none) (d s : Operand)
    (ho : o.op = .call { callee := .builtin .copy, args := #[d, s], argTypes := #[50, 50] }) (dp sp : Option Addr) (dl dc sl sc : Nat) (hd : a.eval d = .slice dp dl dc) (hs : a.eval s = .slice sp sl sc)
    (g off k b so n : Nat) (r r0 : Nat → Value) (hg : FRow 28 w g k r) (hb : FRow 28 w b n r0) (u : Nat) (hl : Nat.min sl dl = u) (hpos : 0 < u → dp = some ⟨g, off, none⟩ ∧ sp = some ⟨b, so, none⟩) (hf : off + u ≤ k) (hf2 : so + u ≤ n)
    (h1 : ∀ i, i < u → (r0 (so + i)).oneCell' = true)
    (h : ∀ w', FRow 28 w' g k (fun i => if off ≤ i ∧ i < off + u then r0 (so + (i - off)) else r i) → Cha (fun i => i = g) w w' → wpList Try.prog ops Q rest (a.put o.dst (goInt u)) w') :
    wpList Try.prog ops Q (o :: rest) a w := by
  refine wpList_plain hgd fun K hK => ?_
  obtain ⟨w', hrun, k1, k2⟩ := run_copyR o.type dp sp dl dc sl sc g off k b so n r r0 hg hb u hl hpos hf hf2 h1
  unfold Oper.wp
  simp [execOp, ho, resolve, invoke, builtin, hd, hs, hrun, Result.andThen]
  exact hK _ _ (h w' k1 k2)
end Go.Proofs.Yteienclklmjhdaa
