/- Rows of pages' states in memory; the program's row, count and fill. -/
import Derived.Test.YtlpgfdphoiideaaSA
import Derived.Test.YtlpgfdphoiideaaLB
namespace Go.Proofs.Ytlpgfdphoiideaa
open Go.ChangeShapes Go.WideShapes Go.ChangeAt Go.RowKit
theorem row_lt' {w : World} {b : Nat} {cs : Array Value} {t : TypeId} (h : w.heap[b]? = some (.cells cs t (0, 0))) : b < w.heap.size := by
  by_cases hl : b < w.heap.size
  · exact hl
  · rw [Array.getElem?_eq_none (by omega)] at h; cases h
/-- A map of n pages at bs, their states at bp: the struct's type, the states'. -/
structure Sv (ts te : TypeId) (w : World) (bs bp n : Nat) (st : Nat → Int) : Prop where
  head : w.heap[bs]? = some (.cells #[.slice (some ⟨bp, 0, none⟩) n n] ts (0, 0))
  row : FRow te w bp n (fun i => .int .i64 (st i))
  ne : bs ≠ bp
  n1 : 1 ≤ n
  n2 : n ≤ 4096
section
variable {ts te : TypeId} {w w' : World} {bs bp n : Nat} {st st' : Nat → Int}
theorem Sv.lt (h : Sv ts te w bs bp n st) : bs < w.heap.size := row_lt' h.head
theorem Sv.same (h : Sv ts te w bs bp n st) (c : Cha (fun _ => False) w w') : Sv ts te w' bs bp n st :=
  ⟨(c.old _ h.lt (fun x => x)).trans h.head, c.row h.row (fun x => x), h.ne, h.n1, h.n2⟩
theorem Sv.other {S : Nat → Prop} (h : Sv ts te w bs bp n st) (c : Cha S w w') (k1 : ¬ S bs) (k2 : ¬ S bp) : Sv ts te w' bs bp n st :=
  ⟨(c.old _ h.lt k1).trans h.head, c.row h.row k2, h.ne, h.n1, h.n2⟩
theorem Sv.congr (h : Sv ts te w bs bp n st) (e : ∀ i, i < n → st i = st' i) : Sv ts te w bs bp n st' :=
  ⟨h.head, h.row.congr fun i hi => by rw [e i hi], h.ne, h.n1, h.n2⟩
theorem Sv.cell (h : Sv ts te w bs bp n st) : w.cell? ⟨bs, 0, none⟩ = some (.slice (some ⟨bp, 0, none⟩) n n) := cell_of_row w bs 0 _ ts (0, 0) h.head
theorem Sv.at (h : Sv ts te w bs bp n st) {i : Nat} (hi : i < n) : w.cell? ⟨bp, i, none⟩ = some (.int .i64 (st i)) := h.row.cell hi
/-- The row is written. -/
theorem Sv.put (h : Sv ts te w bs bp n st) (c : Cha (· = bp) w w') (k : FRow te w' bp n (fun i => .int .i64 (st' i))) : Sv ts te w' bs bp n st' :=
  ⟨(c.old _ h.lt h.ne).trans h.head, k, h.ne, h.n1, h.n2⟩

set_option maxHeartbeats 4000000 in
theorem count_any {n o m c : Nat} {x : Int} (h : FRow 85 w bp n (fun i => .int .i64 (st i))) (hm : o + m ≤ n) (hn : n ≤ 4096) :
    Calls Try.prog 53 #[.slice (some ⟨bp, o, none⟩) m c, .int .i64 x] w fun e w' => e = .returned (.int .i64 (cn st x o m : Nat)) ∧ Cha (fun _ => False) w w' := by
  have H := Lib.hid h
  have H0 := Lib.hid (Cha.refl (fun _ => False) w)
  have hle : Hid (∀ j, cn st x o j ≤ j) := Lib.hid (cn_le st x o)
  clear h
  go_enter Try.func53, Try.ntmps53
  go_wp2
  go_loopw [5, 10] (fun v i wr => ∃ j : Nat, j ≤ m ∧ i = .int .i64 (j : Int) ∧ v = .int .i64 (cn st x o j : Nat) ∧ Cha (fun _ => False) w wr) (fun _ i _ => m - (intOf i).toNat)
  case atStart => exact ⟨0, Nat.zero_le _, rfl, rfl, H0.out⟩
  case round =>
    obtain ⟨j, hj, rfl, rfl, hC⟩ := hrel
    by_cases hlt : j < m
    · have hc := ((hC.row H.out (fun x => x)).cell (i := o + j) (by omega))
      have HC := Lib.hid hC
      have hw := hle.out j
      obtain ⟨y, hy⟩ : ∃ y, cn st x o (j + 1) = y := ⟨_, rfl⟩
      have hy2 : cn st x o (j + 1) = cn st x o j + if st (o + j) = x then 1 else 0 := rfl
      obtain ⟨v, hv⟩ : ∃ v, st (o + j) = v := ⟨_, rfl⟩
      rw [hv] at hc hy2
      have HY := Lib.hid hy
      rw [hy] at hy2
      clear hC hv hy
      generalize cn st x o j = q at *
      by_cases he : v = x
      · have he1 : (v == x) = true := by simpa using he
        rw [if_pos he] at hy2
        subst hy2
        clear he
        go_wp2
        go_roundw
        case rel => exact ⟨j + 1, hlt, rfl, by rw [HY.out]; rfl, HC.out⟩
        case measure => simp [intOf]; omega
      · have he1 : (v == x) = false := by simpa using he
        rw [if_neg he] at hy2
        rw [Nat.add_zero] at hy2
        subst hy2
        clear he
        go_wp2
        go_roundw
        case rel => exact ⟨j + 1, hlt, rfl, by rw [HY.out], HC.out⟩
        case measure => simp [intOf]; omega
    · obtain rfl : j = m := by omega
      have HC := Lib.hid hC
      clear hC
      go_wp2
      go_returns
      exact ⟨rfl, HC.out⟩
set_option maxHeartbeats 4000000 in
theorem fill_any {n o m c : Nat} {x : Int} (h : FRow 85 w bp n (fun i => .int .i64 (st i))) (hm : o + m ≤ n) (hn : n ≤ 4096) :
    Calls Try.prog 54 #[.slice (some ⟨bp, o, none⟩) m c, .int .i64 x] w fun e w' => e = .returned (.tuple #[]) ∧ FRow 85 w' bp n (fun i => .int .i64 (fil st o m x i)) ∧ Cha (· = bp) w w' := by
  have H : Hid (FRow 85 w bp n (fun i => .int .i64 (fil st o 0 x i))) := Lib.hid (by rw [fil_zero]; exact h)
  have H0 := Lib.hid (Cha.refl (· = bp) w)
  clear h
  go_enter Try.func54, Try.ntmps54
  go_wp2
  go_loopw [7] (fun i wr => ∃ j : Nat, j ≤ m ∧ i = .int .i64 (j : Int) ∧ FRow 85 wr bp n (fun i => .int .i64 (fil st o j x i)) ∧ Cha (· = bp) w wr) (fun i _ => m - (intOf i).toNat)
  case atStart => exact ⟨0, Nat.zero_le _, rfl, H.out, H0.out⟩
  case round =>
    obtain ⟨j, hj, rfl, hF, hC⟩ := hrel
    have HC := Lib.hid hC
    by_cases hlt : j < m
    · have hc := hF.cell (i := o + j) (by omega)
      have hf := hF.free (o + j)
      have HN := Lib.hid (hF.set (i := o + j) (.int .i64 x))
      clear hF hC
      go_wp2
      go_roundw
      case rel => exact ⟨j + 1, hlt, rfl, HN.out.congr fun i hi => by rw [← fil_succ]; by_cases e : i = o + j <;> simp [e], HC.out.setCell (p := ⟨bp, o + j, none⟩) (fun _ => rfl) _⟩
      case measure => simp [intOf]; omega
    · obtain rfl : j = m := by omega
      have HF := Lib.hid hF
      clear hF hC
      go_wp2
      go_returns
      exact ⟨rfl, HF.out, HC.out⟩
end
end Go.Proofs.Ytlpgfdphoiideaa
