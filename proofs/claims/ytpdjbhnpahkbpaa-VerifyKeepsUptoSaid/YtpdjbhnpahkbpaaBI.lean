/- How great a program is, by the bulk of what is read. -/
import Derived.Test.YtpdjbhnpahkbpaaBG
import Derived.Test.YtpdjbhnpahkbpaaRows
namespace Go.Proofs.Ytpdjbhnpahkbpaa
set_option linter.unusedVariables false
open Go.ChangeShapes Go.WideShapes Go.ChangeAt Go.RowKit
theorem some_bulk {H : Type} (d : DataW H) : 1 ≤ Rows.uptoBulk d := by
  cases d with
  | lit l => cases l <;> simp [Rows.uptoBulk]
  | nil => simp [Rows.uptoBulk]
  | ptr d => simp [Rows.uptoBulk]
  | slice el sp => simp [Rows.uptoBulk]
  | agg ps => simp [Rows.uptoBulk]
  | iface t d => simp [Rows.uptoBulk]
  | map es => simp [Rows.uptoBulk]
  | held h => simp [Rows.uptoBulk]
theorem sum_bulk {H α : Type} (sz : α → Nat) : ∀ (xs : List α) (ds : List (DataW H × List MemPlace)), xs.length = ds.length → (∀ (i : Nat) (x : α) (d : DataW H × List MemPlace), xs[i]? = some x → ds[i]? = some d → sz x ≤ Rows.uptoBulk d.1) → (xs.map sz).sum ≤ Rows.uptoBulkAll (ds.map (·.1))
  | [], [], _, _ => by simp
  | [], d :: ds, h, _ => by simp at h
  | x :: xs, [], h, _ => by simp at h
  | x :: xs, d :: ds, h, hf => by
    have h1 := hf 0 x d rfl rfl
    have h2 := sum_bulk sz xs ds (by simpa using h) fun i y e hy he => hf (i + 1) y e hy he
    simp only [List.map_cons, List.sum_cons, Rows.uptoBulkAll]
    omega
section
variable {H : Type} {enc : TypeId × Value → H} {W : World} {base : Nat} {spare : Nat → Bool} {held : Bool}
theorem brds_of {α : Type} (sz : α → Nat) {R : (Nat → Prop) → World → Nat → Nat → α → Prop} {t e : TypeId} {s : Nat} (ht : Try.prog.underlying t = some (.slice e)) (hc : Try.prog.cellsOf e = s) (hs0 : 0 < s)
    (h3 : ∀ (fuel : Nat) (cs : List Value) (x : DataW H × List MemPlace), DataW.trod enc Try.prog W base spare held fuel e cs = some x → cs.length = s ∧ ∃ y : α, (∀ b o, (∀ (j : Nat) (v : Value), cs[j]? = some v → W.cell? ⟨b, o + j, none⟩ = some v) → R (· < W.heap.size) W b o y) ∧ sz y ≤ Rows.uptoBulk x.1)
    {fuel : Nat} {a : Option Addr} {len c : Nat} {x : DataW H × List MemPlace}
    (h : DataW.trod enc Try.prog W base spare held fuel t (Value.slice a len c).cells.toList = some x) : ∃ xs : List α, len = xs.length ∧ RdS s R (· < W.heap.size) W (.slice a len c) xs ∧ 1 + (xs.map sz).sum ≤ Rows.uptoBulk x.1 := by
  rcases DataW.trod_slice ht h with ⟨hcs, hx⟩ | ⟨a', len', cap', elems, rest, n, _, hcs, hx, hb, hl, hm, hlen, hel, _⟩
  · simp [Value.cells] at hcs
    obtain ⟨rfl, rfl, rfl⟩ := hcs
    exact ⟨[], rfl, ⟨none, 0, rfl, by simp, fun h => by simp at h⟩, by have := some_bulk x.1; simp; omega⟩
  · simp [Value.cells] at hcs
    obtain ⟨rfl, rfl, rfl⟩ := hcs
    unfold maxLen at hm
    rw [hc] at hel
    have hbulk : 1 + Rows.uptoBulkAll (elems.map (·.1)) ≤ Rows.uptoBulk x.1 := by
      rw [hx]
      simp only [Rows.uptoBulk]
      omega
    have each : ∀ i, i < len → ∃ cs y, W.cells? base (a'.add (i * s)) s = some cs ∧ DataW.trod enc Try.prog W base spare held n e cs = some y ∧ elems[i]? = some y := fun i hi => by
      have h1 := hel i hi
      rw [List.getElem?_eq_getElem (by omega), Option.bind_eq_some_iff] at h1
      obtain ⟨cs, h2, h3⟩ := h1
      exact ⟨cs, _, h2, h3, List.getElem?_eq_getElem (by omega)⟩
    by_cases h0 : len = 0
    · subst h0
      exact ⟨[], rfl, ⟨some a', c, rfl, by simp, fun h => by simp at h⟩, by simp; omega⟩
    obtain ⟨b, o, sub⟩ := a'
    have hs : sub = none := by
      obtain ⟨cs, y, h2, k3, _⟩ := each 0 (by omega)
      have h4 := (World.cells?_some h2).2.2 0 hs0
      cases sub with
      | none => rfl
      | some q =>
        have e : ((⟨b, o, some q⟩ : Addr).add (0 * s)).add 0 = ⟨b, o, some q⟩ := by simp [Addr.add]
        rw [e] at h4
        have hcs := (h3 n cs y k3).1
        rw [List.getElem?_eq_getElem (by omega)] at h4
        unfold World.cell? at h4
        split at h4
        · simp at h4
        · cases h4
    subst hs
    have each2 : ∀ i, i < len → ∃ y : α, R (· < W.heap.size) W b (o + i * s) y ∧ b < W.heap.size ∧ ∀ d, elems[i]? = some d → sz y ≤ Rows.uptoBulk d.1 := fun i hi => by
      obtain ⟨cs, y, h2, k3, k4⟩ := each i hi
      obtain ⟨hcs, z, hz, hsz⟩ := h3 n cs y k3
      have hcell : ∀ (j : Nat) (v : Value), cs[j]? = some v → W.cell? ⟨b, o + i * s + j, none⟩ = some v := fun j v hv => by
        have hj : j < s := by
          have := (List.getElem?_eq_some_iff.1 hv).1
          omega
        have h4 := (World.cells?_some h2).2.2 j hj
        rw [Addr.add_mid, Addr.add_mid] at h4
        rw [h4]
        exact hv
      refine ⟨z, hz b _ hcell, block_lt_of_cell (hcell 0 _ (List.getElem?_eq_getElem (by omega))), fun d hd => ?_⟩
      rw [k4] at hd
      obtain rfl : y = d := by simpa using hd
      exact hsz
    obtain ⟨xs, hxl, hx'⟩ := list_of len _ each2
    refine ⟨xs, hxl.symm, ⟨some ⟨b, o, none⟩, c, by rw [hxl], by omega, fun _ => ⟨b, o, rfl, ?_, ?_, fun i x hi => (hx' i x hi).1⟩⟩, ?_⟩
    · obtain ⟨_, _, h, _⟩ := each2 0 (by omega)
      exact h
    · obtain ⟨_, _, h, _⟩ := each2 0 (by omega)
      exact h
    · have := sum_bulk sz xs elems (by omega) fun i y d hy hd => (hx' i y hy).2.2 d hd
      omega
theorem bint_elem {e : TypeId} (he : Try.prog.underlying e = some (.int .i64)) {fuel : Nat} {cs : List Value} {x : DataW H × List MemPlace} (h : DataW.trod enc Try.prog W base spare held fuel e cs = some x) :
    cs.length = 1 ∧ ∃ y : Int, (∀ b o, (∀ (j : Nat) (v : Value), cs[j]? = some v → W.cell? ⟨b, o + j, none⟩ = some v) → RdI (· < W.heap.size) W b o y) ∧ (fun _ => 1) y ≤ Rows.uptoBulk x.1 := by
  obtain ⟨h1, y, h2⟩ := int_elem he h
  exact ⟨h1, y, h2, some_bulk x.1⟩
theorem bints_cell {t e : TypeId} (ht : Try.prog.underlying t = some (.slice e)) (he : Try.prog.underlying e = some (.int .i64)) (hc : Try.prog.cellsOf e = 1) {fuel : Nat} {c : Value} {x : DataW H × List MemPlace} (h : DataW.trod enc Try.prog W base spare held fuel t [c] = some x) :
    ∃ xs, RdS 1 RdI (· < W.heap.size) W c xs ∧ 1 + xs.length ≤ Rows.uptoBulk x.1 := by
  obtain ⟨a, n, k, e1⟩ := slice_is ht h
  rw [e1] at h
  obtain rfl : c = .slice a n k := by simpa using e1
  obtain ⟨xs, _, hx, hb⟩ := brds_of (fun _ => 1) ht hc (by omega) (fun _ _ _ h => bint_elem he h) h
  rw [sum_ones] at hb
  exact ⟨xs, hx, hb⟩
end
/-! ### The parts of a program -/
section
variable {H : Type} {enc : TypeId × Value → H} {W : World} {base : Nat} {spare : Nat → Bool} {held : Bool}
set_option maxRecDepth 100000 in
theorem bins_elem {fuel : Nat} {cs : List Value} {x : DataW H × List MemPlace} (h : DataW.trod enc Try.prog W base spare held fuel 52 cs = some x) :
    cs.length = 6 ∧ ∃ y : IZ, (∀ b o, (∀ (j : Nat) (v : Value), cs[j]? = some v → W.cell? ⟨b, o + j, none⟩ = some v) → RdIns (· < W.heap.size) W b o y) ∧ szI y ≤ Rows.uptoBulk x.1 := by
  obtain ⟨xs, n, _, hx, hl, hlen, hf⟩ := DataW.trod_struct Try.underlying52 h
  rw [cell52] at hl
  match cs, hl, xs, hlen with
  | [c0, c1, c2, c3, c4, c5], _, [y0, y1, y2, y3, y4, y5], _ =>
    have f0 : DataW.trod enc Try.prog W base spare held n 3 [c0] = some y0 := by have := hf 0 _ rfl; simpa [cell3] using this
    have f1 : DataW.trod enc Try.prog W base spare held n 3 [c1] = some y1 := by have := hf 1 _ rfl; simpa [cell3] using this
    have f2 : DataW.trod enc Try.prog W base spare held n 3 [c2] = some y2 := by have := hf 2 _ rfl; simpa [cell3] using this
    have f3 : DataW.trod enc Try.prog W base spare held n 3 [c3] = some y3 := by have := hf 3 _ rfl; simpa [cell3] using this
    have f4 : DataW.trod enc Try.prog W base spare held n 48 [c4] = some y4 := by have := hf 4 _ rfl; simpa [cell48] using this
    have f5 : DataW.trod enc Try.prog W base spare held n 50 [c5] = some y5 := by have := hf 5 _ rfl; simpa [cell50] using this
    obtain ⟨z0, e0, _, w0⟩ := DataW.trod_int Try.underlying3 f0
    obtain ⟨z1, e1, _, w1⟩ := DataW.trod_int Try.underlying3 f1
    obtain ⟨z2, e2, _, w2⟩ := DataW.trod_int Try.underlying3 f2
    obtain ⟨z3, e3, _, w3⟩ := DataW.trod_int Try.underlying3 f3
    obtain ⟨z4, e4, _, w4⟩ := DataW.trod_int Try.underlying48 f4
    obtain ⟨l, h5, h6⟩ := bints_cell Try.underlying50 Try.underlying3 cell3 f5
    simp at e0 e1 e2 e3 e4
    have g1 := u64_lo w4
    have g2 := u64_hi w4
    refine ⟨rfl, ⟨z0, z1, z2, z3, z4.toNat, l⟩, fun b o hc => ⟨?_, ?_, ?_, ?_, ?_, ⟨c5, hc 5 _ rfl, h5⟩, I64.of w0, I64.of w1, I64.of w2, I64.of w3, by show z4.toNat < _; omega⟩, ?_⟩
    · have := hc 0 _ rfl; rw [e0] at this; exact this
    · have := hc 1 _ rfl; rw [e1] at this; exact this
    · have := hc 2 _ rfl; rw [e2] at this; exact this
    · have := hc 3 _ rfl; rw [e3] at this; exact this
    · have := hc 4 _ rfl
      rw [e4] at this
      show W.cell? ⟨b, o + 4, none⟩ = some (.int .u64 ((z4.toNat : Nat) : Int))
      rw [this, Int.toNat_of_nonneg g1]
    · have b0 := some_bulk y0.1
      have b1 := some_bulk y1.1
      have b2 := some_bulk y2.1
      have b3 := some_bulk y3.1
      have b4 := some_bulk y4.1
      rw [hx]
      simp only [List.map_cons, List.map_nil, Rows.uptoBulk, Rows.uptoBulkAll]
      unfold szI
      simp only
      omega
set_option maxRecDepth 100000 in
theorem bfn_elem {fuel : Nat} {cs : List Value} {x : DataW H × List MemPlace} (h : DataW.trod enc Try.prog W base spare held fuel 55 cs = some x) :
    cs.length = 4 ∧ ∃ y : FZ, (∀ b o, (∀ (j : Nat) (v : Value), cs[j]? = some v → W.cell? ⟨b, o + j, none⟩ = some v) → RdFn (· < W.heap.size) W b o y) ∧ szF y ≤ Rows.uptoBulk x.1 := by
  obtain ⟨xs, n, _, hx, hl, hlen, hf⟩ := DataW.trod_struct Try.underlying55 h
  rw [cell55] at hl
  match cs, hl, xs, hlen with
  | [c0, c1, c2, c3], _, [y0, y1, y2, y3], _ =>
    have f0 : DataW.trod enc Try.prog W base spare held n 3 [c0] = some y0 := by have := hf 0 _ rfl; simpa [cell3] using this
    have f1 : DataW.trod enc Try.prog W base spare held n 23 [c1] = some y1 := by have := hf 1 _ rfl; simpa [cell23] using this
    have f2 : DataW.trod enc Try.prog W base spare held n 23 [c2] = some y2 := by have := hf 2 _ rfl; simpa [cell23] using this
    have f3 : DataW.trod enc Try.prog W base spare held n 53 [c3] = some y3 := by have := hf 3 _ rfl; simpa [cell53] using this
    obtain ⟨z0, e0, _, w0⟩ := DataW.trod_int Try.underlying3 f0
    obtain ⟨l1, h1, k1⟩ := bints_cell Try.underlying23 Try.underlying64 cell64 f1
    obtain ⟨l2, h2, k2⟩ := bints_cell Try.underlying23 Try.underlying64 cell64 f2
    obtain ⟨a, m, k, e3⟩ := slice_is Try.underlying53 f3
    rw [e3] at f3
    obtain rfl : c3 = .slice a m k := by simpa using e3
    obtain ⟨l3, _, h3, k3⟩ := brds_of szI Try.underlying53 cell52 (by omega) (fun _ _ _ h => bins_elem h) f3
    simp at e0
    refine ⟨rfl, ⟨z0, l1, l2, l3⟩, fun b o hc => ⟨?_, ⟨c1, hc 1 _ rfl, h1⟩, ⟨c2, hc 2 _ rfl, h2⟩, ⟨_, hc 3 _ rfl, h3⟩, I64.of w0⟩, ?_⟩
    · have := hc 0 _ rfl; rw [e0] at this; exact this
    · have b0 := some_bulk y0.1
      rw [hx]
      simp only [List.map_cons, List.map_nil, Rows.uptoBulk, Rows.uptoBulkAll]
      unfold szF
      simp only
      omega
set_option maxRecDepth 100000 in
theorem bty_elem {fuel : Nat} {cs : List Value} {x : DataW H × List MemPlace} (h : DataW.trod enc Try.prog W base spare held fuel 69 cs = some x) :
    cs.length = 2 ∧ ∃ y : TZ, (∀ b o, (∀ (j : Nat) (v : Value), cs[j]? = some v → W.cell? ⟨b, o + j, none⟩ = some v) → RdTy (· < W.heap.size) W b o y) ∧ szT y ≤ Rows.uptoBulk x.1 := by
  obtain ⟨xs, n, _, hx, hl, hlen, hf⟩ := DataW.trod_struct Try.underlying69 h
  rw [cell69] at hl
  match cs, hl, xs, hlen with
  | [c0, c1], _, [y0, y1], _ =>
    have f0 : DataW.trod enc Try.prog W base spare held n 4 [c0] = some y0 := by have := hf 0 _ rfl; simpa [cell4] using this
    have f1 : DataW.trod enc Try.prog W base spare held n 23 [c1] = some y1 := by have := hf 1 _ rfl; simpa [cell23] using this
    obtain ⟨z0, e0, _⟩ := DataW.trod_bool Try.underlying4 f0
    obtain ⟨l1, h1, k1⟩ := bints_cell Try.underlying23 Try.underlying64 cell64 f1
    simp at e0
    refine ⟨rfl, ⟨z0, l1⟩, fun b o hc => ⟨?_, ⟨c1, hc 1 _ rfl, h1⟩⟩, ?_⟩
    · have := hc 0 _ rfl; rw [e0] at this; exact this
    · have b0 := some_bulk y0.1
      rw [hx]
      simp only [List.map_cons, List.map_nil, Rows.uptoBulk, Rows.uptoBulkAll]
      unfold szT
      simp only
      omega
set_option maxRecDepth 100000 in
theorem bprog_of {r : Reach} {b0 fuel : Nat} {v : Value} {x : DataW H × List MemPlace} (hv : Value.okWide Try.prog W r b0 26 v) (h : DataW.trod enc Try.prog W base spare held fuel 26 v.cells.toList = some x) : ∃ v0 v1 v2, v = .agg #[v0, v1, v2] ∧ ∃ p, RdP (· < W.heap.size) W (.agg #[v0, v1, v2]) p ∧ szP p ≤ Rows.uptoBulk x.1 := by
  obtain ⟨cs, rfl, hsz⟩ := okWide_struct Try.underlying26 hv
  rw [cell26] at hsz
  obtain ⟨l⟩ := cs
  obtain ⟨xs, n, _, hx, hl, hlen, hf⟩ := DataW.trod_struct Try.underlying26 h
  match l, hsz, xs, hlen with
  | [c0, c1, c2], _, [y0, y1, y2], _ =>
    have f0 : DataW.trod enc Try.prog W base spare held n 22 [c0] = some y0 := by have := hf 0 _ rfl; simpa [Value.cells, cell22] using this
    have f1 : DataW.trod enc Try.prog W base spare held n 23 [c1] = some y1 := by have := hf 1 _ rfl; simpa [Value.cells, cell23] using this
    have f2 : DataW.trod enc Try.prog W base spare held n 24 [c2] = some y2 := by have := hf 2 _ rfl; simpa [Value.cells, cell24] using this
    obtain ⟨l1, h1, k1⟩ := bints_cell Try.underlying23 Try.underlying64 cell64 f1
    obtain ⟨a0, m0, q0, e0⟩ := slice_is Try.underlying22 f0
    rw [e0] at f0
    obtain rfl : c0 = .slice a0 m0 q0 := by simpa using e0
    obtain ⟨l0, _, h0, k0⟩ := brds_of szT Try.underlying22 cell69 (by omega) (fun _ _ _ h => bty_elem h) f0
    obtain ⟨a2, m2, q2, e2⟩ := slice_is Try.underlying24 f2
    rw [e2] at f2
    obtain rfl : c2 = .slice a2 m2 q2 := by simpa using e2
    obtain ⟨l2, _, h2, k2⟩ := brds_of szF Try.underlying24 cell55 (by omega) (fun _ _ _ h => bfn_elem h) f2
    refine ⟨_, _, _, rfl, ⟨l0, l1, l2⟩, ⟨_, _, _, rfl, h0, h1, h2⟩, ?_⟩
    rw [hx]
    simp only [List.map_cons, List.map_nil, Rows.uptoBulk, Rows.uptoBulkAll]
    unfold szP
    simp only
    omega
end
end Go.Proofs.Ytpdjbhnpahkbpaa
