/- Check: a program that is an argument has room in its lists. -/
import Derived.Test.YtpdjbhnpahkbpaaVY
namespace Go.Proofs.Ytpdjbhnpahkbpaa
set_option linter.unusedVariables false
open Go.ChangeShapes Go.WideShapes Go.ChangeAt Go.RowKit
section
variable {H : Type} {enc : TypeId × Value → H} {W : World} {base : Nat} {spare : Nat → Bool} {held : Bool}
theorem slice_cap {t e : TypeId} (ht : Try.prog.underlying t = some (.slice e)) {fuel : Nat} {a : Option Addr} {n c : Nat} {x : DataW H × List MemPlace} (h : DataW.trod enc Try.prog W base spare held fuel t [.slice a n c] = some x) : n ≤ c := by
  rcases DataW.trod_slice ht h with ⟨hcs, _⟩ | ⟨a', len', cap', elems, rest, m, _, hcs, _, hb, hl, hm, _⟩
  · simp at hcs
    omega
  · simp at hcs
    omega
theorem elems_at {t e : TypeId} {s : Nat} (ht : Try.prog.underlying t = some (.slice e)) (hc : Try.prog.cellsOf e = s) {fuel : Nat} {a : Option Addr} {n c : Nat} {x : DataW H × List MemPlace} (h : DataW.trod enc Try.prog W base spare held fuel t [.slice a n c] = some x) (b o : Nat) (ha : a = some ⟨b, o, none⟩) (i : Nat) (hi : i < n) :
    ∃ cs m y, (∀ j, j < s → W.cell? ⟨b, o + i * s + j, none⟩ = cs[j]?) ∧ DataW.trod enc Try.prog W base spare held m e cs = some y := by
  subst ha
  rcases DataW.trod_slice ht h with ⟨hcs, _⟩ | ⟨a', len', cap', elems, rest, m, _, hcs, _, hb, hl, hm, hlen, hel, _⟩
  · simp at hcs
  · simp at hcs
    obtain ⟨rfl, rfl, rfl⟩ := hcs
    rw [hc] at hel
    have h1 := hel i hi
    rw [List.getElem?_eq_getElem (by omega), Option.bind_eq_some_iff] at h1
    obtain ⟨cs, h2, h3⟩ := h1
    refine ⟨cs, m, _, fun j hj => ?_, h3⟩
    have h4 := (World.cells?_some h2).2.2 j hj
    rw [Addr.add_mid, Addr.add_mid] at h4
    exact h4
set_option maxRecDepth 100000 in
theorem code_cap {fuel : Nat} {a : Option Addr} {n c : Nat} {x : DataW H × List MemPlace} (h : DataW.trod enc Try.prog W base spare held fuel 53 [.slice a n c] = some x) : CapC W a n := fun b o ha k hk => by
  obtain ⟨cs, m, y, hcell, ht⟩ := elems_at Try.underlying53 cell52 h b o ha k hk
  obtain ⟨xs, m2, _, _, hl, hlen, hf⟩ := DataW.trod_struct Try.underlying52 ht
  rw [cell52] at hl
  match cs, hl, xs, hlen with
  | [d0, d1, d2, d3, d4, d5], _, [y0, y1, y2, y3, y4, y5], _ =>
    have f5 : DataW.trod enc Try.prog W base spare held m2 50 [d5] = some y5 := by have := hf 5 _ rfl; simpa [cell50] using this
    refine ⟨block_lt_of_cell (hcell 0 (by omega)), fun a' n' c' hc => ?_⟩
    have h5 := hcell 5 (by omega)
    rw [hc] at h5
    obtain rfl : Value.slice a' n' c' = d5 := by simpa using h5
    exact slice_cap Try.underlying50 f5
set_option maxRecDepth 100000 in
theorem funcs_cap {fuel : Nat} {a : Option Addr} {n c : Nat} {x : DataW H × List MemPlace} (h : DataW.trod enc Try.prog W base spare held fuel 24 [.slice a n c] = some x) : CapP W a n := by
  have each : ∀ b o, a = some ⟨b, o, none⟩ → ∀ k, k < n → b < W.heap.size ∧ (∀ a' n' c', W.cell? ⟨b, o + k * 4 + 1, none⟩ = some (.slice a' n' c') → n' ≤ c') ∧ ∀ a' n' c', W.cell? ⟨b, o + k * 4 + 3, none⟩ = some (.slice a' n' c') → CapC W a' n' := fun b o ha k hk => by
    obtain ⟨cs, m, y, hcell, ht⟩ := elems_at Try.underlying24 cell55 h b o ha k hk
    obtain ⟨xs, m2, _, _, hl, hlen, hf⟩ := DataW.trod_struct Try.underlying55 ht
    rw [cell55] at hl
    match cs, hl, xs, hlen with
    | [d0, d1, d2, d3], _, [y0, y1, y2, y3], _ =>
      have f1 : DataW.trod enc Try.prog W base spare held m2 23 [d1] = some y1 := by have := hf 1 _ rfl; simpa [cell23] using this
      have f3 : DataW.trod enc Try.prog W base spare held m2 53 [d3] = some y3 := by have := hf 3 _ rfl; simpa [cell53] using this
      refine ⟨block_lt_of_cell (hcell 0 (by omega)), fun a' n' c' hc => ?_, fun a' n' c' hc => ?_⟩
      · have h5 := hcell 1 (by omega)
        rw [hc] at h5
        obtain rfl : Value.slice a' n' c' = d1 := by simpa using h5
        exact slice_cap Try.underlying23 f1
      · have h5 := hcell 3 (by omega)
        rw [hc] at h5
        obtain rfl : Value.slice a' n' c' = d3 := by simpa using h5
        exact code_cap f3
  exact ⟨fun b o ha k hk => ⟨(each b o ha k hk).1, (each b o ha k hk).2.1⟩, fun b o ha k hk => (each b o ha k hk).2.2⟩
set_option maxRecDepth 100000 in
/-- An argument that is a program: as prog_arg, and its lists have room enough. -/
theorem prog_argc {r : Reach} {b0 fuel : Nat} {v : Value} {x : DataW H × List MemPlace} (hv : Value.okWide Try.prog W r b0 26 v) (h : DataW.trod enc Try.prog W base spare held fuel 26 v.cells.toList = some x) :
    ∃ a0 n0 c0 a1 n1 c1 a2 n2 c2, v = .agg #[.slice a0 n0 c0, .slice a1 n1 c1, .slice a2 n2 c2] ∧ (∃ p, HasP W (.agg #[.slice a0 n0 c0, .slice a1 n1 c1, .slice a2 n2 c2]) p) ∧ CapP W a2 n2 := by
  obtain ⟨p, hp⟩ := prog_of hv h
  have hp' := hp
  obtain ⟨v0, v1, v2, rfl, _⟩ := hp'
  obtain ⟨⟨a0, n0, c0, rfl⟩, ⟨a1, n1, c1, rfl⟩, ⟨a2, n2, c2, rfl⟩⟩ := rdp_shape hp
  refine ⟨_, _, _, _, _, _, _, _, _, rfl, ⟨p, hp⟩, ?_⟩
  obtain ⟨xs, n, _, _, hl, hlen, hf⟩ := DataW.trod_struct Try.underlying26 h
  match xs, hlen with
  | [y0, y1, y2], _ =>
    have f2 : DataW.trod enc Try.prog W base spare held n 24 [.slice a2 n2 c2] = some y2 := by have := hf 2 _ rfl; simpa [Value.cells, cell22, cell23, cell24] using this
    exact funcs_cap f2
end
end Go.Proofs.Ytpdjbhnpahkbpaa

namespace Go.Proofs.Ytpdjbhnpahkbpaa
set_option linter.unusedVariables false
open Go.ChangeShapes Go.WideShapes Go.ChangeAt Go.RowKit
/-- Lists of s each, one behind the other. -/
theorem flat_at {α β : Type} {f : α → List β} {s : Nat} (hs : ∀ x, (f x).length = s) : ∀ (xs : List α) (k : Nat) (x : α) (j : Nat), xs[k]? = some x → j < s → (xs.flatMap f)[k * s + j]? = (f x)[j]?
  | [], k, x, j, h, _ => by simp at h
  | y :: ys, 0, x, j, h, hj => by
    obtain rfl : y = x := by simpa using h
    rw [List.flatMap_cons, Nat.zero_mul, Nat.zero_add, List.getElem?_append_left (by rw [hs]; exact hj)]
  | y :: ys, k + 1, x, j, h, hj => by
    have e : (k + 1) * s = k * s + s := by rw [Nat.add_mul, Nat.one_mul]
    rw [List.flatMap_cons, List.getElem?_append_right (by rw [hs, e]; omega), hs, show (k + 1) * s + j - s = k * s + j by rw [e]; omega]
    exact flat_at hs ys k x j (by simpa using h) hj
def insV (x : IZ × Value) : List Value := [.int .i64 x.1.op, .int .i64 x.1.a, .int .i64 x.1.b, .int .i64 x.1.c, .int .u64 (x.1.imm : Int), x.2]
def fnV (x : FZ × Value × Value × Value) : List Value := [.int .i64 x.1.pa, x.2.1, x.2.2.1, x.2.2.2]
def tyV (x : TZ × Value) : List Value := [.bool x.1.ar, x.2]
section
variable {w : World} {g : Nat} {t : TypeId} {cs : Array Value}
theorem block_at {α : Type} {f : α → List Value} {s : Nat} (hs : ∀ x, (f x).length = s) {xs : List α} (h : w.heap[g]? = some (.cells cs t (0, 0))) (e : cs.toList = xs.flatMap f) {k : Nat} {x : α} (hx : xs[k]? = some x) {j : Nat} (hj : j < s) : w.cell? ⟨g, 0 + k * s + j, none⟩ = (f x)[j]? := by
  rw [cell_of_row w g _ _ t (0, 0) h, Nat.zero_add, ← Array.getElem?_toList, e, flat_at hs xs k x j hx hj]
theorem ints_block {xs : List Int} (h : w.heap[g]? = some (.cells cs t (0, 0))) (e : cs.toList = xs.map fun z => .int .i64 z) (fit : ∀ x ∈ xs, I64 x) (hl : xs.length ≤ 9223372036854775807) : RdS 1 RdI (· < w.heap.size) w (.slice (some ⟨g, 0, none⟩) xs.length xs.length) xs := by
  have l := (Array.getElem?_eq_some_iff.1 h).1
  refine ⟨_, _, rfl, hl, fun _ => ⟨g, 0, rfl, l, l, fun i x hi => ⟨?_, fit x (List.mem_of_getElem? hi)⟩⟩⟩
  rw [cell_of_row w g _ _ t (0, 0) h, ← Array.getElem?_toList, e, List.getElem?_map, Nat.zero_add, Nat.mul_one, hi]
  rfl
structure IFitV (w : World) (x : IZ × Value) : Prop where
  k0 : I64 x.1.op
  k1 : I64 x.1.a
  k2 : I64 x.1.b
  k3 : I64 x.1.c
  k4 : x.1.imm < 18446744073709551616
  li : RdS 1 RdI (· < w.heap.size) w x.2 x.1.l
  cap : ∀ a n c, x.2 = .slice a n c → n ≤ c
theorem IFitV.nil {op a b c : Int} {m : Nat} (k0 : I64 op) (k1 : I64 a) (k2 : I64 b) (k3 : I64 c) (k4 : m < 18446744073709551616) : IFitV w (⟨op, a, b, c, m, []⟩, .slice none 0 0) := ⟨k0, k1, k2, k3, k4, RdS.nil _ _ _ _, fun a n c e => by injection e; omega⟩
theorem inss_block {xs : List (IZ × Value)} (h : w.heap[g]? = some (.cells cs t (0, 0))) (e : cs.toList = xs.flatMap insV) (fit : ∀ x ∈ xs, IFitV w x) (hl : xs.length ≤ 9223372036854775807) :
    RdS 6 RdIns (· < w.heap.size) w (.slice (some ⟨g, 0, none⟩) xs.length xs.length) (xs.map (·.1)) ∧ CapC w (some ⟨g, 0, none⟩) xs.length := by
  have l := (Array.getElem?_eq_some_iff.1 h).1
  have hs : ∀ x, (insV x).length = 6 := fun _ => rfl
  refine ⟨⟨_, _, by rw [List.length_map], by rw [List.length_map]; exact hl, fun _ => ⟨g, 0, rfl, l, l, fun i y hi => ?_⟩⟩, fun b o hb k hk => ⟨?_, fun a' n' c' hc => ?_⟩⟩
  · rw [List.getElem?_map, Option.map_eq_some_iff] at hi
    obtain ⟨x, hx, rfl⟩ := hi
    have f := fit x (List.mem_of_getElem? hx)
    have B := fun {j : Nat} (hj : j < 6) => block_at hs h e hx hj
    exact ⟨B (j := 0) (by decide), B (j := 1) (by decide), B (j := 2) (by decide), B (j := 3) (by decide), B (j := 4) (by decide), ⟨x.2, B (j := 5) (by decide), f.li⟩, f.k0, f.k1, f.k2, f.k3, f.k4⟩
  · injection hb with hb
    injection hb with hb1 hb2
    rw [← hb1]; exact l
  · injection hb with hb
    injection hb with hb1 hb2
    subst hb1 hb2
    have hx := List.getElem?_eq_getElem hk
    have B := block_at hs h e hx (j := 5) (by decide)
    rw [hc] at B
    have B2 : some (Value.slice a' n' c') = some (xs[k]).2 := B
    exact (fit _ (List.getElem_mem hk)).cap a' n' c' (by injection B2 with B2; exact B2.symm)
structure FFitV (w : World) (x : FZ × Value × Value × Value) : Prop where
  k0 : I64 x.1.pa
  sl : RdS 1 RdI (· < w.heap.size) w x.2.1 x.1.sl
  re : RdS 1 RdI (· < w.heap.size) w x.2.2.1 x.1.re
  co : RdS 6 RdIns (· < w.heap.size) w x.2.2.2 x.1.co
  cap : ∀ a n c, x.2.1 = .slice a n c → n ≤ c
  cco : ∀ a n c, x.2.2.2 = .slice a n c → CapC w a n
theorem fns_cells {xs : List (FZ × Value × Value × Value)} (l : g < w.heap.size) (B0 : ∀ (k : Nat) (x : FZ × Value × Value × Value), xs[k]? = some x → ∀ j, j < 4 → w.cell? ⟨g, 0 + k * 4 + j, none⟩ = (fnV x)[j]?) (fit : ∀ x ∈ xs, FFitV w x) (hl : xs.length ≤ 9223372036854775807) (c : Nat) :
    RdS 4 RdFn (· < w.heap.size) w (.slice (some ⟨g, 0, none⟩) xs.length c) (xs.map (·.1)) ∧ CapP w (some ⟨g, 0, none⟩) xs.length := by
  refine ⟨⟨_, _, by rw [List.length_map], by rw [List.length_map]; exact hl, fun _ => ⟨g, 0, rfl, l, l, fun i y hi => ?_⟩⟩, ⟨fun b o hb k hk => ⟨?_, fun a' n' c' hc => ?_⟩, fun b o hb k hk a' n' c' hc => ?_⟩⟩
  · rw [List.getElem?_map, Option.map_eq_some_iff] at hi
    obtain ⟨x, hx, rfl⟩ := hi
    have f := fit x (List.mem_of_getElem? hx)
    have B := fun {j : Nat} (hj : j < 4) => B0 i x hx j hj
    exact ⟨B (j := 0) (by decide), ⟨_, B (j := 1) (by decide), f.sl⟩, ⟨_, B (j := 2) (by decide), f.re⟩, ⟨_, B (j := 3) (by decide), f.co⟩, f.k0⟩
  · injection hb with hb
    injection hb with hb1 hb2
    rw [← hb1]; exact l
  · injection hb with hb
    injection hb with hb1 hb2
    subst hb1 hb2
    have hx := List.getElem?_eq_getElem hk
    have B := B0 k _ hx 1 (by decide)
    rw [hc] at B
    have B2 : some (Value.slice a' n' c') = some (xs[k]).2.1 := B
    exact (fit _ (List.getElem_mem hk)).cap a' n' c' (by injection B2 with B2; exact B2.symm)
  · injection hb with hb
    injection hb with hb1 hb2
    subst hb1 hb2
    have hx := List.getElem?_eq_getElem hk
    have B := B0 k _ hx 3 (by decide)
    rw [hc] at B
    have B2 : some (Value.slice a' n' c') = some (xs[k]).2.2.2 := B
    exact (fit _ (List.getElem_mem hk)).cco a' n' c' (by injection B2 with B2; exact B2.symm)
theorem fns_block {xs : List (FZ × Value × Value × Value)} (h : w.heap[g]? = some (.cells cs t (0, 0))) (e : cs.toList = xs.flatMap fnV) (fit : ∀ x ∈ xs, FFitV w x) (hl : xs.length ≤ 9223372036854775807) :
    RdS 4 RdFn (· < w.heap.size) w (.slice (some ⟨g, 0, none⟩) xs.length xs.length) (xs.map (·.1)) ∧ CapP w (some ⟨g, 0, none⟩) xs.length :=
  fns_cells (Array.getElem?_eq_some_iff.1 h).1 (fun k x hx j hj => block_at (f := fnV) (s := 4) (fun _ => rfl) h e hx hj) fit hl _
theorem tys_block {xs : List (TZ × Value)} (h : w.heap[g]? = some (.cells cs t (0, 0))) (e : cs.toList = xs.flatMap tyV) (fit : ∀ x ∈ xs, RdS 1 RdI (· < w.heap.size) w x.2 x.1.fi) (hl : xs.length ≤ 9223372036854775807) :
    RdS 2 RdTy (· < w.heap.size) w (.slice (some ⟨g, 0, none⟩) xs.length xs.length) (xs.map (·.1)) := by
  have l := (Array.getElem?_eq_some_iff.1 h).1
  have hs : ∀ x, (tyV x).length = 2 := fun _ => rfl
  refine ⟨_, _, by rw [List.length_map], by rw [List.length_map]; exact hl, fun _ => ⟨g, 0, rfl, l, l, fun i y hi => ?_⟩⟩
  rw [List.getElem?_map, Option.map_eq_some_iff] at hi
  obtain ⟨x, hx, rfl⟩ := hi
  have f := fit x (List.mem_of_getElem? hx)
  have B := fun {j : Nat} (hj : j < 2) => block_at hs h e hx hj
  exact ⟨B (j := 0) (by decide), ⟨_, B (j := 1) (by decide), f⟩⟩
end
/-- What a call of Check answers, of a program that a world holds. -/
theorem check_c {W : World} {p : PZ} {a0 a1 a2 : Option Addr} {n0 n1 n2 c0 c1 c2 : Nat} (h : HasP W (.agg #[.slice a0 n0 c0, .slice a1 n1 c1, .slice a2 n2 c2]) p) (hc : CapP W a2 n2) :
    Calls Try.prog 24 #[.agg #[.slice a0 n0 c0, .slice a1 n1 c1, .slice a2 n2 c2]] W (SaysF W (chkZ p)) := by
  obtain ⟨v0, v1, v2, e, h0, h1, h2⟩ := h
  injection e with e
  have e0 : Value.slice a0 n0 c0 = v0 ∧ Value.slice a1 n1 c1 = v1 ∧ Value.slice a2 n2 c2 = v2 := by simpa using e
  obtain ⟨rfl, rfl, rfl⟩ := e0
  have l0 : n0 = p.ty.length := by obtain ⟨_, _, e, _⟩ := h0; injection e
  have l1 : n1 = p.gl.length := by obtain ⟨_, _, e, _⟩ := h1; injection e
  have l2 : n2 = p.fu.length := by obtain ⟨_, _, e, _⟩ := h2; injection e
  exact Check_any h0 h1 h2 l0 l1 l2 hc
end Go.Proofs.Ytpdjbhnpahkbpaa
