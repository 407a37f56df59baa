/- VerifyMore: the walk. -/
import Derived.Test.YtpdjbhnpahkbpaaXD
namespace Go.Proofs.Ytpdjbhnpahkbpaa
set_option linter.unusedVariables false
open Go.ChangeShapes Go.WideShapes Go.ChangeAt Go.RowKit
theorem info55_x : (Try.prog.info? 55).map (fun i => (i.zero, i.size, i.bytes)) = some (some (.agg #[.int .i64 0, .slice none 0 0, .slice none 0 0, .slice none 0 0]), 4, 80) := by kernel_rfl
theorem flat_len {α β : Type} {f : α → List β} {s : Nat} (hs : ∀ x, (f x).length = s) (xs : List α) : (xs.flatMap f).length = xs.length * s := by
  induction xs with
  | nil => simp
  | cons x xs ih => rw [List.flatMap_cons, List.length_append, hs, ih, List.length_cons, Nat.add_mul, Nat.one_mul, Nat.add_comm]
theorem flat_get {α β : Type} {f : α → List β} {s : Nat} (hs : ∀ x, (f x).length = s) (h0 : 0 < s) (xs : List α) {j : Nat} {u : β} (h : (xs.flatMap f)[j]? = some u) : ∃ x, xs[j / s]? = some x ∧ (f x)[j % s]? = some u := by
  have hl := (List.getElem?_eq_some_iff.1 h).1
  rw [flat_len hs] at hl
  have hk : j / s < xs.length := (Nat.div_lt_iff_lt_mul h0).2 hl
  have hx := List.getElem?_eq_getElem hk
  refine ⟨_, hx, ?_⟩
  rw [← flat_at hs xs (j / s) _ (j % s) hx (Nat.mod_lt _ h0), Nat.div_add_mod' j s]
  exact h
section
variable {W w w' w1 : World} {v : Value} {n : Nat} {E : List Value}
theorem run_fapp {b0 : Nat} (ty : TypeId) (h : w1.ownsRow b0 55 4 v n E) (hb : b0 ≤ w1.heap.size) (ad : Addr) (m c : Nat) (N : List Value) (hl : N.length = m * 4) (hN : ∀ j u, N[j]? = some u → w1.cell? (ad.add j) = some u) (h1 : ∀ u ∈ N, u.oneCell' = true) (b : n + m ≤ 10000) :
    ∃ v' w', (Builtin.append_ #[24, 24] ty #[v, .slice (some ad) m c]).run Try.prog w1 = .ok v' w' ∧ w'.ownsRow b0 55 4 v' (n + m) (E ++ N) ∧ Cha (fun i => b0 ≤ i) w1 w' ∧ (v.ownBlock = none → Cha (fun _ => False) w1 w') := by
  obtain ⟨i0, hi, hz0, hz1, hz2⟩ := info_parts info55_x
  obtain ⟨v', w', hr, h2, h3, h4⟩ := run_append_where (P := Try.prog) w1 b0 24 ty 55 i0 _ 4 80 Try.underlying24 hi hz0 hz1 hz2 rfl (by decide) v n E h ad m c N hl hN h1 (by unfold maxLen; omega) (by omega) hb
  exact ⟨v', w', hr, h2, Cha.of_grownBy h3 (fun k e => (h.lt k e).1), fun e0 => Cha.of_grownBy h3 (fun k e => by rw [e0] at e; cases e)⟩
theorem fns_rows {a2 : Option Addr} {n2 c2 : Nat} {fu : List FZ} (h : RdS 4 RdFn (· < W.heap.size) W (.slice a2 n2 c2) fu) (hc : CapP W a2 n2) (hn : n2 = fu.length) :
    ∃ xs : List (FZ × Value × Value × Value), xs.map (·.1) = fu ∧ (∀ x ∈ xs, FFitV W x) ∧ ∀ b o, a2 = some ⟨b, o, none⟩ → ∀ (k : Nat) (x : FZ × Value × Value × Value), xs[k]? = some x → ∀ j, j < 4 → W.cell? ⟨b, o + k * 4 + j, none⟩ = (fnV x)[j]? := by
  have each : ∀ k, k < n2 → ∃ y : FZ × Value × Value × Value, fu[k]? = some y.1 ∧ FFitV W y ∧ ∀ b o, a2 = some ⟨b, o, none⟩ → ∀ j, j < 4 → W.cell? ⟨b, o + k * 4 + j, none⟩ = (fnV y)[j]? := fun k hk => by
    obtain ⟨g, hg⟩ : ∃ g, fu[k]? = some g := ⟨_, List.getElem?_eq_getElem (by omega)⟩
    obtain ⟨b, o, _, he, _, hbs, hx⟩ := h.at hg
    injection he with he
    subst he
    obtain ⟨v1, q1, r1⟩ := hx.c1
    obtain ⟨v2, q2, r2⟩ := hx.c2
    obtain ⟨v3, q3, r3⟩ := hx.c3
    refine ⟨(g, v1, v2, v3), hg, ⟨hx.k0, r1, r2, r3, fun a n c e => (hc.slots b o rfl k hk).2 a n c (by rw [q1]; exact congrArg some e), fun a n c e => hc.codes b o rfl k hk a n c (by rw [q3]; exact congrArg some e)⟩, fun b' o' e j hj => ?_⟩
    injection e with e
    injection e with e1 e2
    subst e1 e2
    have hj : j = 0 ∨ j = 1 ∨ j = 2 ∨ j = 3 := by omega
    rcases hj with rfl | rfl | rfl | rfl
    · exact hx.c0
    · exact q1
    · exact q2
    · exact q3
  obtain ⟨xs, hxl, hx⟩ := list_of n2 _ each
  refine ⟨xs, ?_, fun x hx' => ?_, fun b o e k x hk j hj => (hx k x hk).2.2 b o e j hj⟩
  · apply List.ext_getElem?
    intro k
    rw [List.getElem?_map]
    by_cases hk : k < n2
    · have := List.getElem?_eq_getElem (l := xs) (i := k) (by omega)
      rw [this, (hx k _ this).1]
      rfl
    · rw [List.getElem?_eq_none (by omega), List.getElem?_eq_none (by omega)]
      rfl
  · obtain ⟨k, hk⟩ := List.getElem?_of_mem hx'
    exact (hx k x hk).2.1
theorem FFitV.cha {x : FZ × Value × Value × Value} (h : FFitV W x) (c : Cha (fun _ => False) W w) : FFitV w x :=
  ⟨h.k0, h.sl.ints c (fun _ f => f.elim) (fun _ hi => Nat.lt_of_lt_of_le hi c.size), h.re.ints c (fun _ f => f.elim) (fun _ hi => Nat.lt_of_lt_of_le hi c.size), h.co.inss c (fun _ f => f.elim) (fun _ hi => Nat.lt_of_lt_of_le hi c.size), h.cap, fun a n c' e => (h.cco a n c' e).cha c⟩
theorem made_reads {b0 : Nat} {xs : List (FZ × Value × Value × Value)} (h : w'.ownsRow b0 55 4 v n (xs.flatMap fnV)) (hn : n = xs.length) (h0 : 0 < n) (fit : ∀ x ∈ xs, FFitV w' x) (hl : n ≤ 9223372036854775807) :
    ∃ a c, v = .slice a n c ∧ RdS 4 RdFn (· < w'.heap.size) w' (.slice a n c) (xs.map (·.1)) ∧ CapP w' a n := by
  have hw := h
  rcases hw.2 with ⟨e, h1⟩ | ⟨g, cap, cur, e, hb, hg, hnc, hcm, hcs, htk⟩
  · omega
  · subst e
    have hl2 : g < w'.heap.size := (Array.getElem?_eq_some_iff.1 hg).1
    subst hn
    obtain ⟨k1, k2⟩ := fns_cells (w := w') (g := g) (xs := xs) hl2 (fun k x hx j hj => by
      have hj' : j < (fnV x).length := hj
      have hq := flat_at (f := fnV) (s := 4) (fun _ => rfl) xs k x j hx hj
      rw [List.getElem?_eq_getElem hj'] at hq
      have := hw.cells (g := g) rfl (k * 4 + j) _ hq
      rw [Addr.add_mid] at this
      rw [Nat.add_assoc, this, List.getElem?_eq_getElem hj']) fit hl cap
    exact ⟨_, _, rfl, k1, k2⟩
end
theorem one_cellV (x : FZ × Value × Value × Value) (h : x.2.1.oneCell' = true ∧ x.2.2.1.oneCell' = true ∧ x.2.2.2.oneCell' = true) : ∀ u ∈ fnV x, u.oneCell' = true := fun u hu => by
  have hu : u = .int .i64 x.1.pa ∨ u = x.2.1 ∨ u = x.2.2.1 ∨ u = x.2.2.2 := by simpa [fnV] using hu
  rcases hu with rfl | rfl | rfl | rfl
  · rfl
  · exact h.1
  · exact h.2.1
  · exact h.2.2
theorem rds_one {α : Type} {s : Nat} {R : (Nat → Prop) → World → Nat → Nat → α → Prop} {B : Nat → Prop} {W : World} {v : Value} {xs : List α} (h : RdS s R B W v xs) : v.oneCell' = true := by
  obtain ⟨a, c, rfl, _⟩ := h
  rfl
/-- The blocks of the function more, and of the program that is to have it. -/
def moreL (bad : Bool) (s : Nat) : List Obj :=
  [.cells #[.int .i64 0] 64, .cells #[.int .i64 1, .int .i64 0, .int .i64 0, .int .i64 0, .int .u64 5, .slice none 0 0, .int .i64 36, .int .i64 0, .int .i64 0, .int .i64 0, .int .u64 0, .slice none 0 0] 52] ++
  (if bad then [.cells #[.int .i64 0, .slice (some ⟨s, 0, none⟩) 1 1, .slice none 0 0, .slice (some ⟨s + 1 + 1 + 1, 0, none⟩) 3 3] 55,
      .cells #[.int .i64 1, .int .i64 0, .int .i64 0, .int .i64 0, .int .u64 5, .slice none 0 0, .int .i64 48, .int .i64 1, .int .i64 0, .int .i64 0, .int .u64 0, .slice none 0 0, .int .i64 36, .int .i64 0, .int .i64 0, .int .i64 0, .int .u64 0, .slice none 0 0] 52]
    else [.cells #[.int .i64 0, .slice (some ⟨s, 0, none⟩) 1 1, .slice none 0 0, .slice (some ⟨s + 1, 0, none⟩) 2 2] 55])
def moreQ (bad : Bool) (s : Nat) : Nat := if bad then s + 1 + 1 + 1 + 1 else s + 1 + 1 + 1
def moreC (bad : Bool) (s : Nat) : Value := if bad then .slice (some ⟨s + 1 + 1 + 1, 0, none⟩) 3 3 else .slice (some ⟨s + 1, 0, none⟩) 2 2
theorem i64_few {z : Int} (h : -1000 ≤ z ∧ z ≤ 1000) : I64 z := ⟨by omega, by omega⟩
theorem more_blocks (bad : Bool) (w : World) :
    Cha (fun _ => False) w (allocs w (moreL bad w.heap.size)) ∧ FFitV (allocs w (moreL bad w.heap.size)) (extraZ bad, .slice (some ⟨w.heap.size, 0, none⟩) 1 1, .slice none 0 0, moreC bad w.heap.size) ∧
    (allocs w (moreL bad w.heap.size)).heap[w.heap.size + 1 + 1]? = some (.cells #[.int .i64 0, .slice (some ⟨w.heap.size, 0, none⟩) 1 1, .slice none 0 0, moreC bad w.heap.size] 55 (0, 0)) ∧
    (allocs w (moreL bad w.heap.size)).heap.size = moreQ bad w.heap.size := by
  obtain ⟨C, A⟩ := allocs_at (moreL bad w.heap.size) w
  cases bad with
  | false =>
    have k1 := ints_block (xs := [0]) (A 0 _ rfl) rfl (fun x hx => by
      have e0 : x = 0 := by simpa using hx
      exact i64_few (by omega)) (by decide)
    obtain ⟨k2, k3⟩ := inss_block (xs := [(⟨1, 0, 0, 0, 5, []⟩, .slice none 0 0), (⟨36, 0, 0, 0, 0, []⟩, .slice none 0 0)]) (A 1 _ rfl) rfl (fun x hx => by
      have hx : x = (⟨1, 0, 0, 0, 5, []⟩, .slice none 0 0) ∨ x = (⟨36, 0, 0, 0, 0, []⟩, .slice none 0 0) := by simpa using hx
      rcases hx with rfl | rfl
      · exact .nil (i64_few (by omega)) (i64_few (by omega)) (i64_few (by omega)) (i64_few (by omega)) (by decide)
      · exact .nil (i64_few (by omega)) (i64_few (by omega)) (i64_few (by omega)) (i64_few (by omega)) (by decide)) (by decide)
    exact ⟨C, ⟨i64_few (by show -1000 ≤ (0 : Int) ∧ (0 : Int) ≤ 1000; omega), k1, RdS.nil _ _ _ _, k2, fun a n c e => by injection e; omega, fun a n c e => by injection e with e1 e2 e3; subst e1 e2; exact k3⟩, A 2 _ rfl, by simp [allocs, moreL, moreQ, World.size_alloc]⟩
  | true =>
    have k1 := ints_block (xs := [0]) (A 0 _ rfl) rfl (fun x hx => by
      have e0 : x = 0 := by simpa using hx
      exact i64_few (by omega)) (by decide)
    obtain ⟨k2, k3⟩ := inss_block (xs := [(⟨1, 0, 0, 0, 5, []⟩, .slice none 0 0), (⟨48, 1, 0, 0, 0, []⟩, .slice none 0 0), (⟨36, 0, 0, 0, 0, []⟩, .slice none 0 0)]) (A 3 _ rfl) rfl (fun x hx => by
      have hx : x = (⟨1, 0, 0, 0, 5, []⟩, .slice none 0 0) ∨ x = (⟨48, 1, 0, 0, 0, []⟩, .slice none 0 0) ∨ x = (⟨36, 0, 0, 0, 0, []⟩, .slice none 0 0) := by simpa using hx
      rcases hx with rfl | rfl | rfl
      · exact .nil (i64_few (by omega)) (i64_few (by omega)) (i64_few (by omega)) (i64_few (by omega)) (by decide)
      · exact .nil (i64_few (by omega)) (i64_few (by omega)) (i64_few (by omega)) (i64_few (by omega)) (by decide)
      · exact .nil (i64_few (by omega)) (i64_few (by omega)) (i64_few (by omega)) (i64_few (by omega)) (by decide)) (by decide)
    exact ⟨C, ⟨i64_few (by show -1000 ≤ (0 : Int) ∧ (0 : Int) ≤ 1000; omega), k1, RdS.nil _ _ _ _, k2, fun a n c e => by injection e; omega, fun a n c e => by injection e with e1 e2 e3; subst e1 e2; exact k3⟩, A 2 _ rfl, by simp [allocs, moreL, moreQ, World.size_alloc]⟩
set_option maxRecDepth 100000 in
theorem more_pack {w2 : World} (bad : Bool) {a0 a1 a2 : Option Addr} {n0 n1 n2 c0 c1 c2 : Nat} {p : PZ} (hp : HasP w2 (.agg #[.slice a0 n0 c0, .slice a1 n1 c1, .slice a2 n2 c2]) p) (hc : CapP w2 a2 n2) (h0 : 0 < n2) (h32 : n2 ≤ 32) :
    ∃ a6 c6 w6 a9 c9 w9, (Builtin.append_ #[24, 24] 24 #[.slice none 0 0, .slice a2 n2 c2]).run Try.prog ((allocs w2 (moreL bad w2.heap.size)).alloc (.cells #[.slice a0 n0 c0, .slice a1 n1 c1, .slice none 0 0] 26)) = .ok (.slice a6 n2 c6) w6 ∧
      (Builtin.append_ #[24, 24] 24 #[.slice a6 n2 c6, .slice (some ⟨w6.heap.size, 0, none⟩) 1 1]).run Try.prog ((w6.setCell ⟨moreQ bad w2.heap.size, 2, none⟩ (.slice a6 n2 c6)).alloc (.cells #[.int .i64 0, .slice (some ⟨w2.heap.size, 0, none⟩) 1 1, .slice none 0 0, moreC bad w2.heap.size] 55)) = .ok (.slice a9 (n2 + 1) c9) w9 ∧
      w6.heap[w2.heap.size + 1 + 1]? = some (.cells #[.int .i64 0, .slice (some ⟨w2.heap.size, 0, none⟩) 1 1, .slice none 0 0, moreC bad w2.heap.size] 55 (0, 0)) ∧
      w6.heap[moreQ bad w2.heap.size]? = some (.cells #[.slice a0 n0 c0, .slice a1 n1 c1, .slice none 0 0] 26 (0, 0)) ∧
      w9.heap[moreQ bad w2.heap.size]? = some (.cells #[.slice a0 n0 c0, .slice a1 n1 c1, .slice a6 n2 c6] 26 (0, 0)) ∧
      Cha (fun _ => False) w2 (w9.setCell ⟨moreQ bad w2.heap.size, 2, none⟩ (.slice a9 (n2 + 1) c9)) ∧
      HasP (w9.setCell ⟨moreQ bad w2.heap.size, 2, none⟩ (.slice a9 (n2 + 1) c9)) (.agg #[.slice a0 n0 c0, .slice a1 n1 c1, .slice a9 (n2 + 1) c9]) (more p (extraZ bad)) ∧
      CapP (w9.setCell ⟨moreQ bad w2.heap.size, 2, none⟩ (.slice a9 (n2 + 1) c9)) a9 (n2 + 1) := by
  obtain ⟨C4, FX, HX4, hsz⟩ := more_blocks bad w2
  have hgq : w2.heap.size ≤ moreQ bad w2.heap.size := by cases bad <;> (unfold moreQ; simp) <;> omega
  have hgx : w2.heap.size + 1 + 1 ≠ moreQ bad w2.heap.size := by cases bad <;> (unfold moreQ; simp)
  generalize allocs w2 (moreL bad w2.heap.size) = w4 at *
  have C45 := (Cha.refl (fun _ => False) w4).alloc (.cells #[.slice a0 n0 c0, .slice a1 n1 c1, .slice none 0 0] 26)
  have HX := (C45.old _ (Array.getElem?_eq_some_iff.1 HX4).1 (fun f => f)).trans HX4
  have HQ := heap_alloc_new w4 (.cells #[.slice a0 n0 c0, .slice a1 n1 c1, .slice none 0 0] 26)
  rw [hsz] at HQ
  have hlq := (Array.getElem?_eq_some_iff.1 HQ).1
  have C5 := C4.trans C45
  generalize w4.alloc (.cells #[.slice a0 n0 c0, .slice a1 n1 c1, .slice none 0 0] 26) = w5 at *
  generalize hq0 : moreQ bad w2.heap.size = gq at *
  have hmc : (moreC bad w2.heap.size).oneCell' = true := by cases bad <;> rfl
  generalize moreC bad w2.heap.size = vc at *
  obtain ⟨r0, r1, r2⟩ := hp.parts
  obtain ⟨_, _, e2⟩ := hp.lens
  obtain ⟨xs, hx1, hx2, hx3⟩ := fns_rows r2 hc e2
  have hxl : xs.length = n2 := by rw [e2, ← hx1, List.length_map]
  obtain ⟨b, o, _, ea, _⟩ := r2.at (i := 0) (x := p.fu[0]'(by omega)) (List.getElem?_eq_getElem (by omega))
  injection ea with ea
  subst ea
  have hone : ∀ u ∈ xs.flatMap fnV, u.oneCell' = true := fun u hu => by
    obtain ⟨x, hx, hu⟩ := List.mem_flatMap.1 hu
    exact one_cellV x ⟨rds_one (hx2 x hx).sl, rds_one (hx2 x hx).re, rds_one (hx2 x hx).co⟩ u hu
  obtain ⟨v6, w6, hr6, o6, _, k6⟩ := run_fapp (w1 := w5) (b0 := w5.heap.size) (v := .slice none 0 0) (n := 0) (E := []) 24 (World.ownsRow_nil _ _ _ _) (Nat.le_refl _) ⟨b, o, none⟩ n2 c2 (xs.flatMap fnV) (by rw [flat_len (s := 4) (fun _ => rfl), hxl]) (fun j u hj => by
    obtain ⟨x, h1, h2⟩ := flat_get (s := 4) (fun _ => rfl) (by decide) xs hj
    have h3 := hx3 b o rfl (j / 4) x h1 (j % 4) (Nat.mod_lt _ (by decide))
    rw [Addr.add_mid]
    have e : o + j = o + j / 4 * 4 + j % 4 := by have := Nat.div_add_mod' j 4; omega
    rw [e]
    exact cell_cha (B := fun _ => True) C5 (fun _ f => f.elim) trivial (h3.trans h2)) hone (by omega)
  have k6 := k6 rfl
  rw [Nat.zero_add, List.nil_append] at o6
  obtain ⟨a6, c6, rfl⟩ := own_shape o6
  have HX6 := (k6.old _ (Array.getElem?_eq_some_iff.1 HX).1 (fun f => f)).trans HX
  have HQ6 := (k6.old _ (Array.getElem?_eq_some_iff.1 HQ).1 (fun f => f)).trans HQ
  have k8 : Cha (fun i => i = gq) w6 ((w6.setCell ⟨gq, 2, none⟩ (.slice a6 n2 c6)).alloc (.cells #[.int .i64 0, .slice (some ⟨w2.heap.size, 0, none⟩) 1 1, .slice none 0 0, vc] 55)) := ((Cha.refl (fun i => i = gq) w6).setCell (p := ⟨gq, 2, none⟩) (fun _ => rfl) _).alloc _
  have hs8 : w6.heap.size = (w6.setCell ⟨gq, 2, none⟩ (.slice a6 n2 c6)).heap.size := by simp [World.setCell]
  have o8 := own_but o6 k8 (fun g hg e => by have e : g = gq := e; have := (o6.lt g hg).1; omega)
  have A8 := heap_alloc_new (w6.setCell ⟨gq, 2, none⟩ (.slice a6 n2 c6)) (.cells #[.int .i64 0, .slice (some ⟨w2.heap.size, 0, none⟩) 1 1, .slice none 0 0, vc] 55)
  rw [← hs8] at A8
  have HQ7 := heap_setCell_same w6 gq 2 _ 26 (.slice a6 n2 c6) HQ6
  have HQ8 : ((w6.setCell ⟨gq, 2, none⟩ (.slice a6 n2 c6)).alloc (.cells #[.int .i64 0, .slice (some ⟨w2.heap.size, 0, none⟩) 1 1, .slice none 0 0, vc] 55)).heap[gq]? = some (.cells #[.slice a0 n0 c0, .slice a1 n1 c1, .slice a6 n2 c6] 26 (0, 0)) :=
    (((Cha.refl (fun _ => False) (w6.setCell ⟨gq, 2, none⟩ (.slice a6 n2 c6))).alloc _).old gq (Array.getElem?_eq_some_iff.1 HQ7).1 (fun f => f)).trans HQ7
  generalize hw8 : (w6.setCell ⟨gq, 2, none⟩ (.slice a6 n2 c6)).alloc (.cells #[.int .i64 0, .slice (some ⟨w2.heap.size, 0, none⟩) 1 1, .slice none 0 0, vc] 55) = w8 at *
  obtain ⟨v9, w9, hr9, o9, k9, _⟩ := run_fapp (w1 := w8) (b0 := w5.heap.size) (v := .slice a6 n2 c6) (n := n2) (E := xs.flatMap fnV) 24 o8 (Nat.le_trans k6.size k8.size) ⟨w6.heap.size, 0, none⟩ 1 1 (fnV (extraZ bad, .slice (some ⟨w2.heap.size, 0, none⟩) 1 1, .slice none 0 0, vc)) rfl (fun j u hj => by
    rw [Addr.add_mid, Nat.zero_add, cell_of_row w8 w6.heap.size j _ 55 (0, 0) A8, ← Array.getElem?_toList]
    exact hj) (one_cellV _ (And.intro rfl (And.intro rfl hmc))) (by omega)
  obtain ⟨a9, c9, rfl⟩ := own_shape o9
  have HQ9 := (k9.old gq (Array.getElem?_eq_some_iff.1 HQ8).1 (by omega)).trans HQ8
  have k10 : Cha (fun i => i = gq) w9 (w9.setCell ⟨gq, 2, none⟩ (.slice a9 (n2 + 1) c9)) := (Cha.refl (fun i => i = gq) w9).setCell (p := ⟨gq, 2, none⟩) (fun _ => rfl) _
  have o10 := own_but o9 k10 (fun g hg e => by have e : g = gq := e; have := (o9.lt g hg).1; omega)
  have C8 : Cha (fun i => i = gq ∨ w5.heap.size ≤ i) w5 (w9.setCell ⟨gq, 2, none⟩ (.slice a9 (n2 + 1) c9)) := ((k6.wide.trans (k8.mono fun _ _ e => .inl e)).trans (k9.mono fun _ _ e => .inr e)).trans (k10.mono fun _ _ e => .inl e)
  have C10 : Cha (fun _ => False) w2 (w9.setCell ⟨gq, 2, none⟩ (.slice a9 (n2 + 1) c9)) := C5.over C8 (fun i e => by
    have := C5.size
    rcases e with e | e
    · exact .inr (by omega)
    · exact .inr (by omega))
  have FX10 := FX.cha (C45.over C8 (fun i e => by
    have := C45.size
    rcases e with e | e
    · exact .inr (by omega)
    · exact .inr (by omega)))
  have ee : ∀ y : FZ × Value × Value × Value, xs.flatMap fnV ++ fnV y = (xs ++ [y]).flatMap fnV := fun y => by rw [List.flatMap_append, List.flatMap_cons, List.flatMap_nil, List.append_nil]
  rw [ee] at o10
  obtain ⟨a', c', e', m1, m2⟩ := made_reads o10 (by rw [List.length_append, hxl]; rfl) (by omega) (fun x hx => by
    rcases List.mem_append.1 hx with hx | hx
    · exact (hx2 x hx).cha C10
    · obtain rfl := List.mem_singleton.1 hx
      exact FX10) (by omega)
  injection e' with e1 e2' e3
  subst e1 e3
  refine ⟨a6, c6, w6, a9, c9, w9, hr6, by rw [hw8]; exact hr9, HX6, HQ6, HQ9, C10, ⟨_, _, _, rfl, r0.tys C10 (fun _ f => f.elim) (fun _ hi => Nat.lt_of_lt_of_le hi C10.size), r1.ints C10 (fun _ f => f.elim) (fun _ hi => Nat.lt_of_lt_of_le hi C10.size), ?_⟩, m2⟩
  rw [List.map_append, hx1] at m1
  exact m1
end Go.Proofs.Ytpdjbhnpahkbpaa
