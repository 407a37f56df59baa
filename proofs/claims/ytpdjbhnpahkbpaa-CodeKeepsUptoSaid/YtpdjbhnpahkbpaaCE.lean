/- CodeKeeps: bytes of one's own. -/
import Derived.Test.YtpdjbhnpahkbpaaCC
import Derived.Test.YtpdjbhnpahkbpaaCD
import Derived.Test.YtpdjbhnpahkbpaaAI
import Derived.Test.YtpdjbhnpahkbpaaBJ
import Derived.Laws.AppendOwnNone
namespace Go.Proofs.Ytpdjbhnpahkbpaa.Z
open Go.ChangeShapes Go.WideShapes Go.ChangeAt Go.RowKit

theorem bzl (T : List Nat) : (bz T).length = T.length := by unfold bz; simp
theorem bz1 (T : List Nat) : ∀ u ∈ bz T, u.oneCell' = true := fun u hu => by
  obtain ⟨x, _, rfl⟩ := List.mem_map.1 hu
  rfl
theorem bz_get {T : List Nat} {j : Nat} {u : Value} (h : (bz T)[j]? = some u) : ∃ x, T[j]? = some x ∧ u = .int .u8 (x : Int) := by
  unfold bz at h
  rw [List.getElem?_map] at h
  cases hj : T[j]? with
  | none => rw [hj] at h; cases h
  | some x =>
    rw [hj] at h
    cases h
    exact ⟨x, rfl, rfl⟩
/-- An argument's bytes: in blocks of B. -/
def AT (B : Nat → Prop) (W : World) (a : Option Addr) (n c : Nat) (T : List Nat) : Prop := RdS 1 RdU8 B W (.slice a n c) T ∧ n = T.length ∧ n ≤ c
section
variable {B S : Nat → Prop} {W w : World} {a : Option Addr} {n c g : Nat} {T : List Nat}
theorem AT.cha (h : AT B W a n c T) (k : Ytpdjbhnpahkbpaa.Cha S W w) (hS : ∀ i, S i → ¬ B i) : AT B w a n c T := ⟨h.1.bytes k hS (fun _ h => h), h.2⟩
theorem AT.text (h : AT B W a n c T) (hB : ∀ i, B i → i < W.heap.size) : HasT W a n c T := ⟨h.1.bytes (Ytpdjbhnpahkbpaa.Cha.refl (fun _ => False) W) (fun _ f => f.elim) hB, h.2⟩
theorem AT.cells {ad : Addr} (h : AT B W (some ad) n c T) : ∀ (j : Nat) (u : Value), (bz T)[j]? = some u → W.cell? (ad.add j) = some u := by
  intro j u hu
  obtain ⟨x, hj, rfl⟩ := bz_get hu
  obtain ⟨⟨a0, c0, e, hl, h⟩, hn, hc⟩ := h
  injection e with e1 e2 e3
  obtain ⟨b, o, rfl, hb, hbs, hx⟩ := h (by have := (List.getElem?_eq_some_iff.1 hj).1; omega)
  injection e1 with e1
  subst e1
  have := (hx j x hj).1
  rw [Nat.mul_one] at this
  rw [Addr.add_mid]
  exact this
/-- Bytes of one's own, at the head of block g, and one more behind them. -/
structure XT (W : World) (g n c : Nat) (T : List Nat) : Prop where
  lt : g < W.heap.size
  len : n = T.length
  cap : n + 1 ≤ c
  sm : ∀ x ∈ T, x < 256
  n63 : n ≤ 9223372036854775807
  has : ∀ (i x : Nat), T[i]? = some x → W.cell? ⟨g, i, none⟩ = some (.int .u8 (x : Int))
  more : W.cell? ⟨g, n, none⟩ = some (.int .u8 99)
theorem XT.cha (h : XT W g n c T) (k : Ytpdjbhnpahkbpaa.Cha S W w) (hS : ¬ S g) : XT w g n c T := by
  have e : ∀ i, w.cell? ⟨g, i, none⟩ = W.cell? ⟨g, i, none⟩ := fun i => World.cell?_of_block (a := ⟨g, i, none⟩) (k.old g h.lt hS)
  exact ⟨Nat.lt_of_lt_of_le h.lt k.size, h.len, h.cap, h.sm, h.n63, fun i x hi => (e i).trans (h.has i x hi), (e n).trans h.more⟩
theorem XT.text (h : XT W g n c T) : HasT W (some ⟨g, 0, none⟩) n c T :=
  ⟨⟨_, _, by rw [h.len], by have := h.n63; have := h.len; omega, fun _ => ⟨g, 0, rfl, h.lt, h.lt, fun i x hi => ⟨by rw [Nat.zero_add, Nat.mul_one]; exact h.has i x hi, h.sm x (List.mem_of_getElem? hi)⟩⟩⟩, h.len, by have := h.cap; omega⟩
theorem XT.of {B0 : Nat} {v : Value} (hn : n = T.length) (h63 : n ≤ 9223372036854775807) (hT : ∀ x ∈ T, x < 256) (h : W.ownsRow B0 5 1 v (n + 1) (bz T ++ [.int .u8 99])) : ∃ g c, v = .slice (some ⟨g, 0, none⟩) (n + 1) c ∧ B0 ≤ g ∧ XT W g n c T := by
  obtain ⟨g, c, rfl⟩ := ownsRow_succ h
  have hx := h.cells (g := g) rfl
  rcases h.2 with ⟨e, _⟩ | ⟨g', cap, cur, e, hb, hg, hnc, hcm, hcs, htk⟩
  · cases e
  cases e
  have hx' : ∀ j u, (bz T ++ [.int .u8 99])[j]? = some u → W.cell? ⟨g, j, none⟩ = some u := fun j u hu => by
    have := hx j u hu
    rw [Addr.add_mid, Nat.zero_add] at this
    exact this
  refine ⟨g, c, rfl, hb, (Array.getElem?_eq_some_iff.1 hg).1, hn, hnc, hT, h63, fun i x hi => hx' i _ ?_, hx' n _ ?_⟩
  · have hl := (List.getElem?_eq_some_iff.1 hi).1
    rw [List.getElem?_append_left (by rw [bzl]; exact hl)]
    unfold bz
    rw [List.getElem?_map, hi]
    rfl
  · rw [List.getElem?_append_right (by rw [bzl]; omega), bzl, hn]
    simp
theorem own_get {B0 : Nat} {v : Value} {xs : List Value} {y : Value} (h : W.ownsRow B0 5 1 v (n + 1) (xs ++ [y])) (hl : xs.length = n) : ∃ g c, v = .slice (some ⟨g, 0, none⟩) (n + 1) c ∧ B0 ≤ g ∧ g < W.heap.size ∧ W.cell? ⟨g, n, none⟩ = some y := by
  obtain ⟨g, c, rfl⟩ := ownsRow_succ h
  have hx := h.cells (g := g) rfl n y (by rw [List.getElem?_append_right (by omega), hl]; simp)
  rcases h.2 with ⟨e, _⟩ | ⟨g', cap, cur, e, hb, hg, hnc, hcm, hcs, htk⟩
  · cases e
  cases e
  rw [Addr.add_mid, Nat.zero_add] at hx
  exact ⟨g, c, rfl, hb, (Array.getElem?_eq_some_iff.1 hg).1, hx⟩
theorem own_put {B0 : Nat} {ys : List Nat} {k : Nat} (h : W.ownsRow B0 5 1 (.slice a n c) n (bz ys)) (hk : k < n) (x : Nat) : ∃ g, a = some ⟨g, 0, none⟩ ∧ B0 ≤ g ∧ g < W.heap.size ∧ (∃ u, W.cell? ⟨g, k, none⟩ = some (.int .u8 u)) ∧ W.frozen? ⟨g, k, none⟩ = false ∧
    (W.setCell ⟨g, k, none⟩ (.int .u8 (x : Int))).ownsRow B0 5 1 (.slice a n c) n (bz (ys.set k x)) := by
  have hl : ys.length = n := by have := h.1; rw [bzl, Nat.mul_one] at this; exact this
  rcases h.2 with ⟨e, e0⟩ | ⟨g, cap, cur, e, hb, hg, hnc, hcm, hcs, htk⟩
  · omega
  cases e
  have hx := h.cells (g := g) rfl k (.int .u8 ((ys[k]'(by omega) : Nat) : Int)) (by unfold bz; rw [List.getElem?_map, List.getElem?_eq_getElem (by omega)]; rfl)
  rw [Addr.add_mid, Nat.zero_add] at hx
  refine ⟨g, rfl, hb, (Array.getElem?_eq_some_iff.1 hg).1, ⟨_, hx⟩, frozen_of_row W g k cur 5 hg, by rw [bzl, List.length_set, hl, Nat.mul_one], .inr ⟨g, _, _, rfl, hb, heap_setCell_same W g k cur 5 _ hg, hnc, hcm, by rw [Array.size_setIfInBounds, hcs], ?_⟩⟩
  rw [Array.toList_setIfInBounds, List.take_set, htk]
  unfold bz
  rw [List.map_set]
end
section
variable {P : Program} {w : World}
/-- Append of a slice that may be nil. -/
theorem wpList_append_both {ops : Array Oper} {rest : List Oper} {o : Oper} {a : Act} {Q : Exit → Act → World → Prop} (hgd : o.guard = none) (s x : Operand) (t : TypeId)
    (ho : o.op = .call { callee := .builtin .append, args := #[s, x], argTypes := #[t, t] })
    (base : Nat) (e : TypeId) (i : TypeInfo) (z : Value) (size bytes : Nat) (ht : P.underlying t = some (.slice e)) (hi : P.info? e = some i) (hz : i.zero = some z)
    (hsize : i.size = size) (hby : i.bytes = bytes) (hzs : z.cells.size = size) (hsz : 0 < size)
    (v : Value) (n : Nat) (xs : List Value) (hs : a.eval s = v) (hown : w.ownsRow base e size v n xs)
    (ad : Option Addr) (m c : Nat) (news : List Value) (hx : a.eval x = .slice ad m c) (h0 : ad = none → m = 0 ∧ c = 0) (hl : news.length = m * size) (hnews : ∀ a, ad = some a → ∀ j u, news[j]? = some u → w.cell? (a.add j) = some u) (h1 : ∀ u ∈ news, u.oneCell' = true)
    (h63 : n + m ≤ maxLen) (hbytes : (n + m) * bytes ≤ 140737488355328) (hbase : base ≤ w.heap.size)
    (h : ∀ v' w', w'.ownsRow base e size v' (n + m) (xs ++ news) → w.grownBy w' v.ownBlock → wpList P ops Q rest (a.put o.dst v') w') : wpList P ops Q (o :: rest) a w := by
  cases ad with
  | some ad => exact wpList_append_where w hgd s x t ho base e i z size bytes ht hi hz hsize hby hzs hsz v n xs hs hown ad m c news hx hl (hnews ad rfl) h1 h63 hbytes hbase fun v' w' k1 k2 _ => h v' w' k1 k2
  | none =>
    obtain ⟨rfl, rfl⟩ := h0 rfl
    have hn : news = [] := List.eq_nil_of_length_eq_zero (by rw [hl, Nat.zero_mul])
    subst hn
    refine wpList_append_own_none hgd s x t ho base e i size ht hi v n xs hs hown hx (h v w ?_ (World.grownBy.refl w _))
    rw [List.append_nil]
    exact hown
end
theorem frz_cha {S : Nat → Prop} {W w : World} {b o : Nat} (c : Ytpdjbhnpahkbpaa.Cha S W w) (hb : b < W.heap.size) (hs : ¬ S b) (h : W.frozen? ⟨b, o, none⟩ = false) : w.frozen? ⟨b, o, none⟩ = false :=
  (World.frozen?_of_block (a := ⟨b, o, none⟩) (c.old b hb hs)).trans h
set_option maxRecDepth 100000 in
theorem sliced_head {g n c : Nat} (h : n + 1 ≤ c) (w : World) : (Instr.slice 27 (.slice (some ⟨g, 0, none⟩) (n + 1) c) none (some (.int .i64 (n : Int))) none).run Try.prog w = .ok (.slice (some ⟨g, 0, none⟩) n c) w := by
  have e := run_slice_h (P := Try.prog) w 27 (some ⟨g, 0, none⟩) (n + 1) c Try.underlying27 .i64 (n : Int) (by omega) (by omega)
  rw [e]
  have hs : sliced (some ⟨g, 0, none⟩) 0 n c 1 = .slice (some ⟨g, 0, none⟩) n c := by
    unfold sliced
    rw [if_neg (by omega)]
    simp [Addr.add]
  rw [← hs]
  rfl
end Go.Proofs.Ytpdjbhnpahkbpaa.Z
