/- Lists of rows in memory; the document's Runs. -/
import Derived.Test.YtgglcfmnhiakcaaI
namespace Go.Proofs.Ytgglcfmnhiakcaa
open Go.ChangeShapes Go.WideShapes Go.ChangeAt Go.RowKit

/-- A list of rows as cells. -/
def rcs (l : List (Nat × Nat)) : List Value := l.flatMap fun x => [.int .i64 (x.1 : Int), .int .i64 (x.2 : Int)]
theorem rcs_snoc (l : List (Nat × Nat)) (x : Nat × Nat) : rcs (l ++ [x]) = rcs l ++ [.int .i64 (x.1 : Int), .int .i64 (x.2 : Int)] := by simp [rcs]
theorem rcs_length (l : List (Nat × Nat)) : (rcs l).length = l.length * 2 := by
  induction l with
  | nil => rfl
  | cons x l ih => simp only [rcs, List.flatMap_cons, List.length_append, List.length_cons, List.length_nil] at ih ⊢; omega
theorem rcs_get {x : Nat × Nat} : ∀ {l : List (Nat × Nat)} {i : Nat}, l[i]? = some x → (rcs l)[i * 2]? = some (.int .i64 (x.1 : Int)) ∧ (rcs l)[i * 2 + 1]? = some (.int .i64 (x.2 : Int))
  | [], i, h => by simp at h
  | y :: l, 0, h => by
    obtain rfl : y = x := by simpa using h
    exact ⟨rfl, rfl⟩
  | y :: l, i + 1, h => by
    obtain ⟨h1, h2⟩ := rcs_get (l := l) (i := i) (by simpa using h)
    have e : rcs (y :: l) = .int .i64 (y.1 : Int) :: .int .i64 (y.2 : Int) :: rcs l := rfl
    rw [e, show (i + 1) * 2 = i * 2 + 1 + 1 by omega, show i * 2 + 1 + 1 + 1 = i * 2 + 1 + 1 + 1 by rfl]
    simp only [List.getElem?_cons_succ]
    exact ⟨h1, h2⟩
theorem info55 : (Try.prog.info? 55).map (fun i => (i.zero, i.size, i.bytes)) = some (some (.agg #[.int .i64 0, .int .i64 0]), 2, 16) := by kernel_rfl

/-- A list of rows that can be read. -/
def Pairs (W : World) (v : Value) (l : List (Nat × Nat)) : Prop :=
  ∃ a cap, v = .slice a l.length cap ∧ (0 < l.length → ∃ g, a = some ⟨g, 0, none⟩ ∧ ∀ i x, l[i]? = some x → W.cell? ⟨g, i * 2, none⟩ = some (.int .i64 (x.1 : Int)) ∧ W.cell? ⟨g, i * 2 + 1, none⟩ = some (.int .i64 (x.2 : Int)))
theorem pairs_of_own {W : World} {B : Nat} {v : Value} {l : List (Nat × Nat)} (h : W.ownsRow B 55 2 v l.length (rcs l)) : Pairs W v l := by
  rcases h.2 with ⟨rfl, h0⟩ | ⟨g, cap, cur, rfl, hb, hg, _, _, _, ht⟩
  · exact ⟨none, 0, by rw [h0], fun h => by omega⟩
  · refine ⟨_, cap, rfl, fun _ => ⟨g, rfl, fun i x hx => ?_⟩⟩
    have hi : i < l.length := by
      by_cases c : i < l.length
      · exact c
      · rw [List.getElem?_eq_none (by omega)] at hx; cases hx
    have key : ∀ j, j < l.length * 2 → W.cell? ⟨g, j, none⟩ = (rcs l)[j]? := fun j hj => by
      rw [cell_of_row W g j _ 55 (0, 0) hg, ← Array.getElem?_toList, ← ht, List.getElem?_take, if_pos hj]
    obtain ⟨h1, h2⟩ := rcs_get hx
    exact ⟨(key _ (by omega)).trans h1, (key _ (by omega)).trans h2⟩
theorem two_new (w : World) (x y : Value) (t : TypeId) : ∀ j u, ([x, y] : List Value)[j]? = some u → (w.alloc (.cells #[x, y] t)).cell? ((⟨w.heap.size, 0, none⟩ : Addr).add j) = some u := by
  intro j u h
  have e : ∀ j, (⟨w.heap.size, 0, none⟩ : Addr).add j = ⟨w.heap.size, j, none⟩ := fun j => by unfold Addr.add; split <;> simp_all
  rw [e, World.cell?_alloc_new]
  match j, h with
  | 0, h => simpa using h
  | 1, h => simpa using h
  | j + 2, h => simp at h
theorem two_cell (x y : Int) : ∀ u ∈ ([.int .i64 x, .int .i64 y] : List Value), u.oneCell' = true := fun u h => by
  simp at h; rcases h with rfl | rfl <;> rfl
theorem owns_cha {w w' : World} {B n size : Nat} {t : TypeId} {v : Value} {xs : List Value} {S : Nat → Prop} (h : w.ownsRow B t size v n xs) (c : Cha S w w') (hs : ∀ i, B ≤ i → ¬ S i) : w'.ownsRow B t size v n xs := by
  obtain ⟨h0, h | ⟨g, cap, cur, h1, hg, h2, h3⟩⟩ := h
  · exact ⟨h0, .inl h⟩
  · have hl : g < w.heap.size := by
      by_cases hl : g < w.heap.size
      · exact hl
      · rw [Array.getElem?_eq_none (by omega)] at h2; cases h2
    exact ⟨h0, .inr ⟨g, cap, cur, h1, hg, (c.old g hl (hs g hg)).trans h2, h3⟩⟩
theorem own_base {w : World} {B n size : Nat} {t : TypeId} {v : Value} {xs : List Value} (h : w.ownsRow B t size v n xs) : ∀ k, v.ownBlock = some k → B ≤ k := fun k hk => (h.lt k hk).1

variable {w : World} {bm bp n : Nat} {us : Nat → Bool}
/-- What Runs leaves: a list of its own. -/
def Lists (w : World) (l : List (Nat × Nat)) (e : Ending) (w' : World) : Prop := ∃ v, e = .returned v ∧ w'.ownsRow w.heap.size 55 2 v l.length (rcs l) ∧ Cha (fun _ => False) w w'
theorem rws_half {g : Nat → Bool} : ∀ k, (rws g k).length * 2 + (if tl g k = 0 then 0 else 1) ≤ k + 1 ∧ (rws g k).length ≤ k := fun k => ⟨by
  induction k with
  | zero => simp [rws, tl]
  | succ k ih =>
    cases h : g k
    · rw [rws_free h, tl_free h, if_neg (by omega)]
      split at ih <;> omega
    · rw [tl_used h, if_pos rfl]
      by_cases c : 0 < tl g k
      · rw [rws_row h c, List.length_append]
        rw [if_neg (by omega)] at ih
        simp; omega
      · rw [rws_none (by omega)]; split at ih <;> omega, rws_length k⟩

set_option maxHeartbeats 2000000 in
theorem rruns_any (h : Pg 85 w bm bp n us) : Calls Try.prog 24 #[.pointer (some ⟨bm, 0, none⟩)] w (Lists w (rows us n)) := by
  have hp := h.lt
  have hl := h.le
  have H := Lib.hid h
  obtain ⟨i0, hi, hz0, hz1, hz2⟩ := info_parts info55
  clear h
  go_enter Try.func24, Try.ntmps24
  go_wp2
  go_loopw [3, 4] (fun v i wr => ∃ a : Nat, a ≤ n + 1 ∧ i = .int .i64 (a : Int) ∧ tl (isU us n) a = 0 ∧ wr.ownsRow w.heap.size 55 2 v (rws (isU us n) a).length (rcs (rws (isU us n) a)) ∧ Cha (fun _ => False) w wr) (fun _ i _ => n + 1 - (intOf i).toNat)
  case atStart => exact ⟨0, Nat.zero_le _, rfl, rfl, World.ownsRow_nil _ _ _ _, Cha.refl _ _⟩
  case round =>
    obtain ⟨a, ha, rfl, ht, hO, hC⟩ := hrel
    have hP := H.out.same hC
    have hpt := hP.ptr
    have hsz := hC.size
    by_cases hlt : a < n
    · obtain ⟨K, hK, hKn⟩ := FR.ex (isU_end us n) _ a rfl (by omega)
      have C := Lib.hid (run_any a K hP hK hKn)
      obtain ⟨hs1, hs2⟩ := hK.step ht
      have hK4 : (K : Int) ≤ 4096 := by omega
      have hlen := rws_length (g := isU us n) a
      have HC := Lib.hid hC
      have HO := Lib.hid hO
      clear hO hC hP hK ht
      by_cases hk0 : 0 < K
      · rw [if_pos hk0] at hs1
        have HT := Lib.hid hs2
        have HS := Lib.hid hs1
        clear hs1 hs2
        go_wp2_with (first
          | (go_at_call 39; ((with_reducible refine (C.out).mono ?_); rintro e w1 ⟨rfl, rfl⟩))
          | (at_builtin; refine wpList_append_own _ rfl _ _ 41 rfl w.heap.size 55 i0 (.agg #[.int .i64 0, .int .i64 0]) 2 16 Try.underlying41 hi hz0 hz1 hz2 rfl (by decide) _ _ _ rfl (HO.out.alloc _) ⟨wr.heap.size, 0, none⟩ 1 1 [.int .i64 (a : Int), .int .i64 (K : Int)] rfl rfl (two_new _ _ _ _) (two_cell _ _) (by unfold maxLen; omega) (by omega) (by rw [World.size_alloc]; omega) ?_; intro v' w2 hown' hgrow hnil; clear hnil; have HO3 := Lib.hid hown'; have HG := Lib.hid (Cha.of_grownBy (S := fun i => w.heap.size ≤ i) hgrow (own_base HO.out)); clear hown' hgrow))
        go_roundw
        case rel =>
          refine ⟨a + K + 1, by omega, by go_num, HT.out, ?_, (HC.out.alloc _).over HG.out fun i hi => .inr hi⟩
          have := HO3.out
          rw [HS.out, rcs_snoc, List.length_append]
          exact this
        case measure => simp [intOf]; omega
      · obtain rfl : K = 0 := by omega
        rw [if_neg (by omega)] at hs1
        have HT := Lib.hid hs2
        have HS := Lib.hid hs1
        clear hs1 hs2
        go_wp2_with (go_at_call 39; ((with_reducible refine (C.out).mono ?_); rintro e w1 ⟨rfl, rfl⟩))
        go_roundw
        case rel => exact ⟨a + 0 + 1, by omega, by go_num, HT.out, by rw [HS.out]; exact HO.out, HC.out⟩
        case measure => simp [intOf]; omega
    · have hE : rws (isU us n) a = rows us n := by
        unfold rows
        by_cases e : a = n + 1
        · rw [e]
        · obtain rfl : a = n := by omega
          rw [rws_none ht]
      rw [hE] at hO
      have HC := Lib.hid hC
      have HO := Lib.hid hO
      clear hO hC hP ht hE
      go_wp2
      go_ret
      exact ⟨_, rfl, HO.out, HC.out⟩
end Go.Proofs.Ytgglcfmnhiakcaa
