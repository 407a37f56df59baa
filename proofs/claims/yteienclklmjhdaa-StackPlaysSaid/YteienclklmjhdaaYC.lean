/- The document's stack: Get. -/
import Derived.Test.YteienclklmjhdaaYB
namespace Go.Proofs.Yteienclklmjhdaa
open Go.ChangeShapes Go.WideShapes Go.ChangeAt Go.RowKit
variable {w w' W W' : World} {G : Nat → Prop} {rs : Nat} {vf : Value} {A : List Fr} {sl : Nat → Nat → Sl} {s : St} {S : Nat → Prop}

theorem sr_at (sl : Nat → Sl) {K q : Nat} (hq : q < 4) : sr sl (K * 4 + q) = (sl K).at q := by
  unfold sr
  rw [show (K * 4 + q) / 4 = K by omega, show (K * 4 + q) % 4 = q by omega]
/-- A slot that is there. -/
structure SlotAt (w : World) (rs : Nat) (vf : Value) (A : List Fr) (sl : Nat → Nat → Sl) (s : St) (b i : Int) (d F K bf o cap g n : Nat) : Prop where
  fb : (s.fs.length : Int) - 1 - b = (F : Int)
  ik : i = (K : Int)
  fl : F < s.fs.length
  kn : K < n
  n32 : n ≤ 32
  vf : vf = .slice (some ⟨bf, o, none⟩) s.fs.length cap
  ok : SlOk s.fs (s.ct d) (sl F K)
  cells : ∀ W, Cha (fun _ => False) w W → W.cell? ⟨rs, 0, none⟩ = some (.slice (some ⟨bf, o, none⟩) s.fs.length cap) ∧ W.cell? ⟨bf, o + F, none⟩ = some (.slice (some ⟨g, 0, none⟩) n n) ∧ ∀ q, q < 4 → W.cell? ⟨g, K * 4 + q, none⟩ = some ((sl F K).at q) ∧ W.frozen? ⟨g, K * 4 + q, none⟩ = false
  fA : ∃ hF : F < A.length, g = A[F].g ∧ n = A[F].n
  d : d = pos (s.fs.drop (s.fs.length - 1 - F)) - 1 - K
theorem Dk.slot (h : Dk w G rs vf A sl s) {b i : Int} {d : Nat} (hf : find s.fs b i = some d) : ∃ F K bf o cap g n, SlotAt w rs vf A sl s b i d F K bf o cap g n := by
  obtain ⟨j, K, rfl, rfl, hj, hK, hd⟩ := find_some hf
  obtain ⟨a, cap, rfl, hc1, hc2, hop⟩ := h.open
  have hl := h.len
  obtain ⟨bf, o, rfl, hcell⟩ := hop (by omega)
  have hFl : s.fs.length - 1 - j < A.length := by omega
  have hn := h.nAt hj
  have hd2 : d = pos (s.fs.drop j) - 1 - K := by omega
  refine ⟨s.fs.length - 1 - j, K, bf, o, cap, A[s.fs.length - 1 - j].g, A[s.fs.length - 1 - j].n, by omega, rfl, by omega, by omega, by rw [hn]; exact h.ok.slots _ (List.getElem_mem hj), by rw [hl], by rw [hd2]; exact h.mat j K hj hK, fun W c => ?_, ⟨hFl, rfl, rfl⟩, by rw [show s.fs.length - 1 - (s.fs.length - 1 - j) = j by omega]; exact hd2⟩
  have h2 := h.same c
  refine ⟨?_, hcell W (c.mono fun _ _ f => f.elim) _ hFl, fun q hq => ?_⟩
  · rw [← hl]; exact cell_of_row W rs 0 _ 48 (0, 0) h2.head
  · have hr := h2.rows _ hFl
    have hlt : K * 4 + q < A[s.fs.length - 1 - j].n * 4 := by omega
    exact ⟨by rw [hr.cell hlt, sr_at _ hq], hr.free _⟩
theorem frV_some {fs : List Nat} {b i : Int} {d : Nat} (h : find fs b i = some d) : frV fs b i = (fs.length : Int) - 1 - b := by unfold frV; rw [h]
theorem frV_none {fs : List Nat} {b i : Int} (h : find fs b i = none) : frV fs b i = -1 := by unfold frV; rw [h]
theorem SlOk.isRef {fs : List Nat} {x : Wd} {y : Sl} (h : SlOk fs x y) : y.rf.isSome = x.isRef := by
  cases x with
  | num v => obtain rfl := h; rfl
  | ref d => obtain ⟨j, i, hj, hi, hd, rfl⟩ := h; rfl
theorem dget_any (h : Dk W G rs vf A sl s) (b i : Int) (hb : b ≤ 9223372036854775807) : Calls Try.prog 22 #[.pointer (some ⟨rs, 0, none⟩), .int .i64 b, .int .i64 i] W fun e W' => e = .returned (wordV (s.get b i).1 (s.get b i).2) ∧ Cha (fun _ => False) W W' := by
  have C := Lib.hid (frame_any h b i hb)
  cases hf : find s.fs b i with
  | none =>
    have hg : s.get b i = (0, 4) := by unfold St.get; rw [hf]; try rfl
    rw [hg]
    rw [frV_none hf] at C
    clear h hf hg
    go_enter Try.func22, Try.ntmps22
    go_wp2_with (go_at_call 34; ((with_reducible refine (C.out).mono ?_); rintro e w1 ⟨rfl, rfl⟩))
    go_returns
    exact ⟨rfl, Cha.refl _ _⟩
  | some d =>
    obtain ⟨F, K, bf, o, cap, g, n, q⟩ := h.slot hf
    have hg : s.get b i = (match s.ct d with | .num v => (v, 0) | .ref _ => (0, 10)) := by unfold St.get; rw [hf]; try rfl
    rw [frV_some hf, q.fb] at C
    have hl64 := h.ok.len
    have hfl := q.fl
    have hkn := q.kn
    have hn32 := q.n32
    have hok := q.ok
    obtain ⟨y0, y1, y2⟩ := q.cells W (Cha.refl _ _)
    have z0 := (y2 0 (by omega)).1
    have z1 := (y2 1 (by omega)).1
    rw [Nat.add_zero] at z0
    obtain rfl := q.ik
    rw [hg]
    cases hc : s.ct d with
    | num v =>
      rw [hc] at hok
      have hx : sl F K = ⟨v, none⟩ := hok
      rw [hx] at z0 z1
      have z0 : W.cell? ⟨g, K * 4, none⟩ = some (.int .u64 v) := z0
      have z1 : W.cell? ⟨g, K * 4 + 1, none⟩ = some (.bool false) := z1
      clear h hf hg q y2 hok hx hc
      go_enter Try.func22, Try.ntmps22
      go_wp2_with (go_at_call 34; ((with_reducible refine (C.out).mono ?_); rintro e w1 ⟨rfl, rfl⟩))
      go_returns
      exact ⟨rfl, Cha.refl _ _⟩
    | ref t =>
      rw [hc] at hok
      obtain ⟨j, k, hj, hk, hd, hx⟩ := hok
      rw [hx] at z1
      have z1 : W.cell? ⟨g, K * 4 + 1, none⟩ = some (.bool true) := z1
      clear h hf hg q y2 hx hc hd hk hj z0
      go_enter Try.func22, Try.ntmps22
      go_wp2_with (go_at_call 34; ((with_reducible refine (C.out).mono ?_); rintro e w1 ⟨rfl, rfl⟩))
      go_returns
      exact ⟨rfl, Cha.refl _ _⟩
end Go.Proofs.Yteienclklmjhdaa
