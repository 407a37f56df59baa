/- The document's stack: used, New, Pop. -/
import Derived.Test.YteienclklmjhdaaYE
import Derived.Test.YteienclklmjhdaaO
namespace Go.Proofs.Yteienclklmjhdaa
open Go.ChangeShapes Go.WideShapes Go.ChangeAt Go.RowKit
variable {w w' W W' : World} {G : Nat → Prop} {rs : Nat} {vf : Value} {A : List Fr} {sl : Nat → Nat → Sl} {s : St} {S : Nat → Prop}

theorem pos_append (A B : List Nat) : pos (A ++ B) = pos A + pos B := by
  induction A with
  | nil => simp [pos]
  | cons n l ih => show pos (l ++ B) + (n + 1) = pos l + (n + 1) + pos B; omega
theorem pos_reverse (A : List Nat) : pos A.reverse = pos A := by
  induction A with
  | nil => rfl
  | cons n l ih => rw [List.reverse_cons, pos_append, ih]; show pos l + (0 + (n + 1)) = pos l + (n + 1); omega
theorem dused_any (h : Dk W G rs vf A sl s) : Calls Try.prog 30 #[.pointer (some ⟨rs, 0, none⟩)] W fun e W' => e = .returned (.int .i64 (pos s.fs : Nat)) ∧ W = W' := by
  obtain ⟨a, cap, e, hc1, hc2, hop⟩ := h.open
  have c0 : W.cell? ⟨rs, 0, none⟩ = some vf := cell_of_row W rs 0 _ 48 (0, 0) h.head
  have hl := h.len
  have hl64 := h.ok.len
  have hu := h.ok.used_le
  have hend : pos (A.map Fr.n) = pos s.fs := by rw [h.sz, pos_reverse]
  rw [e] at c0
  have hn : ∀ f (hf : f < A.length), A[f].n ≤ 32 := fun f hf => by
    have hm : A[f].n ∈ A.map Fr.n := List.mem_map_of_mem (List.getElem_mem hf)
    rw [h.sz] at hm
    exact h.ok.slots _ (List.mem_reverse.1 hm)
  have hpre : ∀ i, i ≤ A.length → pos ((A.take i).map Fr.n) ≤ 2112 := fun i hi => by
    have e1 : pos (A.map Fr.n) = pos ((A.take i).map Fr.n) + pos ((A.drop i).map Fr.n) := by rw [← pos_append, ← List.map_append, List.take_append_drop]
    omega
  have hstep : ∀ i (hi : i < A.length), pos ((A.take (i + 1)).map Fr.n) = pos ((A.take i).map Fr.n) + (A[i].n + 1) := fun i hi => by
    rw [List.take_succ_eq_append_getElem hi, List.map_append, pos_append]
    show _ + (0 + (A[i].n + 1)) = _
    omega
  have HS := Lib.hid hstep
  have HP := Lib.hid hpre
  have HN := Lib.hid hn
  have HO := Lib.hid hop
  have HE := Lib.hid hend
  have hl2 : A.length ≤ 64 := by omega
  clear h hop hstep hpre hn hend e
  go_enter Try.func30, Try.ntmps30
  go_wp2
  go_loopw [3, 4] (fun x i wr => ∃ j : Nat, j ≤ A.length ∧ i = .int .i64 (j : Int) ∧ x = .int .i64 (pos ((A.take j).map Fr.n) : Nat) ∧ W = wr) (fun _ i _ => A.length - (intOf i).toNat)
  case atStart => exact ⟨0, by omega, rfl, by simp [pos], rfl⟩
  case round =>
    obtain ⟨j, hj, rfl, rfl, rfl⟩ := hrel
    by_cases hlt : j < A.length
    · obtain ⟨bf, o, rfl, hcell⟩ := HO.out (by omega)
      have y0 := hcell W (Cha.refl _ _) j hlt
      have n32 := HN.out j hlt
      have hp := HP.out j (by omega)
      have HST := Lib.hid (HS.out j hlt)
      generalize pos ((A.take j).map Fr.n) = p at *
      generalize A[j].g = g at *
      generalize A[j].n = n at *
      have hlt2 : (j : Int) < (A.length : Int) := by omega
      clear hcell
      go_wp2
      go_roundw
      case rel => refine ⟨j + 1, ?_, ?_, ?_, ?_⟩ <;> first | trivial | omega | (congr 1; done) | (rw [HST.out]; omega) | (rw [HST.out]; congr 1)
      case measure => simp [intOf]; omega
    · obtain rfl : j = A.length := by omega
      rw [List.take_length, HE.out]
      go_wp2
      go_returns
      exact ⟨rfl, rfl⟩
/-- The words' number and the copies' are written. -/
theorem Dk.moved (h : Dk W G rs vf A sl s) (m : Nat) (hm : m = 64 ∨ m = 128 ∨ m = 256 ∨ m = 512 ∨ m = 1024 ∨ m = 2048 ∨ m = 4096) (hf : pos s.fs ≤ m) :
    Dk ((W.setCell ⟨rs, 1, none⟩ (.int .i64 (m : Nat))).setCell ⟨rs, 2, none⟩ (.int .i64 (wrap64 (s.cop + 1)))) G rs vf A sl (s.moved m) := by
  have c : Cha (fun i => i = rs) W ((W.setCell ⟨rs, 1, none⟩ (.int .i64 (m : Nat))).setCell ⟨rs, 2, none⟩ (.int .i64 (wrap64 (s.cop + 1)))) :=
    ((Cha.refl (fun i => i = rs) W).setCell (p := ⟨rs, 1, none⟩) (fun _ => rfl) _).setCell (p := ⟨rs, 2, none⟩) (fun _ => rfl) _
  have e1 := heap_setCell_same W rs 1 _ 48 (.int .i64 (m : Nat)) h.head
  have e2 := heap_setCell_same _ rs 2 _ 48 (.int .i64 (wrap64 (s.cop + 1))) e1
  exact ⟨e2, h.lies.cha c fun g hg => (h.gv g hg).2, h.sz, fun f hf => c.row (h.rows f hf) (h.gf f hf).2.1, h.mat, h.ok.moved hm hf, h.gr, h.gv, h.gf, h.apart, fun i hi => Nat.lt_of_lt_of_le (h.old i hi) c.size⟩
theorem dnew_any (W : World) : Calls Try.prog 9 #[] W fun e W' => ∃ rs vf A sl G, e = .returned (.pointer (some ⟨rs, 0, none⟩)) ∧ Dk W' G rs vf A sl St.new ∧ Cha (fun _ => False) W W' ∧ ∀ i, G i → W.heap.size ≤ i := by
  have HE : Hid (Dk (W.alloc (.cells #[.slice none 0 0, .int .i64 64, .int .i64 0] 48)) (fun i => i = W.heap.size) W.heap.size (.slice none 0 0) [] (fun _ _ => ⟨0, none⟩) St.new) := Lib.hid
    ⟨heap_alloc_new _ _, Lies.nil _ _, rfl, fun f h => absurd h (Nat.not_lt_zero _), fun j i h => absurd h (Nat.not_lt_zero _), Ok.new, rfl, fun g hg => (nomatch hg), fun f h => absurd h (Nat.not_lt_zero _), fun f f' h => absurd h (Nat.not_lt_zero _), fun i hi => by rw [World.size_alloc]; omega⟩
  go_enter Try.func9, Try.ntmps9
  go_wp2
  go_returns
  exact ⟨_, _, _, _, _, rfl, HE.out, (Cha.refl _ W).alloc _, fun i hi => by omega⟩
/-- The last frame goes. -/
theorem Dk.drop {a : Option Addr} {cap : Nat} (h : Dk W G rs (.slice a A.length cap) A sl s) (hp : 0 < A.length) :
    Dk (W.setCell ⟨rs, 0, none⟩ (.slice a (A.length - 1) cap)) G rs (.slice a (A.length - 1) cap) (A.take (A.length - 1)) sl s.drop := by
  have c : Cha (fun i => i = rs) W (W.setCell ⟨rs, 0, none⟩ (.slice a (A.length - 1) cap)) := (Cha.refl (fun i => i = rs) W).setCell (p := ⟨rs, 0, none⟩) (fun _ => rfl) _
  have e1 := heap_setCell_same W rs 0 _ 48 (.slice a (A.length - 1) cap) h.head
  have hl := h.len
  have hob : ∀ g, (Value.slice a (A.length - 1) cap).ownBlock = some g → (Value.slice a A.length cap).ownBlock = some g := fun g hg => by cases a <;> exact hg
  have hgt : ∀ f (hf : f < (A.take (A.length - 1)).length), ∃ hf' : f < A.length, (A.take (A.length - 1))[f] = A[f] := fun f hf => ⟨by simp at hf; omega, by simp⟩
  refine ⟨e1, ?_, ?_, fun f hf => ?_, ?_, h.ok.drop, h.gr, fun g hg => h.gv g (hob g hg), fun f hf => ?_, fun f f' hf hf' hne => ?_, fun i hi => Nat.lt_of_lt_of_le (h.old i hi) c.size⟩
  · have hls : Lies frE W (.slice a (A.length - 1) cap) (A.take (A.length - 1)) := by
      rcases h.lies with ⟨e, _⟩ | ⟨g, o, cap', cur, e, k1, k2, k3, k4, k5⟩
      · rw [e] at hp; exact absurd hp (Nat.lt_irrefl _)
      · injection e with e2 e3 e4
        subst e2 e4
        refine .inr ⟨g, o, cap, cur, by simp, by simp; omega, k2, k3, k4, fun i hi => ?_⟩
        have hk : frE.k = 1 := rfl
        rw [hk, Nat.mul_one] at hi
        have hi2 : i < A.length - 1 := by simpa using hi
        rw [k5 i (by rw [hk]; omega)]
        have q1 := frE_ok.cs_get A (i := i) (j := 0) (by omega) Nat.zero_lt_one
        have q2 := frE_ok.cs_get (A.take (A.length - 1)) (i := i) (j := 0) (by simp; omega) Nat.zero_lt_one
        rw [hk, Nat.mul_one, Nat.add_zero] at q1 q2
        rw [q1, q2]
        simp
    exact hls.cha c fun g hg => (h.gv g (hob g hg)).2
  · show (A.take (A.length - 1)).map Fr.n = s.fs.tail.reverse
    rw [List.map_take, h.sz, hl]
    cases s.fs with
    | nil => rfl
    | cons n l => simp
  · obtain ⟨hf', e⟩ := hgt f hf
    rw [e]
    exact c.row (h.rows f hf') (h.gf f hf').2.1
  · intro j i hj hi
    have h0 := h.mat
    have hok := h.ok
    obtain ⟨N, fs, ct, cop⟩ := s
    cases fs with
    | nil => exact absurd hj (Nat.not_lt_zero _)
    | cons n l =>
      have hj : j < l.length := hj
      have hi : i < l[j] := hi
      have q := h0 (j + 1) i (Nat.succ_lt_succ hj) hi
      have e1 : (n :: l).length - 1 - (j + 1) = l.length - 1 - j := by simp; omega
      have q : SlOk (n :: l) (ct (pos (l.drop j) - 1 - i)) (sl ((n :: l).length - 1 - (j + 1)) i) := q
      rw [e1] at q
      show SlOk l (ct (pos (l.drop j) - 1 - i)) (sl (l.length - 1 - j) i)
      have hd := pos_drop hj
      have hle := pos_le l j
      revert q
      cases hc : ct (pos (l.drop j) - 1 - i) with
      | num v => exact fun q => q
      | ref d =>
        rintro ⟨j2, i2, hj2, hi2, hd2, hx⟩
        obtain ⟨_, k2⟩ := hok.refs _ d (by omega) (by show _ ≤ pos l + (n + 1); omega) hc
        have k3 : d ≤ pos l := k2 1 (by show _ ≤ pos l; omega)
        cases j2 with
        | zero =>
          exfalso
          have hi2 : i2 < n := hi2
          have hd2 : d = pos l + (n + 1) - 1 - i2 := hd2
          omega
        | succ j2 =>
          have hj3 : j2 < l.length := Nat.lt_of_succ_lt_succ hj2
          refine ⟨j2, i2, hj3, hi2, hd2, ?_⟩
          rw [hx]
          have e2 : (n :: l).length - 1 - (j2 + 1) = l.length - 1 - j2 := by simp; omega
          rw [e2]
  · obtain ⟨hf', e⟩ := hgt f hf
    rw [e]
    exact ⟨(h.gf f hf').1, (h.gf f hf').2.1, fun q => (h.gf f hf').2.2 (hob _ q)⟩
  · obtain ⟨g1, e⟩ := hgt f hf
    obtain ⟨g2, e2⟩ := hgt f' hf'
    rw [e, e2]
    exact h.apart f f' g1 g2 hne
end Go.Proofs.Yteienclklmjhdaa
