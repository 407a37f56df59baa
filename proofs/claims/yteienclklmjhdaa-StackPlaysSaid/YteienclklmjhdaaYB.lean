/- The document's stack in memory. -/
import Derived.Test.YteienclklmjhdaaYA
import Derived.Test.YteienclklmjhdaaH
import Derived.Test.YteienclklmjhdaaI
namespace Go.Proofs.Yteienclklmjhdaa
open Go.ChangeShapes Go.WideShapes Go.ChangeAt Go.RowKit

/-- A frame: its slots' block, and how many there are. -/
structure Fr where
  g : Nat
  n : Nat
def frE : Enc Fr := ⟨46, 60, 1, 24, .slice none 0 0, fun a => [.slice (some ⟨a.g, 0, none⟩) a.n a.n]⟩
theorem frE_ok : frE.Ok := ⟨Try.underlying46, by kernel_rfl, rfl, by decide, fun _ => rfl, fun a u h => by simp [frE] at h; subst h; rfl⟩
/-- A slot: its word; or the slot to which it refers, by its frame's number from the bottom. -/
structure Sl where
  w : Int
  rf : Option (Nat × Nat)
def Sl.at (x : Sl) (j : Nat) : Value :=
  if j = 0 then .int .u64 x.w else if j = 1 then .bool x.rf.isSome else if j = 2 then .int .i64 (match x.rf with | some p => (p.1 : Int) | none => 0) else .int .i64 (match x.rf with | some p => (p.2 : Int) | none => 0)
/-- A slot is what stands at a distance. -/
def SlOk (fs : List Nat) : Wd → Sl → Prop
  | .num v, x => x = ⟨v, none⟩
  | .ref d, x => ∃ j i, ∃ h : j < fs.length, i < fs[j] ∧ d = pos (fs.drop j) - 1 - i ∧ x = ⟨0, some (fs.length - 1 - j, i)⟩
def sr (sl : Nat → Sl) (p : Nat) : Value := (sl (p / 4)).at (p % 4)
structure Dk (w : World) (G : Nat → Prop) (rs : Nat) (vf : Value) (A : List Fr) (sl : Nat → Nat → Sl) (s : St) : Prop where
  head : w.heap[rs]? = some (.cells #[vf, .int .i64 (s.n : Nat), .int .i64 s.cop] 48 (0, 0))
  lies : Lies frE w vf A
  sz : A.map Fr.n = s.fs.reverse
  rows : ∀ f (h : f < A.length), FRow 64 w A[f].g (A[f].n * 4) (sr (sl f))
  mat : ∀ j i (h : j < s.fs.length), i < s.fs[j] → SlOk s.fs (s.ct (pos (s.fs.drop j) - 1 - i)) (sl (s.fs.length - 1 - j) i)
  ok : Ok s
  gr : G rs
  gv : ∀ g, vf.ownBlock = some g → G g ∧ g ≠ rs
  gf : ∀ f (h : f < A.length), G A[f].g ∧ A[f].g ≠ rs ∧ vf.ownBlock ≠ some A[f].g
  apart : ∀ f f' (h : f < A.length) (h' : f' < A.length), f ≠ f' → A[f].g ≠ A[f'].g
  old : ∀ i, G i → i < w.heap.size
def DLeft (w w' : World) (G : Nat → Prop) (rs : Nat) (s : St) : Prop := ∃ G' vf A sl, Dk w' G' rs vf A sl s ∧ Cha G w w' ∧ ∀ i, G' i → G i ∨ w.heap.size ≤ i
variable {w w' W W' : World} {G : Nat → Prop} {rs : Nat} {vf : Value} {A : List Fr} {sl : Nat → Nat → Sl} {s : St} {S : Nat → Prop}
theorem Dk.cha (h : Dk w G rs vf A sl s) (c : Cha S w w') (hs : ∀ i, G i → ¬ S i) : Dk w' G rs vf A sl s :=
  ⟨(c.old rs (h.old _ h.gr) (hs _ h.gr)).trans h.head, h.lies.cha c fun g hg => hs g (h.gv g hg).1, h.sz, fun f hf => c.row (h.rows f hf) (hs _ (h.gf f hf).1), h.mat, h.ok, h.gr, h.gv, h.gf, h.apart, fun i hi => Nat.lt_of_lt_of_le (h.old i hi) c.size⟩
theorem Dk.same (h : Dk w G rs vf A sl s) (c : Cha (fun _ => False) w w') : Dk w' G rs vf A sl s := h.cha c fun _ _ f => f
theorem Dk.left (h : Dk w G rs vf A sl s) (c : Cha (fun _ => False) w w') : DLeft w w' G rs s := ⟨G, vf, A, sl, h.same c, c.wide, fun _ h => .inl h⟩
theorem DLeft.before (c : Cha (fun _ => False) w W) (h : DLeft W W' G rs s) : DLeft w W' G rs s := by
  obtain ⟨G1, v, A, sl, q, c1, n⟩ := h
  exact ⟨G1, v, A, sl, q, c.wide.trans c1, fun i hi => (n i hi).imp id fun e => Nat.le_trans c.size e⟩
theorem Dk.len (h : Dk w G rs vf A sl s) : A.length = s.fs.length := by have := congrArg List.length h.sz; simpa using this
theorem Dk.nAt (h : Dk w G rs vf A sl s) {j : Nat} (hj : j < s.fs.length) : (A[s.fs.length - 1 - j]'(by have := h.len; omega)).n = s.fs[j] := by
  have hl := h.len
  have e : (A.map Fr.n)[s.fs.length - 1 - j]? = some s.fs[j] := by
    rw [h.sz, List.getElem?_reverse (by omega), show s.fs.length - 1 - (s.fs.length - 1 - j) = j by omega, List.getElem?_eq_getElem hj]
  rw [List.getElem?_map, List.getElem?_eq_getElem (by omega)] at e
  simpa using e
/-- Where the list of frames lies. -/
theorem Dk.open (h : Dk w G rs vf A sl s) : ∃ a cap, vf = .slice a A.length cap ∧ A.length ≤ cap ∧ cap ≤ maxLen ∧ (0 < A.length → ∃ bf o, a = some ⟨bf, o, none⟩ ∧
    ∀ W, Cha (fun i => vf.ownBlock ≠ some i) w W → ∀ f (hf : f < A.length), W.cell? ⟨bf, o + f, none⟩ = some (.slice (some ⟨A[f].g, 0, none⟩) A[f].n A[f].n)) := by
  obtain ⟨a, cap, e, h1, h2⟩ := h.lies.form
  refine ⟨a, cap, e, h1, h2, fun hp => ?_⟩
  obtain ⟨g, o, cap', e', _, _, hc⟩ := h.lies.cells frE_ok hp
  rw [e] at e'
  injection e' with e1 e2 e3
  refine ⟨g, o, e1, fun W c f hf => ?_⟩
  have := (hc W c).1 f 0 hf Nat.zero_lt_one
  have ek : frE.k = 1 := rfl
  rw [ek, Nat.mul_one, Nat.add_zero] at this
  rw [this]; rfl

def frV (fs : List Nat) (b i : Int) : Int := match find fs b i with | some _ => (fs.length : Int) - 1 - b | none => -1
set_option maxHeartbeats 1000000 in
theorem frame_any (h : Dk W G rs vf A sl s) (b i : Int) (hb : b ≤ 9223372036854775807) : Calls Try.prog 34 #[.pointer (some ⟨rs, 0, none⟩), .int .i64 b, .int .i64 i] W fun e W' => e = .returned (.int .i64 (frV s.fs b i)) ∧ W = W' := by
  obtain ⟨a, cap, e, hc1, hc2, hop⟩ := h.open
  have c0 : W.cell? ⟨rs, 0, none⟩ = some vf := cell_of_row W rs 0 _ 48 (0, 0) h.head
  have hl := h.len
  have hl64 := h.ok.len
  rw [e] at c0
  rw [hl] at c0
  unfold frV
  by_cases c1 : b < 0
  · have e0 : find s.fs b i = none := by unfold find; rw [if_neg]; omega
    rw [e0]
    clear h hop
    go_enter Try.func34, Try.ntmps34
    go_wp2
    go_returns
    exact ⟨rfl, rfl⟩
  · obtain ⟨k, rfl⟩ : ∃ k : Nat, b = k := ⟨b.toNat, by omega⟩
    by_cases c2 : s.fs.length ≤ k
    · have e0 : find s.fs k i = none := by unfold find; rw [if_neg]; omega
      rw [e0]
      have q1 : (s.fs.length : Int) - 1 - (k : Int) < 0 := by omega
      clear h hop
      go_enter Try.func34, Try.ntmps34
      go_wp2
      go_returns
      exact ⟨rfl, rfl⟩
    · have hk : k < s.fs.length := by omega
      obtain ⟨F, hF⟩ : ∃ F, F = s.fs.length - 1 - k := ⟨_, rfl⟩
      have q1 : (s.fs.length : Int) - 1 - (k : Int) = (F : Int) := by omega
      obtain ⟨bf, o, rfl, hcell⟩ := hop (by omega)
      have hFl : F < A.length := by omega
      have y0 := hcell W (Cha.refl _ _) F hFl
      have hn : (A[F]'hFl).n = s.fs[k]'hk := by subst hF; exact h.nAt (by omega)
      rw [hn] at y0
      have hFl2 : F < s.fs.length := by omega
      obtain ⟨n, hnn⟩ : ∃ n, n = s.fs[k]'hk := ⟨_, rfl⟩
      rw [← hnn] at y0
      have HN := Lib.hid hnn
      have HFF := Lib.hid hF
      have q2 : ¬ ((F : Int) < 0) := by omega
      have q3 : ¬ ((k : Int) < 0) := by omega
      have HR : Hid (i < 0 ∨ (n : Int) ≤ i → find s.fs k i = none) := Lib.hid fun c => by
        unfold find; rw [if_neg]
        have : s.fs.getD (k : Int).toNat 0 = n := by rw [hnn]; simp [show k < s.fs.length by omega]
        rw [this]; omega
      have HR2 : Hid (0 ≤ i → i < (n : Int) → ∃ d, find s.fs k i = some d) := Lib.hid fun c1 c2 => by
        have := find_nat (fs := s.fs) (j := k) (i := i.toNat) (by omega) (by rw [← hnn]; omega)
        rw [show ((i.toNat : Nat) : Int) = i by omega] at this
        exact ⟨_, this⟩
      generalize A[F].g = g at y0
      clear h hop hcell hn hnn hF
      by_cases c3 : i < 0
      · rw [HR.out (.inl c3)]
        go_enter Try.func34, Try.ntmps34
        go_wp2
        go_returns
        exact ⟨rfl, rfl⟩
      · by_cases c4 : (n : Int) ≤ i
        · rw [HR.out (.inr c4)]
          go_enter Try.func34, Try.ntmps34
          go_wp2
          go_returns
          exact ⟨rfl, rfl⟩
        · obtain ⟨d, hd⟩ := HR2.out (by omega) (by omega)
          rw [hd]
          clear hd
          rw [show ((s.fs.length : Int) - 1 - (k : Int)) = (F : Int) from q1]
          go_enter Try.func34, Try.ntmps34
          go_wp2
          go_returns
          exact ⟨rfl, rfl⟩
end Go.Proofs.Yteienclklmjhdaa
