/- QueueAll: the queues beside the law's list. -/
import Derived.Test.YteogepfolifneaaQA
import Derived.Test.YteogepfolifneaaN
import Derived.Test.YteogepfolifneaaAB
namespace Go.Proofs.Yteogepfolifneaa
open Go.ChangeShapes Go.WideShapes Go.ChangeAt Go.RowKit
variable {w0 w w' : World} {bq bp bs n k : Nat} {s : St} {sn : Nat → Nat}

/-- Queues, and what was seen. -/
def Ls (w0 w : World) (bq bp bs n : Nat) (sn : Nat → Nat) (s : St) : Prop := ∃ F z v, Qs w F bq bp z s.1 v s.2 ∧ Cha (fun _ => False) w0 w ∧ (∀ i, F i → w0.heap.size ≤ i) ∧ ¬ F bs ∧ w0.heap.size ≤ bs ∧ Ints 3 w bs n (fun i => (sn i : Int))
theorem Ls.cha (h : Ls w0 w bq bp bs n sn s) : Cha (fun _ => False) w0 w := by obtain ⟨F, z, v, q, c, _⟩ := h; exact c
theorem Ls.cell (h : Ls w0 w bq bp bs n sn s) {i : Nat} (hi : i < n) : w.cell? ⟨bs, i, none⟩ = some (.int .i64 (sn i : Int)) ∧ w.frozen? ⟨bs, i, none⟩ = false := by
  obtain ⟨F, z, v, _, _, _, _, _, k⟩ := h; exact ⟨k.cell hi, k.free i⟩
theorem Ls.set (h : Ls w0 w bq bp bs n sn s) (m : Nat) : Ls w0 (w.setCell ⟨bs, m, none⟩ (.int .i64 1)) bq bp bs n (fun i => if i = m then 1 else sn i) s := by
  obtain ⟨F, z, v, q, c, a1, a2, a3, i⟩ := h
  have cc : Cha (fun i => i = bs) w (w.setCell ⟨bs, m, none⟩ (.int .i64 1)) := (Cha.refl (fun i => i = bs) w).setCell (p := ⟨bs, m, none⟩) (fun _ => rfl) _
  refine ⟨F, z, v, q.cha cc (fun i hi e => a2 (e ▸ hi)), c.over cc (fun i e => .inr (by rw [e]; exact a3)), a1, a2, a3, ?_⟩
  refine FRow.congr (i.set m 1) fun j _ => ?_
  unfold up
  by_cases e : j = m
  · rw [if_pos e]; dsimp only; rw [if_pos e]; rfl
  · rw [if_neg e]; dsimp only; rw [if_neg e]
theorem ls_new (h : Live w0 w bq bp s) : Ls w0 (w.alloc (.cells (fcells n (fun _ => .int .i64 0)) 3)) bq bp w.heap.size n (fun _ => 0) s := by
  obtain ⟨F, z, v, q, c, a⟩ := h
  have cc : Cha (fun _ => False) w (w.alloc (.cells (fcells n (fun _ => .int .i64 0)) 3)) := (Cha.refl _ w).alloc _
  exact ⟨F, z, v, q.same cc, c.trans cc, a, fun e => by have := q.old _ e; omega, c.size, heap_alloc_new w _⟩
theorem ls_put (h : Ls w0 w bq bp bs n sn s) (p : Nat) (g : Int) (hp : p < s.1.length) (hg : 0 ≤ g) (hA : s.2.length + 5 ≤ 17592186044416) :
    Calls Try.prog 15 #[.pointer (some ⟨bq, 0, none⟩), .int .i64 (p : Int), .int .i64 g] w fun e w' => e = .returned (.int .i64 0) ∧ Ls w0 w' bq bp bs n sn (putP s p g) := by
  obtain ⟨F, z, v, q, c, a1, a2, a3, i⟩ := h
  exact (put_any p g q hp hg hA).mono fun e w' ⟨a, l⟩ => ⟨a, by
    obtain ⟨F', z', v', q', c', s1, n1⟩ := l
    have hb := i.lt
    refine ⟨F', z', v', q', c.over c' (fun i hi => .inr (a1 i hi)), fun i hi => ?_, fun hi => ?_, a3, i.cha c' a2⟩
    · rcases n1 i hi with e | e
      · exact a1 i e
      · exact Nat.le_trans c.size e
    · rcases n1 _ hi with e | e
      · exact a2 e
      · omega⟩
theorem ls_last (h : Ls w0 w bq bp bs n sn s) (g : Int) (hg : 0 ≤ g) (hA : s.2.length + 5 ≤ 17592186044416) :
    Calls Try.prog 17 #[.pointer (some ⟨bq, 0, none⟩), .int .i64 g] w fun e w' => e = .returned (.int .i64 0) ∧ Ls w0 w' bq bp bs n sn (s.1, s.2 ++ [g]) := by
  obtain ⟨F, z, v, q, c, a1, a2, a3, i⟩ := h
  exact (last_any g q hg hA).mono fun e w' ⟨a, l⟩ => ⟨a, by
    obtain ⟨F', z', v', q', c', s1, n1⟩ := l
    have hb := i.lt
    refine ⟨F', z', v', q', c.over c' (fun i hi => .inr (a1 i hi)), fun i hi => ?_, fun hi => ?_, a3, i.cha c' a2⟩
    · rcases n1 i hi with e | e
      · exact a1 i e
      · exact Nat.le_trans c.size e
    · rcases n1 _ hi with e | e
      · exact a2 e
      · omega⟩
theorem ls_get (h : Ls w0 w bq bp bs n sn s) (p : Nat) (x : Int) (hp : p < s.1.length) :
    Calls Try.prog 19 #[.pointer (some ⟨bq, 0, none⟩), .int .i64 (p : Int), .int .i64 x] w fun e w' => e = .returned (.tuple #[.int .i64 (getP s p x).1.1, .bool (getP s p x).1.2]) ∧ Ls w0 w' bq bp bs n sn (getP s p x).2 := by
  obtain ⟨F, z, v, q, c, a1, a2, a3, i⟩ := h
  exact (get_any p x q hp).mono fun e w' ⟨a, l⟩ => ⟨a, by
    obtain ⟨F', z', v', q', c', s1, n1⟩ := l
    have hb := i.lt
    refine ⟨F', z', v', q', c.over c' (fun i hi => .inr (a1 i hi)), fun i hi => ?_, fun hi => ?_, a3, i.cha c' a2⟩
    · rcases n1 i hi with e | e
      · exact a1 i e
      · exact Nat.le_trans c.size e
    · rcases n1 _ hi with e | e
      · exact a2 e
      · omega⟩

/-- The law's state: k processors, g numbers put, out of them seen. -/
def All (w0 w : World) (bq bp bs n k g out : Nat) : Prop := ∃ s sn, Ls w0 w bq bp bs n sn s ∧ Inv g sn s.1 s.2 out ∧ s.1.length = k
/-- A number that was got. -/
def GotOne (w0 : World) (bq bp bs n k g out : Nat) (e : Ending) (w' : World) : Prop := ∃ (m : Nat) (s : St) (sn : Nat → Nat), e = .returned (.tuple #[.int .i64 (m : Int), .bool true]) ∧ m < g ∧ sn m = 0 ∧ Ls w0 w' bq bp bs n sn s ∧ Inv g (fun i => if i = m then 1 else sn i) s.1 s.2 (out + 1) ∧ s.1.length = k
theorem all_put {g out : Nat} (h : All w0 w bq bp bs n k g out) (p : Nat) (hp : p < k) (hg : g ≤ 2000000) :
    Calls Try.prog 15 #[.pointer (some ⟨bq, 0, none⟩), .int .i64 (p : Int), .int .i64 (g : Int)] w fun e w' => e = .returned (.int .i64 0) ∧ All w0 w' bq bp bs n k (g + 1) out := by
  obtain ⟨s, sn, hL, hI, hk⟩ := h
  have hA := len_wt (S := s.1) (A := s.2)
  have ht := hI.tot
  exact (ls_put hL p (g : Int) (by omega) (by omega) (by omega)).mono fun e w' ⟨a, l⟩ => ⟨a, putP s p g, sn, l, hI.add (fun F => wt_put (by omega) (by omega)), by
    show (putS _ _ _ _).1.length = k
    unfold putS
    split
    · rw [set_len]; exact hk
    · split <;> (rw [set_len]; exact hk)⟩
theorem all_last {g out : Nat} (h : All w0 w bq bp bs n k g out) (hg : g ≤ 2000000) :
    Calls Try.prog 17 #[.pointer (some ⟨bq, 0, none⟩), .int .i64 (g : Int)] w fun e w' => e = .returned (.int .i64 0) ∧ All w0 w' bq bp bs n k (g + 1) out := by
  obtain ⟨s, sn, hL, hI, hk⟩ := h
  have hA := len_wt (S := s.1) (A := s.2)
  have ht := hI.tot
  exact (ls_last hL (g : Int) (by omega) (by omega)).mono fun e w' ⟨a, l⟩ => ⟨a, (s.1, s.2 ++ [(g : Int)]), sn, l, hI.add (fun F => wt_last), hk⟩
theorem all_get {g out : Nat} (h : All w0 w bq bp bs n k g out) (p : Nat) (x : Int) (hp : p < k) (ho : out < g) :
    Calls Try.prog 19 #[.pointer (some ⟨bq, 0, none⟩), .int .i64 (p : Int), .int .i64 x] w (GotOne w0 bq bp bs n k g out) := by
  obtain ⟨s, sn, hL, hI, hk⟩ := h
  have ht := hI.tot
  refine (ls_get hL p x (by omega)).mono fun e w' ⟨a, l⟩ => ?_
  have hf : (x % (s.1.length : Int)).toNat < s.1.length := by
    have := Int.emod_lt_of_pos x (show (0 : Int) < s.1.length by omega)
    have := Int.emod_nonneg x (show (s.1.length : Int) ≠ 0 by omega)
    omega
  have hw := fun F => wt_get (F := F) (S := s.1) (A := s.2) (p := p) (f := (x % (s.1.length : Int)).toNat) (by omega) hf
  have e1 : (getP s p x).1.2 = true := by
    rcases hw (fun _ => 1) with ⟨e, _⟩ | ⟨_, _, e⟩
    · exact e
    · omega
  have hw2 : ∀ F, wt F s.1 s.2 = wt F (getP s p x).2.1 (getP s p x).2.2 + F (getP s p x).1.1 := fun F => by
    rcases hw F with ⟨_, e⟩ | ⟨e, _, _⟩
    · exact e
    · have : (getP s p x).1.2 = false := by show (getS _ _ _ _).1.2 = false; rw [e]
      rw [this] at e1; cases e1
  obtain ⟨m, k1, k2, k3, k4, k5⟩ := hI.take hw2
  exact ⟨m, (getP s p x).2, sn, by rw [a, e1, k1], k2, k3, l, k5, by show (getS _ _ _ _).2.1.length = k; rw [getS_len]; exact hk⟩
/-- Behind all of them nothing is left. -/
theorem all_end {g : Nat} (h : All w0 w bq bp bs n k g g) (hk : 1 ≤ k) : Calls Try.prog 19 #[.pointer (some ⟨bq, 0, none⟩), .int .i64 0, .int .i64 0] w fun e w' => e = .returned (.tuple #[.int .i64 0, .bool false]) ∧ Cha (fun _ => False) w0 w' := by
  obtain ⟨s, sn, hL, hI, hk2⟩ := h
  have ht := hI.tot
  refine (ls_get hL 0 0 (by omega)).mono fun e w' ⟨a, l⟩ => ?_
  have hf : ((0 : Int) % (s.1.length : Int)).toNat < s.1.length := by rw [Int.zero_emod]; show 0 < _; omega
  rcases wt_get (F := fun _ => 1) (S := s.1) (A := s.2) (p := 0) (f := ((0 : Int) % (s.1.length : Int)).toNat) (by omega) hf with ⟨_, e⟩ | ⟨e, _, _⟩
  · omega
  · exact ⟨by rw [a]; show Ending.returned (.tuple #[.int .i64 (getS _ _ _ _).1.1, .bool (getS _ _ _ _).1.2]) = _; rw [e], l.cha⟩
theorem all_seen {g : Nat} (h : All w0 w bq bp bs n k g g) {i : Nat} (hi : i < g) (hn : i < n) : w.cell? ⟨bs, i, none⟩ = some (.int .i64 1) := by
  obtain ⟨s, sn, hL, hI, hk2⟩ := h
  have ht := hI.tot
  have hz := wt_zero (F := one (i : Int)) (S := s.1) (A := s.2) (by omega)
  have := hI.occ i
  rw [hz, if_pos hi] at this
  have e1 : sn i = 1 := by omega
  have e2 : ((sn i : Nat) : Int) = 1 := by rw [e1]; rfl
  rw [(hL.cell hn).1, e2]
set_option maxRecDepth 100000 in
theorem mk_seen (m : Nat) (hm : m ≤ 2000000) (W : World) : (Instr.makeSlice 43 (.int .i64 (m : Int)) (.int .i64 (m : Int))).run Try.prog W = .ok (.slice (some ⟨W.heap.size, 0, none⟩) m m) (W.alloc (.cells (fcells m (fun _ => .int .i64 0)) 3)) := by
  obtain ⟨i, hi, hz, hs, hb⟩ := info_parts info3
  have h := run_make (P := Try.prog) W 43 3 i _ Try.underlying43 hi hz .i64 .i64 (m : Int) (m : Int) (by omega) (by omega) (by rw [hb]; omega) (by omega)
  have e : madeCells (Value.int .i64 0).cells (m * 1) = fcells m (fun _ => .int .i64 0) := by
    rw [Nat.mul_one]
    unfold madeCells fcells
    congr 1
    funext x
    show (#[Value.int .i64 0])[x % 1]! = _
    rw [Nat.mod_one]
    rfl
  rw [hs, Int.toNat_natCast, e] at h
  exact h
end Go.Proofs.Yteogepfolifneaa
