/- The law's changes: any one. -/
import Derived.Test.YtllefljimkmbhaaXH
import Derived.Test.YtllefljimkmbhaaXE
namespace Go.Proofs.Ytllefljimkmbhaa
open Go.ChangeShapes Go.WideShapes Go.ChangeAt Go.RowKit
variable {w0 W W' : World} {F : Nat → Prop} {bg bd : Nat} {g : Gr}

theorem change_any (h : Duo bg bd g W F) (hn : g.n < 4000) (hrn : g.roots.length ≤ 4000) (z0 z1 z2 z3 : Int) :
    Calls Try.prog 32 #[.pointer (some ⟨bg, 0, none⟩), .pointer (some ⟨bd, 0, none⟩), opV z0 z1 z2 z3] W fun e W' => e = .returned (.bool true) ∧ Goes (Duo bg bd (g.change z0 z1 z2 z3)) W W' F := by
  unfold Gr.change
  by_cases c0 : g.roots.length = 0 ∨ Int.tmod z0 5 = 0
  · rw [if_pos c0]; exact change_add h hn z0 z1 z2 z3 c0
  · rw [if_neg c0]
    have hr : 0 < g.roots.length := by omega
    by_cases c1 : Int.tmod z0 5 = 1 ∨ Int.tmod z0 5 = -1
    · rw [if_pos c1]; exact change_drop h hr z0 z1 z2 z3 c1
    · rw [if_neg c1]
      by_cases ck : (g.fs (g.px z1)).length = 0
      · rw [if_pos ck]
        by_cases c2 : Int.tmod z0 5 = 2 ∨ Int.tmod z0 5 = -2
        · exact change_no2 h hr z0 z1 z2 z3 ck c2
        · exact change_no3 h hr z0 z1 z2 z3 ck ⟨by omega, by omega, by omega, by omega, by omega⟩
      · rw [if_neg ck]
        by_cases c2 : Int.tmod z0 5 = 2 ∨ Int.tmod z0 5 = -2
        · rw [if_pos c2]
          by_cases ct : (g.fs (g.px z1)).getD (rem0 z2 (g.fs (g.px z1)).length) 0 = 0 ∨ 4000 < g.roots.length
          · rw [if_pos ct]; exact change_root0 h hr z0 z1 z2 z3 (by omega) ct c2
          · rw [if_neg ct]; exact change_root h hr z0 z1 z2 z3 (by omega) (by omega) hrn c2
        · rw [if_neg c2]
          exact change_set h hr z0 z1 z2 z3 (by omega) ⟨by omega, by omega, by omega, by omega, by omega⟩
/-- How far a change goes. -/
theorem change_size (z0 z1 z2 z3 : Int) : (g.change z0 z1 z2 z3).n ≤ g.n + 1 ∧ (g.change z0 z1 z2 z3).roots.length ≤ g.roots.length + 1 ∧ (g.change z0 z1 z2 z3).ph = g.ph ∧ (g.change z0 z1 z2 z3).cyc = g.cyc ∧ g.n ≤ (g.change z0 z1 z2 z3).n := by
  unfold Gr.change
  have ha : ∀ k, (g.add k).n ≤ g.n + 1 ∧ (g.add k).roots.length ≤ g.roots.length + 1 ∧ (g.add k).ph = g.ph ∧ (g.add k).cyc = g.cyc ∧ g.n ≤ (g.add k).n := fun k => ⟨Nat.le_refl _, by show (g.roots ++ [g.n + 1]).length ≤ _; simp, rfl, rfl, Nat.le_succ _⟩
  have hd : ∀ a, (g.drop a).n ≤ g.n + 1 ∧ (g.drop a).roots.length ≤ g.roots.length + 1 ∧ (g.drop a).ph = g.ph ∧ (g.drop a).cyc = g.cyc ∧ g.n ≤ (g.drop a).n := fun a => by
    obtain ⟨k1, k2, k3⟩ := drop_kept g a
    refine ⟨by omega, ?_, shade_ph _, shade_cyc _, by omega⟩
    rw [k3]
    have := List.length_eraseIdx_le g.roots a
    omega
  have hs : g.n ≤ g.n + 1 ∧ g.roots.length ≤ g.roots.length + 1 ∧ g.ph = g.ph ∧ g.cyc = g.cyc ∧ g.n ≤ g.n := ⟨by omega, by omega, rfl, rfl, Nat.le_refl _⟩
  have hl : ∀ t, ((g.lay t).shade t).n ≤ g.n + 1 ∧ ((g.lay t).shade t).roots.length ≤ g.roots.length + 1 ∧ ((g.lay t).shade t).ph = g.ph ∧ ((g.lay t).shade t).cyc = g.cyc ∧ g.n ≤ ((g.lay t).shade t).n := fun t => by
    rw [shade_n, shade_roots, shade_ph, shade_cyc]
    exact ⟨by show g.n ≤ _; omega, by show (g.roots ++ [t]).length ≤ _; simp, rfl, rfl, Nat.le_refl _⟩
  have hw : ∀ x f t, (g.set x f t).n ≤ g.n + 1 ∧ (g.set x f t).roots.length ≤ g.roots.length + 1 ∧ (g.set x f t).ph = g.ph ∧ (g.set x f t).cyc = g.cyc ∧ g.n ≤ (g.set x f t).n := fun x f t => by
    unfold Gr.set
    show ((g.shade _).shade t).n ≤ _ ∧ ((g.shade _).shade t).roots.length ≤ _ ∧ ((g.shade _).shade t).ph = _ ∧ ((g.shade _).shade t).cyc = _ ∧ _ ≤ ((g.shade _).shade t).n
    rw [shade_n, shade_n, shade_roots, shade_roots, shade_ph, shade_ph, shade_cyc, shade_cyc]
    exact ⟨by omega, by omega, rfl, rfl, Nat.le_refl _⟩
  split
  · exact ha _
  · split
    · exact hd _
    · split
      · exact hs
      · split
        · split
          · exact hs
          · exact hl _
        · exact hw _ _ _
/-- What a change keeps. -/
theorem Inv.change {K : Nat → Prop} (h : Inv g K) (hn : g.n < 4000) (hrn : g.roots.length ≤ 4000) (z0 z1 z2 z3 : Int) : Inv (g.change z0 z1 z2 z3) K := by
  unfold Gr.change
  split
  · exact h.add (by have := (rem0_eq z1 (show 0 < 4 by decide)).2; omega) (by omega)
  · rename_i c0
    have hr : 0 < g.roots.length := by omega
    have hX := px_mem hr z1
    have hY := px_mem hr z3
    have hk := h.kroot _ hX
    split
    · exact h.drop (rem0_eq z1 hr).2
    · split
      · exact h
      · rename_i ck
        have hf := (rem0_eq z2 (show 0 < (g.fs (g.px z1)).length by omega)).2
        split
        · split
          · exact h
          · rename_i ct
            have hm : (g.fs (g.px z1)).getD (rem0 z2 (g.fs (g.px z1)).length) 0 ∈ g.fs (g.px z1) := by
              have e : (g.fs (g.px z1)).getD (rem0 z2 (g.fs (g.px z1)).length) 0 = (g.fs (g.px z1))[rem0 z2 (g.fs (g.px z1)).length] := by simp [hf]
              rw [e]; exact List.getElem_mem hf
            have ht := h.kfs _ hk.1 hk.2.2 _ hm (fun z => ct (.inl z))
            exact (h.lay ht.1 (by omega) ht.2 (by omega)).shade (.inr ht.1)
        · exact h.set hX hf (.inr hY)
theorem mchange (h : Mine w0 (Duo bg bd g) W) (hn : g.n < 4000) (hrn : g.roots.length ≤ 4000) (z0 z1 z2 z3 : Int) :
    Calls Try.prog 32 #[.pointer (some ⟨bg, 0, none⟩), .pointer (some ⟨bd, 0, none⟩), opV z0 z1 z2 z3] W fun e W' => e = .returned (.bool true) ∧ Mine w0 (Duo bg bd (g.change z0 z1 z2 z3)) W' := h.step fun _ q => change_any q hn hrn z0 z1 z2 z3
theorem duo_of {P : Asn} {g' : Gr} (fp : Fit P) (hk : Kept g g') {F : Nat → Prop} (h : Star P (IdA bd g.n g.fs g.roots) W F) : Star P (IdA bd g'.n g'.fs g'.roots) W F := by rw [hk.n, hk.fs, hk.roots]; exact h
theorem mwork (h : Mine w0 (Duo bg bd g) W) : Calls Try.prog 22 #[.pointer (some ⟨bg, 0, none⟩)] W fun e W' => (∃ v, e = .returned v) ∧ Mine w0 (Duo bg bd g.workR.2) W' := by
  refine (h.step fun F q => Star.stepL (fit_pg bg g.workR.2) (fit_id _ _ _ _) q fun F1 p => work_any p).mono fun e W' ⟨a, b⟩ => ⟨⟨_, a⟩, ?_⟩
  obtain ⟨F, q, c, n⟩ := b
  exact ⟨F, duo_of (fit_pg _ _) work_kept q, c, n⟩
theorem start_kept : Kept g g.startR.2 := by unfold Gr.startR; split <;> exact ⟨rfl, rfl, rfl⟩
theorem pg_start {F : Nat → Prop} (q : PgA bg g W F) : Calls Try.prog 20 #[.pointer (some ⟨bg, 0, none⟩)] W fun e W' => e = .returned (.int .i64 g.startR.1) ∧ Goes (PgA bg g.startR.2) W W' F := by
  obtain ⟨K, vo, vr, vq, q, f, T, hi, p⟩ := q.open
  refine (start_any p fun k => hi.off (by omega)).mono fun e W' ⟨he, F', hx, c, n⟩ => ⟨he, F', ⟨?_, ?_⟩, c, n⟩
  · by_cases k : g.ph = 0
    · exact ⟨_, hi.start k⟩
    · unfold Gr.startR; rw [if_neg k]; exact ⟨K, hi⟩
  · obtain ⟨a1, a2, a3, a4, a5, a6, p'⟩ := hx
    have e1 : g.startR.2.live = g.live := by unfold Gr.startR; split <;> rfl
    have e2 : g.startR.2.roots = g.roots := by unfold Gr.startR; split <;> rfl
    refine ⟨a1, a2, a3, a4, a5, a6, ?_⟩
    rw [e1, e2]; exact p'
theorem mstart (h : Mine w0 (Duo bg bd g) W) : Calls Try.prog 20 #[.pointer (some ⟨bg, 0, none⟩)] W fun e W' => e = .returned (.int .i64 g.startR.1) ∧ Mine w0 (Duo bg bd g.startR.2) W' := by
  refine (h.step fun F q => Star.stepL (fit_pg bg g.startR.2) (fit_id _ _ _ _) q fun F1 p => pg_start p).mono fun e W' ⟨a, b⟩ => ⟨a, ?_⟩
  obtain ⟨F, q, c, n⟩ := b
  exact ⟨F, duo_of (fit_pg _ _) start_kept q, c, n⟩
theorem mhas (h : Mine w0 (Duo bg bd g) W) (a : Int) : Calls Try.prog 28 #[.pointer (some ⟨bg, 0, none⟩), .int .i64 a] W fun e W' => e = .returned (.bool (g.has a)) ∧ Mine w0 (Duo bg bd g) W' :=
  h.step fun F q => Star.lookL (fit_duo _ _ _) q fun F1 q1 => by
    obtain ⟨K, vo, vr, vq, q, f, T, hi, p⟩ := q1.open
    exact (has_any p a).mono fun _ _ ⟨a, b⟩ => ⟨a, b ▸ Cha.refl _ _⟩
theorem mcounts (h : Mine w0 (Duo bg bd g) W) : Calls Try.prog 26 #[.pointer (some ⟨bg, 0, none⟩)] W fun e W' => e = .returned (.tuple #[.int .i64 g.ph, .int .i64 g.cyc, .int .i64 g.live]) ∧ Mine w0 (Duo bg bd g) W' :=
  h.step fun F q => Star.lookL (fit_duo _ _ _) q fun F1 q1 => by
    obtain ⟨K, vo, vr, vq, q, f, T, hi, p⟩ := q1.open
    exact counts_any p
theorem mget (h : Mine w0 (Duo bg bd g) W) (a b : Int) : Calls Try.prog 24 #[.pointer (some ⟨bg, 0, none⟩), .int .i64 a, .int .i64 b] W fun e W' => e = .returned (pairV (g.get a b)) ∧ Mine w0 (Duo bg bd g) W' :=
  h.step fun F q => Star.lookL (fit_duo _ _ _) q fun F1 q1 => by
    obtain ⟨K, vo, vr, vq, q, f, T, hi, p⟩ := q1.open
    exact (get_any p hi.rk a b).mono fun _ _ ⟨a, b⟩ => ⟨a, b ▸ Cha.refl _ _⟩
theorem mduo_inv (h : Mine w0 (Duo bg bd g) W) : ∃ K, Inv g K := by obtain ⟨F, q, _⟩ := h; exact duo_inv q
theorem mreach (h : Mine w0 (Duo bg bd g) W) : Calls Try.prog 33 #[.pointer (some ⟨bd, 0, none⟩)] W fun e W' => ∃ v, e = .returned v ∧ Seen W W' g v ∧ Mine w0 (Duo bg bd g) W' := by
  have h' := h
  obtain ⟨F, q, c, n⟩ := h
  obtain ⟨K, hi⟩ := duo_inv q
  obtain ⟨F2, vf, vr, f, T, im⟩ := duo_im q
  exact (reach_any im hi).mono fun _ _ ⟨v, e, s⟩ => ⟨v, e, s, h'.same (fit_duo _ _ _) (by obtain ⟨_, _, _, _, _, c, _⟩ := s; exact c)⟩
/-- A graph and its objects are made. -/
theorem duo_new {W1 : World} {bg : Nat} (h : Mine w0 (PgA bg Gr.new) W1) : Mine w0 (Duo bg (W1.heap.size + 1) Gr.new) ((W1.alloc (.cells #[.slice none 0 0] 50)).alloc (.cells #[.slice (some ⟨W1.heap.size, 0, none⟩) 1 1, .slice none 0 0] 61)) := by
  refine h.star (fit_pg _ _) (fit_id _ _ _ _) ⟨fun i => i = W1.heap.size ∨ i = W1.heap.size + 1, ⟨.slice (some ⟨W1.heap.size, 0, none⟩) 1 1, .slice none 0 0, fun _ => 0, fun i => if i = W1.heap.size then 1 else 0, ?_⟩, ((Cha.refl _ W1).alloc _).alloc _, fun i e => by omega⟩
  have e1 : ((W1.alloc (.cells #[.slice none 0 0] 50)).alloc (.cells #[.slice (some ⟨W1.heap.size, 0, none⟩) 1 1, .slice none 0 0] 61)).heap[W1.heap.size + 1]? = some (.cells #[.slice (some ⟨W1.heap.size, 0, none⟩) 1 1, .slice none 0 0] 61 (0, 0)) := by
    have := heap_alloc_new (W1.alloc (.cells #[.slice none 0 0] 50)) (.cells #[.slice (some ⟨W1.heap.size, 0, none⟩) 1 1, .slice none 0 0] 61)
    rw [World.size_alloc] at this
    exact this
  have e0 : ((W1.alloc (.cells #[.slice none 0 0] 50)).alloc (.cells #[.slice (some ⟨W1.heap.size, 0, none⟩) 1 1, .slice none 0 0] 61)).heap[W1.heap.size]? = some (.cells #[.slice none 0 0] 50 (0, 0)) := by
    rw [heap_alloc_old _ _ (by rw [World.size_alloc]; omega)]
    exact heap_alloc_new W1 _
  exact { head := e1, lf := .inr ⟨W1.heap.size, 0, 1, _, rfl, Nat.le_refl _, by decide, e0, by decide, fun i hi => by
            have hi : i < 1 := hi
            obtain rfl : i = 0 := by omega
            rfl⟩, lr := Lies.nil _ _, fld := fun id a b => by { have b : id ≤ 0 := b; omega }, tg := ⟨by { show (if W1.heap.size + 1 = W1.heap.size then 1 else 0) = 0; rw [if_neg (by omega)] }, .inr rfl⟩,
          tv := fun b e => by { cases e; exact ⟨if_pos rfl, .inl rfl⟩ }, tr := fun b e => by { cases e }, tf := fun id a b => by { have b : id ≤ 0 := b; omega }, n4 := Nat.zero_le _, r8 := Nat.zero_le _, f16 := fun _ => Nat.zero_le _,
          old := fun i e => by { rw [World.size_alloc, World.size_alloc]; omega } }
end Go.Proofs.Ytllefljimkmbhaa
