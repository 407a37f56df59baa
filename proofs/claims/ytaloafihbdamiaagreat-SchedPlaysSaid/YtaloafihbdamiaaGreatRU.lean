/- The document's scheduler beside the program's: what holds of both, step by step. -/
import Derived.Test.YtaloafihbdamiaaGreatRP
namespace Go.Proofs.YtaloafihbdamiaaGreat
open Go.ChangeShapes Go.WideShapes Go.ChangeAt Go.RowKit
/-- Only who waits may sleep. -/
def Fl (X : Sx) : Prop := ∀ s ∈ X.gs, s.2 = true → s.1 = 2
theorem Fl.set {X Y : Sx} (h : Fl X) {g : Nat} {now : Int × Bool} (e : Y.gs = X.gs.set g now) (hn : now.2 = true → now.1 = 2) : Fl Y := fun s hs => by
  rw [e] at hs
  rcases List.mem_or_eq_of_mem_set hs with x | x
  · exact h s x
  · rw [x]; exact hn
theorem Fl.wk {p : Nat} : ∀ (l : List Int) {X : Sx}, Fl X → Fl (X.wk p l) := by
  intro l
  induction l with
  | nil => intro X h; exact h
  | cons g l ih => intro X h; exact ih (h.set (Y := X.rdy p g.toNat) rfl (fun e => by cases e))
theorem Fl.wake {X : Sx} (h : Fl X) (p : Nat) : Fl (X.wake p) := Fl.wk _ (X := { X with P := X.P.set p (dueRest (X.P.getD p []) X.clk) }) h
theorem Fl.at {X : Sx} (h : Fl X) (g : Nat) (h1 : (X.gs.getD g (0, false)).1 ≠ 2) : (X.gs.getD g (0, false)).2 = false := by
  by_cases hg : g < X.gs.length
  · have e : X.gs.getD g (0, false) = X.gs[g] := by simp [List.getD, hg]
    rw [e] at h1 ⊢
    by_cases c : X.gs[g].2 = true
    · exact absurd (h _ (List.getElem_mem hg) c) h1
    · simpa using c
  · simp [List.getD, hg]
theorem find_keep {X : Sx} {p : Nat} {s : Int} (K : Sx → Prop) (hw : ∀ X, K X → K (X.wake p)) (hg : ∀ X, K X → K (X.got p s).2) (hm : ∀ X v, K X → K (X.mv v p)) (h : K X) : K (X.find p s).2 := by
  unfold Sx.find
  split
  · exact hg _ (hw _ h)
  · split
    · exact hg _ (hw _ h)
    · exact hg _ (hw _ (hm _ _ (hg _ (hw _ h))))
theorem find_kept {X : Sx} {p : Nat} (s : Int) (gd : Gd X) (fl : Fl X) (hp : p < X.Q.1.length) : Gd (X.find p s).2 ∧ Fl (X.find p s).2 ∧ (X.find p s).2.a = X.a := by
  have := find_keep (X := X) (p := p) (s := s) (fun Y => p < Y.Q.1.length ∧ Gd Y ∧ Fl Y ∧ Y.a = X.a) (fun Y ⟨a, b, c, d⟩ => by
    have k := (wk_kept { Y with P := Y.P.set p (dueRest (Y.P.getD p []) Y.clk) } p (dueIds (Y.P.getD p []) Y.clk)).1
    exact ⟨by have := k.q; show p < (Y.wake p).Q.1.length; unfold Sx.wake; rw [this]; exact a, b.wake a, c.wake p, k.a.trans d⟩) (fun Y ⟨a, b, c, d⟩ => ⟨by show p < (getS _ _ _ _).2.1.length; rw [getS_len]; exact a, b.get p s a, c, d⟩) (fun Y v ⟨a, b, c, d⟩ => ⟨a, b, c, d⟩) ⟨hp, gd, fl, rfl⟩
  exact this.2
/-- What holds of the program's state beside the document's. -/
structure Rel (n : Nat) (N : Int) (X : Sx) (Z : List (Int × Ent)) (sc : List Int) : Prop where
  m : Match X.P Z X.a
  gd : Gd X
  wf : Wf n X
  sr : Scr N X sc
  fl : Fl X
  a : X.a ≤ N
theorem Scr.idle {N : Int} {X Y : Sx} {sc : List Int} (r : Scr N X sc) {p : Nat} (hp : p < X.pr.length) (hY : Y.pr = X.pr.set p (-1, X.runs p)) : Scr (N + 1) Y sc := by
  refine ⟨by rw [hY, List.length_set]; exact r.len, r.lo, fun q => by have := r.hi q; omega, fun q hq => ?_⟩
  have e : Y.on q = (if q = p then -1 else X.on q) ∧ Y.runs q = X.runs q := by
    unfold Sx.on Sx.runs
    rw [hY, getD_set _ _ _ _ _ hp]
    by_cases e : q = p
    · subst e; simp [Sx.runs]
    · simp [e]
  rw [e.2]
  by_cases e3 : q = p
  · rw [e.1, if_pos e3] at hq; exact absurd rfl hq
  · rw [e.1, if_neg e3] at hq; exact r.rn q hq
section
variable {n : Nat} {N : Int} {X : Sx} {Z : List (Int × Ent)} {sc : List Int} {w W w' : World} {F : Nat → Prop} {bd br bt : Nat}
theorem Rel.up (r : Rel n N X Z sc) : Rel n (N + 1) X Z sc := ⟨r.m, r.gd, r.wf, r.sr.same rfl, r.fl, by have := r.a; omega⟩
/-- The document's side, moved. -/
def Dn (bd br bt n : Nat) (N : Int) (X : Sx) (w W : World) (F : Nat → Prop) : Prop := ∃ Z sc, Rel n N X Z sc ∧ Goes (DcA bd br bt n (dx X Z sc)) w W F
theorem Rel.stay (r : Rel n N X Z sc) (h : DcA bd br bt n (dx X Z sc) w F) : Dn bd br bt n (N + 1) X w w F := ⟨Z, sc, r.up, F, h, Cha.refl _ w, fun _ x => .inl x⟩
theorem dx_glen (X : Sx) (Z : List (Int × Ent)) (sc : List Int) : (dx X Z sc).g.length = X.pr.length := by show (X.pr.map Prod.fst).length = _; rw [List.length_map]
theorem dx_slen (X : Sx) (Z : List (Int × Ent)) (sc : List Int) : (dx X Z sc).st.length = X.gs.length := by show (X.gs.map Prod.fst).length = _; rw [List.length_map]
theorem dx_st (X : Sx) (Z : List (Int × Ent)) (sc : List Int) (g : Nat) : (dx X Z sc).st.getD g 0 = (X.gs.getD g (0, false)).1 := by
  show (X.gs.map Prod.fst).getD g 0 = _
  simp only [List.getD, List.getElem?_map]
  cases X.gs[g]? <;> rfl
theorem dx_sl (X : Sx) (Z : List (Int × Ent)) (sc : List Int) (g : Nat) : (dx X Z sc).sl.getD g false = (X.gs.getD g (0, false)).2 := by
  show (X.gs.map Prod.snd).getD g false = _
  simp only [List.getD, List.getElem?_map]
  cases X.gs[g]? <;> rfl
theorem set_getD (l : List Bool) (i : Nat) (h : l.getD i false = false) : l.set i false = l := by
  apply List.ext_getElem?
  intro j
  rw [List.getElem?_set]
  by_cases e : i = j
  · subst e
    by_cases hi : i < l.length
    · rw [if_pos rfl, if_pos hi]
      simp only [List.getD, List.getElem?_eq_getElem hi, Option.getD_some] at h
      rw [List.getElem?_eq_getElem hi, h]
    · rw [if_pos rfl, if_neg hi, List.getElem?_eq_none (by omega)]
  · rw [if_neg e]
/-- What each call tells, and what is then. -/
def Sx.out (X : Sx) (p : Int) : Prop := p < 0 ∨ (X.pr.length : Int) ≤ p
instance (X : Sx) (p : Int) : Decidable (X.out p) := by unfold Sx.out; infer_instance
def Sx.offR (X : Sx) (p : Int) : Int := if X.out p then 1 else if X.on p.toNat = -1 then 4 else 0
def Sx.offX (X : Sx) (p : Int) (Y : Sx) : Sx := if X.out p then X else if X.on p.toNat = -1 then X else Y
theorem Rel.last (r : Rel n N X Z sc) {p : Nat} (hp : p < n) (hn : X.on p ≠ -1) : Rel n (N + 1) (X.yld p) Z sc := by
  obtain ⟨k, g⟩ := r.gd
  exact ⟨r.m, ⟨k + 1, g.last _⟩, r.wf.yld hp hn, r.sr.idle (by rw [r.wf.lpr]; exact hp) rfl, r.fl, by have := r.a; show X.a ≤ _; omega⟩
theorem p_yield (h : DcA bd br bt n (dx X Z sc) w F) (r : Rel n N X Z sc) (p : Int) : Calls Tryz.prog 23 #[.pointer (some ⟨bd, 0, none⟩), .int .i64 p] w fun e w' => e = .returned (.int .i64 (X.offR p)) ∧ Dn bd br bt n (N + 1) (X.offX p (X.yld p.toNat)) w w' F := by
  unfold Sx.offR Sx.offX
  by_cases hb : X.out p
  · rw [if_pos hb, if_pos hb]
    exact (dyield_bad h p (by rw [dx_glen]; exact hb)).mono fun e w' ⟨a, b⟩ => ⟨a, by subst b; exact r.stay h⟩
  · rw [if_neg hb, if_neg hb]
    unfold Sx.out at hb
    obtain ⟨q, rfl⟩ : ∃ q : Nat, p = (q : Int) := ⟨p.toNat, by omega⟩
    rw [Int.toNat_natCast]
    have hq : q < X.pr.length := by omega
    by_cases hi : X.on q = -1
    · rw [if_pos hi, if_pos hi]
      exact (dyield_idle h q (by rw [dx_glen]; exact hq) (by rw [dx_on X Z sc hq]; exact hi)).mono fun e w' ⟨a, b⟩ => ⟨a, by subst b; exact r.stay h⟩
    · rw [if_neg hi, if_neg hi]
      have hqn : q < n := by rw [← r.wf.lpr]; exact hq
      obtain ⟨i, hn, hg, -⟩ := r.wf.on hqn hi
      exact (dyield_any h (r.gd.ok (by have := r.wf.fine.qa; omega)) q i (by rw [dx_glen]; exact hq) (by rw [dx_on X Z sc hq]; exact hn)).mono fun e w' ⟨a, G⟩ => ⟨a, Z, sc, r.last hqn hi, by
        have e2 : dx (X.yld q) Z sc = (dx X Z sc).yld q i := by
          unfold dx Sx.yld Dx.yld
          simp only [List.map_set, hn]
        rw [e2]; exact G⟩
theorem Rel.off (r : Rel n N X Z sc) {p : Nat} (hp : p < n) (hn : X.on p ≠ -1) (now : Int × Bool) (h1 : now.1 ≠ 1) (h2 : now.2 = false) : Rel n (N + 1) (X.stp p now) Z sc :=
  ⟨r.m, r.gd, r.wf.off hp hn now h1 (fun e => by rw [e] at h2; cases h2), r.sr.idle (by rw [r.wf.lpr]; exact hp) rfl, r.fl.set (Y := X.stp p now) rfl (fun e => by rw [h2] at e; cases e), by have := r.a; show X.a ≤ _; omega⟩
theorem dx_stp (r : Rel n N X Z sc) {q i : Nat} (hqn : q < n) (hi : X.on q ≠ -1) (hn : X.on q = (i : Int)) (x : Int) : dx (X.stp q (x, false)) Z sc = (dx X Z sc).stp q i x := by
  obtain ⟨j, hn2, hg, h1⟩ := r.wf.on hqn hi
  obtain rfl : j = i := by omega
  have hf := r.fl.at j (by rw [h1]; decide)
  have e : (X.gs.map Prod.snd).set j false = X.gs.map Prod.snd := set_getD _ _ (by have := dx_sl X Z sc j; rw [hf] at this; exact this)
  unfold dx Sx.stp Dx.stp
  simp only [List.map_set, hn, Int.toNat_natCast]
  rw [e]
theorem p_block (h : DcA bd br bt n (dx X Z sc) w F) (r : Rel n N X Z sc) (p : Int) : Calls Tryz.prog 25 #[.pointer (some ⟨bd, 0, none⟩), .int .i64 p] w fun e w' => e = .returned (.int .i64 (X.offR p)) ∧ Dn bd br bt n (N + 1) (X.offX p (X.stp p.toNat (2, false))) w w' F := by
  unfold Sx.offR Sx.offX
  by_cases hb : X.out p
  · rw [if_pos hb, if_pos hb]
    exact (dblock_bad h p (by rw [dx_glen]; exact hb)).mono fun e w' ⟨a, b⟩ => ⟨a, by subst b; exact r.stay h⟩
  · rw [if_neg hb, if_neg hb]
    unfold Sx.out at hb
    obtain ⟨q, rfl⟩ : ∃ q : Nat, p = (q : Int) := ⟨p.toNat, by omega⟩
    rw [Int.toNat_natCast]
    have hq : q < X.pr.length := by omega
    by_cases hi : X.on q = -1
    · rw [if_pos hi, if_pos hi]
      exact (dblock_idle h q (by rw [dx_glen]; exact hq) (by rw [dx_on X Z sc hq]; exact hi)).mono fun e w' ⟨a, b⟩ => ⟨a, by subst b; exact r.stay h⟩
    · rw [if_neg hi, if_neg hi]
      have hqn : q < n := by rw [← r.wf.lpr]; exact hq
      obtain ⟨i, hn, hg, -⟩ := r.wf.on hqn hi
      exact (dblock_any h q i (by rw [dx_glen]; exact hq) (by rw [dx_on X Z sc hq]; exact hn) (by rw [dx_slen]; exact hg)).mono fun e w' ⟨a, G⟩ => ⟨a, Z, sc, r.off hqn hi _ (by decide) rfl, by rw [dx_stp r hqn hi hn]; exact G⟩
theorem p_end (h : DcA bd br bt n (dx X Z sc) w F) (r : Rel n N X Z sc) (p : Int) : Calls Tryz.prog 29 #[.pointer (some ⟨bd, 0, none⟩), .int .i64 p] w fun e w' => e = .returned (.int .i64 (X.offR p)) ∧ Dn bd br bt n (N + 1) (X.offX p (X.stp p.toNat (3, false))) w w' F := by
  unfold Sx.offR Sx.offX
  by_cases hb : X.out p
  · rw [if_pos hb, if_pos hb]
    exact (dend_bad h p (by rw [dx_glen]; exact hb)).mono fun e w' ⟨a, b⟩ => ⟨a, by subst b; exact r.stay h⟩
  · rw [if_neg hb, if_neg hb]
    unfold Sx.out at hb
    obtain ⟨q, rfl⟩ : ∃ q : Nat, p = (q : Int) := ⟨p.toNat, by omega⟩
    rw [Int.toNat_natCast]
    have hq : q < X.pr.length := by omega
    by_cases hi : X.on q = -1
    · rw [if_pos hi, if_pos hi]
      exact (dend_idle h q (by rw [dx_glen]; exact hq) (by rw [dx_on X Z sc hq]; exact hi)).mono fun e w' ⟨a, b⟩ => ⟨a, by subst b; exact r.stay h⟩
    · rw [if_neg hi, if_neg hi]
      have hqn : q < n := by rw [← r.wf.lpr]; exact hq
      obtain ⟨i, hn, hg, -⟩ := r.wf.on hqn hi
      exact (dend_any h q i (by rw [dx_glen]; exact hq) (by rw [dx_on X Z sc hq]; exact hn) (by rw [dx_slen]; exact hg)).mono fun e w' ⟨a, G⟩ => ⟨a, Z, sc, r.off hqn hi _ (by decide) rfl, by rw [dx_stp r hqn hi hn]; exact G⟩
end
end Go.Proofs.YtaloafihbdamiaaGreat

namespace Go.Proofs.YtaloafihbdamiaaGreat
open Go.ChangeShapes Go.WideShapes Go.ChangeAt Go.RowKit
section
variable {n : Nat} {N : Int} {X : Sx} {Z : List (Int × Ent)} {sc : List Int} {w W w' : World} {F : Nat → Prop} {bd br bt : Nat}
theorem rises_of {P : List (List Ent)} {a : Int} (h : Neat P a) {p : Nat} (hp : p < P.length) : Rises (P.getD p []) := h.tidy.up p _ (P_at hp)
theorem fresh_of {P : List (List Ent)} {a : Int} (h : Neat P a) {p : Nat} (hp : p < P.length) : ∀ y ∈ P.getD p [], y.order ≠ a := fun y hy e => by
  have := h.tidy.lo p _ (P_at hp) y hy
  omega
theorem p_sleep (h : DcA bd br bt n (dx X Z sc) w F) (r : Rel n N X Z sc) (p : Int) (t : Int) : Calls Tryz.prog 27 #[.pointer (some ⟨bd, 0, none⟩), .int .i64 p, .int .u64 t] w fun e w' => e = .returned (.int .i64 (X.offR p)) ∧ Dn bd br bt n (N + 1) (X.offX p (X.slp p.toNat t)) w w' F := by
  unfold Sx.offR Sx.offX
  by_cases hb : X.out p
  · rw [if_pos hb, if_pos hb]
    exact (dsleep_bad h p t (by rw [dx_glen]; exact hb)).mono fun e w' ⟨a, b⟩ => ⟨a, by subst b; exact r.stay h⟩
  · rw [if_neg hb, if_neg hb]
    unfold Sx.out at hb
    obtain ⟨q, rfl⟩ : ∃ q : Nat, p = (q : Int) := ⟨p.toNat, by omega⟩
    rw [Int.toNat_natCast]
    have hq : q < X.pr.length := by omega
    by_cases hi : X.on q = -1
    · rw [if_pos hi, if_pos hi]
      exact (dsleep_idle h q t (by rw [dx_glen]; exact hq) (by rw [dx_on X Z sc hq]; exact hi)).mono fun e w' ⟨a, b⟩ => ⟨a, by subst b; exact r.stay h⟩
    · rw [if_neg hi, if_neg hi]
      have hqn : q < n := by rw [← r.wf.lpr]; exact hq
      have hqP : q < X.P.length := by rw [r.wf.lp]; exact hqn
      obtain ⟨i, hn, hg, h1⟩ := r.wf.on hqn hi
      have hm := r.wf.fine.mny
      have hc := r.m.cnt
      have M' : Match (X.slp q t).P (Z ++ [((q : Int), ⟨t, X.a, X.on q⟩)]) (X.slp q t).a := r.m.add (P_at hqP) (e := ⟨t, X.a, X.on q⟩) (L' := insO ⟨t, X.a, X.on q⟩ (X.P.getD q [])) ⟨rises_ins (rises_of r.m.neat hqP) _, fun x => mem_insO (fresh_of r.m.neat hqP), (ins_perm (e := ⟨t, X.a, X.on q⟩) (fresh_of r.m.neat hqP)).length_eq⟩ rfl
      refine (dsleep_any h q i t (by rw [dx_glen]; exact hq) hqn (by rw [dx_on X Z sc hq]; exact hn) (by rw [dx_slen]; exact hg) (by show (Z.map tmOf).length < 1024; rw [List.length_map]; omega)).mono fun e w' ⟨a, G⟩ => ⟨a, _, sc, ⟨M', r.gd, r.wf.slp hqn hi t, r.sr.idle hq rfl, r.fl.set (Y := X.slp q t) rfl (fun _ => rfl), by have := r.a; show X.a + 1 ≤ N + 1; omega⟩, ?_⟩
      have e2 : dx (X.slp q t) (Z ++ [((q : Int), ⟨t, X.a, X.on q⟩)]) sc = (dx X Z sc).slp q i t := by
        unfold dx Sx.slp Sx.stp Dx.slp
        simp only [List.map_set, List.map_append, List.map_cons, List.map_nil]
        have e3 : ({ X with P := X.P.set q (insO ⟨t, X.a, X.on q⟩ (X.P.getD q [])), a := X.a + 1 } : Sx).on q = (i : Int) := hn
        rw [e3, Int.toNat_natCast]
        unfold tmOf
        rw [hn]
      rw [e2]; exact G
def Sx.rdyOk (X : Sx) (g : Int) : Prop := 0 ≤ g ∧ g < (X.gs.length : Int) ∧ X.gs.getD g.toNat (0, false) = (2, false)
instance (X : Sx) (g : Int) : Decidable (X.rdyOk g) := by unfold Sx.rdyOk; infer_instance
def Sx.rdyR (X : Sx) (p g : Int) : Int := if X.out p then 1 else if X.rdyOk g then 0 else 4
def Sx.rdyX (X : Sx) (p g : Int) : Sx := if X.out p then X else if X.rdyOk g then X.rdy p.toNat g.toNat else X
theorem p_ready (h : DcA bd br bt n (dx X Z sc) w F) (r : Rel n N X Z sc) (p g : Int) : Calls Tryz.prog 31 #[.pointer (some ⟨bd, 0, none⟩), .int .i64 p, .int .i64 g] w fun e w' => e = .returned (.int .i64 (X.rdyR p g)) ∧ Dn bd br bt n (N + 1) (X.rdyX p g) w w' F := by
  unfold Sx.rdyR Sx.rdyX
  by_cases hb : X.out p
  · rw [if_pos hb, if_pos hb]
    exact (dready_bad h p g (by rw [dx_glen]; exact hb)).mono fun e w' ⟨a, b⟩ => ⟨a, by subst b; exact r.stay h⟩
  · rw [if_neg hb, if_neg hb]
    unfold Sx.out at hb
    obtain ⟨q, rfl⟩ : ∃ q : Nat, p = (q : Int) := ⟨p.toNat, by omega⟩
    rw [Int.toNat_natCast]
    have hq : q < X.pr.length := by omega
    have hqn : q < n := by rw [← r.wf.lpr]; exact hq
    have hqQ : q < X.Q.1.length := by rw [r.wf.lq]; exact hqn
    by_cases hk : X.rdyOk g
    · rw [if_pos hk, if_pos hk]
      obtain ⟨k0, k1, k2⟩ := hk
      obtain ⟨i, rfl⟩ : ∃ i : Nat, g = (i : Int) := ⟨g.toNat, by omega⟩
      rw [Int.toNat_natCast] at k2 ⊢
      have hi : i < X.gs.length := by omega
      refine (dready_any h (r.gd.ok (by have := r.wf.fine.qa; omega)) q i (by rw [dx_glen]; exact hq) hqQ (by rw [dx_slen]; exact hi) (by rw [dx_st, k2]) (by rw [dx_sl, k2])).mono fun e w' ⟨a, G⟩ => ⟨a, Z, sc, ⟨r.m, r.gd.rdy q i hqQ, r.wf.rdy hqn hi k2, r.sr.same rfl, r.fl.set (Y := X.rdy q i) rfl (fun e => by cases e), by have := r.a; show X.a ≤ _; omega⟩, ?_⟩
      have e2 : dx (X.rdy q i) Z sc = (dx X Z sc).rdy q i := by
        have e := set_getD (X.gs.map Prod.snd) i (by have := dx_sl X Z sc i; rw [k2] at this; exact this)
        unfold dx Sx.rdy Dx.rdy
        simp only [List.map_set]
        rw [e]
      rw [e2]; exact G
    · rw [if_neg hk, if_neg hk]
      by_cases ho : g < 0 ∨ (X.gs.length : Int) ≤ g
      · exact (dready_not h q g (by rw [dx_glen]; exact hq) (by rw [dx_slen]; exact ho)).mono fun e w' ⟨a, b⟩ => ⟨a, by subst b; exact r.stay h⟩
      · obtain ⟨i, rfl⟩ : ∃ i : Nat, g = (i : Int) := ⟨g.toNat, by omega⟩
        have hi : i < X.gs.length := by omega
        by_cases h2 : (X.gs.getD i (0, false)).1 = 2
        · have h3 : (X.gs.getD i (0, false)).2 = true := by
            by_cases c : (X.gs.getD i (0, false)).2 = true
            · exact c
            · exact absurd ⟨by omega, by omega, by rw [Int.toNat_natCast]; exact Prod.ext h2 (by simpa using c)⟩ hk
          exact (dready_asleep h q i (by rw [dx_glen]; exact hq) (by rw [dx_slen]; exact hi) (by rw [dx_st]; exact h2) (by rw [dx_sl]; exact h3)).mono fun e w' ⟨a, b⟩ => ⟨a, by subst b; exact r.stay h⟩
        · exact (dready_busy h q i (by rw [dx_glen]; exact hq) (by rw [dx_slen]; exact hi) (by rw [dx_st]; exact h2)).mono fun e w' ⟨a, b⟩ => ⟨a, by subst b; exact r.stay h⟩
def Sx.begR (X : Sx) (p : Int) : Int × Int := if X.out p then (0, 1) else if 64 ≤ X.gs.length then (0, 3) else ((X.gs.length : Int), 0)
def Sx.begX (X : Sx) (p : Int) : Sx := if X.out p then X else if 64 ≤ X.gs.length then X else X.beg p.toNat
theorem p_begin (h : DcA bd br bt n (dx X Z sc) w F) (r : Rel n N X Z sc) (p : Int) : Calls Tryz.prog 20 #[.pointer (some ⟨bd, 0, none⟩), .int .i64 p] w fun e w' => e = .returned (.tuple #[.int .i64 (X.begR p).1, .int .i64 (X.begR p).2]) ∧ Dn bd br bt n (N + 1) (X.begX p) w w' F := by
  unfold Sx.begR Sx.begX
  by_cases hb : X.out p
  · rw [if_pos hb, if_pos hb]
    exact (dbegin_bad h p (by rw [dx_glen]; exact hb)).mono fun e w' ⟨a, b⟩ => ⟨a, by subst b; exact r.stay h⟩
  · rw [if_neg hb, if_neg hb]
    unfold Sx.out at hb
    obtain ⟨q, rfl⟩ : ∃ q : Nat, p = (q : Int) := ⟨p.toNat, by omega⟩
    rw [Int.toNat_natCast]
    have hq : q < X.pr.length := by omega
    have hqn : q < n := by rw [← r.wf.lpr]; exact hq
    have hqQ : q < X.Q.1.length := by rw [r.wf.lq]; exact hqn
    by_cases hf : 64 ≤ X.gs.length
    · rw [if_pos hf, if_pos hf]
      exact (dbegin_full h q (by rw [dx_glen]; exact hq) (by rw [dx_slen]; exact hf)).mono fun e w' ⟨a, b⟩ => ⟨a, by subst b; exact r.stay h⟩
    · rw [if_neg hf, if_neg hf]
      have hbeg : X.beg q = { X with gs := X.gs ++ [(1, false)], Q := putP X.Q q (X.gs.length : Int) } := rfl
      refine (dbegin_any h (r.gd.ok (by have := r.wf.fine.qa; omega)) q (by rw [dx_glen]; exact hq) hqQ (by rw [dx_slen]; omega)).mono fun e w' ⟨a, G⟩ => ⟨by rw [a, dx_slen], Z, sc, ⟨r.m, ?_, r.wf.beg hqn (by omega), r.sr.same rfl, fun s hs e => ?_, by have := r.a; show X.a ≤ _; omega⟩, ?_⟩
      · obtain ⟨k, g⟩ := r.gd
        exact ⟨k + 1, g.put hqQ (by omega)⟩
      · rw [hbeg] at hs
        rcases List.mem_append.1 hs with x | x
        · exact r.fl s x e
        · rw [List.mem_singleton.1 x] at e; cases e
      · have e2 : dx (X.beg q) Z sc = (dx X Z sc).beg q := by
          rw [hbeg]
          unfold dx Dx.beg
          simp only [List.map_append, List.map_cons, List.map_nil, List.length_map]
        rw [e2]; exact G
theorem p_tick (h : DcA bd br bt n (dx X Z sc) w F) (r : Rel n N X Z sc) (t : Int) (h0 : 0 ≤ t) (h1 : t ≤ 18446744073709551615) (hc : X.clk ≤ 1099511627776) : Calls Tryz.prog 33 #[.pointer (some ⟨bd, 0, none⟩), .int .u64 t] w fun e w' => e = .returned (.tuple #[]) ∧ Dn bd br bt n (N + 1) (X.tick t) w w' F :=
  (dtick_any h t h0 h1 hc).mono fun e w' ⟨a, G⟩ => ⟨a, Z, sc, ⟨r.m, r.gd, r.wf.tick t, r.sr.same rfl, r.fl, by have := r.a; show X.a ≤ _; omega⟩, G⟩
def Sx.actR (X : Sx) (p s : Int) : Int × Int × Int := if X.out p then (0, 0, 1) else ((X.act p.toNat s).1.1, (X.act p.toNat s).1.2, 0)
def Sx.actX (X : Sx) (p s : Int) : Sx := if X.out p then X else (X.act p.toNat s).2
theorem act_kept (p : Nat) (s : Int) (gd : Gd X) (fl : Fl X) (hp : p < X.Q.1.length) : Gd (X.act p s).2 ∧ Fl (X.act p s).2 ∧ (X.act p s).2.a = X.a := by
  obtain ⟨k1, k2, k3⟩ := find_kept s gd fl hp
  unfold Sx.act
  split
  · split
    · exact ⟨k1, k2, k3⟩
    · exact ⟨k1, k2, k3⟩
  · unfold Sx.goon
    split
    · exact ⟨gd, fl, rfl⟩
    · split
      · exact ⟨gd, fl, rfl⟩
      · obtain ⟨k, g⟩ := gd
        exact ⟨⟨k + 1, g.last _⟩, fl, rfl⟩
theorem p_act (h : DcA bd br bt n (dx X Z sc) w F) (r : Rel n N X Z sc) (hN : N < 4611686018427387904) (p s : Int) : Calls Tryz.prog 21 #[.pointer (some ⟨bd, 0, none⟩), .int .i64 p, .int .i64 s] w fun e w' => e = .returned (.tuple #[.int .i64 (X.actR p s).1, .int .i64 (X.actR p s).2.1, .int .i64 (X.actR p s).2.2]) ∧ Dn bd br bt n (N + 1) (X.actX p s) w w' F := by
  unfold Sx.actR Sx.actX
  by_cases hb : X.out p
  · rw [if_pos hb, if_pos hb]
    exact (dact_bad h p s (by rw [dx_glen]; exact hb)).mono fun e w' ⟨a, b⟩ => ⟨a, by subst b; exact r.stay h⟩
  · rw [if_neg hb, if_neg hb]
    unfold Sx.out at hb
    obtain ⟨q, rfl⟩ : ∃ q : Nat, p = (q : Int) := ⟨p.toNat, by omega⟩
    rw [Int.toNat_natCast]
    have hq : q < X.pr.length := by omega
    have hqn : q < n := by rw [← r.wf.lpr]; exact hq
    obtain ⟨k1, k2, k3⟩ := act_kept q s r.gd r.fl (by rw [r.wf.lq]; exact hqn)
    have hwf := r.wf.act hqn s
    have fin : ∀ sc', Scr (N + 1) (X.act q s).2 sc' → ∀ Z', Match (X.act q s).2.P Z' (X.act q s).2.a → Rel n (N + 1) (X.act q s).2 Z' sc' := fun sc' a Z' b => ⟨b, k1, hwf, a, k2, by rw [k3]; have := r.a; omega⟩
    by_cases hi : X.on q = -1
    · exact (dact_idle (N := N) h r.m r.gd r.wf.fine r.sr q s hq r.wf.lpr hi (fun g hg => by
        have k := r.wf.find hqn s
        rw [hg] at k
        obtain ⟨i, rfl, c, -⟩ := k.in_m (List.mem_singleton_self _)
        have := k.g64
        omega)).mono fun e w' ⟨a, sc', b, Z', M', G⟩ => ⟨a, Z', sc', fin _ b _ M', G⟩
    · obtain ⟨i, hn, hg, -⟩ := r.wf.on hqn hi
      have e : X.act q s = (((X.goon q).1, X.on q), (X.goon q).2) := by unfold Sx.act; rw [if_neg hi]
      rw [e] at fin ⊢
      exact (dact_busy h r.m r.gd r.wf.fine r.sr hN q i s hq hn).mono fun e w' ⟨a, sc', b, Z', M', G⟩ => ⟨a, Z', sc', fin _ b _ M', G⟩
end
end Go.Proofs.YtaloafihbdamiaaGreat

namespace Go.Proofs.YtaloafihbdamiaaGreat
open Go.ChangeShapes Go.WideShapes Go.ChangeAt Go.RowKit
section
variable {n : Nat} {X : Sx} {w W w' : World} {F : Nat → Prop} {bs bq bt b3 : Nat}
theorem Goes.rfl' {P : Asn} (h : P w F) : Goes P w w F := ⟨F, h, Cha.refl _ w, fun _ x => .inl x⟩
theorem m_yield (h : ScA bs bq bt b3 X w F) (r : Wf n X) (p : Int) : Calls Tryz.prog 22 #[.pointer (some ⟨bs, 0, none⟩), .int .i64 p] w fun e w' => e = .returned (.int .i64 (X.offR p)) ∧ Goes (ScA bs bq bt b3 (X.offX p (X.yld p.toNat))) w w' F := by
  unfold Sx.offR Sx.offX
  by_cases hb : X.out p
  · rw [if_pos hb, if_pos hb]
    exact (yield_bad h p hb).mono fun e w' ⟨a, b⟩ => ⟨a, by subst b; exact .rfl' h⟩
  · rw [if_neg hb, if_neg hb]
    unfold Sx.out at hb
    obtain ⟨q, rfl⟩ : ∃ q : Nat, p = (q : Int) := ⟨p.toNat, by omega⟩
    rw [Int.toNat_natCast]
    have hq : q < X.pr.length := by omega
    by_cases hi : X.on q = -1
    · rw [if_pos hi, if_pos hi]
      exact (yield_idle h q hq hi).mono fun e w' ⟨a, b⟩ => ⟨a, by subst b; exact .rfl' h⟩
    · rw [if_neg hi, if_neg hi]
      obtain ⟨i, hn, hg, -⟩ := r.on (by rw [← r.lpr]; exact hq) hi
      exact yield_any h q hq (by omega) (by have := r.fine.qa; omega)
theorem m_block (h : ScA bs bq bt b3 X w F) (r : Wf n X) (p : Int) : Calls Tryz.prog 24 #[.pointer (some ⟨bs, 0, none⟩), .int .i64 p] w fun e w' => e = .returned (.int .i64 (X.offR p)) ∧ Goes (ScA bs bq bt b3 (X.offX p (X.stp p.toNat (2, false)))) w w' F := by
  unfold Sx.offR Sx.offX
  by_cases hb : X.out p
  · rw [if_pos hb, if_pos hb]
    exact (block_of _ _ (stop_bad h p 2 false hb) ⟨_, rfl⟩).mono fun e w' ⟨a, b⟩ => ⟨a, .same fit_sc h b⟩
  · rw [if_neg hb, if_neg hb]
    unfold Sx.out at hb
    obtain ⟨q, rfl⟩ : ∃ q : Nat, p = (q : Int) := ⟨p.toNat, by omega⟩
    rw [Int.toNat_natCast]
    have hq : q < X.pr.length := by omega
    by_cases hi : X.on q = -1
    · rw [if_pos hi, if_pos hi]
      exact (block_of _ _ (stop_idle h q 2 false hq hi) ⟨_, rfl⟩).mono fun e w' ⟨a, b⟩ => ⟨a, .same fit_sc h b⟩
    · rw [if_neg hi, if_neg hi]
      obtain ⟨i, hn, hg, -⟩ := r.on (by rw [← r.lpr]; exact hq) hi
      exact block_of _ _ (stop_any h q i 2 false hq hn hg) ⟨_, rfl⟩
theorem m_end (h : ScA bs bq bt b3 X w F) (r : Wf n X) (p : Int) : Calls Tryz.prog 28 #[.pointer (some ⟨bs, 0, none⟩), .int .i64 p] w fun e w' => e = .returned (.int .i64 (X.offR p)) ∧ Goes (ScA bs bq bt b3 (X.offX p (X.stp p.toNat (3, false)))) w w' F := by
  unfold Sx.offR Sx.offX
  by_cases hb : X.out p
  · rw [if_pos hb, if_pos hb]
    exact (end_of _ _ (stop_bad h p 3 false hb) ⟨_, rfl⟩).mono fun e w' ⟨a, b⟩ => ⟨a, .same fit_sc h b⟩
  · rw [if_neg hb, if_neg hb]
    unfold Sx.out at hb
    obtain ⟨q, rfl⟩ : ∃ q : Nat, p = (q : Int) := ⟨p.toNat, by omega⟩
    rw [Int.toNat_natCast]
    have hq : q < X.pr.length := by omega
    by_cases hi : X.on q = -1
    · rw [if_pos hi, if_pos hi]
      exact (end_of _ _ (stop_idle h q 3 false hq hi) ⟨_, rfl⟩).mono fun e w' ⟨a, b⟩ => ⟨a, .same fit_sc h b⟩
    · rw [if_neg hi, if_neg hi]
      obtain ⟨i, hn, hg, -⟩ := r.on (by rw [← r.lpr]; exact hq) hi
      exact end_of _ _ (stop_any h q i 3 false hq hn hg) ⟨_, rfl⟩
theorem m_sleep (h : ScA bs bq bt b3 X w F) (r : Wf n X) (ha : X.a < 2 ^ 63) (p t : Int) : Calls Tryz.prog 26 #[.pointer (some ⟨bs, 0, none⟩), .int .i64 p, .int .u64 t] w fun e w' => e = .returned (.int .i64 (X.offR p)) ∧ Goes (ScA bs bq bt b3 (X.offX p (X.slp p.toNat t))) w w' F := by
  unfold Sx.offR Sx.offX
  by_cases hb : X.out p
  · rw [if_pos hb, if_pos hb]
    exact (sleep_bad h p t hb).mono fun e w' ⟨a, b⟩ => ⟨a, by subst b; exact .rfl' h⟩
  · rw [if_neg hb, if_neg hb]
    unfold Sx.out at hb
    obtain ⟨q, rfl⟩ : ∃ q : Nat, p = (q : Int) := ⟨p.toNat, by omega⟩
    rw [Int.toNat_natCast]
    have hq : q < X.pr.length := by omega
    by_cases hi : X.on q = -1
    · rw [if_pos hi, if_pos hi]
      exact (sleep_idle h q t hq hi).mono fun e w' ⟨a, b⟩ => ⟨a, by subst b; exact .rfl' h⟩
    · rw [if_neg hi, if_neg hi]
      have hqn : q < n := by rw [← r.lpr]; exact hq
      obtain ⟨i, hn, hg, -⟩ := r.on hqn hi
      exact sleep_any h r.neat q i t hq (by rw [r.lp]; exact hqn) hn hg (by have := r.fine.mny; omega) r.a0 ha
theorem m_ready (h : ScA bs bq bt b3 X w F) (r : Wf n X) (p g : Int) : Calls Tryz.prog 30 #[.pointer (some ⟨bs, 0, none⟩), .int .i64 p, .int .i64 g] w fun e w' => e = .returned (.int .i64 (X.rdyR p g)) ∧ Goes (ScA bs bq bt b3 (X.rdyX p g)) w w' F := by
  unfold Sx.rdyR Sx.rdyX
  by_cases hb : X.out p
  · rw [if_pos hb, if_pos hb]
    exact (ready_bad h p g hb).mono fun e w' ⟨a, b⟩ => ⟨a, by subst b; exact .rfl' h⟩
  · rw [if_neg hb, if_neg hb]
    unfold Sx.out at hb
    obtain ⟨q, rfl⟩ : ∃ q : Nat, p = (q : Int) := ⟨p.toNat, by omega⟩
    rw [Int.toNat_natCast]
    have hq : q < X.pr.length := by omega
    have hqQ : q < X.Q.1.length := by rw [r.lq, ← r.lpr]; exact hq
    by_cases hk : X.rdyOk g
    · rw [if_pos hk, if_pos hk]
      obtain ⟨k0, k1, k2⟩ := hk
      obtain ⟨i, rfl⟩ : ∃ i : Nat, g = (i : Int) := ⟨g.toNat, by omega⟩
      rw [Int.toNat_natCast] at k2 ⊢
      exact ready_any h q i hq hqQ (by omega) k2 (by have := r.fine.qa; omega)
    · rw [if_neg hk, if_neg hk]
      by_cases ho : g < 0 ∨ (X.gs.length : Int) ≤ g
      · exact (ready_not h q g hq ho).mono fun e w' ⟨a, b⟩ => ⟨a, by subst b; exact .rfl' h⟩
      · obtain ⟨i, rfl⟩ : ∃ i : Nat, g = (i : Int) := ⟨g.toNat, by omega⟩
        exact (ready_busy h q i hq (by omega) (fun e => hk ⟨by omega, by omega, by rw [Int.toNat_natCast]; exact e⟩)).mono fun e w' ⟨a, b⟩ => ⟨a, by subst b; exact .rfl' h⟩
theorem m_begin (h : ScA bs bq bt b3 X w F) (r : Wf n X) (p : Int) : Calls Tryz.prog 18 #[.pointer (some ⟨bs, 0, none⟩), .int .i64 p] w fun e w' => e = .returned (.tuple #[.int .i64 (X.begR p).1, .int .i64 (X.begR p).2]) ∧ Goes (ScA bs bq bt b3 (X.begX p)) w w' F := by
  unfold Sx.begR Sx.begX
  by_cases hb : X.out p
  · rw [if_pos hb, if_pos hb]
    exact (begin_bad h p hb).mono fun e w' ⟨a, b⟩ => ⟨a, by subst b; exact .rfl' h⟩
  · rw [if_neg hb, if_neg hb]
    unfold Sx.out at hb
    obtain ⟨q, rfl⟩ : ∃ q : Nat, p = (q : Int) := ⟨p.toNat, by omega⟩
    rw [Int.toNat_natCast]
    have hq : q < X.pr.length := by omega
    have hqQ : q < X.Q.1.length := by rw [r.lq, ← r.lpr]; exact hq
    have h64 := r.g64
    by_cases hf : 64 ≤ X.gs.length
    · rw [if_pos hf, if_pos hf]
      exact (begin_full h q hq (by omega)).mono fun e w' ⟨a, b⟩ => ⟨a, by subst b; exact .rfl' h⟩
    · rw [if_neg hf, if_neg hf]
      exact begin_any h q hq hqQ (by omega) (by have := r.fine.qa; omega)
theorem m_act (h : ScA bs bq bt b3 X w F) (r : Wf n X) (p s : Int) : Calls Tryz.prog 19 #[.pointer (some ⟨bs, 0, none⟩), .int .i64 p, .int .i64 s] w fun e w' => e = .returned (.tuple #[.int .i64 (X.actR p s).1, .int .i64 (X.actR p s).2.1, .int .i64 (X.actR p s).2.2]) ∧ Goes (ScA bs bq bt b3 (X.actX p s)) w w' F := by
  unfold Sx.actR Sx.actX
  by_cases hb : X.out p
  · rw [if_pos hb, if_pos hb]
    exact (act_bad h p s hb).mono fun e w' ⟨a, b⟩ => ⟨a, by subst b; exact .rfl' h⟩
  · rw [if_neg hb, if_neg hb]
    unfold Sx.out at hb
    obtain ⟨q, rfl⟩ : ∃ q : Nat, p = (q : Int) := ⟨p.toNat, by omega⟩
    rw [Int.toNat_natCast]
    have hq : q < X.pr.length := by omega
    exact act_any h r.fine q s hq (by
      by_cases hi : X.on q = -1
      · exact .inl hi
      · obtain ⟨i, hn, -, -⟩ := r.on (by rw [← r.lpr]; exact hq) hi
        exact .inr (by omega)) (r.rn q)
end
end Go.Proofs.YtaloafihbdamiaaGreat

namespace Go.Proofs.YtaloafihbdamiaaGreat
open Go.ChangeShapes Go.WideShapes Go.ChangeAt Go.RowKit
def DnA (bd br bt n : Nat) (N : Int) (X : Sx) : Asn := fun W F => ∃ Z sc, Rel n N X Z sc ∧ DcA bd br bt n (dx X Z sc) W F
/-- The program's at X', the document's still at X, and a box. -/
def Bm (w0 : World) (bs bd gb n g2 : Nat) (cs c2 : Array Value) (N : Int) (X X' : Sx) (W : World) : Prop := ∃ bq bt b3 br bt2, Mine w0 (Star (Star (Star (ScA bs bq bt b3 X') (DnA bd br bt2 n N X)) (Blk g2 33 c2)) (Blk gb 33 cs)) W
/-- Both, beside the law's own box. -/
def Du (w0 : World) (bs bd n g2 : Nat) (c2 : Array Value) (N : Int) (X : Sx) (W : World) : Prop := ∃ bq bt b3 br bt2, Mine w0 (Star (Star (ScA bs bq bt b3 X) (DnA bd br bt2 n N X)) (Blk g2 33 c2)) W
/-- Both, without a box. -/
def Do (w0 : World) (bs bd n : Nat) (N : Int) (X : Sx) (W : World) : Prop := ∃ bq bt b3 br bt2, Mine w0 (Star (ScA bs bq bt b3 X) (DnA bd br bt2 n N X)) W
section
variable {w0 w W W' : World} {bs bd gb g2 n bq bt b3 br bt2 : Nat} {cs c2 : Array Value} {N : Int} {X X' : Sx} {F : Nat → Prop} {f : FuncId} {args : Array Value} {v : Ending}
theorem fit_dn : Fit (DnA bd br bt n N X) := ⟨fun ⟨Z, sc, r, h⟩ c hs => ⟨Z, sc, r, fit_dc.cha h c hs⟩, fun ⟨_, _, _, h⟩ => fit_dc.old h⟩
theorem Bm.left (h : Bm w0 bs bd gb n g2 cs c2 N X X W) (k : ∀ bq bt b3 F, Wf n X → X.a ≤ N → ScA bs bq bt b3 X W F → Calls Tryz.prog f args W fun e w' => e = v ∧ Goes (ScA bs bq bt b3 X') W w' F) : Calls Tryz.prog f args W fun e w' => e = v ∧ Bm w0 bs bd gb n g2 cs c2 N X X' w' := by
  obtain ⟨bq, bt, b3, br, bt2, m⟩ := h
  have hr : Wf n X ∧ X.a ≤ N := by
    obtain ⟨F, ⟨F1, F2, ⟨F5, F6, ⟨F3, F4, -, ⟨Z, sc, r, -⟩, -⟩, -⟩, -⟩, -⟩ := m
    exact ⟨r.wf, r.a⟩
  exact (m.step fun F q => Star.stepL ((fit_sc.star fit_dn).star (fit_blk ..)) (fit_blk ..) q fun F1 a => Star.stepL (fit_sc.star fit_dn) (fit_blk ..) a fun F3 a => Star.stepL fit_sc fit_dn a fun F2 b => k bq bt b3 F2 hr.1 hr.2 b).mono fun e w' ⟨a, b⟩ => ⟨a, bq, bt, b3, br, bt2, b⟩
theorem Bm.right (h : Bm w0 bs bd gb n g2 cs c2 N X X' W) (k : ∀ br bt2 Z sc F, Rel n N X Z sc → DcA bd br bt2 n (dx X Z sc) W F → Calls Tryz.prog f args W fun e w' => e = v ∧ Dn bd br bt2 n (N + 1) X' W w' F) : Calls Tryz.prog f args W fun e w' => e = v ∧ Bm w0 bs bd gb n g2 cs c2 (N + 1) X' X' w' := by
  obtain ⟨bq, bt, b3, br, bt2, m⟩ := h
  exact (m.step (P' := Star (Star (Star (ScA bs bq bt b3 X') (DnA bd br bt2 n (N + 1) X')) (Blk g2 33 c2)) (Blk gb 33 cs)) fun F q => Star.stepL ((fit_sc.star fit_dn).star (fit_blk ..)) (fit_blk ..) q fun F1 a => Star.stepL (fit_sc.star fit_dn) (fit_blk ..) a fun F3 a => Star.stepR fit_sc fit_dn a fun F2 ⟨Z, sc, r, b⟩ => (k br bt2 Z sc F2 r b).mono fun e w' ⟨x, Z', sc', r', F', h', c', n'⟩ => ⟨x, F', ⟨Z', sc', r', h'⟩, c', n'⟩).mono fun e w' ⟨a, b⟩ => ⟨a, bq, bt, b3, br, bt2, b⟩
theorem Bm.same (h : Bm w0 bs bd gb n g2 cs c2 N X X' W) (c : Cha (fun _ => False) W W') : Bm w0 bs bd gb n g2 cs c2 N X X' W' := by
  obtain ⟨bq, bt, b3, br, bt2, m⟩ := h
  exact ⟨bq, bt, b3, br, bt2, m.same (((fit_sc.star fit_dn).star (fit_blk ..)).star (fit_blk ..)) c⟩
theorem Bm.box (h : Bm w0 bs bd gb n g2 cs c2 N X X' W) (i : Nat) {u : Value} (hu : cs[i]? = some u) : W.cell? ⟨gb, i, none⟩ = some u := by
  obtain ⟨bq, bt, b3, br, bt2, F, ⟨F1, F2, -, b, -⟩, -⟩ := h
  rw [cell_of_row W gb i cs 33 (0, 0) b.1]
  exact hu
theorem Bm.drop (h : Bm w0 bs bd gb n g2 cs c2 N X X W) : Du w0 bs bd n g2 c2 N X W := by
  obtain ⟨bq, bt, b3, br, bt2, F, ⟨F1, F2, a, b, d, e1, e2, o⟩, c, m⟩ := h
  exact ⟨bq, bt, b3, br, bt2, F1, a, c, fun i hi => m i (e1 i hi)⟩
theorem Du.box (h : Du w0 bs bd n g2 c2 N X W) (cs : Array Value) : Bm w0 bs bd W.heap.size n g2 cs c2 N X X (W.alloc (.cells cs 33)) := by
  obtain ⟨bq, bt, b3, br, bt2, m⟩ := h
  exact ⟨bq, bt, b3, br, bt2, m.star ((fit_sc.star fit_dn).star (fit_blk ..)) (fit_blk ..) (blk_new W cs 33)⟩
theorem Du.at (h : Du w0 bs bd n g2 c2 N X W) (i : Nat) {u : Value} (hu : c2[i]? = some u) : W.cell? ⟨g2, i, none⟩ = some u := by
  obtain ⟨bq, bt, b3, br, bt2, F, ⟨F1, F2, -, b, -⟩, -⟩ := h
  rw [cell_of_row W g2 i c2 33 (0, 0) b.1]
  exact hu
theorem Du.drop (h : Du w0 bs bd n g2 c2 N X W) : Do w0 bs bd n N X W := by
  obtain ⟨bq, bt, b3, br, bt2, F, ⟨F1, F2, a, b, d, e1, e2, o⟩, c, m⟩ := h
  exact ⟨bq, bt, b3, br, bt2, F1, a, c, fun i hi => m i (e1 i hi)⟩
theorem Do.box (h : Do w0 bs bd n N X W) (cs : Array Value) : Du w0 bs bd n W.heap.size cs N X (W.alloc (.cells cs 33)) := by
  obtain ⟨bq, bt, b3, br, bt2, m⟩ := h
  exact ⟨bq, bt, b3, br, bt2, m.star (fit_sc.star fit_dn) (fit_blk ..) (blk_new W cs 33)⟩
theorem Do.cha (h : Do w0 bs bd n N X W) : Cha (fun _ => False) w0 W := by
  obtain ⟨bq, bt, b3, br, bt2, m⟩ := h
  exact m.cha
theorem Do.same (h : Do w0 bs bd n N X W) (c : Cha (fun _ => False) W W') : Do w0 bs bd n N X W' := by
  obtain ⟨bq, bt, b3, br, bt2, m⟩ := h
  exact ⟨bq, bt, b3, br, bt2, m.same (fit_sc.star fit_dn) c⟩
end
end Go.Proofs.YtaloafihbdamiaaGreat
