/- SchedFair, plainly: one processor, and those that stand in a line. -/
import Derived.Test.YtaloafihbdamiaaSP
import Derived.Test.YtaloafihbdamiaaSS
namespace Go.Proofs.Ytaloafihbdamiaa
/-- The order in which one processor's goroutines come. -/
def line (X : Sx) : List Int := (if (X.Q.1.getD 0 (-1, [])).1 = -1 then [] else [(X.Q.1.getD 0 (-1, [])).1]) ++ (X.Q.1.getD 0 (-1, [])).2 ++ X.Q.2
theorem wake_idle {X : Sx} (hP : X.P = [[]]) : X.wake 0 = X := by
  obtain ⟨Q, P, a, pr, gs, clk⟩ := X
  have hP : P = [[]] := hP
  subst hP
  rfl
theorem get_line {X : Sx} (hq : X.Q.1.length = 1) {g : Int} {l : List Int} (hl : line X = g :: l) (hg : g ≠ -1) : (X.got 0 0).1 = (g, true) ∧ line (X.got 0 0).2 = l := by
  obtain ⟨⟨S, A⟩, P, a, pr, gs, clk⟩ := X
  have hq : S.length = 1 := hq
  obtain ⟨⟨nx, ring⟩, rfl⟩ : ∃ c, S = [c] := by
    cases S with
    | nil => cases hq
    | cons c t => cases t with
      | nil => exact ⟨c, rfl⟩
      | cons => cases hq
  have hl : (if nx = -1 then [] else [nx]) ++ ring ++ A = g :: l := hl
  show (getS [(nx, ring)] A 0 0).1 = (g, true) ∧ (if ((getS [(nx, ring)] A 0 0).2.1.getD 0 (-1, [])).1 = -1 then [] else [((getS [(nx, ring)] A 0 0).2.1.getD 0 (-1, [])).1]) ++ ((getS [(nx, ring)] A 0 0).2.1.getD 0 (-1, [])).2 ++ (getS [(nx, ring)] A 0 0).2.2 = l
  by_cases hx : nx = -1
  · subst hx
    rw [if_pos rfl, List.nil_append] at hl
    cases ring with
    | cons c t =>
      rw [get_own (show ([((-1 : Int), c :: t)] : List Prc)[0]? = some (-1, c :: t) from rfl)]
      have hl : c :: (t ++ A) = g :: l := hl
      injection hl with h1 h2
      subst h1
      exact ⟨rfl, h2⟩
    | nil =>
      cases A with
      | nil => cases hl
      | cons c t =>
        rw [get_all (show ([((-1 : Int), ([] : List Int))] : List Prc)[0]? = some (-1, []) from rfl)]
        have hl : c :: t = g :: l := hl
        injection hl with h1 h2
        subst h1
        exact ⟨rfl, h2⟩
  · rw [get_next (show ([(nx, ring)] : List Prc)[0]? = some (nx, ring) from rfl) hx]
    rw [if_neg hx] at hl
    have hl : nx :: (ring ++ A) = g :: l := hl
    injection hl with h1 h2
    subst h1
    exact ⟨rfl, h2⟩
theorem line_len {X : Sx} : cnt (X.Q.1.getD 0 (-1, [])) + X.Q.2.length = (line X).length := by
  unfold cnt line
  rw [List.length_append, List.length_append]
  split <;> simp <;> omega
theorem pr_one {X : Sx} (h : X.pr.length = 1) (c : Int × Int) : (X.pr.set 0 c).getD 0 (-1, 0) = c := by rw [getD_set _ _ _ _ _ (by omega), if_pos rfl]
theorem act_took {X : Sx} (hP : X.P = [[]]) (hq : X.Q.1.length = 1) (hr : X.pr.length = 1) (hi : X.on 0 = -1) {g : Int} {l : List Int} (hl : line X = g :: l) (hg : g ≠ -1) :
    (X.act 0 0).1 = (2, g) ∧ (X.act 0 0).2.P = [[]] ∧ (X.act 0 0).2.on 0 = g ∧ (X.act 0 0).2.runs 0 = 0 ∧ line (X.act 0 0).2 = l := by
  obtain ⟨a, b⟩ := get_line hq hl hg
  have hf : X.find 0 0 = X.got 0 0 := by
    have h := find_yes (X := X) (p := 0) (s := 0)
    rw [wake_idle hP] at h
    exact h (by rw [a])
  have e : X.act 0 0 = ((2, g), (X.got 0 0).2.take 0 g) := by
    unfold Sx.act
    rw [if_pos hi, hf, if_pos (by rw [a]), a]
  rw [e]
  exact ⟨rfl, hP, by show ((X.pr.set 0 (g, 0)).getD 0 (-1, 0)).1 = g; rw [pr_one hr], by show ((X.pr.set 0 (g, 0)).getD 0 (-1, 0)).2 = 0; rw [pr_one hr], b⟩
theorem act_run {X : Sx} (hP : X.P = [[]]) (hr : X.pr.length = 1) (hi : X.on 0 ≠ -1) (h16 : X.runs 0 < 16) :
    (X.act 0 0).1 = (3, X.on 0) ∧ (X.act 0 0).2.P = [[]] ∧ (X.act 0 0).2.on 0 = X.on 0 ∧ (X.act 0 0).2.runs 0 = X.runs 0 + 1 ∧ line (X.act 0 0).2 = line X := by
  have e : X.act 0 0 = ((3, X.on 0), { X with pr := X.pr.set 0 (X.on 0, X.runs 0 + 1) }) := by
    unfold Sx.act Sx.goon
    rw [if_neg hi, if_pos h16]
  rw [e]
  exact ⟨rfl, hP, by show ((X.pr.set 0 (X.on 0, X.runs 0 + 1)).getD 0 (-1, 0)).1 = _; rw [pr_one hr], by show ((X.pr.set 0 (X.on 0, X.runs 0 + 1)).getD 0 (-1, 0)).2 = _; rw [pr_one hr], rfl⟩
theorem act_alone {X : Sx} (hi : X.on 0 ≠ -1) (h16 : ¬ X.runs 0 < 16) (hl : line X = []) : X.act 0 0 = ((3, X.on 0), X) := by
  unfold Sx.act Sx.goon
  rw [if_neg hi, if_neg h16, if_pos (by rw [line_len, hl]; rfl)]
theorem act_let {X : Sx} (hP : X.P = [[]]) (hr : X.pr.length = 1) (hi : X.on 0 ≠ -1) (h16 : ¬ X.runs 0 < 16) (hl : line X ≠ []) :
    (X.act 0 0).1 = (4, X.on 0) ∧ (X.act 0 0).2.P = [[]] ∧ (X.act 0 0).2.on 0 = -1 ∧ line (X.act 0 0).2 = line X ++ [X.on 0] := by
  have e : X.act 0 0 = ((4, X.on 0), X.yld 0) := by
    unfold Sx.act Sx.goon
    rw [if_neg hi, if_neg h16, if_neg (by rw [line_len]; exact fun c => hl (List.eq_nil_of_length_eq_zero c))]
  rw [e]
  refine ⟨rfl, hP, by show ((X.pr.set 0 (-1, X.runs 0)).getD 0 (-1, 0)).1 = -1; rw [pr_one hr], ?_⟩
  unfold line
  show _ ++ (X.Q.2 ++ [X.on 0]) = _
  rw [List.append_assoc, List.append_assoc, List.append_assoc]
  rfl
def cI (O : List Nat) : List Int := O.map fun g : Nat => (g : Int)
/-- When each goroutine went on last, ahead of act i; O: the order in which they come. -/
structure Fr (k i : Nat) (z : Nat → Int) (X : Sx) (O : List Nat) : Prop where
  wf : Wf 1 X
  P : X.P = [[]]
  len : O.length = k
  nd : O.Nodup
  lt : ∀ g ∈ O, g < k
  mem : ∀ g, g < k → g ∈ O
  st : (X.on 0 = -1 ∧ line X = cI O ∧ ∀ q g, O[q]? = some g → (i : Int) + 18 * (q : Nat) + 1 - z g ≤ 18 * (k : Nat)) ∨
    ∃ (g : Nat) (l : List Nat), O = g :: l ∧ X.on 0 = (g : Int) ∧ line X = cI l ∧ 0 ≤ X.runs 0 ∧ X.runs 0 ≤ 16 ∧ (∀ q h, l[q]? = some h → (i : Int) + 18 - X.runs 0 + 18 * (q : Nat) - z h ≤ 18 * (k : Nat)) ∧ (X.runs 0 = 0 → (i : Int) - z g ≤ 18 * (k : Nat)) ∧ (0 < X.runs 0 → z g = (i : Int) - 1)
/-- What an act makes of the times. -/
def nz (X : Sx) (z : Nat → Int) (i : Nat) : Nat → Int := if (X.act 0 0).1.1 = 3 then up z (X.act 0 0).1.2.toNat (i : Int) else z
theorem Fr.step {k i : Nat} {z : Nat → Int} {X : Sx} {O : List Nat} (h : Fr k i z X O) (hk : 1 ≤ k) :
    (X.act 0 0).1.1 ≠ 1 ∧ ((X.act 0 0).1.1 = 3 → ∃ g : Nat, (X.act 0 0).1.2 = (g : Int) ∧ g < k) ∧ (∃ O', Fr k (i + 1) (nz X z i) (X.act 0 0).2 O') ∧ ∀ g, g < k → (i : Int) - nz X z i g ≤ 18 * (k : Nat) := by
  have wf' := h.wf.act (p := 0) (by decide) 0
  have hq := h.wf.lq
  have hr := h.wf.lpr
  rcases h.st with ⟨hi, hl, hz⟩ | ⟨g, l, hO, hi, hl, r0, r16, hz, hz0, hz1⟩
  · cases O with
    | nil => have := h.len; simp at this; omega
    | cons g l =>
      obtain ⟨e, p2, e2, e3, e4⟩ := act_took h.P hq hr hi (g := (g : Int)) (l := cI l) hl (by omega)
      have hn : nz X z i = z := by unfold nz; rw [e]; rfl
      rw [hn]
      refine ⟨by rw [e]; show (2 : Int) ≠ 1; decide, fun c => absurd c (by rw [e]; show ¬ (2 : Int) = 3; decide), ⟨g :: l, wf', p2, h.len, h.nd, h.lt, h.mem, .inr ⟨g, l, rfl, e2, e4, by rw [e3]; decide, by rw [e3]; decide, fun q x hx => ?_, fun _ => ?_, fun c => absurd c (by rw [e3]; decide)⟩⟩, fun x hx => ?_⟩
      · have := hz (q + 1) x hx
        rw [e3]
        push_cast at this ⊢
        omega
      · have := hz 0 g rfl
        push_cast at this ⊢
        omega
      · obtain ⟨q, hq1, hq2⟩ := List.mem_iff_getElem.1 (h.mem x hx)
        have := hz q x (by rw [List.getElem?_eq_getElem hq1, hq2])
        omega
  · have hne : X.on 0 ≠ -1 := by omega
    have hgk : g < k := h.lt g (by rw [hO]; exact List.mem_cons_self)
    have hnd : g ∉ l := by have := h.nd; rw [hO, List.nodup_cons] at this; exact this.1
    by_cases h16 : X.runs 0 < 16
    · obtain ⟨e, p2, e2, e3, e4⟩ := act_run h.P hr hne h16
      have hn : nz X z i = up z g (i : Int) := by unfold nz; rw [e, hi]; rfl
      rw [hn]
      have hold : ∀ q x, l[q]? = some x → up z g (i : Int) x = z x := fun q x hx => up_other _ _ fun c => hnd (c ▸ List.mem_of_getElem? hx)
      refine ⟨by rw [e]; show (3 : Int) ≠ 1; decide, fun _ => ⟨g, by rw [e]; exact hi, hgk⟩, ⟨O, wf', p2, h.len, h.nd, h.lt, h.mem, .inr ⟨g, l, hO, e2.trans hi, e4.trans hl, by omega, by omega, fun q x hx => ?_, fun c => absurd c (by omega), fun _ => ?_⟩⟩, fun x hx => ?_⟩
      · rw [hold q x hx, e3]
        have := hz q x hx
        push_cast at this ⊢
        omega
      · rw [up_same]; push_cast; omega
      · have hx := h.mem x hx
        rw [hO] at hx
        rcases List.mem_cons.1 hx with rfl | hx
        · rw [up_same]; omega
        · obtain ⟨q, hq1, hq2⟩ := List.mem_iff_getElem.1 hx
          have hx' : l[q]? = some x := by rw [List.getElem?_eq_getElem hq1, hq2]
          rw [hold q x hx']
          have := hz q x hx'
          omega
    · have h1 : z g = (i : Int) - 1 := hz1 (by omega)
      by_cases hll : l = []
      · subst hll
        have e := act_alone hne h16 (by rw [hl]; rfl)
        have hn : nz X z i = up z g (i : Int) := by unfold nz; rw [e, hi]; rfl
        rw [hn]
        refine ⟨by rw [e]; show (3 : Int) ≠ 1; decide, fun _ => ⟨g, by rw [e]; exact hi, hgk⟩, ⟨O, wf', by rw [e]; exact h.P, h.len, h.nd, h.lt, h.mem, .inr ⟨g, [], hO, by rw [e]; exact hi, by rw [e]; exact hl, by rw [e]; exact r0, by rw [e]; exact r16, (fun q x hx => by simp at hx), fun c => absurd c (by rw [e]; show ¬ X.runs 0 = 0; omega), fun _ => by rw [up_same]; push_cast; omega⟩⟩, fun x hx => ?_⟩
        have hx := h.mem x hx
        rw [hO] at hx
        obtain rfl := List.mem_singleton.1 hx
        rw [up_same]; omega
      · obtain ⟨e, p2, e2, e3⟩ := act_let h.P hr hne h16 (by rw [hl]; unfold cI; simpa using hll)
        have hn : nz X z i = z := by unfold nz; rw [e]; rfl
        have hlen : l.length + 1 = k := by have := h.len; rw [hO] at this; simpa using this
        rw [hn]
        have hmem : ∀ x, x ∈ l ++ [g] ↔ x ∈ O := fun x => by rw [hO]; simp [or_comm]
        refine ⟨by rw [e]; show (4 : Int) ≠ 1; decide, fun c => absurd c (by rw [e]; show ¬ (4 : Int) = 3; decide), ⟨l ++ [g], wf', p2, by simp; omega, ?_, fun x hx => h.lt x ((hmem x).1 hx), fun x hx => (hmem x).2 (h.mem x hx), .inl ⟨e2, ?_, fun q x hx => ?_⟩⟩, fun x hx => ?_⟩
        · have := h.nd
          rw [hO, List.nodup_cons] at this
          rw [List.nodup_append]
          exact ⟨this.2, by simp, fun a ha b hb c => by rw [List.mem_singleton.1 hb] at c; exact hnd (c ▸ ha)⟩
        · rw [e3, hl, hi]; unfold cI; rw [List.map_append]; rfl
        · by_cases c : q < l.length
          · rw [List.getElem?_append_left c] at hx
            have := hz q x hx
            push_cast
            omega
          · have c2 : q = l.length := by
              have := (List.getElem?_eq_some_iff.1 hx).1
              simp at this
              omega
            subst c2
            rw [List.getElem?_append_right (Nat.le_refl _), Nat.sub_self] at hx
            obtain rfl := Option.some.inj hx
            push_cast
            omega
        · have hx := h.mem x hx
          rw [hO] at hx
          rcases List.mem_cons.1 hx with rfl | hx
          · omega
          · obtain ⟨q, hq1, hq2⟩ := List.mem_iff_getElem.1 hx
            have := hz q x (by rw [List.getElem?_eq_getElem hq1, hq2])
            omega
/-- One processor: so many are begun. -/
def fB : Nat → Sx
  | 0 => Sx.ini 1
  | k + 1 => (fB k).beg 0
def fO (k : Nat) : List Nat := (line (fB k)).map Int.toNat
def okF (k : Nat) : Bool := (fB k).gs.length == k && decide ((fB k).Q.2.length ≤ 64) && (fO k).length == k && cI (fO k) == line (fB k) && decide (fO k).Nodup && (fO k).all (fun g => g < k) && (List.range k).all (fun g => (fO k).contains g) && (fB k).on 0 == -1
theorem ok_f : (List.range 21).all okF = true := by kernel_rfl
theorem ok_fk {k : Nat} (h : k ≤ 20) : (fB k).gs.length = k ∧ (fB k).Q.2.length ≤ 64 ∧ (fO k).length = k ∧ cI (fO k) = line (fB k) ∧ (fO k).Nodup ∧ (∀ g ∈ fO k, g < k) ∧ (∀ g, g < k → g ∈ fO k) ∧ (fB k).on 0 = -1 := by
  have o := List.all_eq_true.1 ok_f k (List.mem_range.2 (by omega))
  unfold okF at o
  simp only [Bool.and_eq_true, beq_iff_eq, decide_eq_true_eq] at o
  obtain ⟨⟨⟨⟨⟨⟨⟨a, b⟩, c⟩, d⟩, e⟩, f⟩, g⟩, i⟩ := o
  exact ⟨a, b, c, d, e, fun x hx => by simpa using List.all_eq_true.1 f x hx, fun x hx => by simpa using List.all_eq_true.1 g x (List.mem_range.2 hx), i⟩
theorem wf_fB : ∀ k, k ≤ 20 → Wf 1 (fB k)
  | 0, _ => wf_ini (by decide) (by decide)
  | k + 1, h => (wf_fB k (by omega)).beg (by decide) (by have := (ok_fk (k := k) (by omega)).1; omega)
theorem fB_P : ∀ k, (fB k).P = [[]]
  | 0 => rfl
  | k + 1 => fB_P k
theorem fr_first {k : Nat} (h : k ≤ 20) : Fr k 0 (fun _ => 0) (fB k) (fO k) := by
  obtain ⟨a, b, c, d, e, f, g, i⟩ := ok_fk h
  refine ⟨wf_fB k h, fB_P k, c, e, f, g, .inl ⟨i, d.symm, fun q x hx => ?_⟩⟩
  have := (List.getElem?_eq_some_iff.1 hx).1
  push_cast
  omega
end Go.Proofs.Ytaloafihbdamiaa
