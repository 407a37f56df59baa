/- SchedOnce, plainly: nobody is lost. -/
import Derived.Test.YtaloafihbdamiaaVA
import Derived.Test.YtaloafihbdamiaaSI
namespace Go.Proofs.Ytaloafihbdamiaa
/-- How many are ready. -/
def ab (X : Sx) : Nat := bW (fun s => decide (s.1 = 1)) (fun _ => 1) 0 X.gs
theorem able_bW (G : List (Int × Bool)) : ∀ k, able G = bW (fun s => decide (s.1 = 1)) (fun _ => 1) k G := by
  unfold able
  induction G with
  | nil => intro k; rfl
  | cons s l ih =>
    intro k
    rw [List.countP_cons]
    show _ = (if decide (s.1 = 1) then 1 else 0) + bW _ _ (k + 1) l
    rw [← ih (k + 1)]
    by_cases c : s.1 = 1
    · rw [if_pos (by simpa using c), if_pos (by simpa using c)]; omega
    · rw [if_neg (by simpa using c), if_neg (by simpa using c)]; omega
theorem able_ab (X : Sx) : able X.gs = ab X := able_bW X.gs 0
/-- Nobody dies, nobody is lost. -/
structure Gr (X Y : Sx) : Prop where
  alv : al Y = al X
  abl : ab X ≤ ab Y
  dead : ∀ g, (X.gs.getD g (0, false)).1 = 3 → (Y.gs.getD g (0, false)).1 = 3
  len : Y.gs.length = X.gs.length
theorem Gr.refl (X : Sx) : Gr X X := ⟨rfl, Nat.le_refl _, fun _ h => h, rfl⟩
theorem Gr.trans {X Y Z : Sx} (h : Gr X Y) (k : Gr Y Z) : Gr X Z := ⟨k.alv.trans h.alv, Nat.le_trans h.abl k.abl, fun g e => k.dead g (h.dead g e), k.len.trans h.len⟩
theorem Gr.gs {X Y : Sx} (e : Y.gs = X.gs) : Gr X Y := ⟨by unfold al; rw [e], by unfold ab; rw [e]; exact Nat.le_refl _, fun g h => by rw [e]; exact h, by rw [e]⟩
section
variable {n : Nat} {X : Sx} {l m : List Int} {p : Nat}
theorem Gr.rdy {g : Nat} (hg : g < X.gs.length) (hs : X.gs.getD g (0, false) = (2, true)) : Gr X (X.rdy p g) := by
  refine ⟨?_, ?_, fun i h => ?_, List.length_set ..⟩
  · have := al_set hg (1, false)
    rw [hs, if_neg (by decide), if_neg (by decide)] at this
    exact Nat.add_right_cancel this
  · have := set_1 hg (1, false) (fun _ => 1)
    rw [hs, if_neg (by decide), if_pos rfl] at this
    show ab X ≤ bW _ _ 0 (X.gs.set g (1, false))
    unfold ab
    omega
  · show ((X.gs.set g (1, false)).getD i (0, false)).1 = 3
    rw [gs_set _ _ _ _ hg]
    by_cases c : i = g
    · rw [c, hs] at h; exact absurd h (by decide)
    · rw [if_neg c]; exact h
theorem Gr.wk (l : List Int) : ∀ {X : Sx}, Wp n X l m → p < n → Gr X (X.wk p l) := by
  induction l with
  | nil => intro X _ _; exact Gr.refl X
  | cons g l ih =>
    intro X w hp
    obtain ⟨j, rfl, hj, hs⟩ := w.in_l List.mem_cons_self
    exact (Gr.rdy (p := p) hj hs).trans (ih (w.rdy_l hp) hp)
theorem Gr.wake (w : Wp n X [] m) (hp : p < n) : Gr X (X.wake p) := Gr.trans (Gr.gs (X := X) (Y := { X with P := X.P.set p (dueRest (X.P.getD p []) X.clk) }) rfl) (Gr.wk _ (w.cut hp) hp)
theorem Gr.find (w : Wf n X) (hp : p < n) (s : Int) : Gr X (X.find p s).2 := by
  have h1 := Gr.wake w hp
  have w1 := w.wake hp
  by_cases c : ((X.wake p).got p s).1.2 = true
  · rw [find_yes c]; exact h1.trans (Gr.gs rfl)
  · have c : ((X.wake p).got p s).1.2 = false := by simpa using c
    obtain ⟨e, -⟩ := w1.got_no hp c
    cases he : ((X.wake p).got p s).2.els p (s % (X.pr.length : Int)).toNat with
    | none => rw [find_none c he]; exact h1.trans (Gr.gs rfl)
    | some v =>
      obtain ⟨v1, v2, -⟩ := els_is he
      rw [find_other c he, e]
      rw [e] at v1
      have v1 : v < n := by rw [← w1.lpr]; exact v1
      exact ((h1.trans (Gr.gs (Y := (X.wake p).mv v p) rfl)).trans (Gr.wake (w1.mv v1 hp v2) hp)).trans (Gr.gs rfl)
/-- A processor that has none acts. -/
structure Acted (n : Nat) (X : Sx) (p : Nat) (Y : Sx) : Prop where
  wf : Wf n Y
  gr : Gr X Y
  oth : ∀ q, q ≠ p → Y.on q = X.on q
  none : Y.on p = -1 → ∀ F : Int → Nat, wt F Y.Q.1 Y.Q.2 = 0
  a : Y.a = X.a
theorem acted (w : Wf n X) (hp : p < n) (s : Int) (hi : X.on p = -1) :
    Acted n X p (X.act p s).2 ∧ ((∃ g : Nat, (X.act p s).1 = (2, (g : Int)) ∧ (X.act p s).2.on p = (g : Int) ∧ g < (X.act p s).2.gs.length ∧ ((X.act p s).2.gs.getD g (0, false)).1 = 1) ∨ (X.act p s).1 = (1, 0)) := by
  have wa := w.act hp s
  obtain ⟨k1, k2, k3⟩ := find_clk X p s
  rcases act_idle w hp s hi with ⟨g, e, ef, hg, hs, e2⟩ | ⟨e, e2, e3, e4⟩
  · have hpl : p < (X.find p s).2.pr.length := by rw [find_pr, w.lpr]; exact hp
    have on1 : (X.act p s).2.on p = (g : Int) := by rw [e2, take_on _ _ _ _ hpl, if_pos rfl]
    refine ⟨⟨wa, ?_, fun q hq => by rw [e2, take_on _ _ _ _ hpl, if_neg hq, find_on], fun c => by rw [on1] at c; omega, by rw [e2]; exact k2⟩, .inl ⟨g, e, on1, by rw [e2]; exact hg, by rw [e2]; exact hs⟩⟩
    rw [e2]; exact (Gr.find w hp s).trans (Gr.gs rfl)
  · refine ⟨⟨wa, by rw [e2]; exact Gr.wake w hp, fun q hq => by rw [e2, wake_on], fun _ => by rw [e2]; exact e3, by rw [e2]; exact a_wake X p⟩, .inr e⟩
/-- A processor's goroutine ends. -/
theorem ended (w : Wf n X) (hp : p < n) {g : Nat} (hn : X.on p = (g : Int)) (hg : g < X.gs.length) (hs : (X.gs.getD g (0, false)).1 = 1) :
    Wf n (X.stp p (3, false)) ∧ al (X.stp p (3, false)) + 1 = al X ∧ ab (X.stp p (3, false)) + 1 = ab X ∧ (∀ i, (X.gs.getD i (0, false)).1 = 3 → ((X.stp p (3, false)).gs.getD i (0, false)).1 = 3) ∧ ((X.stp p (3, false)).gs.getD g (0, false)).1 = 3 ∧ (X.stp p (3, false)).gs.length = X.gs.length ∧
      ∀ q, (X.stp p (3, false)).on q = if q = p then -1 else X.on q := by
  have en : (X.on p).toNat = g := by omega
  have eg : (X.stp p (3, false)).gs = X.gs.set g (3, false) := by show X.gs.set (X.on p).toNat (3, false) = _; rw [en]
  refine ⟨w.off hp (by omega) (3, false) (by decide) (by decide), ?_, ?_, fun i h => ?_, ?_, by rw [eg, List.length_set], fun q => stp_on _ _ _ _ (by rw [w.lpr]; exact hp)⟩
  · have := al_set hg (3, false)
    rw [if_neg (by rw [hs]; decide), if_pos rfl] at this
    unfold al at this ⊢
    rw [eg]
    omega
  · have := set_1 hg (3, false) (fun _ => 1)
    rw [if_pos hs, if_neg (by decide)] at this
    unfold ab
    rw [eg]
    omega
  · rw [eg, gs_set _ _ _ _ hg]
    split
    · rfl
    · exact h
  · rw [eg, gs_set _ _ _ _ hg, if_pos rfl]
theorem none_ready (w : Wf n X) (hi : idle n X) (hq : ∀ F : Int → Nat, wt F X.Q.1 X.Q.2 = 0) : ab X = 0 := by
  unfold ab
  apply Classical.byContradiction
  intro c
  obtain ⟨i, h1, h2, -⟩ := bW_mem X.gs 0 c
  exact ready_wt w hi h1 (by simpa using h2) (hq _)
theorem al_le (w : Wf n X) : al X ≤ 64 := Nat.le_trans (bW_le _ _) w.g64
end
end Go.Proofs.Ytaloafihbdamiaa
