/- The scheduler, plainly: every call leaves each goroutine in its place. -/
import Derived.Test.YtaloafihbdamiaaGreatSR
namespace Go.Proofs.YtaloafihbdamiaaGreat
section
variable {n : Nat} {X : Sx} {l m : List Int} {p : Nat}
theorem nat_two {a b c d e f : Nat} (h1 : a + c = b + d) (h2 : c = e) (h3 : d = f) : a + e = b + f := by omega
/-- A goroutine's state becomes another one. -/
theorem set_1 {gs : List (Int × Bool)} {g : Nat} (hg : g < gs.length) (s : Int × Bool) (F : Int → Nat) :
    bW (fun s => decide (s.1 = 1)) F 0 (gs.set g s) + (if (gs.getD g (0, false)).1 = 1 then F (g : Int) else 0) = bW (fun s => decide (s.1 = 1)) F 0 gs + (if s.1 = 1 then F (g : Int) else 0) := by
  have h := bW_set (φ := fun s => decide (s.1 = 1)) (F := F) gs 0 g s hg
  rw [Nat.zero_add] at h
  simp only [decide_eq_true_eq] at h
  exact h
theorem set_2 {gs : List (Int × Bool)} {g : Nat} (hg : g < gs.length) (s : Int × Bool) (F : Int → Nat) :
    bW (fun s => decide (s = (2, true))) F 0 (gs.set g s) + (if gs.getD g (0, false) = (2, true) then F (g : Int) else 0) = bW (fun s => decide (s = (2, true))) F 0 gs + (if s = (2, true) then F (g : Int) else 0) := by
  have h := bW_set (φ := fun s => decide (s = (2, true))) (F := F) gs 0 g s hg
  rw [Nat.zero_add] at h
  simp only [decide_eq_true_eq] at h
  exact h
theorem putP_len (s : St) (p : Nat) (g : Int) : (putP s p g).1.length = s.1.length := putS_len ..
theorem Wp.rdy_l {g : Int} (h : Wp n X (g :: l) m) (hp : p < n) : Wp n (X.rdy p g.toNat) l m := by
  obtain ⟨i, rfl, hi, hs⟩ := h.in_l List.mem_cons_self
  rw [Int.toNat_natCast]
  refine ⟨h.n1, h.n8, h.lpr, (putP_len ..).trans h.lq, h.lp, h.neat, h.a0, by show (X.gs.set _ _).length ≤ _; rw [List.length_set]; exact h.g64, fun F => ?_, fun F => ?_, h.rn⟩
  · have h1 := set_1 hi (1, false) F
    rw [hs, if_neg (by decide), if_pos rfl] at h1
    have h2 := h.q F
    have h3 : wt F (putP X.Q p (i : Int)).1 (putP X.Q p (i : Int)).2 = wt F X.Q.1 X.Q.2 + F (i : Int) := wt_put (by rw [h.lq]; exact hp) (by omega)
    show wt F (putP X.Q p (i : Int)).1 (putP X.Q p (i : Int)).2 + prW F X.pr + (m.map F).sum = bW _ F 0 (X.gs.set i (1, false))
    omega
  · have h1 := set_2 hi (1, false) F
    rw [if_pos hs, if_neg (by decide)] at h1
    have h2 := h.t F
    rw [List.map_cons, List.sum_cons] at h2
    show tW F X.P + (l.map F).sum = bW _ F 0 (X.gs.set i (1, false))
    omega
theorem Wp.rdy {g : Nat} (h : Wp n X l m) (hp : p < n) (hg : g < X.gs.length) (hs : X.gs.getD g (0, false) = (2, false)) : Wp n (X.rdy p g) l m := by
  refine ⟨h.n1, h.n8, h.lpr, (putP_len ..).trans h.lq, h.lp, h.neat, h.a0, by show (X.gs.set _ _).length ≤ _; rw [List.length_set]; exact h.g64, fun F => ?_, fun F => ?_, h.rn⟩
  · have h1 := set_1 hg (1, false) F
    rw [hs, if_neg (by decide), if_pos rfl] at h1
    have h2 := h.q F
    have h3 : wt F (putP X.Q p (g : Int)).1 (putP X.Q p (g : Int)).2 = wt F X.Q.1 X.Q.2 + F (g : Int) := wt_put (by rw [h.lq]; exact hp) (by omega)
    show wt F (putP X.Q p (g : Int)).1 (putP X.Q p (g : Int)).2 + prW F X.pr + (m.map F).sum = bW _ F 0 (X.gs.set g (1, false))
    omega
  · have h1 := set_2 hg (1, false) F
    rw [hs, if_neg (by decide), if_neg (by decide)] at h1
    have h2 := h.t F
    show tW F X.P + (l.map F).sum = bW _ F 0 (X.gs.set g (1, false))
    omega
theorem Wp.beg (h : Wp n X l m) (hp : p < n) (hg : X.gs.length < 64) : Wp n (X.beg p) l m := by
  refine ⟨h.n1, h.n8, h.lpr, (putP_len ..).trans h.lq, h.lp, h.neat, h.a0, by show (X.gs ++ [_]).length ≤ _; rw [List.length_append]; simp only [List.length_singleton]; omega, fun F => ?_, fun F => ?_, h.rn⟩
  · have h1 := bW_snoc (φ := fun s => decide (s.1 = 1)) (F := F) X.gs 0 (1, false)
    rw [Nat.zero_add, if_pos (by decide)] at h1
    have h2 := h.q F
    have h3 : wt F (putP X.Q p (X.gs.length : Int)).1 (putP X.Q p (X.gs.length : Int)).2 = wt F X.Q.1 X.Q.2 + F (X.gs.length : Int) := wt_put (by rw [h.lq]; exact hp) (by omega)
    show wt F (putP X.Q p (X.gs.length : Int)).1 (putP X.Q p (X.gs.length : Int)).2 + prW F X.pr + (m.map F).sum = bW _ F 0 (X.gs ++ [(1, false)])
    omega
  · have h1 := bW_snoc (φ := fun s => decide (s = (2, true))) (F := F) X.gs 0 (1, false)
    rw [if_neg (by decide)] at h1
    have h2 := h.t F
    show tW F X.P + (l.map F).sum = bW _ F 0 (X.gs ++ [(1, false)])
    omega
theorem Wp.wk (l : List Int) : ∀ {X : Sx}, Wp n X l m → p < n → Wp n (X.wk p l) [] m := by
  induction l with
  | nil => intro X h _; exact h
  | cons g l ih => intro X h hp; exact ih (h.rdy_l hp) hp
theorem Wp.wake (h : Wp n X [] m) (hp : p < n) : Wp n (X.wake p) [] m := by
  have hpa := P_at (P := X.P) (p := p) (by rw [h.lp]; exact hp)
  obtain ⟨d, hd⟩ := rest_drop (now := X.clk) (h.neat.tidy.up p _ hpa)
  refine Wp.wk _ ⟨h.n1, h.n8, h.lpr, h.lq, by show (X.P.set _ _).length = _; rw [List.length_set]; exact h.lp, by show Neat (X.P.set p (dueRest (X.P.getD p []) X.clk)) X.a; rw [hd]; exact h.neat.cut hpa d, h.a0, h.g64, h.q, fun F => ?_, h.rn⟩ hp
  have h1 := h.t F
  have h2 := tW_set (F := F) (P := X.P) (p := p) (by rw [h.lp]; exact hp) (dueRest (X.P.getD p []) X.clk)
  have h3 := lW_due (F := F) (X.P.getD p []) X.clk
  have h4 : (([] : List Int).map F).sum = 0 := rfl
  show tW F (X.P.set p (dueRest (X.P.getD p []) X.clk)) + ((dueIds (X.P.getD p []) X.clk).map F).sum = bW _ F 0 X.gs
  omega
theorem from_lt (h : Wp n X l m) (s : Int) : (s % (X.Q.1.length : Int)).toNat < X.Q.1.length := by
  have := h.lq
  have := h.n1
  have := Int.emod_lt_of_pos s (show (0 : Int) < (X.Q.1.length : Int) by omega)
  have := Int.emod_nonneg s (show (X.Q.1.length : Int) ≠ 0 by omega)
  omega
theorem Wp.got_yes {s : Int} (h : Wp n X l m) (hp : p < n) (ht : (X.got p s).1.2 = true) : Wp n (X.got p s).2 l ((X.got p s).1.1 :: m) := by
  refine ⟨h.n1, h.n8, h.lpr, (getS_len ..).trans h.lq, h.lp, h.neat, h.a0, h.g64, fun F => ?_, h.t, h.rn⟩
  have h1 := h.q F
  have h2 := wt_get (F := F) (S := X.Q.1) (A := X.Q.2) (p := p) (by rw [h.lq]; exact hp) (from_lt h s)
  rw [List.map_cons, List.sum_cons]
  rcases h2 with ⟨-, h2⟩ | ⟨h2, -⟩
  · show wt F (getP X.Q p s).2.1 (getP X.Q p s).2.2 + prW F X.pr + (F (getP X.Q p s).1.1 + (m.map F).sum) = bW _ F 0 X.gs
    unfold getP
    omega
  · have e : (X.got p s).1 = (0, false) := h2
    rw [e] at ht; cases ht
/-- Where nothing was got, nothing is there. -/
theorem Wp.got_no {s : Int} (h : Wp n X l m) (hp : p < n) (ht : (X.got p s).1.2 = false) : (X.got p s) = ((0, false), X) ∧ ∀ F : Int → Nat, wt F X.Q.1 X.Q.2 = 0 := by
  have k := fun F : Int → Nat => wt_get (F := F) (S := X.Q.1) (A := X.Q.2) (p := p) (by rw [h.lq]; exact hp) (from_lt h s)
  have k2 : ∀ F : Int → Nat, (getS X.Q.1 X.Q.2 p (s % (X.Q.1.length : Int)).toNat).1 = (0, false) ∧ (getS X.Q.1 X.Q.2 p (s % (X.Q.1.length : Int)).toNat).2 = (X.Q.1, X.Q.2) ∧ wt F X.Q.1 X.Q.2 = 0 := fun F => by
    rcases k F with ⟨a, -⟩ | a
    · have a : (X.got p s).1.2 = true := a
      rw [ht] at a; cases a
    · exact a
  refine ⟨?_, fun F => (k2 F).2.2⟩
  obtain ⟨a, b, -⟩ := k2 fun _ => 0
  unfold Sx.got getP
  rw [a, b]
theorem Wp.mv {v : Nat} (h : Wp n X l m) (hv : v < n) (hp : p < n) (hne : v ≠ p) : Wp n (X.mv v p) l m := by
  have hva := P_at (P := X.P) (p := v) (by rw [h.lp]; exact hv)
  have hpa := P_at (P := X.P) (p := p) (by rw [h.lp]; exact hp)
  have f := h.fine.mv (v := v) (p := p) (by rw [h.lpr]; exact hv) (by rw [h.lpr]; exact hp) hne
  have ho : ((X.P.getD v []) ++ (X.P.getD p [])).Pairwise (fun x y => x.order ≠ y.order) := by
    rw [List.pairwise_append]
    exact ⟨h.neat.apart hva, h.neat.apart hpa, fun x hx y hy e => hne (h.neat.own v p _ _ x y hva hpa hx hy e).1⟩
  refine ⟨h.n1, h.n8, h.lpr, h.lq, by rw [f.lp]; exact h.lpr, f.neat, h.a0, h.g64, h.q, fun F => ?_, h.rn⟩
  have h1 := h.t F
  have h2 := tW_set (F := F) (P := X.P) (p := v) (by rw [h.lp]; exact hv) []
  have h3 := tW_set (F := F) (P := X.P.set v []) (p := p) (by rw [List.length_set, h.lp]; exact hp) (mrg (X.P.getD v []) (X.P.getD p []))
  rw [getD_set _ _ _ _ _ (by rw [h.lp]; exact hv), if_neg (fun e => hne e.symm)] at h3
  have h4 : lW F (mrg (X.P.getD v []) (X.P.getD p [])) = lW F (X.P.getD v []) + lW F (X.P.getD p []) := (lW_perm (mrg_perm _ ho)).trans (lW_app _ _)
  have h5 : lW F [] = 0 := rfl
  show tW F ((X.P.set v []).set p (mrg (X.P.getD v []) (X.P.getD p []))) + (l.map F).sum = bW _ F 0 X.gs
  omega
theorem Wp.takes {g : Int} (h : Wp n X l (g :: m)) (hp : p < n) (hi : X.on p = -1) : Wp n (X.take p g) l m := by
  obtain ⟨i, rfl, hg, -⟩ := h.in_m List.mem_cons_self
  refine ⟨h.n1, h.n8, by show (X.pr.set _ _).length = _; rw [List.length_set]; exact h.lpr, h.lq, h.lp, h.neat, h.a0, h.g64, fun F => ?_, h.t, fun q => ?_⟩
  · have h1 := h.q F
    rw [List.map_cons, List.sum_cons] at h1
    have h2 := prW_set (F := F) (pr := X.pr) (p := p) (by rw [h.lpr]; exact hp) ((i : Int), 0)
    have h3 : oW F (X.pr.getD p (-1, 0)) = 0 := by unfold oW; rw [if_pos (show (X.pr.getD p (-1, 0)).1 = -1 from hi)]
    have h4 : oW F ((i : Int), 0) = F (i : Int) := by unfold oW; rw [if_neg (show ¬ (i : Int) = -1 by omega)]
    show wt F X.Q.1 X.Q.2 + prW F (X.pr.set p ((i : Int), 0)) + (m.map F).sum = bW _ F 0 X.gs
    omega
  · show 0 ≤ ((X.pr.set p ((i : Int), 0)).getD q (-1, 0)).2
    rw [getD_set _ _ _ _ _ (by rw [h.lpr]; exact hp)]
    split
    · exact Int.le_refl _
    · exact h.rn q
theorem Wp.find (h : Wf n X) (hp : p < n) (s : Int) : Wp n (X.find p s).2 [] (if (X.find p s).1.2 then [(X.find p s).1.1] else []) := by
  have h1 := h.wake hp
  by_cases c : ((X.wake p).got p s).1.2 = true
  · rw [find_yes c, if_pos c]; exact h1.got_yes hp c
  · have c : ((X.wake p).got p s).1.2 = false := by simpa using c
    obtain ⟨e, -⟩ := h1.got_no hp c
    cases he : ((X.wake p).got p s).2.els p (s % (X.pr.length : Int)).toNat with
    | none =>
      rw [find_none c he, e]
      exact h1
    | some v =>
      obtain ⟨v1, v2, -⟩ := els_is he
      rw [find_other c he]
      rw [e] at v1 ⊢
      have v1 : v < n := by rw [← h.lpr, ← wake_pr X p]; exact v1
      have h2 := (h1.mv v1 hp v2).wake hp
      by_cases c2 : (((((0, false), X.wake p) : (Int × Bool) × Sx).2.mv v p).wake p |>.got p s).1.2 = true
      · rw [if_pos c2]; exact h2.got_yes hp c2
      · rw [if_neg c2]
        have c3 := h2.got_no hp (s := s) (by simpa using c2)
        have e3 : ((((0, false), X.wake p) : (Int × Bool) × Sx).2.mv v p |>.wake p).got p s = ((0, false), ((X.wake p).mv v p).wake p) := c3.1
        rw [e3]; exact h2
theorem Wp.off (h : Wf n X) (hp : p < n) (hn : X.on p ≠ -1) (now : Int × Bool) (h1 : now.1 ≠ 1) (h2 : now ≠ (2, true)) : Wf n (X.stp p now) := by
  obtain ⟨i, hi, hg, hs⟩ := h.on hp hn
  have e : (X.on p).toNat = i := by omega
  refine ⟨h.n1, h.n8, by show (X.pr.set _ _).length = _; rw [List.length_set]; exact h.lpr, h.lq, h.lp, h.neat, h.a0, by show (X.gs.set _ _).length ≤ _; rw [List.length_set]; exact h.g64, fun F => ?_, fun F => ?_, fun q => ?_⟩
  · have k1 := h.q F
    have k2 := prW_set (F := F) (pr := X.pr) (p := p) (by rw [h.lpr]; exact hp) (-1, X.runs p)
    have k3 : oW F (X.pr.getD p (-1, 0)) = F (i : Int) := by
      unfold oW; rw [if_neg (show ¬ (X.pr.getD p (-1, 0)).1 = -1 from hn)]; rw [show (X.pr.getD p (-1, 0)).1 = (i : Int) from hi]
    have k4 : oW F (-1, X.runs p) = 0 := rfl
    have k5 := set_1 hg now F
    rw [if_pos hs, if_neg h1] at k5
    have k6 : (([] : List Int).map F).sum = 0 := rfl
    show wt F X.Q.1 X.Q.2 + prW F (X.pr.set p (-1, X.runs p)) + _ = bW _ F 0 (X.gs.set (X.on p).toNat now)
    rw [e]
    omega
  · have k1 := h.t F
    have k5 := set_2 hg now F
    rw [if_neg (fun c => by rw [c] at hs; exact absurd hs (by decide)), if_neg h2] at k5
    show tW F X.P + _ = bW _ F 0 (X.gs.set (X.on p).toNat now)
    rw [e]
    omega
  · show 0 ≤ ((X.pr.set p (-1, X.runs p)).getD q (-1, 0)).2
    rw [getD_set _ _ _ _ _ (by rw [h.lpr]; exact hp)]
    split
    · exact h.rn p
    · exact h.rn q
theorem Wp.yld (h : Wf n X) (hp : p < n) (hn : X.on p ≠ -1) : Wf n (X.yld p) := by
  obtain ⟨i, hi, hg, hs⟩ := h.on hp hn
  refine ⟨h.n1, h.n8, by show (X.pr.set _ _).length = _; rw [List.length_set]; exact h.lpr, h.lq, h.lp, h.neat, h.a0, h.g64, fun F => ?_, h.t, fun q => ?_⟩
  · have k1 := h.q F
    have k2 := prW_set (F := F) (pr := X.pr) (p := p) (by rw [h.lpr]; exact hp) (-1, X.runs p)
    have k3 : oW F (X.pr.getD p (-1, 0)) = F (X.on p) := by
      unfold oW; rw [if_neg (show ¬ (X.pr.getD p (-1, 0)).1 = -1 from hn)]; rfl
    have k4 : oW F (-1, X.runs p) = 0 := rfl
    have k5 : wt F X.Q.1 (X.Q.2 ++ [X.on p]) = wt F X.Q.1 X.Q.2 + F (X.on p) := wt_last
    show wt F X.Q.1 (X.Q.2 ++ [X.on p]) + prW F (X.pr.set p (-1, X.runs p)) + _ = bW _ F 0 X.gs
    omega
  · show 0 ≤ ((X.pr.set p (-1, X.runs p)).getD q (-1, 0)).2
    rw [getD_set _ _ _ _ _ (by rw [h.lpr]; exact hp)]
    split
    · exact h.rn p
    · exact h.rn q
theorem Wp.slp (h : Wf n X) (hp : p < n) (hn : X.on p ≠ -1) (t : Int) : Wf n (X.slp p t) := by
  obtain ⟨i, hi, hg, hs⟩ := h.on hp hn
  have e : (X.on p).toNat = i := by omega
  have hpa := P_at (P := X.P) (p := p) (by rw [h.lp]; exact hp)
  have hr := h.neat.tidy.up p _ hpa
  have hl := h.neat.tidy.lo p _ hpa
  have ho : ∀ y ∈ X.P.getD p [], y.order ≠ (⟨t, X.a, X.on p⟩ : Ent).order := fun y hy => by have := hl y hy; show y.order ≠ X.a; omega
  have hp2 := ins_perm ho
  have hA : Added (X.P.getD p []) ⟨t, X.a, X.on p⟩ (insO ⟨t, X.a, X.on p⟩ (X.P.getD p [])) := ⟨rises_ins hr _, fun x => mem_insO ho, by rw [hp2.length_eq]; rfl⟩
  refine ⟨h.n1, h.n8, by show (X.pr.set _ _).length = _; rw [List.length_set]; exact h.lpr, h.lq, by show (X.P.set _ _).length = _; rw [List.length_set]; exact h.lp, h.neat.add hpa hA rfl, by have := h.a0; show 0 ≤ X.a + 1; omega, by show (X.gs.set _ _).length ≤ _; rw [List.length_set]; exact h.g64, fun F => ?_, fun F => ?_, fun q => ?_⟩
  · have k1 := h.q F
    have k2 := prW_set (F := F) (pr := X.pr) (p := p) (by rw [h.lpr]; exact hp) (-1, X.runs p)
    have k3 : oW F (X.pr.getD p (-1, 0)) = F (i : Int) := by
      unfold oW; rw [if_neg (show ¬ (X.pr.getD p (-1, 0)).1 = -1 from hn)]; rw [show (X.pr.getD p (-1, 0)).1 = (i : Int) from hi]
    have k4 : oW F (-1, X.runs p) = 0 := rfl
    have k5 := set_1 hg (2, true) F
    rw [if_pos hs, if_neg (by decide)] at k5
    show wt F X.Q.1 X.Q.2 + prW F (X.pr.set p (-1, X.runs p)) + _ = bW _ F 0 (X.gs.set (X.on p).toNat (2, true))
    rw [e]
    omega
  · have k1 := h.t F
    have k5 := set_2 hg (2, true) F
    rw [if_neg (fun c => by rw [c] at hs; exact absurd hs (by decide)), if_pos rfl] at k5
    have k6 := tW_set (F := F) (P := X.P) (p := p) (by rw [h.lp]; exact hp) (insO ⟨t, X.a, X.on p⟩ (X.P.getD p []))
    have k7 : lW F (insO ⟨t, X.a, X.on p⟩ (X.P.getD p [])) = F (X.on p) + lW F (X.P.getD p []) := lW_perm hp2
    rw [hi] at k7
    show tW F (X.P.set p (insO ⟨t, X.a, X.on p⟩ (X.P.getD p []))) + _ = bW _ F 0 (X.gs.set (X.on p).toNat (2, true))
    rw [e, hi]
    rw [hi] at k6
    omega
  · show 0 ≤ ((X.pr.set p (-1, X.runs p)).getD q (-1, 0)).2
    rw [getD_set _ _ _ _ _ (by rw [h.lpr]; exact hp)]
    split
    · exact h.rn p
    · exact h.rn q
theorem Wp.tick (h : Wf n X) (t : Int) : Wf n (X.tick t) := ⟨h.n1, h.n8, h.lpr, h.lq, h.lp, h.neat, h.a0, h.g64, h.q, h.t, h.rn⟩
theorem Wp.goon (h : Wf n X) (hp : p < n) (hn : X.on p ≠ -1) : Wf n (X.goon p).2 := by
  unfold Sx.goon
  split
  · refine ⟨h.n1, h.n8, by show (X.pr.set _ _).length = _; rw [List.length_set]; exact h.lpr, h.lq, h.lp, h.neat, h.a0, h.g64, fun F => ?_, h.t, fun q => ?_⟩
    · have k1 := h.q F
      have k2 := prW_set (F := F) (pr := X.pr) (p := p) (by rw [h.lpr]; exact hp) (X.on p, X.runs p + 1)
      have k3 : oW F (X.pr.getD p (-1, 0)) = oW F (X.on p, X.runs p + 1) := rfl
      show wt F X.Q.1 X.Q.2 + prW F (X.pr.set p (X.on p, X.runs p + 1)) + _ = bW _ F 0 X.gs
      omega
    · show 0 ≤ ((X.pr.set p (X.on p, X.runs p + 1)).getD q (-1, 0)).2
      rw [getD_set _ _ _ _ _ (by rw [h.lpr]; exact hp)]
      have := h.rn p
      split
      · show 0 ≤ X.runs p + 1; omega
      · exact h.rn q
  · split
    · exact h
    · exact h.yld hp hn
theorem Wp.act (h : Wf n X) (hp : p < n) (s : Int) : Wf n (X.act p s).2 := by
  unfold Sx.act
  by_cases hi : X.on p = -1
  · rw [if_pos hi]
    have h1 := h.find hp s
    split
    · rename_i c
      rw [if_pos c] at h1
      exact h1.takes hp (by unfold Sx.on; rw [find_pr]; exact hi)
    · rename_i c
      rw [if_neg c] at h1
      exact h1
  · rw [if_neg hi]; exact h.goon hp hi
theorem wf_ini {n : Nat} (h1 : 1 ≤ n) (h8 : n ≤ 8) : Wf n (Sx.ini n) := by
  have hz : ∀ (F : Int → Nat) (k : Nat), ((List.replicate k ((-1 : Int), ([] : List Int))).map (pw F)).sum = 0 := fun F k => sum_zero fun x hx => by
    obtain ⟨y, hy, rfl⟩ := List.mem_map.1 hx
    rw [List.eq_of_mem_replicate hy]; rfl
  have hz2 : ∀ (F : Int → Nat) (k : Nat), ((List.replicate k ((-1 : Int), (0 : Int))).map (oW F)).sum = 0 := fun F k => sum_zero fun x hx => by
    obtain ⟨y, hy, rfl⟩ := List.mem_map.1 hx
    rw [List.eq_of_mem_replicate hy]; rfl
  have hz3 : ∀ (F : Int → Nat) (k : Nat), ((List.replicate k ([] : List Ent)).map (lW F)).sum = 0 := fun F k => sum_zero fun x hx => by
    obtain ⟨y, hy, rfl⟩ := List.mem_map.1 hx
    rw [List.eq_of_mem_replicate hy]; rfl
  refine ⟨h1, h8, List.length_replicate .., List.length_replicate .., List.length_replicate .., neat_new n, Int.le_refl _, Nat.zero_le _, fun F => ?_, fun F => ?_, fun p => ?_⟩
  · show (([] : List Int).map F).sum + ((List.replicate n ((-1 : Int), ([] : List Int))).map (pw F)).sum + ((List.replicate n ((-1 : Int), (0 : Int))).map (oW F)).sum + 0 = 0
    rw [hz, hz2]; rfl
  · show ((List.replicate n ([] : List Ent)).map (lW F)).sum + 0 = 0
    rw [hz3]
  · show 0 ≤ ((List.replicate n ((-1 : Int), (0 : Int))).getD p (-1, 0)).2
    rw [List.getD, List.getElem?_replicate]
    split <;> exact Int.le_refl _
end
end Go.Proofs.YtaloafihbdamiaaGreat
