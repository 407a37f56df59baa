/- The scheduler, plainly: who is ready is taken; who sleeps isn't, ahead of the time. -/
import Derived.Test.YtaloafihbdamiaaSS
namespace Go.Proofs.Ytaloafihbdamiaa
section
variable {n : Nat} {X : Sx} {l m : List Int} {p : Nat}
theorem gs_set (gs : List (Int × Bool)) (g i : Nat) (s : Int × Bool) (hg : g < gs.length) : (gs.set g s).getD i (0, false) = if i = g then s else gs.getD i (0, false) := getD_set _ _ _ _ _ hg
theorem rdy_1 {g i : Nat} (hg : g < X.gs.length) (h : (X.gs.getD i (0, false)).1 = 1) : ((X.rdy p g).gs.getD i (0, false)).1 = 1 := by
  show ((X.gs.set g (1, false)).getD i (0, false)).1 = 1
  rw [gs_set _ _ _ _ hg]
  split
  · rfl
  · exact h
/-- Who is ready stays ready. -/
theorem wk_1 {i : Nat} (l : List Int) : ∀ {X : Sx}, Wp n X l m → p < n → (X.gs.getD i (0, false)).1 = 1 → ((X.wk p l).gs.getD i (0, false)).1 = 1 := by
  induction l with
  | nil => intro X _ _ h; exact h
  | cons g l ih =>
    intro X w hp h
    obtain ⟨j, rfl, hj, -⟩ := w.in_l List.mem_cons_self
    exact ih (w.rdy_l hp) hp (rdy_1 (by rw [Int.toNat_natCast]; exact hj) h)
theorem Wp.cut (h : Wp n X [] m) (hp : p < n) : Wp n { X with P := X.P.set p (dueRest (X.P.getD p []) X.clk) } (dueIds (X.P.getD p []) X.clk) m := by
  have hpa := P_at (P := X.P) (p := p) (by rw [h.lp]; exact hp)
  obtain ⟨d, hd⟩ := rest_drop (now := X.clk) (h.neat.tidy.up p _ hpa)
  refine ⟨h.n1, h.n8, h.lpr, h.lq, by show (X.P.set _ _).length = _; rw [List.length_set]; exact h.lp, by show Neat (X.P.set p (dueRest (X.P.getD p []) X.clk)) X.a; rw [hd]; exact h.neat.cut hpa d, h.a0, h.g64, h.q, fun F => ?_, h.rn⟩
  have h1 := h.t F
  have h2 := tW_set (F := F) (P := X.P) (p := p) (by rw [h.lp]; exact hp) (dueRest (X.P.getD p []) X.clk)
  have h3 := lW_due (F := F) (X.P.getD p []) X.clk
  have h4 : (([] : List Int).map F).sum = 0 := rfl
  show tW F (X.P.set p (dueRest (X.P.getD p []) X.clk)) + ((dueIds (X.P.getD p []) X.clk).map F).sum = bW _ F 0 X.gs
  omega
theorem wake_1 {i : Nat} (h : Wp n X [] m) (hp : p < n) (hi : (X.gs.getD i (0, false)).1 = 1) : ((X.wake p).gs.getD i (0, false)).1 = 1 := wk_1 _ (h.cut hp) hp hi
/-- Nobody goes on anywhere. -/
def idle (n : Nat) (X : Sx) : Prop := ∀ q, q < n → X.on q = -1
theorem idle_prW (h : Wp n X l m) (hi : idle n X) (F : Int → Nat) : prW F X.pr = 0 := by
  unfold prW
  refine sum_zero fun x hx => ?_
  obtain ⟨c, hc, rfl⟩ := List.mem_map.1 hx
  obtain ⟨q, hq, rfl⟩ := List.mem_iff_getElem.1 hc
  have := hi q (by rw [← h.lpr]; exact hq)
  unfold Sx.on at this
  rw [show X.pr.getD q (-1, 0) = X.pr[q] by simp [List.getD, hq]] at this
  unfold oW
  rw [if_pos this]
theorem ready_wt (h : Wp n X l []) (hi : idle n X) {g : Nat} (hg : g < X.gs.length) (hs : (X.gs.getD g (0, false)).1 = 1) : wt (one (g : Int)) X.Q.1 X.Q.2 ≠ 0 := by
  have h1 := h.q (one (g : Int))
  have h2 := idle_prW h hi (one (g : Int))
  have h3 := bW_at (φ := fun s => decide (s.1 = 1)) (F := one (g : Int)) X.gs 0 g hg (by simpa using hs)
  rw [Nat.zero_add, one_self] at h3
  have h4 : (([] : List Int).map (one (g : Int))).sum = 0 := rfl
  omega
theorem clk_wk (X : Sx) (p : Nat) (l : List Int) : (X.wk p l).clk = X.clk := (wk_kept X p l).1.clk
theorem clk_wake (X : Sx) (p : Nat) : (X.wake p).clk = X.clk := clk_wk _ _ _
theorem a_wake (X : Sx) (p : Nat) : (X.wake p).a = X.a := (wk_kept _ _ _).1.a
theorem P_wake (X : Sx) (p : Nat) : (X.wake p).P = X.P.set p (dueRest (X.P.getD p []) X.clk) := (wk_kept _ _ _).1.P
theorem find_clk (X : Sx) (p : Nat) (s : Int) : (X.find p s).2.clk = X.clk ∧ (X.find p s).2.a = X.a ∧ (X.find p s).2.gs.length = X.gs.length := by
  unfold Sx.find
  split
  · exact ⟨clk_wake X p, a_wake X p, wake_gs X p⟩
  · split
    · exact ⟨clk_wake X p, a_wake X p, wake_gs X p⟩
    · exact ⟨(clk_wake _ p).trans (clk_wake X p), (a_wake _ p).trans (a_wake X p), (wake_gs _ p).trans (wake_gs X p)⟩
/-- What an act of a processor without a goroutine does. -/
theorem act_idle (h : Wf n X) (hp : p < n) (s : Int) (hi : X.on p = -1) :
    (∃ g : Nat, (X.act p s).1 = (2, (g : Int)) ∧ (X.find p s).1 = ((g : Int), true) ∧ g < (X.find p s).2.gs.length ∧ ((X.find p s).2.gs.getD g (0, false)).1 = 1 ∧ (X.act p s).2 = (X.find p s).2.take p (g : Int)) ∨
    ((X.act p s).1 = (1, 0) ∧ (X.act p s).2 = X.wake p ∧ (∀ F : Int → Nat, wt F (X.wake p).Q.1 (X.wake p).Q.2 = 0) ∧ ∀ v, v < n → v ≠ p → (X.wake p).due v = false) := by
  have hf := h.find hp s
  have h1 := h.wake hp
  by_cases c : (X.find p s).1.2 = true
  · left
    rw [if_pos c] at hf
    obtain ⟨g, hg, hgl, hg1⟩ := hf.in_m List.mem_cons_self
    have e : X.act p s = ((2, (X.find p s).1.1), (X.find p s).2.take p (X.find p s).1.1) := by unfold Sx.act; rw [if_pos hi, if_pos c]
    rw [hg] at e
    exact ⟨g, by rw [e], by rw [← hg, ← c], hgl, hg1, by rw [e]⟩
  · right
    have c : (X.find p s).1.2 = false := by simpa using c
    have hc : ((X.wake p).got p s).1.2 = false := by
      cases hh : ((X.wake p).got p s).1.2 with
      | false => rfl
      | true => rw [find_yes hh, hh] at c; cases c
    obtain ⟨e, hw⟩ := h1.got_no hp hc
    cases he : ((X.wake p).got p s).2.els p (s % (X.pr.length : Int)).toNat with
    | none =>
      have e1 := find_none hc he
      have e2 : X.act p s = ((1, 0), X.wake p) := by unfold Sx.act; rw [if_pos hi, e1, e]; rfl
      refine ⟨by rw [e2], by rw [e2], hw, fun v hv hvp => ?_⟩
      rw [e] at he
      have he : (X.wake p).els p (s % (X.pr.length : Int)).toNat = none := he
      unfold Sx.els at he
      rw [Option.map_eq_none_iff, List.find?_eq_none] at he
      have hpr : (X.wake p).pr.length = n := h1.lpr
      have hn := h.n1
      obtain ⟨k, hk, hk2⟩ := find_all (k := n) (f := (s % (X.pr.length : Int)).toNat) (v := v) (by
        rw [h.lpr]
        have := Int.emod_lt_of_pos s (show (0 : Int) < (n : Int) by omega)
        have := Int.emod_nonneg s (show (n : Int) ≠ 0 by omega)
        omega) hv
      have := he k (List.mem_range.2 (by rw [hpr]; exact hk))
      rw [hpr, hk2] at this
      unfold Sx.vic at this
      simp only [Bool.and_eq_true, bne_iff_ne, ne_eq, not_and, Bool.not_eq_true] at this
      exact this hvp
    | some v =>
      exfalso
      obtain ⟨v1, v2, v3⟩ := els_is he
      have e1 := find_other hc he
      rw [e] at v1 v3 e1
      have v1 : v < n := by rw [← h1.lpr]; exact v1
      have v3 : (X.wake p).due v = true := v3
      have h2 := h1.mv v1 hp v2
      have h3 := h2.wake hp
      have hcn : ((((X.wake p).mv v p).wake p).got p s).1.2 = false := by
        have e1 : X.find p s = (((X.wake p).mv v p).wake p).got p s := e1
        rw [e1] at c; exact c
      obtain ⟨-, hz⟩ := h3.got_no hp hcn
      -- the first timer of v has woken its goroutine
      unfold Sx.due at v3
      cases hL : (X.wake p).P.getD v [] with
      | nil => rw [hL] at v3; cases v3
      | cons y L =>
        rw [hL] at v3
        have v3 : y.when ≤ (X.wake p).clk := by simpa using v3
        have hva := P_at (P := (X.wake p).P) (p := v) (by rw [h1.lp]; exact v1)
        have hpa := P_at (P := (X.wake p).P) (p := p) (by rw [h1.lp]; exact hp)
        obtain ⟨i, hyi, hil, his⟩ := h1.in_P hva (x := y) (by rw [hL]; exact List.mem_cons_self)
        have ho : (((X.wake p).P.getD v []) ++ ((X.wake p).P.getD p [])).Pairwise (fun x y => x.order ≠ y.order) := by
          rw [List.pairwise_append]
          exact ⟨h1.neat.apart hva, h1.neat.apart hpa, fun x hx y hy e => v2 (h1.neat.own v p _ _ x y hva hpa hx hy e).1⟩
        have hmem : y.id ∈ dueIds (((X.wake p).mv v p).P.getD p []) ((X.wake p).mv v p).clk := by
          unfold dueIds
          refine List.mem_map.2 ⟨y, List.mem_filter.2 ⟨?_, decide_eq_true (show y.when ≤ ((X.wake p).mv v p).clk from v3)⟩, rfl⟩
          show y ∈ (((X.wake p).P.set v []).set p (mrg _ _)).getD p []
          rw [getD_set _ _ _ _ _ (by rw [List.length_set, h1.lp]; exact hp), if_pos rfl]
          exact (mrg_perm _ ho).mem_iff.2 (List.mem_append_left _ (by rw [hL]; exact List.mem_cons_self))
        have hcut := h2.cut hp
        have hb := h3.q (one y.id)
        have key : ∀ (l : List Int) {Z : Sx}, Wp n Z l [] → y.id ∈ l → wt (one y.id) (Z.wk p l).Q.1 (Z.wk p l).Q.2 ≠ 0 ∧ True := by
          intro l
          induction l with
          | nil => intro Z _ hm; cases hm
          | cons g l ih =>
            intro Z wz hm
            have wz2 := wz.rdy_l hp
            refine ⟨?_, trivial⟩
            by_cases cg : y.id ∈ l
            · exact (ih wz2 cg).1
            · have hg : y.id = g := by
                rcases List.mem_cons.1 hm with e | e
                · exact e
                · exact absurd e cg
              have mono : ∀ (l : List Int) {Z : Sx}, Wp n Z l [] → wt (one y.id) Z.Q.1 Z.Q.2 ≤ wt (one y.id) (Z.wk p l).Q.1 (Z.wk p l).Q.2 := by
                intro l
                induction l with
                | nil => intro Z _; exact Nat.le_refl _
                | cons g l ih2 =>
                  intro Z wz
                  obtain ⟨j, rfl, _⟩ := wz.in_l List.mem_cons_self
                  have h3 : wt (one y.id) (putP Z.Q p (j : Int)).1 (putP Z.Q p (j : Int)).2 = wt (one y.id) Z.Q.1 Z.Q.2 + one y.id (j : Int) := wt_put (by rw [wz.lq]; exact hp) (by omega)
                  have h4 := ih2 (wz.rdy_l hp)
                  have h5 : wt (one y.id) (Z.rdy p (Int.toNat (j : Int))).Q.1 (Z.rdy p (Int.toNat (j : Int))).Q.2 = wt (one y.id) (putP Z.Q p (j : Int)).1 (putP Z.Q p (j : Int)).2 := by rw [Int.toNat_natCast]; rfl
                  exact Nat.le_trans (by rw [h5]; omega) h4
              have h4 := mono l wz2
              obtain ⟨j, hj, _⟩ := wz.in_l List.mem_cons_self
              subst hg
              have h3 : wt (one y.id) (putP Z.Q p y.id).1 (putP Z.Q p y.id).2 = wt (one y.id) Z.Q.1 Z.Q.2 + one y.id y.id := wt_put (by rw [wz.lq]; exact hp) (by omega)
              rw [one_self] at h3
              have h5 : wt (one y.id) (Z.rdy p y.id.toNat).Q.1 (Z.rdy p y.id.toNat).Q.2 = wt (one y.id) (putP Z.Q p y.id).1 (putP Z.Q p y.id).2 := by
                have e : (y.id.toNat : Int) = y.id := by omega
                show wt (one y.id) (putP Z.Q p (y.id.toNat : Int)).1 (putP Z.Q p (y.id.toNat : Int)).2 = _
                rw [e]
              exact Nat.ne_of_gt (Nat.lt_of_lt_of_le (by rw [h5]; omega) h4)
        exact (key _ hcut hmem).1 (hz (one y.id))
theorem take_on (X : Sx) (p q : Nat) (g : Int) (hp : p < X.pr.length) : (X.take p g).on q = if q = p then g else X.on q := by
  show ((X.pr.set p (g, 0)).getD q (-1, 0)).1 = _
  rw [getD_set _ _ _ _ _ hp]
  split <;> rfl
theorem stp_on (X : Sx) (p q : Nat) (s : Int × Bool) (hp : p < X.pr.length) : (X.stp p s).on q = if q = p then -1 else X.on q := by
  show ((X.pr.set p (-1, X.runs p)).getD q (-1, 0)).1 = _
  rw [getD_set _ _ _ _ _ hp]
  split <;> rfl
theorem find_on (X : Sx) (p q : Nat) (s : Int) : (X.find p s).2.on q = X.on q := by unfold Sx.on; rw [find_pr]
theorem wake_on (X : Sx) (p q : Nat) : (X.wake p).on q = X.on q := by unfold Sx.on; rw [wake_pr]
/-- Where somebody is ready and nobody goes on, somebody is taken. -/
theorem act_takes (h : Wf n X) (hp : p < n) (s : Int) (hi : idle n X) {g : Nat} (hg : g < X.gs.length) (hs : (X.gs.getD g (0, false)).1 = 1) : (X.act p s).1.1 = 2 := by
  rcases act_idle h hp s (hi p hp) with ⟨i, e, -⟩ | ⟨-, -, e, -⟩
  · rw [e]
  · exact absurd (e (one (g : Int))) (ready_wt (h.wake hp) (fun q hq => by rw [wake_on]; exact hi q hq) (by rw [wake_gs]; exact hg) (wake_1 h hp hs))
end
end Go.Proofs.Ytaloafihbdamiaa
