/- SchedSleeps, plainly. -/
import Derived.Test.YtaloafihbdamiaaSZ
namespace Go.Proofs.Ytaloafihbdamiaa
/-- Timers have the times t; who is ready was due; nobody waits otherwise. -/
structure J (t : Nat → Int) (X : Sx) : Prop where
  tm : ∀ (q : Nat) (L : List Ent), X.P[q]? = some L → ∀ x ∈ L, x.when = t x.id.toNat
  rd : ∀ g, g < X.gs.length → (X.gs.getD g (0, false)).1 = 1 → t g ≤ X.clk
  st : ∀ g, g < X.gs.length → (X.gs.getD g (0, false)).1 = 1 ∨ X.gs.getD g (0, false) = (2, true) ∨ (X.gs.getD g (0, false)).1 = 3
/-- How many aren't dead. -/
def al (X : Sx) : Nat := bW (fun s => decide (s.1 ≠ 3)) (fun _ => 1) 0 X.gs
section
variable {n : Nat} {X : Sx} {l m : List Int} {p : Nat} {t : Nat → Int}
theorem al_set {g : Nat} (hg : g < X.gs.length) (s : Int × Bool) : bW (fun s => decide (s.1 ≠ 3)) (fun _ => 1) 0 (X.gs.set g s) + (if (X.gs.getD g (0, false)).1 = 3 then 0 else 1) = al X + (if s.1 = 3 then 0 else 1) := by
  have h := bW_set (φ := fun s => decide (s.1 ≠ 3)) (F := fun _ => 1) X.gs 0 g s hg
  unfold al
  simp only [decide_eq_true_eq, ne_eq, ite_not] at h ⊢
  exact h
theorem J.rdy {g : Nat} (h : J t X) (hg : g < X.gs.length) (ht : t g ≤ X.clk) : J t (X.rdy p g) := by
  refine ⟨h.tm, fun i hi hs => ?_, fun i hi => ?_⟩
  · have hi : i < (X.gs.set g (1, false)).length := hi
    rw [List.length_set] at hi
    have hs : ((X.gs.set g (1, false)).getD i (0, false)).1 = 1 := hs
    rw [gs_set _ _ _ _ hg] at hs
    by_cases c : i = g
    · rw [c]; exact ht
    · rw [if_neg c] at hs; exact h.rd i hi hs
  · have hi : i < (X.gs.set g (1, false)).length := hi
    rw [List.length_set] at hi
    show ((X.gs.set g (1, false)).getD i (0, false)).1 = 1 ∨ (X.gs.set g (1, false)).getD i (0, false) = (2, true) ∨ ((X.gs.set g (1, false)).getD i (0, false)).1 = 3
    rw [gs_set _ _ _ _ hg]
    by_cases c : i = g
    · rw [if_pos c]; exact .inl rfl
    · rw [if_neg c]; exact h.st i hi
theorem J.wk (l : List Int) : ∀ {X : Sx}, J t X → Wp n X l m → p < n → (∀ g ∈ l, t g.toNat ≤ X.clk) → J t (X.wk p l) ∧ al (X.wk p l) = al X := by
  induction l with
  | nil => intro X h _ _ _; exact ⟨h, rfl⟩
  | cons g l ih =>
    intro X h w hp ht
    obtain ⟨j, rfl, hj, hs⟩ := w.in_l List.mem_cons_self
    have h2 := ih (h.rdy (p := p) (g := j) hj (by have := ht (j : Int) List.mem_cons_self; rwa [Int.toNat_natCast] at this)) (w.rdy_l hp) hp fun x hx => ht x (List.mem_cons_of_mem _ hx)
    have e : al (X.rdy p j) = al X := by
      have := al_set hj (1, false)
      rw [hs, if_neg (by decide), if_neg (by decide)] at this
      exact Nat.add_right_cancel this
    exact ⟨h2.1, h2.2.trans e⟩
theorem J.wake (h : J t X) (w : Wp n X [] m) (hp : p < n) : J t (X.wake p) ∧ al (X.wake p) = al X := by
  have hpa := P_at (P := X.P) (p := p) (by rw [w.lp]; exact hp)
  refine J.wk _ ⟨fun q L hq x hx => ?_, h.rd, h.st⟩ (w.cut hp) hp fun g hg => ?_
  · rcases set_at hq with ⟨rfl, rfl⟩ | ⟨_, hq⟩
    · exact h.tm q _ hpa x (List.mem_filter.1 hx).1
    · exact h.tm q _ hq x hx
  · unfold dueIds at hg
    obtain ⟨x, hx, rfl⟩ := List.mem_map.1 hg
    have hx := List.mem_filter.1 hx
    rw [← h.tm p _ hpa x hx.1]
    simpa using hx.2
theorem J.mv {v : Nat} (h : J t X) (w : Wp n X l m) (hv : v < n) (hp : p < n) (hne : v ≠ p) : J t (X.mv v p) := by
  have hva := P_at (P := X.P) (p := v) (by rw [w.lp]; exact hv)
  have hpa := P_at (P := X.P) (p := p) (by rw [w.lp]; exact hp)
  have ho : ((X.P.getD v []) ++ (X.P.getD p [])).Pairwise (fun x y => x.order ≠ y.order) := by
    rw [List.pairwise_append]
    exact ⟨w.neat.apart hva, w.neat.apart hpa, fun x hx y hy e => hne (w.neat.own v p _ _ x y hva hpa hx hy e).1⟩
  refine ⟨fun q L hq x hx => ?_, h.rd, h.st⟩
  rcases set_at hq with ⟨rfl, rfl⟩ | ⟨_, hq⟩
  · rcases List.mem_append.1 ((mrg_perm _ ho).mem_iff.1 hx) with hx | hx
    · exact h.tm v _ hva x hx
    · exact h.tm q _ hpa x hx
  · rcases set_at hq with ⟨rfl, rfl⟩ | ⟨_, hq⟩
    · cases hx
    · exact h.tm q _ hq x hx
theorem J.got (h : J t X) (p : Nat) (s : Int) : J t (X.got p s).2 := ⟨h.tm, h.rd, h.st⟩
theorem J.find (h : J t X) (w : Wf n X) (hp : p < n) (s : Int) : J t (X.find p s).2 ∧ al (X.find p s).2 = al X := by
  have h1 := h.wake w hp
  have w1 := w.wake hp
  by_cases c : ((X.wake p).got p s).1.2 = true
  · rw [find_yes c]; exact ⟨h1.1.got p s, h1.2⟩
  · have c : ((X.wake p).got p s).1.2 = false := by simpa using c
    obtain ⟨e, -⟩ := w1.got_no hp c
    cases he : ((X.wake p).got p s).2.els p (s % (X.pr.length : Int)).toNat with
    | none => rw [find_none c he]; exact ⟨h1.1.got p s, h1.2⟩
    | some v =>
      obtain ⟨v1, v2, -⟩ := els_is he
      rw [find_other c he, e]
      rw [e] at v1
      have v1 : v < n := by rw [← w1.lpr]; exact v1
      have h2 := (h1.1.mv w1 v1 hp v2).wake (w1.mv v1 hp v2) hp
      exact ⟨h2.1.got p s, h2.2.trans h1.2⟩
/-- Nobody is in a queue, no timer is at c or ahead of it. -/
def quiet (c : Int) (X : Sx) : Prop := (∀ F : Int → Nat, wt F X.Q.1 X.Q.2 = 0) ∧ ∀ (q : Nat) (L : List Ent), X.P[q]? = some L → ∀ x ∈ L, c < x.when
theorem not_due (w : Wp n X l m) {q : Nat} (hd : X.due q = false) {L : List Ent} (hq : X.P[q]? = some L) : ∀ x ∈ L, X.clk < x.when := by
  unfold Sx.due at hd
  rw [show X.P.getD q [] = L by simp [List.getD, hq]] at hd
  have hr := w.neat.tidy.up q L hq
  cases L with
  | nil => intro x hx; cases hx
  | cons y L =>
    have hy : X.clk < y.when := by simpa using hd
    unfold Rises at hr
    rw [List.pairwise_cons] at hr
    intro x hx
    rcases List.mem_cons.1 hx with rfl | hx
    · exact hy
    · have := hr.1 x hx
      unfold Ent.lt at this
      omega
/-- What one act does, where nobody goes on. -/
theorem sleeps_act (w : Wf n X) (h : J t X) (hi : idle n X) (hp : p < n) (s : Int) :
    (∃ g : Nat, (X.act p s).1 = (2, (g : Int)) ∧ g < X.gs.length ∧ t g ≤ X.clk ∧ (X.act p s).2.on p = (g : Int) ∧ g < (X.act p s).2.gs.length ∧ Wf n ((X.act p s).2.stp p (3, false)) ∧ J t ((X.act p s).2.stp p (3, false)) ∧ idle n ((X.act p s).2.stp p (3, false)) ∧
      ((X.act p s).2.stp p (3, false)).gs.length = X.gs.length ∧ ((X.act p s).2.stp p (3, false)).clk = X.clk ∧ al ((X.act p s).2.stp p (3, false)) + 1 = al X) ∨
    ((X.act p s).1 = (1, 0) ∧ Wf n (X.act p s).2 ∧ J t (X.act p s).2 ∧ idle n (X.act p s).2 ∧ (X.act p s).2.gs.length = X.gs.length ∧ (X.act p s).2.clk = X.clk ∧ al (X.act p s).2 = al X ∧ quiet X.clk (X.act p s).2) := by
  have wa := w.act hp s
  obtain ⟨f1, f2⟩ := h.find w hp s
  obtain ⟨k1, k2, k3⟩ := find_clk X p s
  rcases act_idle w hp s (hi p hp) with ⟨g, e, ef, hg, hs, e2⟩ | ⟨e, e2, e3, e4⟩
  · left
    have hpl : p < (X.find p s).2.pr.length := by rw [find_pr, w.lpr]; exact hp
    have on1 : (X.act p s).2.on p = (g : Int) := by rw [e2, take_on _ _ _ _ hpl, if_pos rfl]
    have gs2 : (X.act p s).2.gs = (X.find p s).2.gs := by rw [e2]; rfl
    have clk2 : (X.act p s).2.clk = X.clk := by rw [e2]; exact k1
    have hpl2 : p < (X.act p s).2.pr.length := by rw [wa.lpr]; exact hp
    have ht : t g ≤ X.clk := by have := f1.rd g hg hs; rw [k1] at this; exact this
    have en : ((X.act p s).2.on p).toNat = g := by omega
    have hs2 : ((X.act p s).2.gs.getD g (0, false)).1 = 1 := by rw [gs2]; exact hs
    have hg2 : g < (X.act p s).2.gs.length := by rw [gs2]; exact hg
    have eg : ((X.act p s).2.stp p (3, false)).gs = (X.act p s).2.gs.set g (3, false) := by show (X.act p s).2.gs.set ((X.act p s).2.on p).toNat (3, false) = _; rw [en]
    refine ⟨g, e, by rw [← k3]; exact hg, ht, on1, hg2, wa.off hp (by omega) (3, false) (by decide) (by decide), ⟨fun q L hq x hx => ?_, fun i hi' hs' => ?_, fun i hi' => ?_⟩, fun q hq => ?_, ?_, clk2, ?_⟩
    · have hq : (X.act p s).2.P[q]? = some L := hq
      rw [e2] at hq
      exact f1.tm q L hq x hx
    · rw [eg, List.length_set, gs2] at hi'
      rw [eg, gs_set _ _ _ _ hg2] at hs'
      split at hs'
      · exact absurd hs' (by decide)
      · rw [gs2] at hs'
        show t i ≤ (X.act p s).2.clk
        rw [clk2, ← k1]
        exact f1.rd i hi' hs'
    · rw [eg, List.length_set, gs2] at hi'
      rw [eg, gs_set _ _ _ _ hg2]
      split
      · exact .inr (.inr rfl)
      · rw [gs2]; exact f1.st i hi'
    · rw [stp_on _ _ _ _ hpl2]
      split
      · rfl
      · rename_i c
        rw [e2, take_on _ _ _ _ hpl, if_neg c, find_on]
        exact hi q hq
    · rw [eg, List.length_set, gs2, k3]
    · have := al_set (X := (X.act p s).2) hg2 (3, false)
      rw [if_neg (by rw [hs2]; decide), if_pos rfl] at this
      unfold al at this ⊢
      rw [eg]
      unfold al at f2
      rw [gs2] at this ⊢
      omega
  · right
    have h1 := h.wake w hp
    have w1 := w.wake hp
    rw [e2]
    refine ⟨e, w1, h1.1, fun q hq => by rw [wake_on]; exact hi q hq, wake_gs X p, clk_wake X p, h1.2, e3, fun q L hq x hx => ?_⟩
    by_cases c : q = p
    · subst c
      rw [P_wake] at hq
      rcases set_at hq with ⟨_, rfl⟩ | ⟨c, _⟩
      · have := (List.mem_filter.1 hx).2
        simpa using this
      · exact absurd rfl c
    · have hqn : q < n := by rw [← w1.lp]; exact (List.getElem?_eq_some_iff.1 hq).1
      have := not_due w1 (e4 q hqn c) hq x hx
      rw [clk_wake] at this
      exact this
/-- What is, once so many sleep. -/
structure Bed (n i : Nat) (t : Nat → Int) (X : Sx) : Prop where
  wf : Wf n X
  j : J t X
  id : idle n X
  len : X.gs.length = i
  clk : X.clk = 0
  a : X.a = i
  alv : al X = i
theorem bed_first (h1 : 1 ≤ n) (h8 : n ≤ 8) (t : Nat → Int) : Bed n 0 t (Sx.ini n) := by
  refine ⟨wf_ini h1 h8, ⟨fun q L hq x hx => ?_, fun g hg => absurd hg (Nat.not_lt_zero _), fun g hg => absurd hg (Nat.not_lt_zero _)⟩, fun q hq => ?_, rfl, rfl, rfl, rfl⟩
  · have hq : (List.replicate n ([] : List Ent))[q]? = some L := hq
    rw [List.getElem?_replicate] at hq
    split at hq
    · rw [← Option.some.inj hq] at hx; cases hx
    · cases hq
  · show ((List.replicate n ((-1 : Int), (0 : Int))).getD q (-1, 0)).1 = -1
    rw [List.getD, List.getElem?_replicate]
    split <;> rfl
theorem Bed.more {i : Nat} (h : Bed n i t X) (ht : ∀ g, 1 ≤ t g) (hi : i < 64) :
    ((X.beg 0).act 0 0).1 = (2, (i : Int)) ∧ ((X.beg 0).act 0 0).2.on 0 = (i : Int) ∧ i < ((X.beg 0).act 0 0).2.gs.length ∧ Wf n (X.beg 0) ∧ Wf n ((X.beg 0).act 0 0).2 ∧ (X.beg 0).on 0 = -1 ∧ ((X.beg 0).act 0 0).2.a = i ∧ Bed n (i + 1) t (((X.beg 0).act 0 0).2.slp 0 (t i)) := by
  have hp : 0 < n := by have := h.wf.n1; omega
  have w1 : Wf n (X.beg 0) := h.wf.beg hp (by rw [h.len]; exact hi)
  have hi1 : idle n (X.beg 0) := h.id
  have gsx : (X.beg 0).gs = X.gs ++ [(1, false)] := rfl
  have hsi : ((X.beg 0).gs.getD i (0, false)).1 = 1 := by rw [gsx, ← h.len]; simp
  have hgi : i < (X.beg 0).gs.length := by rw [gsx, List.length_append, h.len]; simp
  have hold : ∀ g, g < i → (X.beg 0).gs.getD g (0, false) = X.gs.getD g (0, false) := fun g hg => by
    rw [gsx]
    simp only [List.getD]
    rw [List.getElem?_append_left (by rw [h.len]; exact hg)]
  obtain ⟨t', ht'⟩ : ∃ t' : Nat → Int, t' = fun g => if g = i then 0 else t g := ⟨_, rfl⟩
  have hti : t' i = 0 := by rw [ht']; exact if_pos rfl
  have htn : ∀ g, g ≠ i → t' g = t g := fun g hg => by rw [ht']; exact if_neg hg
  have j1 : J t' (X.beg 0) := by
    refine ⟨fun q L hq x hx => ?_, fun g hg hs => ?_, fun g hg => ?_⟩
    · obtain ⟨k, e, hk, -⟩ := h.wf.in_P (p := q) hq hx
      rw [h.len] at hk
      rw [e, Int.toNat_natCast, htn k (by omega)]
      have := h.j.tm q L hq x hx
      rw [e, Int.toNat_natCast] at this
      exact this
    · by_cases c : g = i
      · rw [c, hti]; show (0 : Int) ≤ X.clk; rw [h.clk]; decide
      · have hg2 : g < i := by rw [gsx, List.length_append, h.len] at hg; simp only [List.length_singleton] at hg; omega
        rw [hold g hg2] at hs
        rw [htn g c]
        exact h.j.rd g (by rw [h.len]; exact hg2) hs
    · by_cases c : g = i
      · rw [c]; exact .inl hsi
      · have hg2 : g < i := by rw [gsx, List.length_append, h.len] at hg; simp only [List.length_singleton] at hg; omega
        rw [hold g hg2]
        exact h.j.st g (by rw [h.len]; exact hg2)
  have h2 := act_takes w1 hp 0 hi1 hgi hsi
  have wa := w1.act hp 0
  obtain ⟨f1, f2⟩ := j1.find w1 hp 0
  obtain ⟨k1, k2, k3⟩ := find_clk (X.beg 0) 0 0
  rcases act_idle w1 hp 0 (hi1 0 hp) with ⟨g, e, ef, hg, hs, e2⟩ | ⟨e, -⟩
  · have hgi2 : g = i := by
      have := f1.rd g hg hs
      rw [k1] at this
      by_cases c : g = i
      · exact c
      · rw [htn g c] at this
        have h0 : (X.beg 0).clk = 0 := h.clk
        have := ht g
        omega
    subst hgi2
    have hpl : 0 < ((X.beg 0).find 0 0).2.pr.length := by rw [find_pr, w1.lpr]; exact hp
    have on1 : ((X.beg 0).act 0 0).2.on 0 = (g : Int) := by rw [e2, take_on _ _ _ _ hpl, if_pos rfl]
    have gs2 : ((X.beg 0).act 0 0).2.gs = ((X.beg 0).find 0 0).2.gs := by rw [e2]; rfl
    have P2 : ((X.beg 0).act 0 0).2.P = ((X.beg 0).find 0 0).2.P := by rw [e2]; rfl
    have clk2 : ((X.beg 0).act 0 0).2.clk = 0 := by rw [e2]; exact k1.trans h.clk
    have a2 : ((X.beg 0).act 0 0).2.a = g := by rw [e2]; exact k2.trans h.a
    have hpl2 : 0 < ((X.beg 0).act 0 0).2.pr.length := by rw [wa.lpr]; exact hp
    have hg2 : g < ((X.beg 0).act 0 0).2.gs.length := by rw [gs2]; exact hg
    have en : (((X.beg 0).act 0 0).2.on 0).toNat = g := by omega
    have eg : (((X.beg 0).act 0 0).2.slp 0 (t g)).gs = ((X.beg 0).act 0 0).2.gs.set g (2, true) := by show List.set _ (((X.beg 0).act 0 0).2.on 0).toNat (2, true) = _; rw [en]
    have hlen : ((X.beg 0).find 0 0).2.gs.length = g + 1 := by rw [k3, gsx, List.length_append, h.len]; rfl
    have nor : ∀ k, k < g + 1 → k ≠ g → ¬ (((X.beg 0).find 0 0).2.gs.getD k (0, false)).1 = 1 := fun k hk hkg c => by
      have := f1.rd k (by rw [hlen]; exact hk) c
      rw [k1, htn k hkg] at this
      have h0 : (X.beg 0).clk = 0 := h.clk
      have := ht k
      omega
    refine ⟨e, on1, hg2, w1, wa, hi1 0 hp, a2, wa.slp hp (by omega) (t g), ⟨fun q L hq x hx => ?_, fun k hk hs' => ?_, fun k hk => ?_⟩, fun q hq => ?_, by rw [eg, List.length_set, gs2]; exact hlen, clk2, by show ((X.beg 0).act 0 0).2.a + 1 = _; rw [a2]; push_cast; rfl, ?_⟩
    · have hq : (((X.beg 0).act 0 0).2.P.set 0 (insO ⟨t g, ((X.beg 0).act 0 0).2.a, ((X.beg 0).act 0 0).2.on 0⟩ (((X.beg 0).act 0 0).2.P.getD 0 [])))[q]? = some L := hq
      have inold : ∀ (q : Nat) (L : List Ent), ((X.beg 0).act 0 0).2.P[q]? = some L → ∀ x ∈ L, x.when = t x.id.toNat := fun q L hq x hx => by
        obtain ⟨k, ek, hk, hks⟩ := wa.in_P hq hx
        have hkg : k ≠ g := fun c => by rw [c, gs2] at hks; rw [hks] at hs; exact absurd hs (by decide)
        rw [P2] at hq
        have := f1.tm q L hq x hx
        rw [ek, Int.toNat_natCast, htn k hkg] at this
        rw [ek, Int.toNat_natCast]; exact this
      rcases set_at hq with ⟨rfl, rfl⟩ | ⟨_, hq⟩
      · have hpa := P_at (P := ((X.beg 0).act 0 0).2.P) (p := 0) (by rw [wa.lp]; exact hp)
        have hl := wa.neat.tidy.lo 0 _ hpa
        rcases (mem_insO (e := ⟨t g, ((X.beg 0).act 0 0).2.a, ((X.beg 0).act 0 0).2.on 0⟩) fun y hy => by have := hl y hy; show y.order ≠ ((X.beg 0).act 0 0).2.a; omega).1 hx with rfl | hx
        · show t g = t (((X.beg 0).act 0 0).2.on 0).toNat; rw [en]
        · exact inold 0 _ hpa x hx
      · exact inold q L hq x hx
    · rw [eg, List.length_set, gs2, hlen] at hk
      rw [eg, gs_set _ _ _ _ hg2] at hs'
      split at hs'
      · exact absurd hs' (by decide)
      · rename_i c
        rw [gs2] at hs'
        exact absurd hs' (nor k hk c)
    · rw [eg, List.length_set, gs2] at hk
      rw [eg, gs_set _ _ _ _ hg2]
      split
      · exact .inr (.inl rfl)
      · rw [gs2]; exact f1.st k hk
    · show (Sx.stp _ 0 (2, true)).on q = -1
      refine (stp_on _ 0 q (2, true) hpl2).trans ?_
      split
      · rfl
      · rename_i c
        show ((X.beg 0).act 0 0).2.on q = -1
        rw [e2, take_on _ _ _ _ hpl, if_neg c, find_on]
        exact hi1 q hq
    · have h3 := al_set (X := ((X.beg 0).act 0 0).2) hg2 (2, true)
      rw [if_neg (by rw [gs2, hs]; decide), if_neg (by decide)] at h3
      have h4 : al (X.beg 0) = al X + 1 := by
        have := bW_snoc (φ := fun s => decide (s.1 ≠ 3)) (F := fun _ => 1) X.gs 0 (1, false)
        rw [if_pos (by decide)] at this
        exact this
      have h5 := h.alv
      unfold al at *
      rw [eg]
      rw [gs2] at h3 ⊢
      omega
  · rw [e] at h2; exact absurd h2 (by decide)
/-- All are dead, where nobody is in a queue and all times have passed. -/
theorem sleeps_end {c : Int} (w : Wf n X) (h : J t X) (hi : idle n X) (hq : quiet c X) (ht : ∀ g, t g ≤ c) : al X = 0 ∧ able X.gs = 0 ∧ many X.P = 0 := by
  have hP : tW (fun _ => 1) X.P = 0 := by
    unfold tW
    refine sum_zero fun y hy => ?_
    obtain ⟨L, hL, rfl⟩ := List.mem_map.1 hy
    obtain ⟨q, hq1, rfl⟩ := List.mem_iff_getElem.1 hL
    have hqs : X.P[q]? = some X.P[q] := List.getElem?_eq_getElem hq1
    cases hl : X.P[q] with
    | nil => rfl
    | cons x L =>
      have hx : x ∈ X.P[q] := by rw [hl]; exact List.mem_cons_self
      have h1 := hq.2 q _ hqs x hx
      have h2 := h.tm q _ hqs x hx
      have := ht x.id.toNat
      omega
  have h1 : ∀ g, g < X.gs.length → ¬ (X.gs.getD g (0, false)).1 = 1 := fun g hg c => ready_wt w hi hg c (hq.1 _)
  have h2 : ∀ g, g < X.gs.length → ¬ X.gs.getD g (0, false) = (2, true) := fun g hg c => by
    have := bW_at (φ := fun s => decide (s = (2, true))) (F := fun _ => 1) X.gs 0 g hg (by simpa using c)
    have := w.t fun _ => 1
    have h0 : (([] : List Int).map fun _ => 1).sum = 0 := rfl
    omega
  refine ⟨?_, ?_, by rw [many_tW]; exact hP⟩
  · unfold al
    apply Classical.byContradiction
    intro c
    obtain ⟨i, hi, hs, -⟩ := bW_mem X.gs 0 c
    rcases h.st i hi with e | e | e
    · exact h1 i hi e
    · exact h2 i hi e
    · have hs : decide ((X.gs.getD i (0, false)).1 ≠ 3) = true := hs
      rw [e] at hs
      exact absurd hs (by decide)
  · unfold able
    rw [List.countP_eq_zero]
    intro s hs
    obtain ⟨i, hi, rfl⟩ := List.mem_iff_getElem.1 hs
    have := h1 i hi
    rw [show X.gs.getD i (0, false) = X.gs[i] by simp [List.getD, hi]] at this
    simpa using this
end
end Go.Proofs.Ytaloafihbdamiaa
