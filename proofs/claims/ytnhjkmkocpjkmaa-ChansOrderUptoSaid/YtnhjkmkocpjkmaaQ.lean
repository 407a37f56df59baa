/- ChansOrder, plainly: what goes in comes out in its order. -/
import Derived.Test.YtnhjkmkocpjkmaaP
namespace Go.Proofs.Ytnhjkmkocpjkmaa

/-- g + 1, .., g + n. -/
def nums (g n : Nat) : List Int := (List.range n).map fun (t : Nat) => (g : Int) + 1 + (t : Int)
theorem nums_len (g n : Nat) : (nums g n).length = n := by simp [nums]
theorem nums_succ (g n : Nat) : nums g (n + 1) = nums g n ++ [(g : Int) + 1 + (n : Int)] := by simp [nums, List.range_succ]
theorem nums_cons (g n : Nat) : nums g (n + 1) = ((g : Int) + 1) :: nums (g + 1) n := by
  unfold nums
  rw [List.range_succ_eq_map, List.map_cons, List.map_map]
  simp
  intro a _
  omega
theorem nums_head {g n : Nat} {x : Int} {l : List Int} (h : x :: l = nums g n) : x = (g : Int) + 1 ∧ ∃ m, n = m + 1 ∧ l = nums (g + 1) m := by
  cases n with
  | zero => simp [nums] at h
  | succ m =>
    rw [nums_cons] at h
    injection h with h1 h2
    exact ⟨h1, m, rfl, h2⟩
/-- S sent, G got, m wait, behind i calls. -/
structure Ord (c : Nat) (s : St) (i S G m : Nat) : Prop where
  cap : s.cap = c
  op : s.shut = false
  le : G ≤ S
  si : S ≤ i
  vs : s.vals ++ s.snds.map Snd.val = nums G (S - G)
  rl : s.rcvs.length = m
  rb : ∀ r ∈ s.rcvs, 0 ≤ r ∧ r < (i : Int)
  rn : s.rcvs ≠ [] → s.vals = [] ∧ s.snds = []
  vc : s.vals.length ≤ c
  sf : s.snds ≠ [] → s.vals.length = c
  sz : s.size ≤ i
section
variable {c : Nat} {s : St} {i S G m : Nat}
theorem ord_new (c : Nat) : Ord c (St.new c) 0 0 0 0 :=
  ⟨rfl, rfl, Nat.le_refl _, Nat.le_refl _, rfl, rfl, fun r h => absurd h (by simp [St.new]), fun h => absurd rfl h, Nat.zero_le _, fun h => absurd rfl h, Nat.le_refl _⟩
/-- A sender hands it to one who waits, or leaves it there. -/
theorem Ord.send (h : Ord c s i S G m) : ((s.send i ((S : Int) + 1) true).1.what = 2 ∧ S = G ∧ 0 ≤ (s.send i ((S : Int) + 1) true).1.who ∧ (s.send i ((S : Int) + 1) true).1.who < (i : Int) ∧ 0 < m ∧ Ord c (s.send i ((S : Int) + 1) true).2 (i + 1) (S + 1) (G + 1) (m - 1)) ∨
    ((s.send i ((S : Int) + 1) true).1.what ≠ 2 ∧ Ord c (s.send i ((S : Int) + 1) true).2 (i + 1) (S + 1) G m) := by
  have hz := St.size_send s i ((S : Int) + 1) true
  have h0 := h.sz
  have h1 := h.le
  have h2 := h.si
  unfold St.send at hz ⊢
  rw [if_neg (by simp [h.op])] at hz ⊢
  split at hz
  · rename_i r l e
    obtain ⟨e1, e2⟩ := h.rn (by rw [e]; simp)
    have hv := h.vs
    rw [e1, e2] at hv
    have hSG : S = G := by
      have := congrArg List.length hv
      rw [nums_len] at this
      simp at this
      omega
    obtain ⟨b1, b2⟩ := h.rb r (by rw [e]; simp)
    have hl := h.rl
    rw [e, List.length_cons] at hl
    refine .inl ⟨rfl, hSG, b1, b2, by omega, ?_⟩
    exact ⟨h.cap, h.op, by omega, by omega, by show s.vals ++ s.snds.map Snd.val = _; rw [e1, e2, hSG, Nat.sub_self]; rfl, by show l.length = m - 1; omega, fun r' hr => by have := h.rb r' (by rw [e]; exact List.mem_cons_of_mem _ hr); omega, fun _ => ⟨e1, e2⟩, by show s.vals.length ≤ c; rw [e1]; exact Nat.zero_le _, fun hn => absurd e2 hn, by omega⟩
  · rename_i e
    have hm : m = 0 := by have := h.rl; rw [e] at this; exact this.symm
    have hsucc : S + 1 - G = (S - G) + 1 := by omega
    have hnum : nums G (S + 1 - G) = nums G (S - G) ++ [(S : Int) + 1] := by rw [hsucc, nums_succ]; congr 2; omega
    split at hz
    · rename_i hl
      rw [if_pos hl]
      have hsn : s.snds = [] := by
        by_cases hn : s.snds = []
        · exact hn
        · have := h.sf hn; have := h.cap; omega
      refine .inr ⟨by simp, ⟨h.cap, h.op, by omega, by omega, ?_, by show s.rcvs.length = m; exact h.rl, fun r hr => by have := h.rb r hr; omega, fun hn => absurd e hn, ?_, fun hn => absurd hsn hn, by omega⟩⟩
      · have hv := h.vs
        rw [hsn] at hv
        simp only [List.map_nil, List.append_nil] at hv
        show (s.vals ++ [(S : Int) + 1]) ++ s.snds.map Snd.val = _
        rw [hsn, hnum, ← hv]; simp
      · show (s.vals ++ [_]).length ≤ c
        have := h.cap
        simp only [List.length_append, List.length_singleton]; omega
    · rename_i hl
      rw [if_neg hl]
      rw [if_pos rfl] at hz
      rw [if_pos rfl]
      have hq : s.queue i ((S : Int) + 1) true = { s with snds := s.snds ++ [⟨i, (S : Int) + 1⟩] } := rfl
      rw [hq] at hz ⊢
      have hfull : s.vals.length = c := by have := h.cap; have := h.vc; omega
      refine .inr ⟨by simp, ⟨h.cap, h.op, by omega, by omega, ?_, by show s.rcvs.length = m; exact h.rl, fun r hr => by have := h.rb r hr; omega, fun hn => absurd e hn, h.vc, fun _ => hfull, by omega⟩⟩
      show s.vals ++ (s.snds ++ [_]).map Snd.val = _
      rw [hnum, ← h.vs]; simp
/-- A receiver waits, or has the next one. -/
theorem Ord.recv (h : Ord c s i S G m) : ((s.recv i true).1.what = 3 ∧ Ord c (s.recv i true).2 (i + 1) S G (m + 1)) ∨
    ((s.recv i true).1.what ≠ 3 ∧ (s.recv i true).1.val = (G : Int) + 1 ∧ G + 1 ≤ S ∧ Ord c (s.recv i true).2 (i + 1) S (G + 1) m) := by
  have hz := St.size_recv s i true
  have h0 := h.sz
  have h1 := h.le
  have h2 := h.si
  have hv := h.vs
  unfold St.recv at hz ⊢
  split at hz
  · rename_i x l e1 e2
    rw [e1, e2] at hv
    simp only [List.map_nil, List.append_nil] at hv
    obtain ⟨hx, k, hk, hl⟩ := nums_head hv
    have hrn : s.rcvs = [] := by
      by_cases hn : s.rcvs = []
      · exact hn
      · have := (h.rn hn).1; rw [this] at e1; cases e1
    refine .inr ⟨by simp, hx, by omega, ⟨h.cap, h.op, by omega, by omega, ?_, h.rl, fun r hr => by have := h.rb r hr; omega, fun hn => absurd hrn hn, ?_, fun hn => absurd e2 hn, by omega⟩⟩
    · show l ++ s.snds.map Snd.val = _
      rw [e2, hl]; simp; congr 1; omega
    · show l.length ≤ c
      have := h.vc; rw [e1] at this; simp at this; omega
  · rename_i x l a q e1 e2
    rw [e1, e2] at hv
    obtain ⟨hx, k, hk, hl⟩ := nums_head (by simpa using hv)
    have hrn : s.rcvs = [] := by
      by_cases hn : s.rcvs = []
      · exact hn
      · have := (h.rn hn).1; rw [this] at e1; cases e1
    have hfull := h.sf (by rw [e2]; simp)
    rw [e1, List.length_cons] at hfull
    refine .inr ⟨by simp, hx, by omega, ⟨h.cap, h.op, by omega, by omega, ?_, h.rl, fun r hr => by have := h.rb r hr; omega, fun hn => absurd hrn hn, ?_, fun _ => ?_, by omega⟩⟩
    · show (l ++ [a.val]) ++ q.map Snd.val = _
      have e : S - (G + 1) = k := by omega
      rw [e, ← hl]; simp
    · show (l ++ [_]).length ≤ c
      simp only [List.length_append, List.length_singleton]; omega
    · show (l ++ [_]).length = c
      simp only [List.length_append, List.length_singleton]; omega
  · rename_i a q e1 e2
    rw [e1, e2] at hv
    obtain ⟨hx, k, hk, hl⟩ := nums_head (by simpa using hv)
    have hrn : s.rcvs = [] := by
      by_cases hn : s.rcvs = []
      · exact hn
      · have := (h.rn hn).2; rw [this] at e2; cases e2
    have hfull := h.sf (by rw [e2]; simp)
    refine .inr ⟨by simp, hx, by omega, ⟨h.cap, h.op, by omega, by omega, ?_, h.rl, fun r hr => by have := h.rb r hr; omega, fun hn => absurd hrn hn, h.vc, fun _ => hfull, by omega⟩⟩
    show s.vals ++ q.map Snd.val = _
    have e : S - (G + 1) = k := by omega
    rw [e1, e, ← hl]; simp
  · rename_i e1 e2
    rw [if_neg (by simp [h.op])] at hz ⊢
    rw [if_pos rfl] at hz ⊢
    have hq : s.queue i 0 false = { s with rcvs := s.rcvs ++ [(i : Int)] } := rfl
    rw [hq] at hz ⊢
    refine .inl ⟨rfl, ⟨h.cap, h.op, by omega, by omega, hv, ?_, fun r hr => ?_, fun _ => ⟨e1, e2⟩, h.vc, h.sf, by omega⟩⟩
    · show (s.rcvs ++ [_]).length = m + 1
      simp only [List.length_append, List.length_singleton, h.rl]
    · have hr : r ∈ s.rcvs ++ [(i : Int)] := hr
      rcases List.mem_append.1 hr with hr | hr
      · have := h.rb r hr; omega
      · simp at hr; omega
/-- At the end. -/
theorem Ord.fin (h : Ord c s i S G m) : s.vals.length + s.snds.length = S - G ∧ s.vals.length ≤ c ∧ s.rcvs.length = m ∧ (m = 0 ∨ (s.vals.length = 0 ∧ s.snds.length = 0)) := by
  have := congrArg List.length h.vs
  rw [nums_len, List.length_append, List.length_map] at this
  refine ⟨this, h.vc, h.rl, ?_⟩
  by_cases hn : s.rcvs = []
  · left; rw [← h.rl, hn]; rfl
  · obtain ⟨a, b⟩ := h.rn hn
    right; rw [a, b]; exact ⟨rfl, rfl⟩
end
end Go.Proofs.Ytnhjkmkocpjkmaa
