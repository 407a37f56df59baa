/- The scheduler in memory: its own blocks. -/
import Derived.Test.YtaloafihbdamiaaGreatS
import Derived.Test.YtaloafihbdamiaaGreatUB
namespace Go.Proofs.YtaloafihbdamiaaGreat
open Go.ChangeShapes Go.WideShapes Go.ChangeAt Go.RowKit

/-- How a goroutine lies: its state, and whether it sleeps. -/
def goE : En.Enc (Int × Bool) := ⟨56, 80, 2, 16, .agg #[.int .i64 0, .bool false], fun a => [.int .i64 a.1, .bool a.2]⟩
theorem goE_ok : goE.Ok := ⟨Tryz.underlying56, by kernel_rfl, rfl, by decide, fun _ => rfl, fun a u h => by
  simp only [goE, List.mem_cons, List.not_mem_nil, or_false] at h
  rcases h with rfl | rfl <;> rfl⟩
def prV (l : List (Int × Int)) (i : Nat) : Value := .int .i64 (if i % 2 = 0 then (l.getD (i / 2) (-1, 0)).1 else (l.getD (i / 2) (-1, 0)).2)
/-- The scheduler at bs, its processors at b3, its goroutines in gv. -/
structure Ow (w : World) (F : Nat → Prop) (bs bq bt b3 : Nat) (gv : Value) (pr : List (Int × Int)) (gs : List (Int × Bool)) (clk : Int) : Prop where
  head : w.heap[bs]? = some (.cells #[.pointer (some ⟨bq, 0, none⟩), .pointer (some ⟨bt, 0, none⟩), .slice (some ⟨b3, 0, none⟩) pr.length pr.length, gv, .int .u64 clk] 58 (0, 0))
  prs : FRow 60 w b3 (pr.length * 2) (prV pr)
  gls : En.Lies goE w gv gs
  ne : bs ≠ b3
  gb : ∀ b, gv.ownBlock = some b → b ≠ bs ∧ b ≠ b3 ∧ F b
  fs : F bs
  f3 : F b3
  n8 : pr.length ≤ 8
  g64 : gs.length ≤ 64
  c0 : 0 ≤ clk
  c1 : clk ≤ 1099511627776
  old : ∀ i, F i → i < w.heap.size
def OwA (bs bq bt b3 : Nat) (pr : List (Int × Int)) (gs : List (Int × Bool)) (clk : Int) : Asn := fun w F => ∃ gv, Ow w F bs bq bt b3 gv pr gs clk
section
variable {w w' : World} {F S : Nat → Prop} {bs bq bt b3 : Nat} {gv : Value} {pr : List (Int × Int)} {gs : List (Int × Bool)} {clk : Int}
theorem Ow.cha (h : Ow w F bs bq bt b3 gv pr gs clk) (c : Cha S w w') (hs : ∀ i, F i → ¬ S i) : Ow w' F bs bq bt b3 gv pr gs clk :=
  { h with head := (c.old bs (h.old _ h.fs) (hs _ h.fs)).trans h.head, prs := c.row h.prs (hs _ h.f3), gls := h.gls.cha c fun g e => hs g (h.gb g e).2.2, old := fun i x => Nat.lt_of_lt_of_le (h.old i x) c.size }
theorem Ow.same (h : Ow w F bs bq bt b3 gv pr gs clk) (c : Cha (fun _ => False) w w') : Ow w' F bs bq bt b3 gv pr gs clk := h.cha c fun _ _ x => x
theorem fit_ow : Fit (OwA bs bq bt b3 pr gs clk) := ⟨fun ⟨gv, h⟩ c hs => ⟨gv, h.cha c hs⟩, fun ⟨_, h⟩ => h.old⟩
theorem Ow.facts (h : Ow w F bs bq bt b3 gv pr gs clk) : w.cell? ⟨bs, 0, none⟩ = some (.pointer (some ⟨bq, 0, none⟩)) ∧ w.cell? ⟨bs, 1, none⟩ = some (.pointer (some ⟨bt, 0, none⟩)) ∧
    w.cell? ⟨bs, 2, none⟩ = some (.slice (some ⟨b3, 0, none⟩) pr.length pr.length) ∧ w.cell? ⟨bs, 3, none⟩ = some gv ∧ w.cell? ⟨bs, 4, none⟩ = some (.int .u64 clk) ∧ ∀ i, w.frozen? ⟨bs, i, none⟩ = false :=
  ⟨cell_of_row w bs 0 _ 58 (0, 0) h.head, cell_of_row w bs 1 _ 58 (0, 0) h.head, cell_of_row w bs 2 _ 58 (0, 0) h.head, cell_of_row w bs 3 _ 58 (0, 0) h.head, cell_of_row w bs 4 _ 58 (0, 0) h.head, fun i => frozen_of_row w bs i _ 58 h.head⟩
theorem Ow.pc (h : Ow w F bs bq bt b3 gv pr gs clk) {p : Nat} (hp : p < pr.length) : w.cell? ⟨b3, p * 2, none⟩ = some (.int .i64 (pr.getD p (-1, 0)).1) ∧ w.cell? ⟨b3, p * 2 + 1, none⟩ = some (.int .i64 (pr.getD p (-1, 0)).2) ∧ ∀ i, w.frozen? ⟨b3, i, none⟩ = false := by
  refine ⟨?_, ?_, fun i => h.prs.free i⟩
  · rw [h.prs.cell (i := p * 2) (by omega)]
    unfold prV
    rw [if_pos (by omega), show p * 2 / 2 = p by omega]
  · rw [h.prs.cell (i := p * 2 + 1) (by omega)]
    unfold prV
    rw [if_neg (by omega), show (p * 2 + 1) / 2 = p by omega]
theorem getD_set {α : Type} (l : List α) (p q : Nat) (x d : α) (hp : p < l.length) : (l.set p x).getD q d = if q = p then x else l.getD q d := by
  simp only [List.getD, List.getElem?_set]
  by_cases e : p = q
  · subst e; simp [hp]
  · rw [if_neg e, if_neg (fun x => e x.symm)]
/-- A processor's goroutine, and how often it went on. -/
theorem Ow.setP (h : Ow w F bs bq bt b3 gv pr gs clk) {p : Nat} (hp : p < pr.length) (x : Int) : Ow (w.setCell ⟨b3, p * 2, none⟩ (.int .i64 x)) F bs bq bt b3 gv (pr.set p (x, (pr.getD p (-1, 0)).2)) gs clk := by
  have cc : Cha (fun i => i = b3) w (w.setCell ⟨b3, p * 2, none⟩ (.int .i64 x)) := (Cha.refl (fun j => j = b3) w).setCell (p := ⟨b3, p * 2, none⟩) (fun _ => rfl) _
  refine { h with head := ?_, prs := ?_, gls := h.gls.cha cc fun b e => (h.gb b e).2.1, n8 := by rw [List.length_set]; exact h.n8, old := fun i f => Nat.lt_of_lt_of_le (h.old i f) cc.size }
  · rw [List.length_set]; exact (cc.old bs (h.old _ h.fs) h.ne).trans h.head
  · rw [List.length_set]
    refine (h.prs.set (i := p * 2) (.int .i64 x)).congr fun i hi => ?_
    unfold prV
    rw [getD_set _ _ _ _ _ hp]
    by_cases e : i / 2 = p
    · rw [if_pos e]
      by_cases e2 : i % 2 = 0
      · rw [if_pos (by omega), if_pos e2]
      · rw [if_neg (by omega), if_neg e2, if_neg e2, e]
    · rw [if_neg e, if_neg (by omega)]
theorem Ow.setR (h : Ow w F bs bq bt b3 gv pr gs clk) {p : Nat} (hp : p < pr.length) (x : Int) : Ow (w.setCell ⟨b3, p * 2 + 1, none⟩ (.int .i64 x)) F bs bq bt b3 gv (pr.set p ((pr.getD p (-1, 0)).1, x)) gs clk := by
  have cc : Cha (fun i => i = b3) w (w.setCell ⟨b3, p * 2 + 1, none⟩ (.int .i64 x)) := (Cha.refl (fun j => j = b3) w).setCell (p := ⟨b3, p * 2 + 1, none⟩) (fun _ => rfl) _
  refine { h with head := ?_, prs := ?_, gls := h.gls.cha cc fun b e => (h.gb b e).2.1, n8 := by rw [List.length_set]; exact h.n8, old := fun i f => Nat.lt_of_lt_of_le (h.old i f) cc.size }
  · rw [List.length_set]; exact (cc.old bs (h.old _ h.fs) h.ne).trans h.head
  · rw [List.length_set]
    refine (h.prs.set (i := p * 2 + 1) (.int .i64 x)).congr fun i hi => ?_
    unfold prV
    rw [getD_set _ _ _ _ _ hp]
    by_cases e : i / 2 = p
    · rw [if_pos e]
      by_cases e2 : i % 2 = 0
      · rw [if_neg (by omega), if_pos e2, if_pos e2, e]
      · rw [if_pos (by omega), if_neg e2]
    · rw [if_neg e, if_neg (by omega)]
theorem set_same {α : Type} (l : List α) (p : Nat) (x y : α) : (l.set p x).set p y = l.set p y := List.set_set ..
theorem Ow.setPR (h : Ow w F bs bq bt b3 gv pr gs clk) {p : Nat} (hp : p < pr.length) (x y : Int) : Ow ((w.setCell ⟨b3, p * 2, none⟩ (.int .i64 x)).setCell ⟨b3, p * 2 + 1, none⟩ (.int .i64 y)) F bs bq bt b3 gv (pr.set p (x, y)) gs clk := by
  have k := (h.setP hp x).setR (p := p) (by rw [List.length_set]; exact hp) y
  rw [getD_set _ _ _ _ _ hp, if_pos rfl, List.set_set] at k
  exact k
theorem Ow.clock (h : Ow w F bs bq bt b3 gv pr gs clk) (x : Int) (h0 : 0 ≤ x) (h1 : x ≤ 1099511627776) : Ow (w.setCell ⟨bs, 4, none⟩ (.int .u64 x)) F bs bq bt b3 gv pr gs x := by
  have cc : Cha (fun i => i = bs) w (w.setCell ⟨bs, 4, none⟩ (.int .u64 x)) := (Cha.refl (fun j => j = bs) w).setCell (p := ⟨bs, 4, none⟩) (fun _ => rfl) _
  exact { h with head := by rw [heap_setCell_same w bs 4 _ 58 _ h.head]; rfl, prs := cc.row h.prs (fun e => h.ne e.symm), gls := h.gls.cha cc fun b e => (h.gb b e).1, c0 := h0, c1 := h1, old := fun i f => Nat.lt_of_lt_of_le (h.old i f) cc.size }
/-- The list of goroutines has grown, elsewhere or where it was. -/
theorem Ow.grow (h : Ow w F bs bq bt b3 gv pr gs clk) {gv' : Value} {G : List (Int × Bool)} (a : En.AppV goE w w' gv G gv') (hG : G.length ≤ 64) :
    ∃ F', Ow (w'.setCell ⟨bs, 3, none⟩ gv') F' bs bq bt b3 gv' pr G clk ∧ Cha F w (w'.setCell ⟨bs, 3, none⟩ gv') ∧ ∀ i, F' i → F i ∨ w.heap.size ≤ i := by
  have cc : Cha (fun i => i = bs) w' (w'.setCell ⟨bs, 3, none⟩ gv') := (Cha.refl (fun j => j = bs) w').setCell (p := ⟨bs, 3, none⟩) (fun _ => rfl) _
  have hb : ∀ b, gv'.ownBlock = some b → b ≠ bs ∧ b ≠ b3 ∧ (F b ∨ w.heap.size ≤ b) := fun b e => by
    rcases a.at' b e with k | k
    · have := h.gb b k; exact ⟨this.1, this.2.1, .inl this.2.2⟩
    · have := h.old _ h.fs; have := h.old _ h.f3
      exact ⟨by omega, by omega, .inr k⟩
  have hh := (a.cha.old bs (h.old _ h.fs) (fun e => (h.gb bs e).1 rfl)).trans h.head
  refine ⟨fun i => F i ∨ gv'.ownBlock = some i, { head := by rw [heap_setCell_same w' bs 3 _ 58 _ hh]; rfl, prs := cc.row (a.cha.row h.prs fun e => (h.gb b3 e).2.1 rfl) (fun e => h.ne e.symm), gls := a.lies.cha cc fun b e => (hb b e).1, ne := h.ne, gb := fun b e => ⟨(hb b e).1, (hb b e).2.1, .inr e⟩, fs := .inl h.fs, f3 := .inl h.f3, n8 := h.n8, g64 := hG, c0 := h.c0, c1 := h.c1, old := fun i f => ?_ }, ?_, fun i f => ?_⟩
  · refine Nat.lt_of_lt_of_le ?_ cc.size
    rcases f with f | f
    · exact Nat.lt_of_lt_of_le (h.old i f) a.cha.size
    · exact a.lies.lt f
  · exact (a.cha.mono fun i _ e => (h.gb i e).2.2).setCell (p := ⟨bs, 3, none⟩) (fun _ => h.fs) _
  · rcases f with f | f
    · exact .inl f
    · exact (hb i f).2.2
end
/-- An element is stored. -/
theorem En.Lies.put {α : Type} {E : En.Enc α} (ok : E.Ok) {w : World} {g o n cap i : Nat} {A : List α} (h : En.Lies E w (.slice (some ⟨g, o, none⟩) n cap) A) (hi : i < A.length) (x : α) :
    En.Lies E (w.setCells g (o + i * E.k) (E.ce x)) (.slice (some ⟨g, o, none⟩) n cap) (A.set i x) := by
  rcases h with ⟨h, _⟩ | ⟨g', o', cap', cur, e, h1, h2, h3, h4, h5⟩
  · subst h; cases hi
  · cases e
    have hb : (i + 1) * E.k ≤ A.length * E.k := Nat.mul_le_mul_right E.k hi
    have hb2 : A.length * E.k ≤ cap * E.k := Nat.mul_le_mul_right E.k h1
    have hi1 : (i + 1) * E.k = i * E.k + E.k := Nat.succ_mul ..
    obtain ⟨cur', k1, k2, k3⟩ := heap_setCells_same g E.e (E.ce x) (o + i * E.k) w cur h3 (by rw [ok.len]; omega)
    refine .inr ⟨g, o, cap, cur', by rw [List.length_set], by rw [List.length_set]; exact h1, h2, k1, by rw [k2]; exact h4, fun j hj => ?_⟩
    rw [List.length_set] at hj
    rw [k3, ok.len]
    obtain ⟨q, r, hr, rfl⟩ : ∃ q r, r < E.k ∧ j = q * E.k + r := ⟨j / E.k, j % E.k, Nat.mod_lt _ ok.pos, by rw [Nat.mul_comm]; exact (Nat.div_add_mod _ _).symm⟩
    have hq : q < A.length := by
      by_cases c : q < A.length
      · exact c
      · have := Nat.mul_le_mul_right E.k (show A.length ≤ q by omega); omega
    rw [ok.cs_get (A.set i x) (by rw [List.length_set]; exact hq) hr]
    by_cases e : q = i
    · subst e
      rw [if_pos (by omega), List.getElem_set_self, show o + (q * E.k + r) - (o + q * E.k) = r by omega]
    · have e2 : ¬ (o + i * E.k ≤ o + (q * E.k + r) ∧ o + (q * E.k + r) < o + i * E.k + E.k) := by
        rintro ⟨a, b⟩
        rcases Nat.lt_or_gt_of_ne e with c | c
        · have := Nat.mul_le_mul_right E.k (show q + 1 ≤ i from c); rw [Nat.succ_mul] at this; omega
        · have := Nat.mul_le_mul_right E.k (show i + 1 ≤ q from c); rw [Nat.succ_mul] at this; omega
      rw [if_neg e2, h5 _ hj, ok.cs_get A hq hr, List.getElem_set_ne (fun x => e x.symm)]
section
variable {w w' : World} {F S : Nat → Prop} {bs bq bt b3 : Nat} {gv : Value} {pr : List (Int × Int)} {gs : List (Int × Bool)} {clk : Int}
/-- Where a goroutine lies. -/
theorem Ow.gc (h : Ow w F bs bq bt b3 gv pr gs clk) {i : Nat} (hi : i < gs.length) : ∃ g o cap, gv = .slice (some ⟨g, o, none⟩) gs.length cap ∧ gs.length ≤ cap ∧ cap ≤ maxLen ∧ w.cell? ⟨g, o + i * 2, none⟩ = some (.int .i64 (gs.getD i (0, false)).1) ∧ w.cell? ⟨g, o + i * 2 + 1, none⟩ = some (.bool (gs.getD i (0, false)).2) ∧
    (∀ j, w.frozen? ⟨g, j, none⟩ = false) ∧ F g ∧ g ≠ bs ∧ g ≠ b3 ∧ ∀ W, Cha (fun _ => False) w W → ∀ a b, Ow ((W.setCell ⟨g, o + i * 2, none⟩ (.int .i64 a)).setCell ⟨g, o + i * 2 + 1, none⟩ (.bool b)) F bs bq bt b3 gv pr (gs.set i (a, b)) clk ∧ Cha F w ((W.setCell ⟨g, o + i * 2, none⟩ (.int .i64 a)).setCell ⟨g, o + i * 2 + 1, none⟩ (.bool b)) := by
  obtain ⟨g, o, cap, rfl, h1, h2, h3, h4⟩ := h.gls.elem goE_ok hi
  obtain ⟨n1, n2, n3⟩ := h.gb g rfl
  have e : gs[i] = gs.getD i (0, false) := by simp [List.getD, hi]
  refine ⟨g, o, cap, rfl, h1, h2, ?_, ?_, h4, n3, n1, n2, fun W c a b => ?_⟩
  · rw [← e]; exact h3 0 (by decide)
  · rw [← e]; exact h3 1 (by decide)
  · have h := h.same c
    have cc : Cha (fun j => j = g) W ((W.setCell ⟨g, o + i * 2, none⟩ (.int .i64 a)).setCell ⟨g, o + i * 2 + 1, none⟩ (.bool b)) := ((Cha.refl (fun j => j = g) W).setCell (p := ⟨g, o + i * 2, none⟩) (fun _ => rfl) _).setCell (p := ⟨g, o + i * 2 + 1, none⟩) (fun _ => rfl) _
    refine ⟨{ h with head := (cc.old bs (h.old _ h.fs) (fun e => n1 e.symm)).trans h.head, prs := cc.row h.prs (fun e => n2 e.symm), gls := h.gls.put goE_ok hi (a, b), gb := h.gb, g64 := by rw [List.length_set]; exact h.g64, old := fun i f => Nat.lt_of_lt_of_le (h.old i f) cc.size }, c.wide.trans (cc.mono fun j _ e => e ▸ n3)⟩
end
end Go.Proofs.YtaloafihbdamiaaGreat
