/- CellOwn, plainly. -/
import Derived.Test.YtiboobaggpghjaaDoorDT
namespace Go.Proofs.YtiboobaggpghjaaDoor
variable {n pr j t k p : Nat} {A A1 : List Bk} {y : Bk} {own : Nat → Int}

theorem rem_sum (hi : Inv n pr A) (hy : y ∈ A) (g : Bk → Nat) (f : Bk → Bk) : sumA g (upd A y.b f) + g y = sumA g A + g (f y) := by
  obtain ⟨L1, L2, e1, e2⟩ := rem_split hi hy
  have hne : ∀ z, z ∈ L1 ++ L2 → z.b ≠ y.b := fun z hz => by rw [← e2] at hz; exact (mem_rem.1 hz).2
  have h1 : ∀ L : List Bk, (∀ z ∈ L, z.b ≠ y.b) → upd L y.b f = L := fun L hL => by
    unfold upd
    rw [List.map_congr_left (g := id) fun z hz => by rw [if_neg (hL z hz)]; rfl, List.map_id]
  have h2 : upd A y.b f = L1 ++ f y :: L2 := by
    rw [e1]
    have q1 := h1 L1 fun z hz => hne z (List.mem_append_left _ hz)
    have q2 := h1 L2 fun z hz => hne z (List.mem_append_right _ hz)
    unfold upd at q1 q2 ⊢
    rw [List.map_append, List.map_cons, q1, q2, if_pos rfl]
  have e3 : sumA g A = sumA g (L1 ++ y :: L2) := by rw [← e1]
  rw [h2, e3]
  unfold sumA
  simp only [List.map_append, List.map_cons, List.sum_append, List.sum_cons]
  omega

/-- The pages ahead of a are used. -/
def pre (a : Nat) : Nat → Bool := fun i => decide (i < a)
theorem pre_alc {a k n : Nat} (hk : 1 ≤ k) (hn : a + k ≤ n) : ∃ us, Alc n (pre a) (k : Int) (a : Int) 0 us := by
  have hfree : ∀ i, a ≤ i → i < n → isU (pre a) n i = false := fun i h1 h2 => by rw [isU_lt h2]; unfold pre; rw [decide_eq_false (by omega)]
  have hused : ∀ i, i < a → isU (pre a) n i = true := fun i h1 => by rw [isU_lt (by omega)]; unfold pre; rw [decide_eq_true h1]
  cases hf : (rows (pre a) n).find? (fun x => decide (k ≤ x.2)) with
  | none =>
    exfalso
    obtain ⟨i, hi, hu⟩ := find_none (g := isU (pre a) n) (n := n) (fun i hi => isU_ge hi) hk hf a
    rw [hfree _ (by omega) (by omega)] at hu; cases hu
  | some x =>
    obtain ⟨h1, h2, h3, h4⟩ := find_some hk (n + 1) x hf
    have e : x.1 = a := by
      apply Nat.le_antisymm
      · by_cases c : a < x.1
        · obtain ⟨i, hi, hu⟩ := h4 _ c
          rw [hfree _ (by omega) (by omega)] at hu; cases hu
        · omega
      · by_cases c : x.1 < a
        · have := h1.fr.1 0 h1.pos
          rw [Nat.add_zero, hused _ c] at this; cases this
        · omega
    have := Alc.ok (n := n) (us := pre a) (k := (k : Int)) x (by omega) (by rw [Int.toNat_natCast]; exact hf)
    rw [e] at this
    exact ⟨_, this⟩

/-- Blocks of one class, one behind the other; what nobody holds is full; the pages of a block that is held belong to who holds it. -/
structure OwnI (j : Nat) (A : List Bk) (t : Nat) (own : Nat → Int) : Prop where
  inv : Inv 512 4 A
  pos : ∀ i y, A[i]? = some y → y.b = i * cpg j
  cls : ∀ y ∈ A, y.c = (j : Int)
  ful : ∀ y ∈ A, ¬ 0 ≤ y.h → false ∉ y.u
  sum : sumA fC A = t
  mine : ∀ y ∈ A, 0 ≤ y.h → ∀ i, y.b ≤ i → i < y.b + y.k → own i = 0 ∨ own i = y.h + 1
  far : ∀ i, A.length * cpg j ≤ i → own i = 0
theorem OwnI.nil (j : Nat) : OwnI j [] 0 (fun _ => 0) :=
  ⟨inv_nil _ _, fun i y h => (by simp at h), fun _ h => (by cases h), fun _ h => (by cases h), rfl, fun _ h => (by cases h), fun _ _ => rfl⟩
theorem OwnI.kind (h : OwnI j A t own) (hy : y ∈ A) : j < 16 ∧ y.k = cpg j ∧ y.wd = cw j ∧ y.u.length = ccl j ∧ -1 ≤ y.h ∧ y.h < 4 := kind_class h.inv hy (h.cls y hy)
theorem OwnI.at_ (h : OwnI j A t own) (hy : y ∈ A) : ∃ i, i < A.length ∧ y.b = i * cpg j := by
  obtain ⟨i, hi, e⟩ := List.mem_iff_getElem.1 hy
  exact ⟨i, hi, h.pos i y (by rw [List.getElem?_eq_getElem hi, e])⟩
theorem OwnI.end_ (h : OwnI j A t own) (hy : y ∈ A) : y.b + y.k ≤ A.length * cpg j := by
  obtain ⟨i, hi, e⟩ := h.at_ hy
  rw [e, (h.kind hy).2.1, ← Nat.succ_mul]
  exact Nat.mul_le_mul_right _ hi
theorem OwnI.cov (h : OwnI j A t own) (hj : 1 ≤ cpg j) : covA A = pre (A.length * cpg j) := by
  funext i
  unfold pre
  by_cases c : i < A.length * cpg j
  · rw [decide_eq_true c, covA_iff]
    have hl : i / cpg j < A.length := (Nat.div_lt_iff_lt_mul hj).2 c
    refine ⟨A[i / cpg j], List.getElem_mem hl, ?_⟩
    have e := h.pos (i / cpg j) _ (List.getElem?_eq_getElem hl)
    have e2 := (h.kind (List.getElem_mem hl)).2.1
    have q1 := Nat.div_mul_le_self i (cpg j)
    have q2 : i < (i / cpg j) * cpg j + cpg j := Nat.lt_div_mul_add (a := i) hj
    omega
  · rw [decide_eq_false c, Bool.eq_false_iff]
    intro hc
    obtain ⟨y, hy, q1, q2⟩ := covA_iff.1 hc
    have := h.end_ hy
    omega
theorem OwnI.live (h : OwnI j A t own) : Live A := fun y hy => by
  obtain ⟨k1, _, _, k4, _⟩ := h.kind hy
  obtain ⟨_, _, _, _, c5, _⟩ := cw_ok j k1
  by_cases c : 0 ≤ y.h
  · exact keep_iff.2 (.inr (.inl c))
  · have := cnt_full.2 (h.ful y hy c)
    exact keep_iff.2 (.inr (.inr (by omega)))

/-! ### How many blocks there are -/
def cpH (p : Int) (l : List Bk) : Nat := l.countP fun y => decide (y.h = p)
theorem cpH_cons (p : Int) (x : Bk) (l : List Bk) : cpH p (x :: l) = cpH p l + if x.h = p then 1 else 0 := by
  unfold cpH
  rw [List.countP_cons]
  by_cases e : x.h = p <;> simp [e]
theorem cpH_one {p : Int} : ∀ {l : List Bk}, l.Pairwise (fun x y => ¬ (x.h = p ∧ y.h = p)) → cpH p l ≤ 1
  | [], _ => by simp [cpH]
  | x :: l, h => by
    obtain ⟨h1, h2⟩ := List.pairwise_cons.1 h
    rw [cpH_cons]
    by_cases e : x.h = p
    · have : cpH p l = 0 := List.countP_eq_zero.2 fun y hy => by
        have := h1 y hy
        simp
        exact fun e2 => this ⟨e, e2⟩
      rw [this, if_pos e]
      omega
    · rw [if_neg e]; exact cpH_one h2
theorem cpH_all : ∀ {l : List Bk}, (∀ y ∈ l, -1 ≤ y.h ∧ y.h < 4) → l.length = cpH (-1) l + cpH 0 l + cpH 1 l + cpH 2 l + cpH 3 l
  | [], _ => rfl
  | x :: l, h => by
    have ih := cpH_all (l := l) fun y hy => h y (List.mem_cons_of_mem _ hy)
    obtain ⟨h1, h2⟩ := h x (List.mem_cons_self ..)
    rw [List.length_cons, ih]
    simp only [cpH_cons]
    have : x.h = -1 ∨ x.h = 0 ∨ x.h = 1 ∨ x.h = 2 ∨ x.h = 3 := by omega
    rcases this with e | e | e | e | e <;> rw [e] <;> simp <;> omega
theorem cpH_sum {c : Nat} : ∀ {l : List Bk}, (∀ y ∈ l, y.h = -1 → cnt y.u = c) → c * cpH (-1) l ≤ sumA fC l
  | [], _ => by simp [cpH]
  | x :: l, h => by
    have ih := cpH_sum (l := l) fun y hy => h y (List.mem_cons_of_mem _ hy)
    rw [cpH_cons]
    unfold sumA at ih ⊢
    rw [List.map_cons, List.sum_cons]
    by_cases e : x.h = -1
    · have := h x (List.mem_cons_self ..) e
      rw [if_pos e, Nat.mul_add]
      unfold fC at *
      omega
    · rw [if_neg e, Nat.add_zero]
      omega
theorem OwnI.few (h : OwnI j A t own) : ccl j * (A.length - 4) ≤ t := by
  have h1 : ∀ p : Int, 0 ≤ p → cpH p A ≤ 1 := fun p hp => cpH_one (h.inv.apart.imp_of_mem fun {x y} hx hy hxy c => by
    have e := h.inv.one x hx y hy (by omega) (by omega) (by rw [h.cls x hx, h.cls y hy])
    have r1 := h.inv.rng x hx
    have r2 := h.inv.rng y hy
    omega)
  have h2 := cpH_all (l := A) fun y hy => ⟨(h.kind hy).2.2.2.2.1, (h.kind hy).2.2.2.2.2⟩
  have h3 := cpH_sum (c := ccl j) (l := A) fun y hy e => (cnt_full.2 (h.ful y hy (by omega))).trans (h.kind hy).2.2.2.1
  rw [h.sum] at h3
  have := h1 0 (by omega); have := h1 1 (by omega); have := h1 2 (by omega); have := h1 3 (by omega)
  exact Nat.le_trans (Nat.mul_le_mul_left _ (by omega)) h3
theorem small_class : ∀ j, j < 12 → 3 ≤ ccl j ∧ cpg j ≤ 2 ∧ 1 ≤ cpg j := by decide
theorem cof_24 : ∀ m, m < 25 → 1 ≤ m → cof m < 12 := by decide
theorem OwnI.room (h : OwnI j A t own) (hj : j < 12) (ht : t < 200) : A.length * cpg j + cpg j ≤ 512 := by
  obtain ⟨c1, c2, c3⟩ := small_class j hj
  have h1 := h.few
  have h2 : 3 * (A.length - 4) ≤ ccl j * (A.length - 4) := Nat.mul_le_mul_right _ c1
  have h3 : A.length * cpg j ≤ 80 * 2 := Nat.mul_le_mul (by omega) c2
  omega

/-! ### A cell is used -/
theorem mem_unh {z : Bk} (hz : z ∈ unh A p j) : ∃ x ∈ A, (x.h = (p : Int) ∧ x.c = (j : Int) ∧ z = unhold x) ∨ (¬ (x.h = (p : Int) ∧ x.c = (j : Int)) ∧ z = x) := by
  unfold unh at hz
  obtain ⟨x, hx, e⟩ := List.mem_map.1 hz
  refine ⟨x, hx, ?_⟩
  by_cases c : x.h = (p : Int) ∧ x.c = (j : Int)
  · rw [if_pos c] at e; exact .inl ⟨c.1, c.2, e.symm⟩
  · rw [if_neg c] at e; exact .inr ⟨c, e.symm⟩
theorem own_prep (h : OwnI j A t own) (hk1 : 1 ≤ k) (hk2 : k ≤ 24) (hj : j = cof k) (hp : p < 4) (ht : t < 200) :
    ∃ A1 y, OwnI j A1 t own ∧ y ∈ A1 ∧ y.h = (p : Int) ∧ false ∈ y.u ∧ Alo 512 4 A (p : Int) (k : Int) (upd A1 y.b useB) (cellAt y) 0 := by
  have hj12 : j < 12 := hj ▸ cof_24 k (by omega) hk1
  by_cases e : ∃ y ∈ A, y.h = (p : Int) ∧ false ∈ y.u
  · obtain ⟨y, hy, e1, e2⟩ := e
    exact ⟨A, y, h, hy, e1, e2, .held p j y rfl hp (by omega) (by omega) (by rw [hj, Int.toNat_natCast]) hy e1 (h.cls y hy) e2⟩
  · have hno : NoHeld A p j := fun z hz q1 _ q3 => e ⟨z, hz, q1, q3⟩
    have hcl : ∀ z ∈ unh A p j, z.c = (j : Int) := fun z hz => by
      obtain ⟨x, hx, ⟨_, q2, rfl⟩ | ⟨_, rfl⟩⟩ := mem_unh hz
      · exact q2
      · exact h.cls z hx
    have hfu : ∀ z ∈ unh A p j, ¬ 0 ≤ z.h → false ∉ z.u := fun z hz q => by
      obtain ⟨x, hx, ⟨q1, q2, rfl⟩ | ⟨_, rfl⟩⟩ := mem_unh hz
      · exact hno x hx q1 q2
      · exact h.ful z hx q
    have hnop : NoOpn (unh A p j) j := noOpn_of fun z hz c => hfu z hz c.2.1 c.2.2
    obtain ⟨c1, c2, c3⟩ := small_class j hj12
    have hroom := h.room hj12 ht
    have hrow : Row 512 A (cpg j) (A.length * cpg j) := by
      obtain ⟨us, hus⟩ := pre_alc (a := A.length * cpg j) (k := cpg j) (n := 512) c3 hroom
      exact ⟨us, by rw [h.cov c3]; exact hus⟩
    have hlen : (unh A p j).length = A.length := by unfold unh; rw [List.length_map]
    have inv1 := newB_inv (n := 512) (pr := 4) (unh_inv (p := p) (k := j) h.inv) (k := j) (by omega) (by omega) hrow.unh
    have hmem : newB j (A.length * cpg j) ∈ unh A p j ++ [newB j (A.length * cpg j)] := List.mem_append_right _ (List.mem_singleton.2 rfl)
    have hnn : ∀ z ∈ unh A p j ++ [newB j (A.length * cpg j)], ¬ (z.h = (p : Int) ∧ z.c = (j : Int)) := fun z hz => by
      rcases List.mem_append.1 hz with hz | hz
      · exact unh_not hz
      · obtain rfl := List.mem_singleton.1 hz
        rintro ⟨e, _⟩
        have e : (-1 : Int) = p := e
        omega
    have inv2 := hold_inv inv1 hmem hp (k := j) rfl hnn
    have eu : upd (unh A p j ++ [newB j (A.length * cpg j)]) (newB j (A.length * cpg j)).b (holdB p) = unh A p j ++ [holdB p (newB j (A.length * cpg j))] := upd_last inv1
    rw [eu] at inv2
    have eu2 : upd (unh A p j ++ [holdB p (newB j (A.length * cpg j))]) (holdB p (newB j (A.length * cpg j))).b useB = unh A p j ++ [useB (holdB p (newB j (A.length * cpg j)))] := upd_last inv2
    have ew := cw_ok j (by omega)
    refine ⟨unh A p j ++ [holdB p (newB j (A.length * cpg j))], holdB p (newB j (A.length * cpg j)), ⟨inv2, fun i z hz => ?_, fun z hz => ?_, fun z hz q => ?_, ?_, fun z hz q i q1 q2 => ?_, fun i hi => h.far i ?_⟩, List.mem_append_right _ (List.mem_singleton.2 rfl), rfl, mem_repl ew.2.2.2.2.1, ?_⟩
    · rw [List.getElem?_append] at hz
      split at hz
      · unfold unh at hz
        rw [List.getElem?_map] at hz
        obtain ⟨x, hx, e⟩ := Option.map_eq_some_iff.1 hz
        have := h.pos i x hx
        rw [← e]
        split
        · exact this
        · exact this
      · rename_i hge
        rw [hlen] at hz hge
        have : i = A.length := by
          by_cases c : i - A.length = 0
          · omega
          · rw [List.getElem?_eq_none (by simp; omega)] at hz; cases hz
        subst this
        rw [Nat.sub_self] at hz
        have e : holdB p (newB j (A.length * cpg j)) = z := by simpa using hz
        rw [← e]; rfl
    · rcases List.mem_append.1 hz with hz | hz
      · exact hcl z hz
      · obtain rfl := List.mem_singleton.1 hz; rfl
    · rcases List.mem_append.1 hz with hz | hz
      · exact hfu z hz q
      · obtain rfl := List.mem_singleton.1 hz
        exact absurd (show (0 : Int) ≤ p by omega) q
    · have e1 : sumA fC (unh A p j) = sumA fC A := by
        unfold sumA unh
        rw [List.map_map]
        congr 1
        refine List.map_congr_left fun x _ => ?_
        show fC (if _ then _ else _) = _
        split <;> rfl
      have e2 : fC (holdB p (newB j (A.length * cpg j))) = 0 := by
        show (List.replicate (ccl j) false).count true = 0
        rw [List.count_replicate]; rfl
      have : sumA fC (unh A p j ++ [holdB p (newB j (A.length * cpg j))]) = sumA fC (unh A p j) + fC (holdB p (newB j (A.length * cpg j))) := by
        unfold sumA; rw [List.map_append, List.sum_append]; simp
      rw [this, e1, e2, h.sum]; rfl
    · rcases List.mem_append.1 hz with hz | hz
      · obtain ⟨x, hx, ⟨_, _, rfl⟩ | ⟨_, rfl⟩⟩ := mem_unh hz
        · exact absurd q (by show ¬ (0 : Int) ≤ -1; omega)
        · exact h.mine z hx q i q1 q2
      · obtain rfl := List.mem_singleton.1 hz
        exact .inl (h.far i q1)
    · rw [List.length_append, hlen, List.length_singleton, Nat.succ_mul] at hi
      omega
    · have al := Alo.new (n := 512) (pr := 4) (A := A) (p := (p : Int)) (m := (k : Int)) p j (A.length * cpg j) rfl hp (by omega) (by omega) (by rw [hj, Int.toNat_natCast]) hno hnop hrow
      rw [eu2]
      have ec : cellAt (holdB p (newB j (A.length * cpg j))) = ((A.length * cpg j * 64 : Nat) : Int) := by
        show ((A.length * cpg j * 64 + fi (List.replicate (ccl j) false) * cw j : Nat) : Int) = _
        rw [fi_repl _ ew.2.2.2.2.1, Nat.zero_mul, Nat.add_zero]
      rw [ec]
      exact al
/-- The page at which the next cell begins. -/
def pgAt (y : Bk) : Nat := (y.b * 64 + fi y.u * y.wd) / 64
theorem pg_in (hi : Inv n pr A) (hy : y ∈ A) (hf : false ∈ y.u) : y.b ≤ pgAt y ∧ pgAt y < y.b + y.k := by
  obtain ⟨_, _, _, f⟩ := hi.fits hy
  have := f _ (fi_lt hf)
  have := (hi.fits hy).1
  unfold pgAt
  omega
theorem cell_pg (y : Bk) : cellAt y / 64 = (pgAt y : Int) := by unfold cellAt pgAt; omega
def setO (own : Nat → Int) (i : Nat) (v : Int) : Nat → Int := fun x => if x = i then v else own x
theorem own_use (h : OwnI j A t own) (hy : y ∈ A) (hp : y.h = (p : Int)) (hf : false ∈ y.u) : OwnI j (upd A y.b useB) (t + 1) (setO own (pgAt y) ((p : Int) + 1)) ∧ pgAt y < 512 ∧ (own (pgAt y) = 0 ∨ own (pgAt y) = (p : Int) + 1) := by
  obtain ⟨g1, g2⟩ := pg_in h.inv hy hf
  have hr := h.inv.rng y hy
  have he := h.end_ hy
  refine ⟨⟨use_inv h.inv hy useB_keeps (by unfold useB; simp) rfl, fun i z hz => ?_, fun z hz => ?_, fun z hz q => ?_, ?_, fun z hz q i q1 q2 => ?_, fun i hi => ?_⟩, by omega, ?_⟩
  · unfold upd at hz
    rw [List.getElem?_map] at hz
    obtain ⟨x, hx, e⟩ := Option.map_eq_some_iff.1 hz
    have := h.pos i x hx
    rw [← e]
    split
    · exact this
    · exact this
  · rcases of_upd h.inv hy hz with rfl | ⟨q1, _⟩
    · exact h.cls y hy
    · exact h.cls z q1
  · rcases of_upd h.inv hy hz with rfl | ⟨q1, _⟩
    · exact absurd (show (0 : Int) ≤ y.h by omega) q
    · exact h.ful z q1 q
  · have e := rem_sum h.inv hy fC useB
    have e2 : fC (useB y) = fC y + 1 := by
      have := cnt_set (u := y.u) (i := fi y.u) (v := true) (fi_get hf)
      unfold fC useB
      simpa using this
    have := h.sum
    omega
  · unfold setO
    rcases of_upd h.inv hy hz with rfl | ⟨z1, z2⟩
    · by_cases c : i = pgAt y
      · rw [if_pos c]; exact .inr (by show (p : Int) + 1 = y.h + 1; omega)
      · rw [if_neg c]; exact h.mine y hy (by omega) i q1 q2
    · have : i ≠ pgAt y := by
        rcases h.inv.sep z1 hy with e | e
        · exact absurd (congrArg Bk.b e) z2
        · omega
      rw [if_neg this]
      exact h.mine z z1 q i q1 q2
  · unfold setO
    have hl : (upd A y.b useB).length = A.length := by unfold upd; rw [List.length_map]
    rw [hl] at hi
    rw [if_neg (by omega)]
    exact h.far i hi
  · have := h.mine y hy (by omega) _ g1 g2
    rw [hp] at this
    exact this
theorem own_free (h : OwnI j A t own) (hy : y ∈ A) (hf : false ∈ y.u) : Fre7 (upd A y.b useB) (cellAt y) A 0 := by
  have hm : useB y ∈ upd A y.b useB := mem_upd.2 ⟨y, hy, by rw [if_pos rfl]⟩
  have hl := fi_lt hf
  have hw := (h.inv.fits hy).1
  have f := Fre7.yes (A := upd A y.b useB) (x := cellAt y) (useB y) (fi y.u) ⟨hm, by
    show (y.u.set (fi y.u) true)[fi y.u]? = some true
    rw [List.getElem?_set]
    simp [hl], Int.le_refl _, by show ((y.b * 64 + fi y.u * y.wd : Nat) : Int) < ((y.b * 64 + fi y.u * y.wd + y.wd : Nat) : Int); omega⟩ rfl
  have e : (upd (upd A y.b useB) (useB y).b (freeB (fi y.u))).filter keep = A := by
    show (upd (upd A y.b useB) y.b (freeB (fi y.u))).filter keep = A
    rw [upd_upd useB_keeps]
    have e1 : upd A y.b (fun z => freeB (fi y.u) (useB z)) = A := by
      unfold upd
      rw [List.map_congr_left (g := id) fun z hz => ?_, List.map_id]
      by_cases c : z.b = y.b
      · rw [if_pos c]
        obtain rfl := h.inv.inj hz hy c
        show freeB (fi z.u) (useB z) = z
        unfold freeB useB
        have : (z.u.set (fi z.u) true).set (fi z.u) false = z.u := by
          rw [List.set_set]
          have e := fi_get hf
          rw [List.getElem?_eq_getElem hl] at e
          have e2 : z.u[fi z.u] = false := Option.some.inj e
          rw [← e2, List.set_getElem_self]
        rw [this]
      · rw [if_neg c]; rfl
    rw [e1]
    exact List.filter_eq_self.2 h.live
  rw [e] at f
  exact f
theorem own_again (h : OwnI j A t own) (hk1 : 1 ≤ k) (hk2 : k ≤ 24) (hj : j = cof k) (hpp : p < 4) (hy : y ∈ A) (hp : y.h = (p : Int)) (hf : false ∈ y.u) : Alo 512 4 A (p : Int) (k : Int) (upd A y.b useB) (cellAt y) 0 :=
  .held p j y rfl hpp (by omega) (by omega) (by rw [hj, Int.toNat_natCast]) hy hp (h.cls y hy) hf
end Go.Proofs.YtiboobaggpghjaaDoor
