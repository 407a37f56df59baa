/- A law's list of ints; CellBack, plainly. -/
import Derived.Test.YtiboobaggpghjaaDoorDW
import Derived.Test.YtiboobaggpghjaaDoorDX
namespace Go.Proofs.YtiboobaggpghjaaDoor
variable {n pr q : Nat} {A A' A1 B : List Bk} {y z : Bk} {x w : Int} {i : Nat} {wd : Nat}

/-- Blocks stay, and their used cells. -/
def Ext (A A' : List Bk) : Prop := ∀ z ∈ A, ∃ z' ∈ A', z'.b = z.b ∧ z'.wd = z.wd ∧ ∀ i : Nat, z.u[i]? = some true → z'.u[i]? = some true
theorem Ext.refl (A : List Bk) : Ext A A := fun z hz => ⟨z, hz, rfl, rfl, fun _ h => h⟩
theorem Ext.trans (h : Ext A A1) (k : Ext A1 A') : Ext A A' := fun z hz => by
  obtain ⟨z1, h1, e1, e2, e3⟩ := h z hz
  obtain ⟨z2, h2, f1, f2, f3⟩ := k z1 h1
  exact ⟨z2, h2, f1.trans e1, f2.trans e2, fun i h => f3 i (e3 i h)⟩
theorem Ext.add (A B : List Bk) : Ext A (A ++ B) := fun z hz => ⟨z, List.mem_append_left _ hz, rfl, rfl, fun _ h => h⟩
theorem Ext.upd {f : Bk → Bk} (kf : Keeps f) (hu : ∀ (z : Bk) (i : Nat), z.u[i]? = some true → (f z).u[i]? = some true) (b : Nat) : Ext A (upd A b f) := fun z hz => by
  refine ⟨_, mem_upd.2 ⟨z, hz, rfl⟩, ?_⟩
  split
  · exact ⟨kf.b z, kf.wd z, hu z⟩
  · exact ⟨rfl, rfl, fun _ h => h⟩
theorem Ext.unh (p k : Nat) : Ext A (unh A p k) := fun z hz => by
  refine ⟨_, List.mem_map.2 ⟨z, hz, rfl⟩, ?_⟩
  split
  · exact ⟨rfl, rfl, fun _ h => h⟩
  · exact ⟨rfl, rfl, fun _ h => h⟩
theorem Hit.ext (h : Hit A w y i) (e : Ext A A') : ∃ y', Hit A' w y' i ∧ y'.b = y.b ∧ y'.wd = y.wd := by
  obtain ⟨y', h1, e1, e2, e3⟩ := e y h.mem
  exact ⟨y', ⟨h1, e3 i h.used, by rw [e1, e2]; exact h.lo, by rw [e1, e2]; exact h.hi⟩, e1, e2⟩
/-- A used cell of wd words begins at x. -/
def Cel (A : List Bk) (x : Int) (wd : Nat) : Prop := ∃ y i, Hit A x y i ∧ x = begAt y i ∧ y.wd = wd
theorem Cel.ext (h : Cel A x wd) (e : Ext A A') : Cel A' x wd := by
  obtain ⟨y, i, h, hx, hw⟩ := h
  obtain ⟨y', h', e1, e2⟩ := h.ext e
  exact ⟨y', i, h', by rw [hx]; unfold begAt; rw [e1, e2], by rw [e2, hw]⟩
theorem Cel.rng (h : Cel A x wd) (hi : Inv n pr A) : 0 ≤ x ∧ x + wd ≤ ((n * 64 : Nat) : Int) ∧ 1 ≤ wd := by
  obtain ⟨y, i, h, hx, hw⟩ := h
  obtain ⟨f1, f2, f3, f4⟩ := hi.fits h.mem
  have := f4 i h.lt
  have := hi.rng y h.mem
  unfold begAt at hx
  omega
/-- Each word of a used cell lies in it. -/
theorem Cel.word (h : Cel A x wd) (h1 : x ≤ w) (h2 : w < x + wd) : ∃ y i, Hit A w y i ∧ x = begAt y i ∧ y.wd = wd := by
  obtain ⟨y, i, h, hx, hw⟩ := h
  refine ⟨y, i, ⟨h.mem, h.used, ?_, ?_⟩, hx, hw⟩
  · unfold begAt at hx; omega
  · unfold begAt at hx; omega

/-- The blocks are made ready; no cell is used. -/
structure Mid (n pr : Nat) (A A1 : List Bk) : Prop where
  inv : Inv n pr A1
  ext : Ext A A1
  sum : sumA fC A1 = sumA fC A
  bare : (∀ y ∈ A, y.c ≠ -2) → ∀ y ∈ A1, y.c ≠ -2
theorem sum_map {g : Bk → Bk} (hg : ∀ z, fC (g z) = fC z) (A : List Bk) : sumA fC (A.map g) = sumA fC A := by
  unfold sumA
  rw [List.map_map]
  congr 1
  exact List.map_congr_left fun z _ => hg z
theorem sum_upd {f : Bk → Bk} (hf : ∀ z, fC (f z) = fC z) (A : List Bk) (b : Nat) : sumA fC (upd A b f) = sumA fC A := sum_map (g := fun z => if z.b = b then f z else z) (fun z => by
  show fC (if z.b = b then f z else z) = fC z
  split
  · exact hf z
  · rfl) A
theorem sum_unh (A : List Bk) (p k : Nat) : sumA fC (unh A p k) = sumA fC A := sum_map (g := fun z => if z.h = (p : Int) ∧ z.c = (k : Int) then unhold z else z) (fun z => by
  show fC (if _ then unhold z else z) = fC z
  split <;> rfl) A
theorem sum_add (A : List Bk) (x : Bk) : sumA fC (A ++ [x]) = sumA fC A + fC x := by unfold sumA; rw [List.map_append, List.sum_append]; simp
theorem fC_fresh (b k : Nat) (c : Int) (s m : Nat) : fC (fresh b k c s m) = 0 := by
  show (List.replicate m false).count true = 0
  rw [List.count_replicate]; rfl
theorem Mid.refl (hi : Inv n pr A) : Mid n pr A A := ⟨hi, Ext.refl _, rfl, fun h => h⟩
theorem Mid.unh (hi : Inv n pr A) (p k : Nat) : Mid n pr A (unh A p k) := ⟨unh_inv hi, Ext.unh p k, sum_unh A p k, fun h z hz => by
  obtain ⟨x, hx, ⟨_, _, rfl⟩ | ⟨_, rfl⟩⟩ := mem_unh hz
  · exact h x hx
  · exact h z hx⟩
theorem Mid.hold (h : Mid n pr A A1) (hy : y ∈ A1) {k : Nat} (hq : q < pr) (h2 : y.c = (k : Int)) (hno : ∀ z ∈ A1, ¬ (z.h = (q : Int) ∧ z.c = (k : Int))) : Mid n pr A (upd A1 y.b (holdB q)) :=
  ⟨hold_inv h.inv hy hq h2 hno, h.ext.trans (Ext.upd (holdB_keeps q) (fun _ _ h => h) _), (sum_upd (f := holdB q) (fun _ => rfl) _ _).trans h.sum, fun hb z hz => by
    obtain ⟨x, hx, e⟩ := mem_upd.1 hz
    have := h.bare hb x hx
    rw [e]
    split
    · exact this
    · exact this⟩
theorem bfo_mid (hi : Inv n pr A) (hq : q < pr) {m r : Int} {o : Option Bk} (c : Bfo n pr A q m A1 o r) : Mid n pr A A1 ∧ (r = 0 → ∀ y, o = some y → m ≤ y.wd) := by
  cases c with
  | great b k h1 h2 h3 h4 =>
    refine ⟨⟨grt_inv hi h4, Ext.add _ _, by rw [sum_add, fC_fresh]; rfl, fun hb z hz => ?_⟩, fun _ y hy => ?_⟩
    · rcases List.mem_append.1 hz with hz | hz
      · exact hb z hz
      · obtain rfl := List.mem_singleton.1 hz
        show (-1 : Int) ≠ -2
        omega
    · obtain rfl := Option.some.inj hy
      show m ≤ ((k * 64 : Nat) : Int)
      omega
  | gfull k h1 h2 h3 h4 => exact ⟨Mid.refl hi, fun h => by omega⟩
  | held k y h1 h2 h3 h4 h5 h6 h7 =>
    refine ⟨Mid.refl hi, fun _ z hz => ?_⟩
    obtain rfl := Option.some.inj hz
    obtain ⟨c1, c2, _⟩ := cof_ok m.toNat (by omega) (by omega)
    have := (kind_class hi h4 h6).2.2.1
    rw [this, h3]
    omega
  | opn k y h1 h2 h3 h4 h5 =>
    obtain ⟨o1, o2, o3, o4⟩ := h5.opn
    refine ⟨(Mid.unh hi q k).hold o1 hq o2 (fun z hz => unh_not hz), fun _ z hz => ?_⟩
    obtain rfl := Option.some.inj hz
    obtain ⟨c1, c2, _⟩ := cof_ok m.toNat (by omega) (by omega)
    have := (kind_class (unh_inv (p := q) (k := k) hi) o1 o2).2.2.1
    show m ≤ (y.wd : Int)
    rw [this, h3]
    omega
  | new k b h1 h2 h3 h4 h5 h6 =>
    obtain ⟨c1, c2, _⟩ := cof_ok m.toNat (by omega) (by omega)
    have inv1 := newB_inv (unh_inv (p := q) (k := k) hi) (k := k) (by rw [h3]; exact c1) (by omega) h6.unh
    have m1 := Mid.unh hi q k
    have m2 : Mid n pr A (unh A q k ++ [newB k b]) := ⟨inv1, m1.ext.trans (Ext.add _ _), by rw [sum_add, m1.sum]; unfold newB; rw [fC_fresh]; rfl, fun hb z hz => by
      rcases List.mem_append.1 hz with hz | hz
      · exact m1.bare hb z hz
      · obtain rfl := List.mem_singleton.1 hz
        show (k : Int) ≠ -2
        omega⟩
    refine ⟨m2.hold (y := newB k b) (k := k) (List.mem_append_right _ (List.mem_singleton.2 rfl)) hq rfl fun z hz => ?_, fun _ z hz => ?_⟩
    · rcases List.mem_append.1 hz with hz | hz
      · exact unh_not hz
      · obtain rfl := List.mem_singleton.1 hz
        rintro ⟨e, _⟩
        have e : (-1 : Int) = q := e
        omega
    · obtain rfl := Option.some.inj hz
      show m ≤ ((cw k : Nat) : Int)
      rw [h3]
      omega
  | full k h1 h2 h3 h4 h5 h6 => exact ⟨Mid.unh hi q k, fun h => by omega⟩

/-- A cell of wd words is used, that begins at x. -/
structure Adds (n pr : Nat) (A A' : List Bk) (x : Int) (wd : Nat) : Prop where
  inv : Inv n pr A'
  ext : Ext A A'
  sum : sumA fC A' = sumA fC A + 1
  cel : Cel A' x wd
  new : ∀ w, x ≤ w → w < x + wd → NoHit A w
  bare : (∀ y ∈ A, y.c ≠ -2) → ∀ y ∈ A', y.c ≠ -2
theorem use_adds (h : Mid n pr A A1) (hy : y ∈ A1) (hf : false ∈ y.u) : Adds n pr A (upd A1 y.b useB) (cellAt y) y.wd := by
  have hl := fi_lt hf
  obtain ⟨f1, f2, f3, f4⟩ := h.inv.fits hy
  have hm : useB y ∈ upd A1 y.b useB := mem_upd.2 ⟨y, hy, by rw [if_pos rfl]⟩
  have hset : ∀ (z : Bk) (i : Nat), z.u[i]? = some true → (useB z).u[i]? = some true := fun z i hz => by
    show (z.u.set (fi z.u) true)[i]? = some true
    rw [List.getElem?_set]
    split
    · rename_i e
      rw [if_pos (by rw [e]; exact lt_of_get hz)]
    · exact hz
  refine ⟨use_inv h.inv hy useB_keeps (by unfold useB; simp) rfl, h.ext.trans (Ext.upd useB_keeps hset _), ?_, ⟨useB y, fi y.u, ⟨hm, ?_, Int.le_refl _, ?_⟩, rfl, rfl⟩, fun w h1 h2 z i hz => ?_, fun hb z hz => ?_⟩
  · have e := rem_sum h.inv hy fC useB
    have e2 : fC (useB y) = fC y + 1 := by
      have := cnt_set (u := y.u) (i := fi y.u) (v := true) (fi_get hf)
      unfold fC useB
      simpa using this
    have := h.sum
    omega
  · show (y.u.set (fi y.u) true)[fi y.u]? = some true
    rw [List.getElem?_set]
    simp [hl]
  · show ((y.b * 64 + fi y.u * y.wd : Nat) : Int) < ((y.b * 64 + fi y.u * y.wd + y.wd : Nat) : Int)
    omega
  · obtain ⟨z', hz', _, _⟩ := hz.ext h.ext
    have g1 := f4 _ hl
    have g2 := hz'.page h.inv
    have g3 := hz'.quot
    unfold cellAt at h1 h2
    have e : z' = y := by
      rcases h.inv.sep hz'.mem hy with e | e
      · exact e
      · omega
    subst e
    have g4 : (w.toNat - z'.b * 64) / z'.wd = fi z'.u := quot_is (by omega) (by omega)
    have := hz'.used
    rw [← g3, g4, fi_get hf] at this
    cases this
  · obtain ⟨x, hx, e⟩ := mem_upd.1 hz
    have := h.bare hb x hx
    rw [e]
    split
    · exact this
    · exact this
/-- What Alloc does, with arguments that are right. -/
theorem alo_does (hi : Inv n pr A) {p m r : Int} (c : Alo n pr A p m A' x r) (h1 : 0 ≤ p) (h2 : p < pr) (h3 : 1 ≤ m) (h4 : m ≤ 1024) : (r = 3 ∧ Mid n pr A A') ∨ (r = 0 ∧ ∃ wd : Nat, m ≤ (wd : Int) ∧ Adds n pr A A' x wd) := by
  rcases c.split hi with ⟨hb, _⟩ | ⟨_, _, h, _⟩ | ⟨q, rfl, hq, _, _, ⟨A1, y, hbf, hy, _, hyu, rfl, rfl, rfl⟩ | ⟨hbf, _, rfl⟩⟩
  · omega
  · omega
  · obtain ⟨k1, k2⟩ := bfo_mid hi hq hbf
    exact .inr ⟨rfl, y.wd, k2 rfl y rfl, use_adds k1 hy hyu⟩
  · exact .inl ⟨rfl, (bfo_mid hi hq hbf).1⟩

/-! ### A cell is freed -/
theorem hit_keep (h : Hit B w y i) : Hit (B.filter keep) w y i :=
  ⟨List.mem_filter.2 ⟨h.mem, keep_iff.2 (.inr (.inr (List.count_pos_iff.2 (List.mem_of_getElem? h.used))))⟩, h.used, h.lo, h.hi⟩
theorem sum_keep : ∀ (A : List Bk), sumA fC (A.filter keep) = sumA fC A
  | [] => rfl
  | x :: A => by
    have ih := sum_keep A
    unfold sumA at ih ⊢
    rw [List.filter_cons]
    by_cases e : keep x = true
    · rw [if_pos e, List.map_cons, List.sum_cons, List.map_cons, List.sum_cons, ih]
    · rw [if_neg e, List.map_cons, List.sum_cons, ih]
      have : ¬ 0 < cnt x.u := fun c => e (keep_iff.2 (.inr (.inr c)))
      unfold fC
      omega
structure Rems (n pr : Nat) (A A' : List Bk) (x : Int) (wd : Nat) : Prop where
  inv : Inv n pr A'
  sum : sumA fC A' + 1 = sumA fC A
  cel : ∀ z v, Cel A z v → z ≠ x → Cel A' z v
  hit : ∀ w, ¬ (x ≤ w ∧ w < x + wd) → (∃ y i, Hit A w y i) → ∃ y i, Hit A' w y i
  gone : NoHit A' x
  bare : (∀ y ∈ A, y.c ≠ -2) → ∀ y ∈ A', y.c ≠ -2
theorem free_does (hi : Inv n pr A) (hl : Live A) (h : Cel A x wd) : ∃ A', Fre7 A x A' 0 ∧ Rems n pr A A' x wd := by
  obtain ⟨y, i, h, hx, hw⟩ := h
  refine ⟨_, .yes y i h hx, ?_⟩
  have inv1 := use_inv (f := freeB i) hi h.mem (freeB_keeps i) (by unfold freeB; simp) rfl
  have hmem : freeB i y ∈ upd A y.b (freeB i) := mem_upd.2 ⟨y, h.mem, by rw [if_pos rfl]⟩
  have hit : ∀ {w : Int} {z : Bk} {j : Nat}, Hit A w z j → (z ≠ y ∨ j ≠ i) → ∃ z', Hit ((upd A y.b (freeB i)).filter keep) w z' j ∧ z'.b = z.b ∧ z'.wd = z.wd := fun {w z j} hz hne => by
    by_cases e : z.b = y.b
    · obtain rfl := hi.inj hz.mem h.mem e
      have hne : j ≠ i := by rcases hne with c | c; exact absurd rfl c; exact c
      exact ⟨freeB i z, hit_keep ⟨hmem, by
        show (z.u.set i false)[j]? = some true
        rw [List.getElem?_set_ne (fun e => hne e.symm)]
        exact hz.used, hz.lo, hz.hi⟩, rfl, rfl⟩
    · exact ⟨z, hit_keep ⟨mem_upd.2 ⟨z, hz.mem, by rw [if_neg e]⟩, hz.used, hz.lo, hz.hi⟩, rfl, rfl⟩
  refine ⟨?_, ?_, fun z v hz hne => ?_, fun w hw' hz => ?_, fun z j hz => ?_, fun hb z hz => ?_⟩
  · rw [drp_upd hi hl (freeB_keeps i) h.mem]
    split
    · exact inv1
    · exact rem_inv inv1 _
  · rw [sum_keep]
    have e := rem_sum hi h.mem fC (freeB i)
    have e2 : fC (freeB i y) + 1 = fC y := by
      have := cnt_set (u := y.u) (i := i) (v := false) (by simpa using h.used)
      unfold fC freeB
      simpa using this
    omega
  · obtain ⟨y2, j, k1, k2, k3⟩ := hz
    obtain ⟨y3, q1, q2, q3⟩ := hit k1 (by
      by_cases e : y2 = y
      · subst e
        refine .inr fun e => hne ?_
        rw [k2, hx, e]
      · exact .inl e)
    exact ⟨y3, j, q1, by rw [k2]; unfold begAt; rw [q2, q3], by rw [q3, k3]⟩
  · obtain ⟨y2, j, k1⟩ := hz
    obtain ⟨y3, q1, _⟩ := hit k1 (by
      by_cases e : y2 = y
      · subst e
        refine .inr fun e => hw' ?_
        subst e
        have := k1.lo
        have := k1.hi
        unfold begAt at hx
        omega
      · exact .inl e)
    exact ⟨y3, j, q1⟩
  · have hm := (List.mem_filter.1 hz.mem).1
    rcases of_upd hi h.mem hm with rfl | ⟨q1, q2⟩
    · have g1 := hz.quot
      have g2 := h.quot
      have g3 : (freeB i y).b = y.b := rfl
      have g4 : (freeB i y).wd = y.wd := rfl
      rw [g3, g4, g2] at g1
      subst g1
      have := hz.used
      have e : (y.u.set i false)[i]? = some true := this
      rw [List.getElem?_set] at e
      simp [h.lt] at e
    · have hz2 : Hit A x z j := ⟨q1, hz.used, hz.lo, hz.hi⟩
      exact q2 (congrArg Bk.b (hz2.one h hi).1)
  · have hm := (List.mem_filter.1 hz).1
    obtain ⟨x, hx, e⟩ := mem_upd.1 hm
    have := hb x hx
    rw [e]
    split
    · exact this
    · exact this
end Go.Proofs.YtiboobaggpghjaaDoor

namespace Go.Proofs.YtiboobaggpghjaaDoor
open Go.ChangeShapes Go.WideShapes Go.ChangeAt Go.RowKit

section
variable {P : Program} (w : World)
/-- Where the list lies behind an append: where it lay, or in a new block. -/
theorem run_append_where (base : Nat) (t ty e : TypeId) (i : TypeInfo) (z : Value) (size bytes : Nat) (ht : P.underlying t = some (.slice e)) (hi : P.info? e = some i) (hz : i.zero = some z)
    (hsize : i.size = size) (hby : i.bytes = bytes) (hzs : z.cells.size = size) (hsz : 0 < size)
    (v : Value) (n : Nat) (xs : List Value) (hown : w.ownsRow base e size v n xs)
    (a : Addr) (m c : Nat) (news : List Value) (hl : news.length = m * size) (hnews : ∀ j u, news[j]? = some u → w.cell? (a.add j) = some u) (h1 : ∀ u ∈ news, u.oneCell' = true)
    (h63 : n + m ≤ maxLen) (hbytes : (n + m) * bytes ≤ 140737488355328) (hbase : base ≤ w.heap.size) :
    ∃ v' w', (Builtin.append_ #[t, t] ty #[v, .slice (some a) m c]).run P w = .ok v' w' ∧ w'.ownsRow base e size v' (n + m) (xs ++ news) ∧ w.grownBy w' v.ownBlock ∧
      (v'.ownBlock = v.ownBlock ∨ ∀ g, v'.ownBlock = some g → w.heap.size ≤ g) := by
  obtain ⟨v', w', hr, h2, h3, h4⟩ := run_append_own (P := P) w base t ty e i z size bytes ht hi hz hsize hby hzs hsz v n xs hown a m c news hl hnews h1 h63 hbytes hbase
  refine ⟨v', w', hr, h2, h3, ?_⟩
  rcases hown.2 with ⟨rfl, rfl⟩ | ⟨g, cap, cur, rfl, hb, hg, hnc, hcm, hcs, htk⟩
  · have hx : xs = [] := List.eq_nil_of_length_eq_zero (by simpa using hown.1)
    subst hx
    obtain ⟨v2, w2, hr2, o2, _⟩ := run_append_own (P := P) w w.heap.size t ty e i z size bytes ht hi hz hsize hby hzs hsz (.slice none 0 0) 0 [] (World.ownsRow_nil _ _ _ _) a m c news hl hnews h1 h63 hbytes (Nat.le_refl _)
    rw [hr] at hr2
    cases hr2
    exact .inr fun g hg => (o2.lt g hg).1
  · by_cases hroom : n + m ≤ cap
    · obtain ⟨w2, hr2, _⟩ := run_append_fits (P := P) w base t ty e i size ht hi hsize g n cap xs hown a m c news hl hnews h1 hroom
      rw [hr] at hr2
      cases hr2
      exact .inl rfl
    · subst hsize
      subst hby
      have holds : ∀ j u, xs[j]? = some u → w.cell? ((⟨g, 0, none⟩ : Addr).add j) = some u := hown.cells (g := g) rfl
      have hsmall : n + m ≤ 9223372036854775807 := by simp only [maxLen] at h63; omega
      have hr2 := run_append_grow (P := P) w t ty e i z ht hi hz ⟨g, 0, none⟩ n cap xs hown.1 holds a m c news hl hnews (by omega) (by omega) (growslice_fits (by omega) hbytes)
      rw [hr] at hr2
      cases hr2
      exact .inr fun g' hg' => by simp [Value.ownBlock] at hg'; omega
theorem wpList_append_where {ops : Array Oper} {rest : List Oper} {o : Oper} {a : Act} {Q : Exit → Act → World → Prop} (hgd : o.guard = none) (s x : Operand) (t : TypeId)
    (ho : o.op = .call { callee := .builtin .append, args := #[s, x], argTypes := #[t, t] })
    (base : Nat) (e : TypeId) (i : TypeInfo) (z : Value) (size bytes : Nat) (ht : P.underlying t = some (.slice e)) (hi : P.info? e = some i) (hz : i.zero = some z)
    (hsize : i.size = size) (hby : i.bytes = bytes) (hzs : z.cells.size = size) (hsz : 0 < size)
    (v : Value) (n : Nat) (xs : List Value) (hs : a.eval s = v) (hown : w.ownsRow base e size v n xs)
    (ad : Addr) (m c : Nat) (news : List Value) (hx : a.eval x = .slice (some ad) m c) (hl : news.length = m * size) (hnews : ∀ j u, news[j]? = some u → w.cell? (ad.add j) = some u) (h1 : ∀ u ∈ news, u.oneCell' = true)
    (h63 : n + m ≤ maxLen) (hbytes : (n + m) * bytes ≤ 140737488355328) (hbase : base ≤ w.heap.size)
    (h : ∀ v' w', w'.ownsRow base e size v' (n + m) (xs ++ news) → w.grownBy w' v.ownBlock → (v'.ownBlock = v.ownBlock ∨ ∀ g, v'.ownBlock = some g → w.heap.size ≤ g) → wpList P ops Q rest (a.put o.dst v') w') : wpList P ops Q (o :: rest) a w :=
  wpList_plain hgd fun K hK => by
    obtain ⟨v', w', hr, h2, h3, h4⟩ := run_append_where (P := P) w base t o.type e i z size bytes ht hi hz hsize hby hzs hsz v n xs hown ad m c news hl hnews h1 h63 hbytes hbase
    unfold Oper.wp execOp
    simp only [ho, resolve, invoke, builtin, Sem.run_bind, Sem.run_pure, Result.andThen_ok, List.map_toArray, List.map_cons, List.map_nil, hs, hx, hr]
    exact hK _ _ (h v' w' h2 h3 h4)
end

theorem one_new (w : World) (x : Value) (t : TypeId) : ∀ j u, ([x] : List Value)[j]? = some u → (w.alloc (.cells #[x] t)).cell? ((⟨w.heap.size, 0, none⟩ : Addr).add j) = some u := by
  intro j u h
  cases j with
  | zero =>
    have e : (⟨w.heap.size, 0, none⟩ : Addr).add 0 = ⟨w.heap.size, 0, none⟩ := by simp [Addr.add]
    rw [e, World.cell?_alloc_new]
    simpa using h
  | succ j => simp at h
theorem one_int (x : Int) : ∀ u ∈ ([.int .i64 x] : List Value), u.oneCell' = true := fun u h => by
  obtain rfl := List.mem_singleton.1 h
  rfl
/-- A list of ints as cells. -/
def ilz (A : Nat → Int) (j : Nat) : List Value := (List.range j).map fun i => .int .i64 (A i)
theorem ilz_step (A : Nat → Int) (j : Nat) : ilz A (j + 1) = ilz A j ++ [.int .i64 (A j)] := by
  unfold ilz; rw [List.range_succ, List.map_append]; rfl
theorem ilz_congr {A B : Nat → Int} {j : Nat} (h : ∀ i, i < j → A i = B i) : ilz A j = ilz B j := by
  unfold ilz
  exact List.map_congr_left fun i hi => by rw [h i (List.mem_range.1 hi)]
theorem ilz_get {A : Nat → Int} {j i : Nat} (h : i < j) : (ilz A j)[i]? = some (.int .i64 (A i)) := by
  unfold ilz; simp [h]
def put9 (A : Nat → Int) (i : Nat) (v : Int) : Nat → Int := fun x => if x = i then v else A x
/-- A list of a law's, of m ints, that lies in none of F. -/
structure Li (B : Nat) (F : Nat → Prop) (W : World) (v : Value) (m : Nat) (A : Nat → Int) : Prop where
  own : W.ownsRow B 3 1 v m (ilz A m)
  far : ∀ g, v.ownBlock = some g → ¬ F g
variable {B m : Nat} {F F' S : Nat → Prop} {w w' W W' : World} {v v' : Value} {A : Nat → Int}
theorem Li.nil (B : Nat) (F : Nat → Prop) (W : World) (A : Nat → Int) : Li B F W (.slice none 0 0) 0 A := ⟨World.ownsRow_nil _ _ _ _, fun g h => by simp [Value.ownBlock] at h⟩
theorem own_but {n size : Nat} {t : TypeId} {xs : List Value} (h : w.ownsRow B t size v n xs) (c : Cha S w w') (hs : ∀ g, v.ownBlock = some g → ¬ S g) : w'.ownsRow B t size v n xs := by
  obtain ⟨h0, h | ⟨g, cap, cur, h1, hg, h2, h3⟩⟩ := h
  · exact ⟨h0, .inl h⟩
  · have hl : g < w.heap.size := by
      by_cases hl : g < w.heap.size
      · exact hl
      · rw [Array.getElem?_eq_none (by omega)] at h2; cases h2
    exact ⟨h0, .inr ⟨g, cap, cur, h1, hg, (c.old g hl (hs g (by rw [h1]; rfl))).trans h2, h3⟩⟩
theorem Li.lt (h : Li B F W v m A) {g : Nat} (hg : v.ownBlock = some g) : B ≤ g ∧ g < W.heap.size := h.own.lt g hg
theorem Li.cha (h : Li B F W v m A) (c : Cha S W W') (hs : ∀ g, v.ownBlock = some g → ¬ S g) : Li B F W' v m A := ⟨own_but h.own c hs, h.far⟩
theorem Li.move (h : Li B F W v m A) (c : Cha F W W') (k : ∀ i, F' i → F i ∨ W.heap.size ≤ i) : Li B F' W' v m A :=
  ⟨own_but h.own c h.far, fun g hg hf => by
    rcases k g hf with e | e
    · exact h.far g hg e
    · have := (h.lt hg).2; omega⟩
theorem Li.shape (h : Li B F W v m A) : ∃ a c, v = .slice a m c ∧ (0 < m → ∃ g, a = some ⟨g, 0, none⟩ ∧ v.ownBlock = some g ∧ m ≤ c ∧ c ≤ maxLen ∧ (∀ i, i < m → W.cell? ⟨g, i, none⟩ = some (.int .i64 (A i))) ∧ ∀ i, W.frozen? ⟨g, i, none⟩ = false) := by
  have hh := h.own
  rcases h.own.2 with ⟨rfl, rfl⟩ | ⟨g, cap, cur, rfl, hb, hg, hnc, hcm, hcs, htk⟩
  · exact ⟨none, 0, rfl, fun h => absurd h (by omega)⟩
  · refine ⟨_, _, rfl, fun _ => ⟨g, rfl, rfl, hnc, hcm, fun i hi => ?_, fun i => frozen_of_row W g i _ 3 hg⟩⟩
    have := hh.cells (g := g) rfl i _ (ilz_get hi)
    have e : (⟨g, 0, none⟩ : Addr).add i = ⟨g, i, none⟩ := by
      simp [Addr.add]
      exact fun e => e.symm
    rw [e] at this
    exact this
/-- A place of the list is written. -/
theorem Li.set (h : Li B F W v m A) {g : Nat} (hg : v.ownBlock = some g) (i : Nat) (x : Int) (hi : i < m) : Li B F (W.setCell ⟨g, i, none⟩ (.int .i64 x)) v m (put9 A i x) := by
  refine ⟨⟨by simp [ilz], ?_⟩, h.far⟩
  rcases h.own.2 with ⟨rfl, rfl⟩ | ⟨g', cap, cur, rfl, hb, hg', hnc, hcm, hcs, htk⟩
  · simp [Value.ownBlock] at hg
  · have e : g' = g := by simpa [Value.ownBlock] using hg
    subst e
    refine .inr ⟨g', cap, _, rfl, hb, heap_setCell_same W g' i _ 3 _ hg', hnc, hcm, by simpa using hcs, ?_⟩
    rw [Array.toList_setIfInBounds, List.take_set, htk]
    apply List.ext_getElem?
    intro k
    rw [List.getElem?_set]
    unfold ilz put9
    by_cases e : i = k
    · subst e; simp [hi]
    · have e2 : ¬ k = i := fun c => e c.symm
      rw [if_neg e]
      by_cases hk : k < m
      · simp [hk, e2]
      · simp [hk]
/-- The list is longer by one. -/
theorem Li.app (h : Li B F W v m A) (h0 : ∀ i, F i → i < W.heap.size) {o : Obj} {x : Int} (h1 : W'.ownsRow B 3 1 v' (m + 1) (ilz A m ++ [.int .i64 x])) (hg : (W.alloc o).grownBy W' v.ownBlock) (hw : v'.ownBlock = v.ownBlock ∨ ∀ g, v'.ownBlock = some g → (W.alloc o).heap.size ≤ g) :
    Li B F W' v' (m + 1) (put9 A m x) ∧ Cha (fun i => v.ownBlock = some i) W W' := by
  refine ⟨⟨?_, fun g hg2 hf => ?_⟩, ((Cha.refl (fun i => v.ownBlock = some i) W).alloc o).trans (Cha.of_grownBy hg fun k e => e)⟩
  · rw [ilz_step, show put9 A m x m = x by unfold put9; rw [if_pos rfl]]
    have : ilz (put9 A m x) m = ilz A m := ilz_congr fun i hi => by unfold put9; rw [if_neg (by omega)]
    rw [this]
    exact h1
  · rcases hw with hw | hw
    · exact h.far g (hw ▸ hg2) hf
    · have := hw g hg2
      have := h0 g hf
      rw [World.size_alloc] at *
      omega
end Go.Proofs.YtiboobaggpghjaaDoor
