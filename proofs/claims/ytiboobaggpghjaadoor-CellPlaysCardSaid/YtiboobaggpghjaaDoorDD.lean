/- Layer 7's cells in memory: how they turn. -/
import Derived.Test.YtiboobaggpghjaaDoorDC
namespace Go.Proofs.YtiboobaggpghjaaDoor
open Go.ChangeShapes Go.WideShapes Go.ChangeAt Go.RowKit
section
variable {n pr : Nat} {F : Nat → Prop} {a : Ad} {W W' : World} {A A' : List Bk} {S : Nat → Prop} {x y z : Bk} {i : Nat} {f : Bk → Bk}

theorem Tl.cha {L : List Spn} {bt bm bp bs : Nat} (h : Tl W bt bm bp bs n L) (c : Cha S W W') (h1 : ¬ S bt) (h2 : ¬ S bm) (h3 : ¬ S bp) (h4 : ¬ S bs) : Tl W' bt bm bp bs n L := ⟨h.1, h.2.cha c h1 h2 h3 h4⟩
/-- A block is turned, and what is held. -/
theorem Cl.turn (h : Cl n pr F a W A) (hy : y ∈ A) (hc : y.c ≠ -2) (kf : Keeps f) (inv' : Inv n pr (upd A y.b f)) (c : Cha S W W') (hS : ∀ j, S j → j = a.pb y.b ∨ j = a.ub y.b ∨ ∃ p, p < pr ∧ j = a.hp p)
    (hb : Bl W' (a.pb y.b) (a.ub y.b) (f y)) (hr : ∀ p, p < pr → FRow 74 W' (a.hp p) 16 (hv a.pb (upd A y.b f) p)) : Cl n pr F a W' (upd A y.b f) := by
  have B := h.bl y hy hc
  have ns : ∀ {j : Nat} {c : Array Value} {t : TypeId} {z : Nat × Nat}, W.heap[j]? = some (.cells c t z) → t ≠ 81 → t ≠ 74 → (t ≠ 4 ∨ j ≠ a.ub y.b) → ¬ S j := fun {j c t z} ho h1 h2 h3 hs => by
    rcases hS j hs with e | e | ⟨p, hp, e⟩
    · exact ty_ne ho B.hd h1 e
    · rcases h3 with h3 | h3
      · exact ty_ne ho B.us h3 e
      · exact h3 e
    · exact ty_ne ho (h.hr p hp) h2 e
  have nm : ¬ S a.mb := fun hs => by
    obtain ⟨m, m1, _⟩ := h.mp
    obtain ⟨es, k, hm⟩ := m1.obj
    rcases hS _ hs with e | e | ⟨p, hp, e⟩
    · exact map_ne B.hd hm e.symm
    · exact map_ne B.us hm e.symm
    · exact map_ne (h.hr p hp) hm e.symm
  have of : ∀ z ∈ upd A y.b f, z.c ≠ -2 → z = f y ∨ (z ∈ A ∧ z.b ≠ y.b) := fun z hz _ => by
    obtain ⟨w, hw, rfl⟩ := mem_upd.1 hz
    by_cases e : w.b = y.b
    · rw [if_pos e, h.inv.inj hw hy e]; exact .inl rfl
    · rw [if_neg e]; exact .inr ⟨hw, e⟩
  have ofb : ∀ z ∈ upd A y.b f, z.c ≠ -2 → ∃ w ∈ A, w.c ≠ -2 ∧ w.b = z.b := fun z hz hzc => by
    rcases of z hz hzc with rfl | ⟨h1, _⟩
    · exact ⟨y, hy, hc, (kf.b y).symm⟩
    · exact ⟨z, h1, hzc, rfl⟩
  obtain ⟨L, t1, t2⟩ := h.tl
  obtain ⟨m, m1, m2, m3⟩ := h.mp
  refine ⟨inv', h.prr, (c.old _ (h.lt _ h.own.1) (ns h.head (by decide) (by decide) (.inl (by decide)))).trans h.head, ⟨L, t1.cha c (ns t1.2.head (by decide) (by decide) (.inl (by decide))) (ns t1.2.pg.head (by decide) (by decide) (.inl (by decide))) (ns t1.2.pg.body (by decide) (by decide) (.inr fun e => h.ubp y hy hc e.symm)) (ns t1.2.sp (by decide) (by decide) (.inl (by decide))), lk_upd t2 kf kf.c⟩,
    ⟨m, by rw [nb_upd kf]; exact m1.cha c nm, fun z hz hzc => ?_, fun x p hx => ?_⟩, fun z hz hzc => ?_, c.row h.hd (ns h.hd (by decide) (by decide) (.inl (by decide))), hr, h.own, h.ownh, fun z hz hzc => ?_, fun i hi => Nat.lt_of_lt_of_le (h.lt i hi) c.size, h.siz.cha c ?_, h.f0, h.hpi, fun z hz w hw q1 q2 e => ?_, fun z hz hzc => ?_⟩
  · obtain ⟨w, hw, hwc, e⟩ := ofb z hz hzc
    rw [← e]; exact m2 w hw hwc
  · obtain ⟨w, hw, hwc, e⟩ := m3 x p hx
    refine ⟨_, mem_upd.2 ⟨w, hw, rfl⟩, ?_, ?_⟩
    · split
      · rw [kf.c]; exact hwc
      · exact hwc
    · split
      · rw [kf.b]; exact e
      · exact e
  · rcases of z hz hzc with rfl | ⟨h1, h2⟩
    · rw [kf.b]; exact hb
    · have Bz := h.bl z h1 hzc
      refine Bz.cha c (fun hs => ?_) (ns Bz.us (by decide) (by decide) (.inr fun e => h2 (h.ubi z h1 y hy hzc hc e)))
      rcases hS _ hs with e | e | ⟨p, hp, e⟩
      · exact h2 (h.pbi h1 hy hzc hc e)
      · exact ty_ne Bz.hd B.us (by decide) e
      · exact ty_ne Bz.hd (h.hr p hp) (by decide) e
  · obtain ⟨w, hw, hwc, e⟩ := ofb z hz hzc
    rw [← e]; exact h.ownb w hw hwc
  · intro hs
    rcases hS 0 hs with e | e | ⟨p, hp, e⟩
    · exact h.f0 (e ▸ (h.ownb y hy hc).1)
    · exact h.f0 (e ▸ (h.ownb y hy hc).2)
    · exact h.f0 (e ▸ h.ownh p hp)
  · obtain ⟨z', hz', hzc, e1⟩ := ofb z hz q1
    obtain ⟨w', hw', hwc, e2⟩ := ofb w hw q2
    rw [← e1, ← e2] at e ⊢
    exact h.ubi z' hz' w' hw' hzc hwc e
  · obtain ⟨w, hw, hwc, e⟩ := ofb z hz hzc
    rw [← e]; exact h.ubp w hw hwc

/-- Blocks are taken away, or pages come that hold no cells. -/
theorem Cl.sub (h : Cl n pr F a W A) (inv' : Inv n pr A') (hsub : ∀ z ∈ A', z.c ≠ -2 → z ∈ A) (hv' : ∀ p c, hv a.pb A p c = hv a.pb A' p c) (c : Cha S W W') (hS : ∀ j, S j → j = a.bp ∨ j = a.bs ∨ j = a.mb)
    (tl' : ∃ L, Tl W' a.bt a.bm a.bp a.bs n L ∧ Lk (·.c) L A') (mp' : ∃ m, PM W' a.mb m (A'.filter nb).length ∧ (∀ y ∈ A', y.c ≠ -2 → m y.b = some (a.pb y.b)) ∧ ∀ x p, m x = some p → ∃ y ∈ A', y.c ≠ -2 ∧ y.b = x) : Cl n pr F a W' A' := by
  obtain ⟨L, t1, t2⟩ := h.tl
  obtain ⟨m, m1, m2, m3⟩ := h.mp
  obtain ⟨es, k, hm⟩ := m1.obj
  have ns : ∀ {j : Nat} {c : Array Value} {t : TypeId} {z : Nat × Nat}, W.heap[j]? = some (.cells c t z) → t ≠ 78 → (t ≠ 4 ∨ j ≠ a.bp) → ¬ S j := fun {j c t z} ho h1 h3 hs => by
    rcases hS j hs with e | e | e
    · rcases h3 with h3 | h3
      · exact ty_ne ho t1.2.pg.body h3 e
      · exact h3 e
    · exact ty_ne ho t1.2.sp h1 e
    · exact map_ne ho hm e
  refine ⟨inv', h.prr, (c.old _ (h.lt _ h.own.1) (ns h.head (by decide) (.inl (by decide)))).trans h.head, tl', mp', fun z hz hzc => ?_, c.row h.hd (ns h.hd (by decide) (.inl (by decide))), fun p hp => ?_, h.own, h.ownh, fun z hz hzc => h.ownb z (hsub z hz hzc) hzc, fun i hi => Nat.lt_of_lt_of_le (h.lt i hi) c.size, h.siz.cha c ?_, h.f0, h.hpi, fun z hz w hw q1 q2 e => h.ubi z (hsub z hz q1) w (hsub w hw q2) q1 q2 e, fun z hz hzc => h.ubp z (hsub z hz hzc) hzc⟩
  · have Bz := h.bl z (hsub z hz hzc) hzc
    exact Bz.cha c (ns Bz.hd (by decide) (.inl (by decide))) (ns Bz.us (by decide) (.inr (h.ubp z (hsub z hz hzc) hzc)))
  · have e : hv a.pb A p = hv a.pb A' p := funext fun c => hv' p c
    rw [← e]
    exact c.row (h.hr p hp) (ns (h.hr p hp) (by decide) (.inl (by decide)))
  · intro hs
    rcases hS 0 hs with e | e | e
    · exact h.f0 (e ▸ h.own.2.2.2.1)
    · exact h.f0 (e ▸ h.own.2.2.2.2.1)
    · exact h.f0 (e ▸ h.own.2.2.2.2.2.1)

/-- The blocks of F, and those that are new. -/
def grow (F : Nat → Prop) (W W' : World) (i : Nat) : Prop := F i ∨ (W.heap.size ≤ i ∧ i < W'.heap.size)
def Ad.put (a : Ad) (b p q : Nat) : Ad := { a with pb := fun x => if x = b then p else a.pb x, ub := fun x => if x = b then q else a.ub x }
/-- A block comes. -/
theorem Cl.add (h : Cl n pr F a W A) (inv' : Inv n pr (A ++ [x])) (hx : x.c ≠ -2) (hh : x.h = -1) {p' q' : Nat} (c : Cha S W W') (hS : ∀ j, S j → j = a.bp ∨ j = a.bs ∨ j = a.mb)
    (tl' : ∃ L, Tl W' a.bt a.bm a.bp a.bs n L ∧ Lk (·.c) L (A ++ [x])) {m : Nat → Option Nat} (m2 : ∀ y ∈ A, y.c ≠ -2 → m y.b = some (a.pb y.b)) (m3 : ∀ x p, m x = some p → ∃ y ∈ A, y.c ≠ -2 ∧ y.b = x) (mp' : PM W' a.mb (fun y => if y = x.b then some p' else m y) ((A.filter nb).length + 1))
    (hb : Bl W' p' q' x) (hp1 : W.heap.size ≤ p') (hq1 : W.heap.size ≤ q') : Cl n pr (grow F W W') (a.put x.b p' q') W' (A ++ [x]) := by
  obtain ⟨L, t1, t2⟩ := h.tl
  obtain ⟨_, m1', _⟩ := h.mp
  obtain ⟨es, k, hm⟩ := m1'.obj
  have ns : ∀ {j : Nat} {c : Array Value} {t : TypeId} {z : Nat × Nat}, W.heap[j]? = some (.cells c t z) → t ≠ 78 → (t ≠ 4 ∨ j ≠ a.bp) → ¬ S j := fun {j c t z} ho h1 h3 hs => by
    rcases hS j hs with e | e | e
    · rcases h3 with h3 | h3
      · exact ty_ne ho t1.2.pg.body h3 e
      · exact h3 e
    · exact ty_ne ho t1.2.sp h1 e
    · exact map_ne ho hm e
  have nx : ∀ y ∈ A, y.b ≠ x.b := fun y hy e => by
    have h1 := (List.pairwise_append.1 inv'.apart).2.2 y hy x (List.mem_singleton.2 rfl)
    have h2 := inv'.rng y (List.mem_append_left _ hy)
    have h3 := inv'.rng x (List.mem_append_right _ (List.mem_singleton.2 rfl))
    omega
  have ob : ∀ y ∈ A, (a.put x.b p' q').pb y.b = a.pb y.b ∧ (a.put x.b p' q').ub y.b = a.ub y.b := fun y hy => ⟨if_neg (nx y hy), if_neg (nx y hy)⟩
  have nb' : (a.put x.b p' q').pb x.b = p' ∧ (a.put x.b p' q').ub x.b = q' := ⟨if_pos rfl, if_pos rfl⟩
  have hl := hb.lt
  have g1 : ∀ i, F i → grow F W W' i := fun i hi => .inl hi
  have old : ∀ y ∈ A, y.c ≠ -2 → a.ub y.b < W.heap.size := fun y hy hc => h.lt _ (h.ownb y hy hc).2
  refine ⟨inv', h.prr, (c.old _ (h.lt _ h.own.1) (ns h.head (by decide) (.inl (by decide)))).trans h.head, tl', ⟨fun y => if y = x.b then some p' else m y, ?_, fun z hz hzc => ?_, fun z q hz => ?_⟩, fun z hz hzc => ?_, c.row h.hd (ns h.hd (by decide) (.inl (by decide))), fun p hp => ?_,
    ⟨g1 _ h.own.1, g1 _ h.own.2.1, g1 _ h.own.2.2.1, g1 _ h.own.2.2.2.1, g1 _ h.own.2.2.2.2.1, g1 _ h.own.2.2.2.2.2.1, g1 _ h.own.2.2.2.2.2.2⟩, fun p hp => g1 _ (h.ownh p hp), fun z hz hzc => ?_, fun i hi => ?_, h.siz.cha c ?_, ?_, h.hpi, fun z hz w hw q1 q2 e => ?_, fun z hz hzc => ?_⟩
  · have e : ((A ++ [x]).filter nb).length = (A.filter nb).length + 1 := by
      rw [List.filter_append, List.filter_cons_of_pos (nb_iff.2 hx), List.length_append]; rfl
    rw [e]; exact mp'
  · rcases List.mem_append.1 hz with hz | hz
    · show (if z.b = x.b then some p' else m z.b) = _
      rw [if_neg (nx z hz), m2 z hz hzc, (ob z hz).1]
    · obtain rfl := List.mem_singleton.1 hz
      show (if z.b = z.b then some p' else m z.b) = _
      rw [if_pos rfl, nb'.1]
  · by_cases e : z = x.b
    · exact ⟨x, List.mem_append_right _ (List.mem_singleton.2 rfl), hx, e.symm⟩
    · have hz' : m z = some q := by
        have : (if z = x.b then some p' else m z) = some q := hz
        rwa [if_neg e] at this
      obtain ⟨y, hy, h1, h2⟩ := m3 z q hz'
      exact ⟨y, List.mem_append_left _ hy, h1, h2⟩
  · rcases List.mem_append.1 hz with hz | hz
    · rw [(ob z hz).1, (ob z hz).2]
      have Bz := h.bl z hz hzc
      exact Bz.cha c (ns Bz.hd (by decide) (.inl (by decide))) (ns Bz.us (by decide) (.inr (h.ubp z hz hzc)))
    · obtain rfl := List.mem_singleton.1 hz
      rw [nb'.1, nb'.2]; exact hb
  · have e : hv a.pb A p = hv (a.put x.b p' q').pb (A ++ [x]) p := funext fun c => hv_eq h.inv inv' (fun b => by
      constructor
      · rintro ⟨y, hy, r⟩; exact ⟨y, List.mem_append_left _ hy, r⟩
      · rintro ⟨y, hy, r⟩
        rcases List.mem_append.1 hy with hy | hy
        · exact ⟨y, hy, r⟩
        · obtain rfl := List.mem_singleton.1 hy; omega) (fun y hy _ _ => (ob y hy).1.symm)
    rw [← e]
    exact c.row (h.hr p hp) (ns (h.hr p hp) (by decide) (.inl (by decide)))
  · rcases List.mem_append.1 hz with hz | hz
    · rw [(ob z hz).1, (ob z hz).2]; exact ⟨g1 _ (h.ownb z hz hzc).1, g1 _ (h.ownb z hz hzc).2⟩
    · obtain rfl := List.mem_singleton.1 hz
      rw [nb'.1, nb'.2]; exact ⟨.inr ⟨hp1, hl.1⟩, .inr ⟨hq1, hl.2⟩⟩
  · rcases hi with hi | hi
    · exact Nat.lt_of_lt_of_le (h.lt i hi) c.size
    · exact hi.2
  · intro hs
    rcases hS 0 hs with e | e | e
    · exact h.f0 (e ▸ h.own.2.2.2.1)
    · exact h.f0 (e ▸ h.own.2.2.2.2.1)
    · exact h.f0 (e ▸ h.own.2.2.2.2.2.1)
  · rintro (e | e)
    · exact h.f0 e
    · have := h.lt _ h.own.1; omega
  · rcases List.mem_append.1 hz with hz' | hz'
    · rcases List.mem_append.1 hw with hw' | hw'
      · rw [(ob z hz').2, (ob w hw').2] at e
        exact h.ubi z hz' w hw' q1 q2 e
      · obtain rfl := List.mem_singleton.1 hw'
        rw [(ob z hz').2, nb'.2] at e
        have := old z hz' q1; omega
    · obtain rfl := List.mem_singleton.1 hz'
      rcases List.mem_append.1 hw with hw' | hw'
      · rw [(ob w hw').2, nb'.2] at e
        have := old w hw' q2; omega
      · obtain rfl := List.mem_singleton.1 hw'; rfl
  · rcases List.mem_append.1 hz with hz | hz
    · rw [(ob z hz).2]; exact h.ubp z hz hzc
    · obtain rfl := List.mem_singleton.1 hz
      rw [nb'.2]
      intro e
      have := h.lt _ h.own.2.2.2.1
      have e : q' = a.bp := e
      omega
end
end Go.Proofs.YtiboobaggpghjaaDoor
