/- Layer 7's Alloc. -/
import Derived.Test.YtiboobaggpghjaaDoorDK
namespace Go.Proofs.YtiboobaggpghjaaDoor
open Go.ChangeShapes Go.WideShapes Go.ChangeAt Go.RowKit
variable {n pr : Nat} {F : Nat → Prop} {a : Ad} {W : World} {A : List Bk} {y : Bk}

theorem useB_keeps : Keeps useB := ⟨fun _ => rfl, fun _ => rfl, fun _ => rfl, fun _ => rfl⟩
theorem use_inv {f : Bk → Bk} (hi : Inv n pr A) (hy : y ∈ A) (kf : Keeps f) (hl : (f y).u.length = y.u.length) (hh : (f y).h = y.h) : Inv n pr (upd A y.b f) :=
  upd_inv hi kf (fun z hz e => by
    obtain rfl := hi.inj hz hy e
    unfold Bk.kind
    rw [kf.c, kf.k, kf.wd, hl, hh]
    rcases hi.kind z hz with ⟨q1, q2, q3, q4⟩ | ⟨q1, q2, q3, q4⟩ | ⟨j, q1, q2, q3, q4, q5, q6, q7⟩
    · refine .inl ⟨q1, q2, ?_, q4⟩
      rw [q3] at hl
      exact List.eq_nil_of_length_eq_zero hl
    · exact .inr (.inl ⟨q1, q2, q3, q4⟩)
    · exact .inr (.inr ⟨j, q1, q2, q3, q4, q5, q6, q7⟩)) (fun z hz e _ => by
    obtain rfl := hi.inj hz hy e
    exact .inl hh)
/-- A block's marks are turned. -/
theorem Cl.marks {f : Bk → Bk} {W' : World} (h : Cl n pr F a W A) (hy : y ∈ A) (hc : y.c ≠ -2) (kf : Keeps f) (hl : (f y).u.length = y.u.length) (hh : ∀ z, (f z).h = z.h) (hb : Bl W' (a.pb y.b) (a.ub y.b) (f y)) (c : Cha (fun j => j = a.pb y.b ∨ j = a.ub y.b) W W') : Cl n pr F a W' (upd A y.b f) := by
  have inv' := use_inv h.inv hy kf hl (hh y)
  have B := h.bl y hy hc
  refine h.turn hy hc kf inv' c (fun j hj => by rcases hj with e | e; exact .inl e; exact .inr (.inl e)) hb fun p hp => ?_
  have R := h.hr p hp
  have e : hv a.pb A p = hv a.pb (upd A y.b f) p := funext fun x => hv_eq h.inv inv' (fun b => by
    constructor
    · rintro ⟨z, hz, e1, e2, e3⟩
      refine ⟨_, mem_upd.2 ⟨z, hz, rfl⟩, ?_⟩
      split
      · rw [kf.b, kf.c, hh]; exact ⟨e1, e2, e3⟩
      · exact ⟨e1, e2, e3⟩
    · rintro ⟨z, hz, e1, e2, e3⟩
      rcases of_upd h.inv hy hz with rfl | ⟨q1, _⟩
      · rw [kf.b] at e1; rw [hh] at e2; rw [kf.c] at e3
        exact ⟨y, hy, e1, e2, e3⟩
      · exact ⟨z, q1, e1, e2, e3⟩) (fun _ _ _ _ => rfl)
  rw [← e]
  refine c.row R ?_
  rintro (e3 | e3)
  · exact ty_ne B.hd R (by decide) e3.symm
  · exact ty_ne B.us R (by decide) e3.symm
theorem Cl.used (h : Cl n pr F a W A) (hy : y ∈ A) (hc : y.c ≠ -2) (hu : false ∈ y.u) : Calls Tryd.prog 52 #[.pointer (some ⟨a.pb y.b, 0, none⟩)] W fun e w' => e = .returned (.int .i64 ((y.b * 64 + fi y.u * y.wd : Nat) : Int)) ∧ Cl n pr F a w' (upd A y.b useB) ∧ Cha F W w' := by
  obtain ⟨f1, f2, f3, f4⟩ := h.inv.fits hy
  have hr := h.inv.rng y hy
  have hn := h.nle.1
  refine (use_any (h.bl y hy hc) hu f2 (by omega) (by omega)).mono ?_
  rintro e w' ⟨he, hb, hc'⟩
  refine ⟨he, h.marks hy hc useB_keeps (by unfold useB; simp) (fun _ => rfl) hb hc', hc'.mono fun j _ hj => ?_⟩
  rcases hj with e | e
  · exact e ▸ (h.ownb y hy hc).1
  · exact e ▸ (h.ownb y hy hc).2

theorem least_ex (A : List Bk) (k : Nat) : (∃ y, Least A k y) ∨ NoOpn A k := by
  suffices h : ∀ (l : List Bk), l = [] ∨ ∃ y ∈ l, ∀ z ∈ l, y.b ≤ z.b by
    rcases h (A.filter fun y => decide (y.c = (k : Int)) && !decide (0 ≤ y.h) && decide (false ∈ y.u)) with e | ⟨y, hy, hz⟩
    · refine .inr fun y hy => ?_
      have : y ∈ A.filter fun y => decide (y.c = (k : Int)) && !decide (0 ≤ y.h) && decide (false ∈ y.u) := List.mem_filter.2 ⟨hy.1, by have := hy.2.2.1; simp [hy.2.1, hy.2.2.2]; omega⟩
      rw [e] at this; cases this
    · have hy' := List.mem_filter.1 hy
      have h2 := hy'.2
      simp at h2
      exact .inl ⟨y, ⟨hy'.1, h2.1.1, by omega, h2.2⟩, fun z hz' => hz z (List.mem_filter.2 ⟨hz'.1, by have := hz'.2.2.1; simp [hz'.2.1, hz'.2.2.2]; omega⟩)⟩
  intro l
  induction l with
  | nil => exact .inl rfl
  | cons a l ih =>
    rcases ih with e | ⟨y, hy, hz⟩
    · subst e
      exact .inr ⟨a, List.mem_cons_self .., fun z hz => by
        rcases List.mem_cons.1 hz with e | hz
        · rw [e]; exact Nat.le_refl _
        · cases hz⟩
    · by_cases c : a.b ≤ y.b
      · exact .inr ⟨a, List.mem_cons_self .., fun z hz' => by
          rcases List.mem_cons.1 hz' with e | hz'
          · rw [e]; exact Nat.le_refl _
          · exact Nat.le_trans c (hz z hz')⟩
      · exact .inr ⟨y, List.mem_cons_of_mem _ hy, fun z hz' => by
          rcases List.mem_cons.1 hz' with e | hz'
          · rw [e]; omega
          · exact hz z hz'⟩
def takeB (p : Nat) (y : Bk) : Bk := { y with u := y.u.set (fi y.u) true, h := (p : Int) }
def cellAt (y : Bk) : Int := ((y.b * 64 + fi y.u * y.wd : Nat) : Int)
/-- A great cell's block. -/
def grtB (b k : Nat) : Bk := ⟨b, k, -1, k * 64, [true], -1⟩
theorem upd_upd {f g : Bk → Bk} (kf : Keeps f) (b : Nat) : upd (upd A b f) b g = upd A b (fun y => g (f y)) := by
  unfold upd
  rw [List.map_map]
  refine List.map_congr_left fun x _ => ?_
  show (if (if x.b = b then f x else x).b = b then g (if x.b = b then f x else x) else (if x.b = b then f x else x)) = _
  by_cases e : x.b = b
  · rw [if_pos e, if_pos e, kf.b, if_pos e]
  · rw [if_neg e, if_neg e, if_neg e]
theorem upd_last {f : Bk → Bk} {x : Bk} (hi : Inv n pr (A ++ [x])) : upd (A ++ [x]) x.b f = A ++ [f x] := by
  unfold upd
  rw [List.map_append]
  congr 1
  · rw [List.map_congr_left (g := id) fun y hy => ?_, List.map_id]
    rw [if_neg]
    · rfl
    · intro e
      have s1 := (List.pairwise_append.1 hi.apart).2.2 y hy x (List.mem_singleton.2 rfl)
      have s2 := hi.rng y (List.mem_append_left _ hy)
      have s3 := hi.rng x (List.mem_append_right _ (List.mem_singleton.2 rfl))
      omega
  · show [if x.b = x.b then f x else x] = _
    rw [if_pos rfl]

/-- What Alloc answers: the blocks behind it, the place, the error. -/
inductive Alo (n pr : Nat) (A : List Bk) (p m : Int) : List Bk → Int → Int → Prop where
  | arg : p < 0 ∨ (pr : Int) ≤ p ∨ m < 1 → Alo n pr A p m A 0 1
  | long : 0 ≤ p → p < pr → 1024 < m → Alo n pr A p m A 0 2
  | great (b k : Nat) : 0 ≤ p → p < pr → 64 < m → m ≤ 1024 → (k : Int) = (m + 63) / 64 → Row n A k b → Alo n pr A p m (A ++ [grtB b k]) ((b * 64 : Nat) : Int) 0
  | gfull (k : Nat) : 0 ≤ p → p < pr → 64 < m → m ≤ 1024 → (k : Int) = (m + 63) / 64 → NoRow n A k → Alo n pr A p m A 0 3
  | held (q k : Nat) (y : Bk) : p = (q : Int) → q < pr → 1 ≤ m → m ≤ 64 → k = cof m.toNat → y ∈ A → y.h = (q : Int) → y.c = (k : Int) → false ∈ y.u → Alo n pr A p m (upd A y.b useB) (cellAt y) 0
  | opn (q k : Nat) (y : Bk) : p = (q : Int) → q < pr → 1 ≤ m → m ≤ 64 → k = cof m.toNat → NoHeld A q k → Least (unh A q k) k y → Alo n pr A p m (upd (unh A q k) y.b (takeB q)) (cellAt y) 0
  | new (q k b : Nat) : p = (q : Int) → q < pr → 1 ≤ m → m ≤ 64 → k = cof m.toNat → NoHeld A q k → NoOpn (unh A q k) k → Row n A (cpg k) b → Alo n pr A p m (unh A q k ++ [takeB q (newB k b)]) ((b * 64 : Nat) : Int) 0
  | full (q k : Nat) : p = (q : Int) → q < pr → 1 ≤ m → m ≤ 64 → k = cof m.toNat → NoHeld A q k → NoOpn (unh A q k) k → NoRow n A (cpg k) → Alo n pr A p m (unh A q k) 0 3
theorem Alo.ex (_ : Inv n pr A) (p m : Int) : ∃ A' at_ r, Alo n pr A p m A' at_ r := by
  by_cases h1 : p < 0 ∨ (pr : Int) ≤ p ∨ m < 1
  · exact ⟨_, _, _, .arg h1⟩
  · by_cases h2 : 1024 < m
    · exact ⟨_, _, _, .long (by omega) (by omega) h2⟩
    · by_cases h3 : 64 < m
      · obtain ⟨k, hk⟩ : ∃ k : Nat, (k : Int) = (m + 63) / 64 := ⟨((m + 63) / 64).toNat, by omega⟩
        rcases row_ex n A k (by omega) with ⟨b, hb⟩ | hn
        · exact ⟨_, _, _, .great b k (by omega) (by omega) h3 (by omega) hk hb⟩
        · exact ⟨_, _, _, .gfull k (by omega) (by omega) h3 (by omega) hk hn⟩
      · obtain ⟨q, rfl⟩ : ∃ q : Nat, p = (q : Int) := ⟨p.toNat, by omega⟩
        obtain ⟨c1, _⟩ := cof_ok m.toNat (by omega) (by omega)
        by_cases e : ∃ y ∈ A, y.h = (q : Int) ∧ y.c = (cof m.toNat : Int) ∧ false ∈ y.u
        · obtain ⟨y, hy, e1, e2, e3⟩ := e
          exact ⟨_, _, _, .held q _ y rfl (by omega) (by omega) (by omega) rfl hy e1 e2 e3⟩
        · have hno : NoHeld A q (cof m.toNat) := fun z hz e1 e2 e3 => e ⟨z, hz, e1, e2, e3⟩
          rcases least_ex (unh A q (cof m.toNat)) (cof m.toNat) with ⟨y, hy⟩ | hn
          · exact ⟨_, _, _, .opn q _ y rfl (by omega) (by omega) (by omega) rfl hno hy⟩
          · obtain ⟨_, _, k3, _⟩ := cw_ok _ c1
            rcases row_ex n A (cpg (cof m.toNat)) k3 with ⟨b, hb⟩ | hnr
            · exact ⟨_, _, _, .new q _ b rfl (by omega) (by omega) (by omega) rfl hno hn hb⟩
            · exact ⟨_, _, _, .full q _ rfl (by omega) (by omega) (by omega) rfl hno hn hnr⟩
end Go.Proofs.YtiboobaggpghjaaDoor
