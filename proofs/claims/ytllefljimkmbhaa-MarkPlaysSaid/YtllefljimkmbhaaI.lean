/- Contracts of mark: Root, Set. -/
import Derived.Test.YtllefljimkmbhaaH
namespace Go.Proofs.Ytllefljimkmbhaa
open Go.ChangeShapes Go.WideShapes Go.ChangeAt Go.RowKit
variable {w w' w1 w2 W W' : World} {F S : Nat → Prop} {bg : Nat} {vo vr vq : Value} {q f T : Nat → Nat} {g g' : Gr} {lv : Int} {rt rt' : Nat → Int} {K : Nat → Prop}

/-- What Get answers. -/
theorem get_cases (hi : Inv g K) (id i : Int) : (∃ e, g.get id i = (0, e) ∧ (e = 1 ∨ e = 4)) ∨ (∃ a b : Nat, id = a ∧ i = b ∧ a ∈ g.roots ∧ b < (g.fs a).length ∧ g.get id i = ((((g.fs a).getD b 0 : Nat) : Int), 0) ∧ ((g.fs a).getD b 0 = 0 ∨ (K ((g.fs a).getD b 0) ∧ 1 ≤ (g.fs a).getD b 0 ∧ (g.fs a).getD b 0 ≤ g.n))) := by
  unfold Gr.get
  by_cases c : g.isRoot id = true
  · obtain ⟨i0, hr⟩ := (isRoot_iff id).1 c
    rw [if_pos c]
    by_cases d : i < 0 ∨ ((g.fs id.toNat).length : Int) ≤ i
    · rw [if_pos d]; exact .inl ⟨1, rfl, .inl rfl⟩
    · rw [if_neg d]
      refine .inr ⟨id.toNat, i.toNat, by omega, by omega, hr, by omega, rfl, ?_⟩
      have hl : i.toNat < (g.fs id.toNat).length := by omega
      by_cases z : (g.fs id.toNat).getD i.toNat 0 = 0
      · exact .inl z
      · right
        have hm : (g.fs id.toNat).getD i.toNat 0 ∈ g.fs id.toNat := by
          have e : (g.fs id.toNat).getD i.toNat 0 = (g.fs id.toNat)[i.toNat] := by simp [hl]
          rw [e]; exact List.getElem_mem hl
        obtain ⟨a, b, d⟩ := hi.kroot _ hr
        have := hi.kfs _ a d _ hm z
        exact ⟨this.1, by omega, this.2⟩
  · rw [if_neg c]; exact .inl ⟨4, rfl, .inr rfl⟩
set_option maxRecDepth 100000 in
theorem root_in (h : Pm W F bg vo vr vq q f T g g.live (cntI g.roots)) (hi : Inv g K) (id i : Int) (V : Nat) (hg : g.get id i = ((V : Int), 0)) (hk : K V) (h1 : 1 ≤ V) (hn : V ≤ g.n) (hr : g.roots.length < 4096) :
    Calls Try.prog 16 #[.pointer (some ⟨bg, 0, none⟩), .int .i64 id, .int .i64 i] W fun e W' => e = .returned (.int .i64 0) ∧ Goes (PgA bg ((g.lay V).shade V)) W W' F := by
  have hz : g.col V ≠ 0 := hi.kin _ hk h1 hn
  have CG := Lib.hid (get_any h hi.rk id i)
  rw [hg] at CG
  replace CG : Hid (Calls Try.prog 24 #[.pointer (some ⟨bg, 0, none⟩), .int .i64 id, .int .i64 i] W fun e W' => e = .returned (.tuple #[.int .i64 (V : Int), .int .i64 0]) ∧ W = W') := CG
  have hb := cnt_bound g.roots V
  have CL := Lib.hid (lay_any h V hz (by omega) hb.1 (by omega))
  have HX : Hid (∀ w1, Shd W w1 F bg vo q f (g.lay V) g.live (up (cntI g.roots) V (cntI g.roots V + 1)) → Calls Try.prog 36 #[.pointer (some ⟨bg, 0, none⟩), .int .i64 (V : Int)] w1 fun e w2 => e = .returned (.tuple #[]) ∧ Goes (PgA bg ((g.lay V).shade V)) W w2 F) := Lib.hid fun w1 hS => by
    have hS' := hS
    obtain ⟨F1, vr1, vq1, T1, p1, d1, n1⟩ := hS'
    refine (shade_any p1 V (.inr hz) (by have := hi.greys_le; show g.greys.length < 4200; omega)).mono fun e w2 ⟨he, hT⟩ => ⟨he, ?_⟩
    obtain ⟨F2, vr2, vq2, T2, p2, d2, n2⟩ := hT
    have hs : Shd W w2 F bg vo q f ((g.lay V).shade V) g.live (up (cntI g.roots) V (cntI g.roots V + 1)) := ⟨F2, vr2, vq2, T2, p2, d1.over d2 n1, fun i hi => by
      rcases n2 i hi with k | k
      · exact n1 i k
      · exact .inr (Nat.le_trans d1.size k)⟩
    exact hs.pg ((hi.lay hk h1 hn hr).shade (.inr hk)) (by rw [shade_live]; rfl) (by rw [shade_roots]; exact (cnt_lay V).symm)
  obtain ⟨aq, capq, er, hq1, hq2, _⟩ := h.lrs.ints
  obtain ⟨_, _, _, _, c4, _⟩ := h.facts
  subst er
  have k1 : ((V : Int) == 0) = false := by simp; omega
  have k2 : ¬ (4096 ≤ g.roots.length) := by omega
  clear h hi hg hk hz hb hn hr
  go_enter Try.func16, Try.ntmps16
  go_wp2_with (first
    | (go_at_call 24; ((with_reducible refine (CG.out).mono ?_); rintro e w1 ⟨rfl, rfl⟩))
    | (go_at_call 35; ((with_reducible refine (CL.out).mono ?_); rintro e w1 ⟨rfl, hS⟩; have CS := Lib.hid (HX.out _ hS); clear hS))
    | (go_at_call 36; ((with_reducible refine (CS.out).mono ?_); rintro e w1 ⟨rfl, hS⟩; have HG := Lib.hid hS; clear hS)))
  go_returns
  exact ⟨rfl, HG.out⟩
set_option maxRecDepth 100000 in
theorem root_bad (h : Pm W F bg vo vr vq q f T g g.live (cntI g.roots)) (hi : Inv g K) (id i V E : Int) (hg : g.get id i = (V, E)) (R : Int) (hR : (E ≠ 0 ∧ R = E) ∨ (E = 0 ∧ V = 0 ∧ R = 4) ∨ (E = 0 ∧ V ≠ 0 ∧ 4096 ≤ g.roots.length ∧ R = 3)) :
    Calls Try.prog 16 #[.pointer (some ⟨bg, 0, none⟩), .int .i64 id, .int .i64 i] W fun e W' => e = .returned (.int .i64 R) ∧ W = W' := by
  have CG := Lib.hid (get_any h hi.rk id i)
  rw [hg] at CG
  replace CG : Hid (Calls Try.prog 24 #[.pointer (some ⟨bg, 0, none⟩), .int .i64 id, .int .i64 i] W fun e W' => e = .returned (.tuple #[.int .i64 V, .int .i64 E]) ∧ W = W') := CG
  obtain ⟨aq, capq, er, hq1, hq2, _⟩ := h.lrs.ints
  obtain ⟨_, _, _, _, c4, _⟩ := h.facts
  subst er
  clear h hi hg
  rcases hR with ⟨a, rfl⟩ | ⟨rfl, rfl, rfl⟩ | ⟨rfl, a, b, rfl⟩
  · have k1 : (R == 0) = false := by simp; exact a
    clear a
    go_enter Try.func16, Try.ntmps16
    go_wp2_with (go_at_call 24; ((with_reducible refine (CG.out).mono ?_); rintro e w1 ⟨rfl, rfl⟩))
    go_returns
    exact ⟨rfl, rfl⟩
  · go_enter Try.func16, Try.ntmps16
    go_wp2_with (go_at_call 24; ((with_reducible refine (CG.out).mono ?_); rintro e w1 ⟨rfl, rfl⟩))
    go_returns
    exact ⟨rfl, rfl⟩
  · have k1 : (V == 0) = false := by simp; exact a
    clear a
    go_enter Try.func16, Try.ntmps16
    go_wp2_with (go_at_call 24; ((with_reducible refine (CG.out).mono ?_); rintro e w1 ⟨rfl, rfl⟩))
    go_returns
    exact ⟨rfl, rfl⟩
theorem root_any (h : PgA bg g W F) (id i : Int) : Calls Try.prog 16 #[.pointer (some ⟨bg, 0, none⟩), .int .i64 id, .int .i64 i] W fun e W' => e = .returned (.int .i64 (g.rootR id i).1) ∧ Goes (PgA bg (g.rootR id i).2) W W' F := by
  have h0 := h
  obtain ⟨K, vo, vr, vq, q, f, T, hi, h⟩ := h.open
  unfold Gr.rootR
  have same : ∀ R, (∀ V E, g.get id i = (V, E) → (E ≠ 0 ∧ R = E) ∨ (E = 0 ∧ V = 0 ∧ R = 4) ∨ (E = 0 ∧ V ≠ 0 ∧ 4096 ≤ g.roots.length ∧ R = 3)) → Calls Try.prog 16 #[.pointer (some ⟨bg, 0, none⟩), .int .i64 id, .int .i64 i] W fun e W' => e = .returned (.int .i64 R) ∧ Goes (PgA bg g) W W' F := fun R hR =>
    (root_bad h hi id i _ _ rfl R (hR _ _ rfl)).mono fun _ _ ⟨a, b⟩ => ⟨a, b ▸ .refl h0⟩
  rcases get_cases hi id i with ⟨e, hg, he⟩ | ⟨a, b, rfl, rfl, ha, hb, hg, hv⟩
  · rw [hg, if_neg (by show ¬ e = 0; omega)]
    exact same e fun V E k => by rw [hg] at k; cases k; exact .inl ⟨by omega, rfl⟩
  · rw [hg, if_pos rfl]
    by_cases z : (((g.fs a).getD b 0 : Nat) : Int) = 0
    · rw [if_pos z]
      exact same 4 fun V E k => by rw [hg] at k; cases k; exact .inr (.inl ⟨rfl, z, rfl⟩)
    · rw [if_neg z]
      by_cases r : 4096 ≤ g.roots.length
      · rw [if_pos r]
        exact same 3 fun V E k => by rw [hg] at k; cases k; exact .inr (.inr ⟨rfl, z, r, rfl⟩)
      · rw [if_neg r]
        have hv := hv.resolve_left (by omega)
        exact root_in h hi _ _ _ hg hv.1 hv.2.1 hv.2.2 (by omega)
theorem root_nil (a b : Int) (W : World) : Calls Try.prog 16 #[.pointer none, .int .i64 a, .int .i64 b] W fun e W' => e = .returned (.int .i64 5) ∧ W = W' := by
  have CG := Lib.hid (get_none a b W)
  replace CG : Hid (Calls Try.prog 24 #[.pointer none, .int .i64 a, .int .i64 b] W fun e W' => e = .returned (.tuple #[.int .i64 0, .int .i64 5]) ∧ W = W') := CG
  go_enter Try.func16, Try.ntmps16
  go_wp2_with (go_at_call 24; ((with_reducible refine (CG.out).mono ?_); rintro e w1 ⟨rfl, rfl⟩))
  go_returns
  exact ⟨rfl, rfl⟩
/-! ### Set -/
theorem set_nil (a b c : Int) (W : World) : Calls Try.prog 18 #[.pointer none, .int .i64 a, .int .i64 b, .int .i64 c] W fun e W' => e = .returned (.int .i64 5) ∧ W = W' := by
  go_enter Try.func18, Try.ntmps18
  go_wp2
  go_returns
  exact ⟨rfl, rfl⟩
/-- What root answers to 'to', if it is asked. -/
theorem set_noto (h : Pm W F bg vo vr vq q f T g lv rt) (k : Rk g rt) (id i t : Int) (h0 : t ≠ 0) (ht : g.isRoot t = false) :
    Calls Try.prog 18 #[.pointer (some ⟨bg, 0, none⟩), .int .i64 id, .int .i64 i, .int .i64 t] W fun e W' => e = .returned (.int .i64 4) ∧ W = W' := by
  have CR := Lib.hid (root_none h k t ht)
  have k1 : (t == 0) = false := by simp; exact h0
  have k3 : (t != 0) = true := by simp; exact h0
  clear h k h0
  go_enter Try.func18, Try.ntmps18
  go_wp2_with (go_at_call 39; ((with_reducible refine (CR.out).mono ?_); rintro e w1 ⟨rfl, rfl⟩))
  go_returns
  exact ⟨rfl, rfl⟩
theorem set_bad (h : Pm W F bg vo vr vq q f T g lv rt) (k : Rk g rt) (id i : Int) (t : Nat) (ht : t = 0 ∨ t ∈ g.roots) (E : Int) (hE : E ≠ 0) (CF : Hid (Calls Try.prog 40 #[.pointer (some ⟨bg, 0, none⟩), .int .i64 id, .int .i64 i] W fun e W' => e = .returned (.tuple #[.pointer none, .int .i64 E]) ∧ W = W')) :
    Calls Try.prog 18 #[.pointer (some ⟨bg, 0, none⟩), .int .i64 id, .int .i64 i, .int .i64 (t : Int)] W fun e W' => e = .returned (.int .i64 E) ∧ W = W' := by
  have k2 : (E == 0) = false := by simp; exact hE
  clear hE
  by_cases h0 : t = 0
  · subst h0
    clear h k ht
    go_enter Try.func18, Try.ntmps18
    go_wp2_with (go_at_call 40; ((with_reducible refine (CF.out).mono ?_); rintro e w1 ⟨rfl, rfl⟩))
    go_returns
    exact ⟨rfl, rfl⟩
  · have CR := Lib.hid (root_some h k t (ht.resolve_left h0))
    have k1 : ((t : Int) == 0) = false := by simp; exact h0
    have k3 : ((t : Int) != 0) = true := by simp; exact h0
    clear h k ht h0
    go_enter Try.func18, Try.ntmps18
    go_wp2_with (first
      | (go_at_call 39; ((with_reducible refine (CR.out).mono ?_); rintro e w1 ⟨rfl, rfl⟩))
      | (go_at_call 40; ((with_reducible refine (CF.out).mono ?_); rintro e w1 ⟨rfl, rfl⟩)))
    go_returns
    exact ⟨rfl, rfl⟩
theorem set_in (h : Pm W F bg vo vr vq q f T g g.live (cntI g.roots)) (hi : Inv g K) (id i t : Nat) (hr : id ∈ g.roots) (hf : i < (g.fs id).length) (ht : t = 0 ∨ t ∈ g.roots) :
    Calls Try.prog 18 #[.pointer (some ⟨bg, 0, none⟩), .int .i64 (id : Int), .int .i64 (i : Int), .int .i64 (t : Int)] W fun e W' => e = .returned (.int .i64 0) ∧ Goes (PgA bg (g.set id i t)) W W' F := by
  have hk := hi.rk
  have CF := Lib.hid (find_in h hk id i hr hf)
  have hz := hk.here id hr
  have y := (h.fc hz hf).1
  have hI := hi.set hr hf ht
  unfold Gr.set at hI ⊢
  obtain ⟨V, hV⟩ : ∃ V, V = (g.fs id).getD i 0 := ⟨_, rfl⟩
  have hold : V = 0 ∨ (K V ∧ g.col V ≠ 0) := by
    by_cases z : V = 0
    · exact .inl z
    · right
      have hm : V ∈ g.fs id := by rw [hV]; have e : (g.fs id).getD i 0 = (g.fs id)[i] := by simp [hf]
                                  rw [e]; exact List.getElem_mem hf
      obtain ⟨a, b, d⟩ := hi.kroot _ hr
      have := hi.kfs _ a d _ hm z
      exact ⟨this.1, hi.kin _ this.1 (by omega) this.2⟩
  rw [← hV] at y hI ⊢
  have hgl := hi.greys_le
  have CS := Lib.hid (shade_any h V (hold.imp _root_.id fun x => x.2) (by omega))
  have HX : Hid (∀ w1, Shd W w1 F bg vo q f (g.shade V) g.live (cntI g.roots) → Calls Try.prog 36 #[.pointer (some ⟨bg, 0, none⟩), .int .i64 (t : Int)] w1 fun e w2 => e = .returned (.tuple #[]) ∧ (∃ v, w2.cell? ⟨f id, i, none⟩ = some v) ∧ w2.frozen? ⟨f id, i, none⟩ = false ∧ Goes (PgA bg (((g.shade V).shade t).write id i t)) W (w2.setCell ⟨f id, i, none⟩ (.int .i64 (t : Int))) F) := Lib.hid fun w1 hS => by
    obtain ⟨F1, vr1, vq1, T1, p1, d1, n1⟩ := hS
    have hi1 := hi.shade (id := V) (hold.imp _root_.id fun x => x.1)
    refine (shade_any p1 t (ht.imp _root_.id fun x z => hk.here t x ((shade_zero_iff _ _).1 z)) (by have := hi1.greys_le; omega)).mono fun e w2 ⟨he, hT⟩ => ⟨he, ?_⟩
    obtain ⟨F2, vr2, vq2, T2, p2, d2, n2⟩ := hT
    have hz2 : ((g.shade V).shade t).col id ≠ 0 := fun z => hz ((shade_zero_iff _ _).1 ((shade_zero_iff _ _).1 z))
    have hf2 : i < (((g.shade V).shade t).fs id).length := by rw [shade_fs, shade_fs]; exact hf
    obtain ⟨x1, x2⟩ := p2.fc hz2 hf2
    obtain ⟨p3, d3⟩ := p2.fill (t := t) hz2 hf2
    refine ⟨⟨_, x1⟩, x2, F2, ⟨⟨K, hI⟩, vo, vr2, vq2, q, f, T2, ?_⟩, (d1.over d2 n1).over d3 fun i hi => ?_, fun i hi => ?_⟩
    · have e1 : (g.live : Int) = ((((g.shade V).shade t).write id i t).live : Int) := by show _ = (((g.shade V).shade t).live : Int); rw [shade_live, shade_live]
      have e2 : cntI g.roots = cntI (((g.shade V).shade t).write id i t).roots := by show _ = cntI ((g.shade V).shade t).roots; rw [shade_roots, shade_roots]
      rw [e1, e2] at p3
      exact p3
    · rcases n2 i hi with k | k
      · exact n1 i k
      · exact .inr (Nat.le_trans d1.size k)
    · rcases n2 i hi with k | k
      · exact n1 i k
      · exact .inr (Nat.le_trans d1.size k)
  have CR : Hid (t ≠ 0 → Calls Try.prog 39 #[.pointer (some ⟨bg, 0, none⟩), .int .i64 (t : Int)] W fun e W' => e = .returned (.pointer (some ⟨q t, 0, none⟩)) ∧ W = W') := Lib.hid fun h0 => root_some h hk t (ht.resolve_left h0)
  generalize f id = B at *
  generalize q t = Qt at *
  have ht0 : t = 0 ↔ (t : Int) = 0 := by omega
  generalize ((((g.shade V).shade t).write id i t)) = G at *
  generalize hτ : (t : Int) = τ at *
  clear h hi hk hz hI hold hV hr hf ht hgl
  by_cases h0 : τ = 0
  · subst h0
    clear CR ht0 hτ
    go_enter Try.func18, Try.ntmps18
    go_wp2_with (first
      | (go_at_call 40; ((with_reducible refine (CF.out).mono ?_); rintro e w1 ⟨rfl, rfl⟩))
      | (go_at_call 36; ((with_reducible refine (CS.out).mono ?_); rintro e w1 ⟨rfl, hS⟩; have C2 := Lib.hid (HX.out _ hS); clear hS))
      | (go_at_call 36; ((with_reducible refine (C2.out).mono ?_); rintro e w2 ⟨rfl, ⟨v, x1⟩, x2, hG⟩; have HG := Lib.hid hG; clear hG)))
    go_returns
    exact ⟨rfl, HG.out⟩
  · replace CR := Lib.hid (CR.out fun c => h0 (ht0.1 c))
    have k1 : (τ == 0) = false := by simp; exact h0
    have k3 : (τ != 0) = true := by simp; exact h0
    clear h0 ht0 hτ
    go_enter Try.func18, Try.ntmps18
    go_wp2_with (first
      | (go_at_call 39; ((with_reducible refine (CR.out).mono ?_); rintro e w1 ⟨rfl, rfl⟩))
      | (go_at_call 40; ((with_reducible refine (CF.out).mono ?_); rintro e w1 ⟨rfl, rfl⟩))
      | (go_at_call 36; ((with_reducible refine (CS.out).mono ?_); rintro e w1 ⟨rfl, hS⟩; have C2 := Lib.hid (HX.out _ hS); clear hS))
      | (go_at_call 36; ((with_reducible refine (C2.out).mono ?_); rintro e w2 ⟨rfl, ⟨v, x1⟩, x2, hG⟩; have HG := Lib.hid hG; clear hG)))
    go_returns
    exact ⟨rfl, HG.out⟩
theorem set_any (h : PgA bg g W F) (id i t : Int) : Calls Try.prog 18 #[.pointer (some ⟨bg, 0, none⟩), .int .i64 id, .int .i64 i, .int .i64 t] W fun e W' => e = .returned (.int .i64 (g.setR id i t).1) ∧ Goes (PgA bg (g.setR id i t).2) W W' F := by
  have h0 := h
  obtain ⟨K, vo, vr, vq, q, f, T, hi, h⟩ := h.open
  have hk := hi.rk
  unfold Gr.setR
  by_cases c : t = 0 ∨ g.isRoot t = true
  · obtain ⟨tn, rfl, ht⟩ : ∃ tn : Nat, t = tn ∧ (tn = 0 ∨ tn ∈ g.roots) := by
      rcases c with c | c
      · exact ⟨0, c, .inl rfl⟩
      · obtain ⟨a, b⟩ := (isRoot_iff t).1 c
        exact ⟨t.toNat, by omega, .inr b⟩
    by_cases d : g.isRoot id = true
    · rw [if_pos ⟨d, c⟩]
      obtain ⟨a, b⟩ := (isRoot_iff id).1 d
      obtain ⟨j, rfl⟩ : ∃ j : Nat, id = j := ⟨id.toNat, by omega⟩
      rw [Int.toNat_natCast] at b ⊢
      by_cases e : i < 0 ∨ ((g.fs j).length : Int) ≤ i
      · rw [if_pos e]
        exact (set_bad h hk j i tn ht 1 (by decide) (Lib.hid (find_out h hk j i b e))).mono fun _ _ ⟨a, b⟩ => ⟨a, b ▸ .refl h0⟩
      · rw [if_neg e]
        obtain ⟨x, rfl⟩ : ∃ x : Nat, i = x := ⟨i.toNat, by omega⟩
        rw [Int.toNat_natCast, Int.toNat_natCast]
        exact set_in h hi j x tn b (by omega) ht
    · rw [if_neg (fun x => d x.1)]
      exact (set_bad h hk id i tn ht 4 (by decide) (Lib.hid (find_bad h hk id i (by simpa using d)))).mono fun _ _ ⟨a, b⟩ => ⟨a, b ▸ .refl h0⟩
  · rw [if_neg (fun x => c x.2)]
    exact (set_noto h hk id i t (fun z => c (.inl z)) (by have := fun z => c (.inr z); simpa using this)).mono fun _ _ ⟨a, b⟩ => ⟨a, b ▸ .refl h0⟩
end Go.Proofs.Ytllefljimkmbhaa
