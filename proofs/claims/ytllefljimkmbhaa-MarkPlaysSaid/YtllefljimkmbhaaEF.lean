/- The document's Root. -/
import Derived.Test.YtllefljimkmbhaaEE
namespace Go.Proofs.Ytllefljimkmbhaa
open Go.ChangeShapes Go.WideShapes Go.ChangeAt Go.RowKit
variable {w w' w1 W W' : World} {F S : Nat → Prop} {bd : Nat} {vo vr vq : Value} {f T : Nat → Nat} {g g' : Gr} {sw : Int} {K : Nat → Prop}

theorem lay_shade (t : Nat) : (g.shade t).lay t = (g.lay t).shade t := by
  unfold Gr.lay Gr.shade
  dsimp only
  split <;> rfl
/-- What a list of roots takes. -/
theorem dlay_kit (h : Goes (DmA bd g) W w1 F) (t : Nat) : ∃ (ar : Option Addr) (cr : Nat), w1.cell? ⟨bd, 1, none⟩ = some (.slice ar g.roots.length cr) ∧ bd < w1.heap.size ∧ Lies inE (w1.alloc (.cells #[.int .i64 (t : Int)] 3)) (.slice ar g.roots.length cr) g.roots ∧
    ∀ w3 b' o' cap', App inE (w1.alloc (.cells #[.int .i64 (t : Int)] 3)) w3 (.slice ar g.roots.length cr) g.roots [t] b' o' cap' →
      w3.cell? ⟨bd, 1, none⟩ = some (.slice ar g.roots.length cr) ∧ w3.frozen? ⟨bd, 1, none⟩ = false ∧ Goes (DmA bd (g.lay t)) W (w3.setCell ⟨bd, 1, none⟩ (.slice (some ⟨b', o', none⟩) (g.roots.length + 1) cap')) F := by
  have h' := h
  obtain ⟨F1, ⟨vo, vr, vq, f, T, sw, d⟩, c, n⟩ := h
  obtain ⟨ar, cr, er, _, _, _⟩ := d.lr.ints
  subst er
  obtain ⟨_, x1, _⟩ := d.facts
  refine ⟨ar, cr, x1, d.old _ d.tg.2, d.lr.same ((Cha.refl (fun _ => False) _).alloc _), fun w3 b' o' cap' hA => ?_⟩
  have h6 := d.same ((Cha.refl (fun _ => False) _).alloc (.cells #[.int .i64 (t : Int)] 3))
  have hv := hA.v
  obtain ⟨F', T', r1, r2, r3⟩ := h6.onRoots hv.lies hv.cha hv.at'
  have e3 : w3.heap[bd]? = _ := (hA.cha.old bd (h6.old _ h6.tg.2) (fun e => (h6.br e).1 rfl)).trans h6.head
  refine ⟨cell_of_row w3 bd 1 _ 52 (0, 0) e3, frozen_of_row w3 bd 1 _ 52 e3, ?_⟩
  have c2 : Cha F1 w1 (w3.setCell ⟨bd, 1, none⟩ (.slice (some ⟨b', o', none⟩) (g.roots.length + 1) cap')) := ((Cha.refl F1 w1).alloc _).trans r2
  have hs : w1.heap.size ≤ (w1.alloc (.cells #[.int .i64 (t : Int)] 3)).heap.size := ((Cha.refl F1 w1).alloc _).size
  refine ⟨F', r1.a, c.over c2 n, fun i hi => ?_⟩
  rcases r3 i hi with e | e
  · exact n i e
  · exact .inr (Nat.le_trans c.size (Nat.le_trans hs e))
set_option maxRecDepth 100000 in
set_option maxHeartbeats 4000000 in
theorem drootR_any (h : Dm W F bd vo vr vq f T g sw) (hi : Inv g K) (id i : Int) : Calls Try.prog 17 #[.pointer (some ⟨bd, 0, none⟩), .int .i64 id, .int .i64 i] W fun e W' => e = .returned (.int .i64 (g.rootR id i).1) ∧ Goes (DmA bd (g.rootR id i).2) W W' F := by
  have C25 := Lib.hid (dget_any h hi id i)
  have HG0 := Lib.hid h.goes0
  obtain ⟨_, x1, _⟩ := h.facts
  obtain ⟨ar, cr, er, _, _, _⟩ := h.lr.ints
  subst er
  have hn : 0 ≤ (g.get id i).1 ∧ (g.get id i).1 ≤ g.n := by
    unfold Gr.get
    split
    · split
      · exact ⟨by decide, by omega⟩
      · rename_i hr hb
        have hb2 : i.toNat < (g.fs id.toNat).length := by omega
        have e : (g.fs id.toNat).getD i.toNat 0 = (g.fs id.toNat)[i.toNat] := by simp [hb2]
        have := hi.ft id.toNat _ (List.getElem_mem hb2)
        refine ⟨by omega, ?_⟩
        rw [e]; omega
    · exact ⟨by decide, by omega⟩
  unfold Gr.rootR
  obtain ⟨p, hp⟩ : ∃ p, g.get id i = p := ⟨_, rfl⟩
  rw [hp] at C25 hn ⊢
  obtain ⟨a, e⟩ := p
  replace hn : 0 ≤ a ∧ a ≤ (g.n : Int) := hn
  replace C25 : Hid (Calls Try.prog 25 #[.pointer (some ⟨bd, 0, none⟩), .int .i64 id, .int .i64 i] W fun e' W' => e' = .returned (.tuple #[.int .i64 a, .int .i64 e]) ∧ W' = W) := C25
  dsimp only
  by_cases he : e = 0
  · subst he
    rw [if_pos rfl]
    by_cases ha : a = 0
    · subst ha
      rw [if_pos rfl]
      clear h hi hp
      go_enter Try.func17, Try.ntmps17
      go_wp2_with (go_at_call 25; ((with_reducible refine (C25.out).mono ?_); rintro e w2 ⟨rfl, rfl⟩))
      go_returns
      exact ⟨rfl, HG0.out⟩
    · rw [if_neg ha]
      obtain ⟨t, rfl⟩ : ∃ t : Nat, a = t := ⟨a.toNat, by omega⟩
      have ha2 : ((t : Int) == 0) = false := by simpa using ha
      by_cases hf : 4096 ≤ g.roots.length
      · rw [if_pos hf]
        have hf2 : (4096 : Int) ≤ (g.roots.length : Int) := by omega
        clear h hi hp
        go_enter Try.func17, Try.ntmps17
        go_wp2_with (go_at_call 25; ((with_reducible refine (C25.out).mono ?_); rintro e w2 ⟨rfl, rfl⟩))
        go_returns
        exact ⟨rfl, HG0.out⟩
      · rw [if_neg hf, Int.toNat_natCast, ← lay_shade]
        have hf2 : ¬ (4096 : Int) ≤ (g.roots.length : Int) := by omega
        have er : (g.shade t).roots = g.roots := shade_roots t
        have C38 : Hid (Calls Try.prog 38 #[.pointer (some ⟨bd, 0, none⟩), .int .i64 (t : Int)] W fun e w1 => e = .returned (.tuple #[]) ∧ ∃ (ar : Option Addr) (cr : Nat), w1.cell? ⟨bd, 1, none⟩ = some (.slice ar g.roots.length cr) ∧ bd < w1.heap.size ∧ Lies inE (w1.alloc (.cells #[.int .i64 (t : Int)] 3)) (.slice ar g.roots.length cr) g.roots ∧
            ∀ w3 b' o' cap', App inE (w1.alloc (.cells #[.int .i64 (t : Int)] 3)) w3 (.slice ar g.roots.length cr) g.roots [t] b' o' cap' →
              w3.cell? ⟨bd, 1, none⟩ = some (.slice ar g.roots.length cr) ∧ w3.frozen? ⟨bd, 1, none⟩ = false ∧ Goes (DmA bd ((g.shade t).lay t)) W (w3.setCell ⟨bd, 1, none⟩ (.slice (some ⟨b', o', none⟩) (g.roots.length + 1) cap')) F) := Lib.hid ((dshade_any h t (by omega) hi.n4 (by have := hi.greys_le; omega)).mono fun e w1 ⟨a, b⟩ => ⟨a, by have := dlay_kit b t; rwa [er] at this⟩)
        have B1 : Hid (g.roots.length + [t].length ≤ maxLen) := Lib.hid (by unfold maxLen; simp only [List.length_singleton]; omega)
        have B2 : Hid ((g.roots.length + [t].length) * inE.b ≤ 140737488355328) := Lib.hid (by show _ * 8 ≤ _; simp only [List.length_singleton]; omega)
        clear h hi hp er
        generalize (g.shade t).lay t = gg at *
        generalize g.roots = R at *
        go_enter Try.func17, Try.ntmps17
        go_wp2_with (first
          | (go_at_call 25; ((with_reducible refine (C25.out).mono ?_); rintro e w2 ⟨rfl, rfl⟩))
          | (go_at_call 38; ((with_reducible refine (C38.out).mono ?_); rintro e w5 ⟨rfl, a5, c5, y1, y2, y3, y4⟩; have HL := Lib.hid y3; have HS := Lib.hid y4; clear y3 y4))
          | (at_builtin; refine wpList_app inE_ok rfl (.tmp 34) (.tmp 36) rfl rfl HL.out ⟨w5.heap.size, 0, none⟩ 1 1 [t] rfl rfl (just_new inE w5 t 3) Nat.zero_lt_one B1.out B2.out ?_; intro g3 o3 cap3 w3 hA3; obtain ⟨k5, k6, kk⟩ := HS.out w3 _ _ _ hA3; have A3 := Lib.hid kk; clear kk hA3))
        go_returns
        exact ⟨rfl, A3.out⟩
  · rw [if_neg he]
    have he2 : (e == 0) = false := by simpa using he
    have he3 : (e != 0) = true := by simpa using he
    clear h hi hp
    go_enter Try.func17, Try.ntmps17
    go_wp2_with (go_at_call 25; ((with_reducible refine (C25.out).mono ?_); rintro e w2 ⟨rfl, rfl⟩))
    go_returns
    exact ⟨rfl, HG0.out⟩
end Go.Proofs.Ytllefljimkmbhaa
