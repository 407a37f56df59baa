/- Contracts of mark: Work, Roots. -/
import Derived.Test.YtllefljimkmbhaaO
namespace Go.Proofs.Ytllefljimkmbhaa
open Go.ChangeShapes Go.WideShapes Go.ChangeAt Go.RowKit
variable {w w' w1 w2 w3 W W' : World} {F S : Nat → Prop} {bg : Nat} {vo vr vq : Value} {q f T : Nat → Nat} {g g' : Gr} {lv : Int} {rt rt' : Nat → Int} {K : Nat → Prop}

theorem work_none (W : World) : Calls Try.prog 22 #[.pointer none] W fun e W' => e = .returned (.tuple #[.int .i64 0, .int .i64 5]) ∧ W = W' := by
  go_enter Try.func22, Try.ntmps22
  go_wp2
  go_returns
  exact ⟨rfl, rfl⟩
theorem work_any (h : PgA bg g W F) : Calls Try.prog 22 #[.pointer (some ⟨bg, 0, none⟩)] W fun e W' => e = .returned (pairV g.workR.1) ∧ Goes (PgA bg g.workR.2) W W' F := by
  have h0 := h
  obtain ⟨K, vo, vr, vq, q, f, T, hi, h⟩ := h.open
  obtain ⟨c0, _⟩ := h.facts
  have hp2 := hi.ph
  unfold Gr.workR
  by_cases k0 : g.ph = 0
  · rw [if_pos k0]
    rw [k0] at c0
    have HG := Lib.hid (Goes.refl h0)
    clear h hi k0 h0
    go_enter Try.func22, Try.ntmps22
    go_wp2
    go_returns
    exact ⟨rfl, HG.out⟩
  · rw [if_neg k0]
    by_cases k1 : g.ph = 1
    · rw [if_pos k1]
      have C := Lib.hid (mark_any h hi k1)
      rw [k1] at c0
      clear h hi k0 h0 k1
      go_enter Try.func22, Try.ntmps22
      go_wp2_with (go_at_call 42; ((with_reducible refine (C.out).mono ?_); rintro e w2 ⟨rfl, hG⟩; have HG := Lib.hid hG; clear hG))
      go_returns
      exact ⟨rfl, HG.out⟩
    · rw [if_neg k1]
      have k2 : g.ph = 2 := by omega
      have C := Lib.hid (sweep_any h hi k2)
      rw [k2] at c0
      clear h hi k0 h0 k1 k2
      generalize g.sweep = R at *
      go_enter Try.func22, Try.ntmps22
      go_wp2_with (go_at_call 43; ((with_reducible refine (C.out).mono ?_); rintro e w2 ⟨rfl, hG⟩; have HG := Lib.hid hG; clear hG))
      go_returns
      exact ⟨rfl, HG.out⟩
section
variable {v : Value} {ops : Array Oper} {rest : List Oper} {o : Oper} {a : Act} {K : Act → World → Prop} {Q : Exit → Act → World → Prop} {X : Prop}
theorem wpList_append_run {s : TypeId} (w : World) (hg : o.guard = none) (d x : Operand) (hop : o.op = Op.call { callee := Callee.builtin Builtin.append, args := #[d, x], argTypes := #[s, s] })
    (u z : Value) (hd : a.eval d = u) (hx : a.eval x = z) {v' : Value} {w' : World} (hr : (Builtin.append_ #[s, s] o.type #[u, z]).run Try.prog w = .ok v' w') (h : wpList Try.prog ops Q rest (a.put o.dst v') w') : wpList Try.prog ops Q (o :: rest) a w := by
  refine wpList_plain hg fun _ hK => ?_
  unfold Oper.wp execOp
  simp only [hop, resolve, invoke, builtin, Sem.run_bind, Sem.run_pure, Result.andThen_ok, List.map_toArray, List.map_cons, List.map_nil, hd, hx, hr]
  exact hK _ _ h
theorem step_append_run {s : TypeId} (w : World) (hg : o.guard = none) (d x : Operand) (hop : o.op = Op.call { callee := Callee.builtin Builtin.append, args := #[d, x], argTypes := #[s, s] })
    (u z : Value) (hd : a.eval d = u) (hx : a.eval x = z) {v' : Value} {w' : World} (hr : (Builtin.append_ #[s, s] o.type #[u, z]).run Try.prog w = .ok v' w') (hK : K (a.put o.dst v') w') :
    if Region.wanted o (yielded ops a.tmps) = true then Oper.wp Try.prog o a w K Q else X := by
  have hw : Region.wanted o (yielded ops a.tmps) = true := by simp [Region.wanted, hg]
  rw [if_pos hw]
  unfold Oper.wp execOp
  simp only [hop, resolve, invoke, builtin, Sem.run_bind, Sem.run_pure, Result.andThen_ok, List.map_toArray, List.map_cons, List.map_nil, hd, hx, hr]
  exact hK
/-- append of a list to a list. -/
theorem wpList_any {α : Type} {E : Enc α} (ok : E.Ok) (hgd : o.guard = none) (s x : Operand) (ho : o.op = .call { callee := .builtin .append, args := #[s, x], argTypes := #[E.s, E.s] }) {w : World} {v u : Value} {A N : List α} (hs : a.eval s = v) (hx : a.eval x = u)
    (h : Lies E w v A) (k : Lies E w u N) (b1 : A.length + N.length ≤ maxLen) (b2 : (A.length + N.length) * E.b ≤ 140737488355328) (hK : ∀ v' w', AppV E w w' v (A ++ N) v' → wpList Try.prog ops Q rest (a.put o.dst v') w') : wpList Try.prog ops Q (o :: rest) a w := by
  obtain ⟨v', w', hr, hA⟩ := run_any ok o.type h k b1 b2
  exact wpList_append_run w hgd s x ho v u hs hx hr (hK v' w' hA)
theorem step_any {α : Type} {E : Enc α} (ok : E.Ok) (hgd : o.guard = none) (s x : Operand) (ho : o.op = .call { callee := .builtin .append, args := #[s, x], argTypes := #[E.s, E.s] }) {w : World} {v u : Value} {A N : List α} (hs : a.eval s = v) (hx : a.eval x = u)
    (h : Lies E w v A) (k : Lies E w u N) (b1 : A.length + N.length ≤ maxLen) (b2 : (A.length + N.length) * E.b ≤ 140737488355328) (hK : ∀ v' w', AppV E w w' v (A ++ N) v' → K (a.put o.dst v') w') :
    if Region.wanted o (yielded ops a.tmps) = true then Oper.wp Try.prog o a w K Q else X := by
  obtain ⟨v', w', hr, hA⟩ := run_any ok o.type h k b1 b2
  exact step_append_run w hgd s x ho v u hs hx hr (hK v' w' hA)
end
/-- A list of numbers that was just made. -/
def Fresh (W W' : World) (v : Value) (L : List Nat) : Prop := Lies inE W' v L ∧ Cha (fun _ => False) W W' ∧ ∀ b, v.ownBlock = some b → W.heap.size ≤ b
theorem roots_none (W : World) : Calls Try.prog 31 #[.pointer none] W fun e W' => e = .returned (.slice none 0 0) ∧ W = W' := by
  go_enter Try.func31, Try.ntmps31
  go_wp2
  go_returns
  exact ⟨rfl, rfl⟩
theorem roots_any (h : Pm W F bg vo vr vq q f T g lv rt) : Calls Try.prog 31 #[.pointer (some ⟨bg, 0, none⟩)] W fun e W' => ∃ a n c, e = .returned (.slice a n c) ∧ Fresh W W' (.slice a n c) g.roots := by
  obtain ⟨_, _, _, _, c4, _⟩ := h.facts
  obtain ⟨aq, capq, er, hq1, hq2, hr⟩ := h.lrs.ints
  have HL := Lib.hid h.lrs
  have hr8 := h.sz.r
  have B1 : Hid (([] : List Nat).length + g.roots.length ≤ maxLen) := Lib.hid (by unfold maxLen; simp only [List.length_nil]; omega)
  have B2 : Hid ((([] : List Nat).length + g.roots.length) * inE.b ≤ 140737488355328) := Lib.hid (by show _ * 8 ≤ _; simp only [List.length_nil]; omega)
  have HF : Hid (∀ v' w', AppV inE W w' (.slice none 0 0) ([] ++ g.roots) v' → ∃ a n c, v' = .slice a n c ∧ Fresh W w' (.slice a n c) g.roots) := Lib.hid fun v' w' hA => by
    obtain ⟨a, c, e, _⟩ := hA.lies.form
    subst e
    exact ⟨a, _, c, rfl, hA.lies, hA.cha.mono (fun i _ e => (by cases e)), fun b e => (hA.at' b e).resolve_left (fun k => by cases k)⟩
  clear h hr
  subst er
  go_enter Try.func31, Try.ntmps31
  go_wp2_with (at_builtin; refine wpList_any inE_ok rfl (.tmp 6) (.tmp 10) rfl (v := .slice none 0 0) (A := []) rfl rfl (Lies.nil _ _) HL.out B1.out B2.out ?_; intro v' w' hA; obtain ⟨a', n', c', rfl, hA2⟩ := HF.out _ _ hA; have A3 := Lib.hid hA2; clear hA hA2)
  go_returns
  exact ⟨_, _, _, rfl, A3.out⟩
end Go.Proofs.Ytllefljimkmbhaa
