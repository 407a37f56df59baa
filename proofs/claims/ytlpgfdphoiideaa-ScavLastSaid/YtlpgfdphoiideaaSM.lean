/- One page: used, freed. -/
import Derived.Test.YtlpgfdphoiideaaSG
namespace Go.Proofs.Ytlpgfdphoiideaa
open Go.ChangeShapes Go.WideShapes Go.ChangeAt Go.RowKit
theorem cn_one (st : Nat → Int) (x : Int) (o : Nat) : cn st x o 1 = if st o = x then 1 else 0 := by
  show 0 + (if st (o + 0) = x then 1 else 0) = _
  rw [Nat.zero_add, Nat.add_zero]
theorem bad_one {N o : Nat} (h : o < N) : bad N o 1 = false := by
  unfold bad
  rw [decide_eq_false (by omega), decide_eq_false (by omega), decide_eq_false (by omega)]; rfl
theorem fre_one {N o : Nat} {st : Nat → Int} (h : o < N) (k : st o = 2) : freR N st o 1 = 0 ∧ freS N st o 1 = fil st o 1 1 := by
  have e : cn st 2 o 1 = 1 := by rw [cn_one, if_pos k]
  have e1 : (o : Int).toNat = o := by omega
  have e2 : (1 : Int).toNat = 1 := rfl
  unfold freR freS
  rw [bad_one h, e1, e2, e, if_neg (by simp), if_pos rfl, if_neg (by simp), if_pos rfl]
  exact ⟨rfl, rfl⟩
theorem use_one {N o : Nat} {st : Nat → Int} (h : o < N) (k : st o ≠ 2) : useR N st o 1 = ((if st o = 0 then 1 else 0), 0) ∧ useS N st o 1 = fil st o 1 2 := by
  have e : cn st 2 o 1 = 0 := by rw [cn_one, if_neg k]
  have e1 : (o : Int).toNat = o := by omega
  have e2 : (1 : Int).toNat = 1 := rfl
  have hb := bad_one h
  have u1 : useR N st o 1 = (((cn st 0 o 1 : Nat) : Int), 0) := by unfold useR; rw [hb, e1, e2, if_neg (by simp), if_pos e]
  have u2 : useS N st o 1 = fil st o 1 2 := by unfold useS; rw [hb, e1, e2, if_neg (by simp), if_pos e]
  rw [u1, u2, cn_one]
  refine ⟨?_, rfl⟩
  by_cases c : st o = 0
  · rw [if_pos c, if_pos c]; rfl
  · rw [if_neg c, if_neg c]; rfl
theorem fil_one (st : Nat → Int) (o : Nat) (x : Int) : (fun i => if i = o then x else st i) = fil st o 1 x := by
  have := fil_succ st o 0 x
  rw [fil_zero] at this
  exact this
section
variable {ops : Array Oper} {rest : List Oper} {o : Oper} {a : Act} {Q : Exit → Act → World → Prop} {w w' : World}
theorem wpList_run (hgd : o.guard = none) (s x : Operand) (ho : o.op = .call { callee := .builtin .append, args := #[s, x], argTypes := #[65, 65] }) {v u v' : Value} (hs : a.eval s = v) (hx : a.eval x = u)
    (hr : (Builtin.append_ #[65, 65] o.type #[v, u]).run Try.prog w = .ok v' w') (h : wpList Try.prog ops Q rest (a.put o.dst v') w') : wpList Try.prog ops Q (o :: rest) a w :=
  wpList_plain hgd fun K hK => by
    have k : K (a.put o.dst v') w' := hK _ _ h
    unfold Oper.wp execOp
    simp only [ho, resolve, invoke, builtin, Sem.run_bind, Sem.run_pure, Result.andThen_ok, List.map_toArray, List.map_cons, List.map_nil, hs, hx, hr]
    exact k
end
end Go.Proofs.Ytlpgfdphoiideaa
