/- Contracts of stack: forget. -/
import Derived.Test.YteienclklmjhdaaI
namespace Go.Proofs.Yteienclklmjhdaa
open Go.ChangeShapes Go.WideShapes Go.ChangeAt Go.RowKit
variable {W W' : World} {F : Nat → Prop} {bs bw bm : Nat} {s : St}

theorem unit_inv (v : Value) (y : DataW Unit × List MemPlace) (h : unitR v = some y) : ∃ c : Unit, v = (fun _ => Value.agg #[]) c := by
  obtain ⟨rfl, _⟩ := unitElem_inv h
  exact ⟨(), rfl⟩
theorem ranges_drewN {w : World} {b r len : Nat} {D : DataW Unit} {left : Lit → Bool} {cn : Nat} (h : w.ranges Try.prog 3 unitR b r len D left cn) (k : Nat) : (w.drewN k).ranges Try.prog 3 unitR b r len D left cn := by
  unfold World.ranges at h ⊢
  exact h
theorem sameKey_nat {x z : Nat} (hx : x ≤ 1000000) : (Lit.int .i64 (z : Int)).sameKey (.int .i64 (x : Int)) = decide (z = x) := by
  by_cases e : z = x
  · subst e
    rw [WideAt.sameKey_self (keyLit3 (by omega) (by omega)), decide_eq_true rfl]
  · rw [Maps.sameKey_ne (fun c => e (by injection c with _ c; omega)), decide_eq_false e]
/-- References that stood ahead of t are taken away; of the map p the places from t on are left. -/
theorem forget_any {p : Nat → Bool} {t : Nat} (c1 : W.cell? ⟨bs, 1, none⟩ = some (.int .i64 (t : Int))) (c2 : W.cell? ⟨bs, 2, none⟩ = some (.map (some bm))) (hb : bs < W.heap.size) (hne : bs ≠ bm) (h : SM W bm p) :
    Calls Try.prog 32 #[.pointer (some ⟨bs, 0, none⟩)] W fun e W' => e = .returned (.tuple #[]) ∧ SM W' bm (fun x => p x && decide (t ≤ x)) ∧ Cha (fun i => i = bm) W W' := by
  obtain ⟨D, hown, hset⟩ := h
  have hlt := hown.lt
  have HSET := Lib.hid hset
  have HKEEP : Hid (∀ W', Cha (fun i => i = bm) W W' → W'.cell? ⟨bs, 1, none⟩ = some (.int .i64 (t : Int)) ∧ W'.cell? ⟨bs, 2, none⟩ = some (.map (some bm))) := Lib.hid fun W' c => by
    have e := c.old bs hb hne
    unfold World.cell? at c1 c2 ⊢
    rw [e]
    exact ⟨c1, c2⟩
  obtain ⟨r, hr⟩ : ∃ r, r = W.heap.size := ⟨_, rfl⟩
  have HR := Lib.hid hr
  clear hset
  go_enter Try.func32, Try.ntmps32
  go_wp2_with (at_range; refine wpList_range_own _ rfl _ 55 rfl 3 66 keyed3 Try.underlying55 unitR bm 1000000 D rfl hown ?_; intro w0 hrg0 hg0 hs0)
  go_frame
  rw [← hr] at hrg0 hs0 ⊢
  clear hr
  have hC0 : Cha (fun j => j = bm ∨ j = r) W w0 := Cha.of_grownBy hg0 fun k e => by cases e
  go_loopw [2] (fun _ wr => ∃ left cn D', wr.ranges Try.prog 3 unitR bm r 1000000 D' left cn ∧ (∀ kl, left kl = true → Maps.has D kl = true) ∧ IsSet D' (fun x => p x && (decide (t ≤ x) || left (.int .i64 (x : Int)))) ∧ Cha (fun j => j = bm ∨ j = r) W wr ∧ r < wr.heap.size) (fun _ wr => wr.rangeLeft bm r)
  case atStart =>
    refine ⟨_, _, D, hrg0, fun kl hk => hk, ?_, hC0, by omega⟩
    have e : (fun x => p x && (decide (t ≤ x) || Maps.has D (.int .i64 (x : Int)))) = p := funext fun x => by rw [HSET.out.1]; cases p x <;> simp
    rw [e]; exact HSET.out
  case round =>
    clear hrg0 hg0 hs0 hC0 hown
    obtain ⟨left, cn, D', hrg, hsub, hset, hC, hrlt⟩ := hrel
    have HC := Lib.hid hC
    have HSUB := Lib.hid hsub
    have HRG := Lib.hid hrg
    have HS := Lib.hid hset
    clear hC hsub hset
    go_wp2_with (at_next; refine wpList_next_ranges _ rfl _ rfl 3 keyed3 unitR (Value.int .i64) (fun _ => Value.agg #[]) (fun key kl hk => by obtain ⟨x, hx, _⟩ := Maps.keyOf_int_inv Try.underlying3 hk; exact ⟨x, hx⟩) unit_inv bm r 1000000 D' left cn rfl hrg ?_ ?_)
    · intro hc0 hl0
      have HL : Hid (SM wr bm (fun x => p x && decide (t ≤ x))) := Lib.hid (by
        refine ⟨D', HRG.out.owns, ?_⟩
        have e : (fun x => p x && (decide (t ≤ x) || left (.int .i64 (x : Int)))) = (fun x => p x && decide (t ≤ x)) := funext fun x => by rw [hl0]; simp
        rw [← e]; exact HS.out)
      clear hl0 hrg
      go_wp2
      go_returns
      refine ⟨rfl, HL.out, HC.out.mono fun i hi e => ?_⟩
      rcases e with e | e
      · exact e
      · have := HR.out; omega
    · intro x kl y1 y2 w1 cn1 hkey hlk hv hz hrg1 hlt1 hg1 hs1 hen
      obtain ⟨x', ex, ek, hwf⟩ := Maps.keyOf_int_inv Try.underlying3 hkey
      obtain ⟨x2, hx2, ek2⟩ := HSET.out.2 kl (HSUB.out kl hlk)
      obtain rfl : x = (x2 : Int) := by
        injection ex with _ ex
        rw [ek] at ek2
        injection ek2 with _ ek2
        omega
      subst ek2
      clear ex ek hwf
      have hc1 := HC.out.trans (Cha.of_grownBy (S := fun j => j = bm ∨ j = r) hg1 fun k e => by cases e; exact .inr rfl)
      have HC1 := Lib.hid hc1
      have HRG1 := Lib.hid hrg1
      have d1 : w1.cell? ⟨bs, 1, none⟩ = some (.int .i64 (t : Int)) ∧ w1.cell? ⟨bs, 2, none⟩ = some (.map (some bm)) := by
        have e := hc1.old bs hb (by rintro (e | e); exact hne e; exact absurd (HR.out ▸ e) (Nat.ne_of_lt hb))
        unfold World.cell? at c1 c2 ⊢
        rw [e]
        exact ⟨c1, c2⟩
      obtain ⟨d1, d2⟩ := d1
      have hsz : r < w1.heap.size := by omega
      have SUB1 : Hid (∀ kl, (left kl && !kl.sameKey (.int .i64 (x2 : Int))) = true → Maps.has D kl = true) := Lib.hid fun kl h => HSUB.out kl (by simp at h; exact h.1)
      have HSK : Hid (∀ z : Nat, (Lit.int .i64 (z : Int)).sameKey (.int .i64 (x2 : Int)) = decide (z = x2)) := Lib.hid fun z => sameKey_nat (by omega)
      have HKEY := Lib.hid hkey
      have HLK := Lib.hid hlk
      clear hkey hlk hv hz hc1 hg1 hrg
      by_cases hxt : x2 < t
      · have hxt2 : ((x2 : Nat) : Int) < ((t : Nat) : Int) := by omega
        go_wp2_with (at_delete; refine wpList_delete_ranges _ rfl _ _ 55 3 rfl 66 keyed3 Try.underlying55 unitR bm r 1000000 D' _ cn1 rfl hrg1 _ _ rfl HKEY.out ?_; intro w2 cn2 hrg2 hle hturn; have HRG2 := Lib.hid hrg2; have HT := Lib.hid hturn; clear hrg2 hturn)
        go_frame
        go_roundw
        case rel =>
          have q := HRG2.out
          rw [Maps.strike_twice] at q
          refine ⟨_, cn2, _, q, SUB1.out, ?_, HC1.out.trans ((turned_cha HT.out).mono fun _ _ e => .inl e), ?_⟩
          · have q2 := HS.out.del x2
            have e : (fun y => !decide (y = x2) && (p y && (decide (t ≤ y) || left (.int .i64 (y : Int))))) = (fun y => p y && (decide (t ≤ y) || (left (.int .i64 (y : Int)) && !(Lit.int .i64 (y : Int)).sameKey (.int .i64 (x2 : Int))))) := funext fun y => by
              rw [HSK.out]
              by_cases c : y = x2
              · subst c; rw [decide_eq_true rfl, decide_eq_false (by omega)]; simp
              · rw [decide_eq_false c]; simp
            rwa [e] at q2
          · exact Nat.lt_of_lt_of_le hsz (turned_cha HT.out).size
        case measure =>
          have e1 := HRG2.out.left_eq
          have e2 := HRG.out.left_eq
          show w2.rangeLeft bm r < wr.rangeLeft bm r
          rw [e1, e2]; omega
      · have hxt2 : ¬ (((x2 : Nat) : Int) < ((t : Nat) : Int)) := by omega
        go_wp2
        go_roundw
        case rel =>
          refine ⟨_, cn1, _, HRG1.out, SUB1.out, ?_, HC1.out, hsz⟩
          have q2 := HS.out
          have e : (fun y => (p y && (decide (t ≤ y) || left (.int .i64 (y : Int))))) = (fun y => p y && (decide (t ≤ y) || (left (.int .i64 (y : Int)) && !(Lit.int .i64 (y : Int)).sameKey (.int .i64 (x2 : Int))))) := funext fun y => by
            rw [HSK.out]
            by_cases c : y = x2
            · subst c; rw [decide_eq_true (show t ≤ y by omega)]; simp
            · rw [decide_eq_false c]; simp
          rwa [e] at q2
        case measure =>
          have e1 := HRG1.out.left_eq
          have e2 := HRG.out.left_eq
          show w1.rangeLeft bm r < wr.rangeLeft bm r
          rw [e1, e2]; omega
end Go.Proofs.Yteienclklmjhdaa
