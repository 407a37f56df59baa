/- The document's timers: first, Next. -/
import Derived.Test.YteogepfolifneaaUC
namespace Go.Proofs.Yteogepfolifneaa
open Go.ChangeShapes Go.WideShapes Go.ChangeAt Go.RowKit
variable {w w' w1 w2 W : World} {F F' S : Nat → Prop} {bd n m cap : Nat} {v v' u : Value} {D N : List Tm} {p t id : Int} {a : Option Addr}

def d0 : Tm := ⟨0, 0, 0⟩
/-- The place of a processor's first timer among the first j; -1: none. -/
def bst (D : List Tm) (p : Int) : Nat → Int
  | 0 => -1
  | j + 1 => if (D.getD j d0).p = p ∧ (bst D p j < 0 ∨ (D.getD j d0).when < (D.getD (bst D p j).toNat d0).when) then (j : Int) else bst D p j
theorem bst_range (D : List Tm) (p : Int) (j : Nat) : bst D p j = -1 ∨ ∃ b : Nat, bst D p j = (b : Int) ∧ b < j ∧ (D.getD b d0).p = p := by
  induction j with
  | zero => exact .inl rfl
  | succ j ih =>
    unfold bst
    split
    · rename_i h
      exact .inr ⟨j, rfl, by omega, h.1⟩
    · rcases ih with h | ⟨b, h1, h2, h3⟩
      · exact .inl h
      · exact .inr ⟨b, h1, by omega, h3⟩
def TmAt (w : World) (a : Option Addr) (D : List Tm) : Prop := 0 < D.length → ∃ g o, a = some ⟨g, o, none⟩ ∧ ∀ W, Cha (fun _ => False) w W → ∀ i, i < D.length →
  W.cell? ⟨g, o + i * 3, none⟩ = some (.int .i64 (D.getD i d0).p) ∧ W.cell? ⟨g, o + i * 3 + 1, none⟩ = some (.int .u64 (D.getD i d0).when) ∧ W.cell? ⟨g, o + i * 3 + 2, none⟩ = some (.int .i64 (D.getD i d0).id)
theorem tm_at (h : En.Lies tmE w (.slice a m cap) D) : TmAt w a D := fun hp => by
  obtain ⟨g, o, cap', e, _, _, hc⟩ := h.cells tmE_ok hp
  cases e
  refine ⟨g, o, rfl, fun W c i hi => ?_⟩
  have h4 := (hc W c.wide).1
  have e : D.getD i d0 = D[i] := by simp [List.getD, List.getElem?_eq_getElem hi]
  rw [e]
  exact ⟨by simpa [tmE] using h4 i 0 hi (by decide), by simpa [tmE] using h4 i 1 hi (by decide), by simpa [tmE] using h4 i 2 hi (by decide)⟩
set_option maxRecDepth 100000 in
set_option maxHeartbeats 4000000 in
theorem dfirst_any (p : Int) (h : Dt w F bd n v D) (hl : D.length ≤ 1024) : Calls Try.prog 51 #[.pointer (some ⟨bd, 0, none⟩), .int .i64 p] w fun e w' => e = .returned (.int .i64 (bst D p D.length)) ∧ ∃ k, w' = w.drewN k := by
  obtain ⟨s, cap, rfl, _, hm⟩ := h.l.form
  have HZ := Lib.hid (tm_at h.l)
  have c1 := h.list
  obtain ⟨m, hm1⟩ : ∃ m, m = D.length := ⟨_, rfl⟩
  rw [← hm1] at c1 hl ⊢
  have HM := Lib.hid hm1
  clear h hm1 hm
  go_enter Try.func51, Try.ntmps51
  go_wp2
  go_loopw [5, 6] (fun b i wr => ∃ j : Nat, j ≤ m ∧ i = .int .i64 (j : Int) ∧ b = .int .i64 (bst D p j) ∧ ∃ k, wr = w.drewN k) (fun _ i _ => m - (intOf i).toNat)
  case atStart => exact ⟨0, Nat.zero_le _, rfl, rfl, 0, rfl⟩
  case round =>
    obtain ⟨j, hj, rfl, rfl, k, rfl⟩ := hrel
    have c2 : (w.drewN k).cell? ⟨bd, 1, none⟩ = some (.slice s m cap) := c1
    by_cases hlt : j < m
    · obtain ⟨g, o, rfl, hz⟩ := HZ.out (by rw [← HM.out]; omega)
      obtain ⟨z0, z1, _⟩ := hz w (Cha.refl _ w) j (by rw [← HM.out]; exact hlt)
      have hb := bst_range D p j
      have hn : bst D p (j + 1) = if (D.getD j d0).p = p ∧ (bst D p j < 0 ∨ (D.getD j d0).when < (D.getD (bst D p j).toNat d0).when) then (j : Int) else bst D p j := rfl
      have y1 : (j : Int) < (m : Int) := by omega
      have y2 : (0 : Int) ≤ (j : Int) := by omega
      have HN := Lib.hid hn
      clear hn
      by_cases hp : (D.getD j d0).p = p
      · rcases hb with hb | ⟨b, hb, hbj, -⟩
        · have hn2 : Hid (bst D p (j + 1) = (j : Int)) := Lib.hid (by rw [HN.out, if_pos ⟨hp, .inl (by omega)⟩])
          have y7 : ((D.getD j d0).p == p) = true := by simpa using hp
          rw [hb]
          clear hz HN hp hb
          generalize (D.getD j d0).p = q at *
          generalize (D.getD j d0).when = t at *
          go_wp2
          go_quiet (fail)
          go_wp2
          go_roundw
          case rel => exact ⟨j + 1, by omega, by go_num, by rw [hn2.out], _, rfl⟩
          case measure => simp [intOf]; omega
        · obtain ⟨_, x1, _⟩ := hz w (Cha.refl _ w) b (by rw [← HM.out]; omega)
          have y3 : (b : Int) < (m : Int) := by omega
          have y4 : (0 : Int) ≤ (b : Int) := by omega
          have y5 : decide ((b : Int) < 0) = false := decide_eq_false (by omega)
          have hn2 : Hid (bst D p (j + 1) = if (D.getD j d0).when < (D.getD b d0).when then (j : Int) else (b : Int)) := Lib.hid (by
            rw [HN.out, hb, Int.toNat_natCast]
            by_cases c : (D.getD j d0).when < (D.getD b d0).when
            · rw [if_pos c, if_pos ⟨hp, .inr c⟩]
            · rw [if_neg c, if_neg]
              rintro ⟨_, c2 | c2⟩
              · omega
              · exact c c2)
          have y7 : ((D.getD j d0).p == p) = true := by simpa using hp
          rw [hb]
          clear hz HN hp hb
          generalize (D.getD j d0).p = q at *
          generalize (D.getD j d0).when = t at *
          generalize (D.getD b d0).when = tb at *
          by_cases c : t < tb
          · rw [if_pos c] at hn2
            have y6 : decide (t < tb) = true := decide_eq_true c
            go_wp2
            go_quiet (fail)
            go_wp2
            go_roundw
            case rel => exact ⟨j + 1, by omega, by go_num, by rw [hn2.out], _, rfl⟩
            case measure => simp [intOf]; omega
          · rw [if_neg c] at hn2
            have y6 : decide (t < tb) = false := decide_eq_false c
            go_wp2
            go_quiet (fail)
            go_wp2
            go_roundw
            case rel => exact ⟨j + 1, by omega, by go_num, by rw [hn2.out], _, rfl⟩
            case measure => simp [intOf]; omega
      · have hn2 : Hid (bst D p (j + 1) = bst D p j) := Lib.hid (by rw [HN.out, if_neg (fun c => hp c.1)])
        have y6 : ((D.getD j d0).p == p) = false := by simpa using hp
        clear hz HN hb
        generalize (D.getD j d0).p = q at *
        generalize bst D p j = b at *
        go_wp2
        go_quiet (fail)
        go_wp2
        go_roundw
        case rel => exact ⟨j + 1, by omega, by go_num, by rw [hn2.out], _, rfl⟩
        case measure => simp [intOf]; omega
    · obtain rfl : j = m := by omega
      have y1 : ¬ ((j : Int) < (j : Int)) := by omega
      go_wp2
      go_ret
      exact ⟨rfl, _, rfl⟩
end Go.Proofs.Yteogepfolifneaa
