/- The document's timers: Due, walked. -/
import Derived.Test.YteogepfolifneaaUF
namespace Go.Proofs.Yteogepfolifneaa
open Go.ChangeShapes Go.WideShapes Go.ChangeAt Go.RowKit
variable {w w' w1 w2 W : World} {F F' S : Nat → Prop} {bd n m cap g o b : Nat} {v v' u l : Value} {D D' N : List Tm} {p q t id now : Int} {a : Option Addr} {A : List Int}

def lenV : Value → Nat
  | .slice _ n _ => n
  | _ => 0
def DDue (w : World) (F : Nat → Prop) (bd n : Nat) (D : List Tm) (p now : Int) (e : Ending) (w' : World) : Prop :=
  ∃ l A D', e = .returned l ∧ Steps p now D A D' ∧ Halts p now D' ∧ Cur w F bd n w' D' l A
theorem cur_start (h : Dt w F bd n v D) : Cur w F bd n w D (.slice none 0 0) [] :=
  ⟨⟨F, v, h, fun i hi => .inl hi, fun g hg => by cases hg⟩, Cha.refl _ _, Lies.nil _⟩
theorem Cur.drewN (h : Cur w F bd n w1 D l A) (k : Nat) : Cur w F bd n (w1.drewN k) D l A := by
  obtain ⟨⟨F', v, t, n1, n2⟩, c, q⟩ := h
  exact ⟨⟨F', v, t.same ((Cha.refl _ w1).drewN k), n1, n2⟩, c.drewN k, q.cha ((Cha.refl (fun _ => False) w1).drewN k) (fun _ _ f => f)⟩
set_option maxRecDepth 100000 in
set_option maxHeartbeats 4000000 in
theorem ddue_ok (p now : Int) (h : Dt w F bd n v D) (hl : D.length ≤ 1024) : Calls Try.prog 30 #[.pointer (some ⟨bd, 0, none⟩), .int .i64 p, .int .u64 now] w (DDue w F bd n D p now) := by
  have H := Lib.hid (cur_start h)
  have HL := Lib.hid hl
  clear h hl
  go_enter Try.func30, Try.ntmps30
  go_wp2
  go_loopw [7] (fun l wr => ∃ (A : List Int) (D' : List Tm), Steps p now D A D' ∧ Cur w F bd n wr D' l A) (fun l _ => D.length - lenV l)
  case atStart => exact ⟨[], D, Steps.nil, H.out⟩
  case round =>
    clear H
    obtain ⟨A, D', hS, hC⟩ := hrel
    have HS := Lib.hid hS
    have HC := Lib.hid hC
    have hlen := hS.len
    obtain ⟨sl, cl, rfl, -⟩ := hC.lies.form
    obtain ⟨⟨F', v, hT, hn, ho⟩, hcc, hll⟩ := hC
    have HT := Lib.hid hT
    have HO := Lib.hid ho
    have HN := Lib.hid hn
    have HCC := Lib.hid hcc
    have HLL := Lib.hid hll
    have C := Lib.hid (dfirst_any p hT (by have := HL.out; omega))
    obtain ⟨s, cap, rfl, _, hmx⟩ := hT.l.form
    have c1 := hT.list
    obtain ⟨q, hq⟩ : ∃ q, q = A.length := ⟨_, rfl⟩
    have HQ := Lib.hid hq
    rw [← hq] at HC HO HLL
    have hml : D'.length ≤ 1024 := by have := HL.out; omega
    have hlen2 := Lib.hid hlen
    clear hT hn ho hcc hll hS hmx
    rcases bst_range D' p D'.length with hb | ⟨b, hb, hbl, -⟩
    · have hh : Hid (Halts p now D') := Lib.hid (.inl hb)
      rw [hb] at C
      rw [← hq]
      clear hlen hq hb c1 hml
      go_wp2_with (go_at_call 51; ((with_reducible refine (C.out).mono ?_); rintro e w1 ⟨rfl, k, rfl⟩))
      go_returns
      exact ⟨_, A, D', rfl, HS.out, hh.out, HC.out.drewN k⟩
    · obtain ⟨g, o, rfl, hz⟩ := tm_at HT.out.l (by omega)
      obtain ⟨_, z1, z2⟩ := hz wr (Cha.refl _ _) b hbl
      have HB := Lib.hid hb
      rw [hb] at C
      have y1 : (b : Int) < (D'.length : Int) := by omega
      have y2 : (0 : Int) ≤ (b : Int) := by omega
      have y3 : ¬ ((b : Int) < 0) := by omega
      by_cases hw : now < (D'.getD b d0).when
      · have hh : Hid (Halts p now D') := Lib.hid (.inr ⟨b, hb, hbl, hw⟩)
        rw [← hq]
        generalize (D'.getD b d0).when = t at *
        generalize (D'.getD b d0).id = x at *
        generalize hm0 : D'.length = m at *
        clear hlen hq hb hz hm0 hml
        go_wp2_with (go_at_call 51; ((with_reducible refine (C.out).mono ?_); rintro e w1 ⟨rfl, k, rfl⟩))
        go_returns
        exact ⟨_, A, D', rfl, HS.out, hh.out, HC.out.drewN k⟩
      · have ST : Hid (Steps p now D (A ++ [(D'.getD b d0).id]) (D'.take b ++ D'.drop (b + 1))) := Lib.hid (.next b HS.out hb hbl (by omega))
        have hlen3 := Lib.hid ST.out.len
        obtain ⟨x, hx⟩ : ∃ x, x = (D'.getD b d0).id := ⟨_, rfl⟩
        obtain ⟨m, hm⟩ : ∃ m, m = D'.length := ⟨_, rfl⟩
        have JJ : Hid (∀ k w3 g3 o3 cap3, App ((wr.drewN k).alloc (.cells #[.int .i64 x] 3)) w3 (.slice sl q cl) A [x] g3 o3 cap3 → ∃ s4 n4 c4 w4 s5 n5 c5 w5, w3.cell? ⟨bd, 1, none⟩ = some (.slice (some ⟨g, o, none⟩) m cap) ∧ (Builtin.append_ #[64, 64] 64 #[.slice none 0 0, .slice (some ⟨g, o, none⟩) b cap]).run Try.prog w3 = .ok (.slice s4 n4 c4) w4 ∧ w4.cell? ⟨bd, 1, none⟩ = some (.slice (some ⟨g, o, none⟩) m cap) ∧
            (Builtin.append_ #[64, 64] 64 #[.slice s4 n4 c4, .slice (some ⟨g, if cap = b + 1 then o else o + (b + 1) * 3, none⟩) (m - (b + 1)) (cap - (b + 1))]).run Try.prog w4 = .ok (.slice s5 n5 c5) w5 ∧ w5.cell? ⟨bd, 1, none⟩ = some (.slice (some ⟨g, o, none⟩) m cap) ∧ w5.frozen? ⟨bd, 1, none⟩ = false ∧
            Cur w F bd n (w5.setCell ⟨bd, 1, none⟩ (.slice s5 n5 c5)) (D'.take b ++ D'.drop (b + 1)) (.slice (some ⟨g3, o3, none⟩) (q + 1) cap3) (A ++ [x])) := Lib.hid fun k w3 g3 o3 cap3 hA => by
          have T1 := HT.out.same ((Cha.refl _ wr).drewN k)
          rw [← hm] at T1
          have := due_step (w := w) (b := b) T1 HN.out HO.out (HCC.out.drewN k) hm (by omega) (by omega) hA
          rw [List.length_singleton, ← HQ.out] at this
          exact this
        have LA : Hid (∀ k, Lies ((wr.drewN k).alloc (.cells #[.int .i64 x] 3)) (.slice sl q cl) A) := Lib.hid fun k => by
          have := HLL.out
          exact this.cha (((Cha.refl (fun _ => False) wr).drewN k).alloc _) (fun _ _ f => f)
        have SL := tl64 g o m cap b (by omega)
        rw [← hx] at z2 ST
        rw [← hm] at c1 y1
        have hbm : b + 1 ≤ m := by omega
        have y4 : IntKind.i64.wrap ((b : Int) + 1) = (b : Int) + 1 := by rw [IntKind.wrap_i64]; omega
        have y5 : (b : Int) ≤ (cap : Int) := by
          obtain ⟨_, _, e, h1, _⟩ := HT.out.l.form
          cases e
          omega
        have hq1 : q ≤ 1024 := by have := HL.out; omega
        have hD : Hid (q + 1 ≤ D.length) := Lib.hid (by omega)
        rw [← hq]
        generalize hex : (if cap = b + 1 then o else o + (b + 1) * 3) = ex at *
        generalize (D'.getD b d0).when = t at *
        clear hlen hq hb hz hm hml hx hbl HS HC HB HT HO HN HCC hex hlen2 hlen3
        have HQ2 := HQ

        go_wp2_with (first
          | (go_at_call 51; ((with_reducible refine (C.out).mono ?_); rintro e w1 ⟨rfl, k, rfl⟩))
          | (at_builtin; (refine wpList_app rfl (.tmp 28) (.tmp 37) rfl (A := A) rfl (LA.out k) ⟨wr.heap.size, 0, none⟩ 1 1 [x] rfl rfl (one_new (wr.drewN k) _ _) Nat.zero_lt_one (by rw [← HQ2.out]; simp only [List.length_singleton]; omega) ?_; intro g3 o3 cap3 w3 hA3; obtain ⟨s4, n4, c4, w4, s5, n5, c5, w5, x3, r4, x4, r5, x5, x6, hcur⟩ := JJ.out k w3 g3 o3 cap3 hA3; have R4 := Lib.hid r4; have R5 := Lib.hid r5; have CU := Lib.hid hcur; clear hA3 r4 r5 hcur; rw [← HQ2.out]; simp only [List.length_singleton]))
          | (at_builtin; refine Lib.wpList_append_run _ rfl _ _ _ _ rfl _ _ rfl rfl _ _ R4.out ?_)
          | (at_builtin; refine Lib.wpList_append_run _ rfl _ _ _ _ rfl _ _ rfl rfl _ _ R5.out ?_))
        go_roundw
        case rel => exact ⟨_, _, ST.out, CU.out⟩
        case measure => have := hD.out; simp [lenV]; omega
end Go.Proofs.Yteogepfolifneaa
