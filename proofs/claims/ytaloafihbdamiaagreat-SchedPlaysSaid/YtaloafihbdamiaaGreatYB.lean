/- The document's queues: Get, stealing. -/
import Derived.Test.YtaloafihbdamiaaGreatQXA
import Derived.Deep.RegionHeld3
namespace Go.Proofs.YtaloafihbdamiaaGreat
open Go.ChangeShapes Go.WideShapes Go.ChangeAt Go.RowKit
variable {w w' W : World} {U U' T : Nat → Prop} {br bl bn on cn : Nat} {lv : Nat → Value} {va v : Value} {S : List Prc} {A N L : List Int} {x y : Int}

theorem three_set {w : World} {br bl v gv ov p : Nat} {a b c : Value} (h1 : w.cell? ⟨br, 1, none⟩ = some a) (h2 : w.cell? ⟨bl, v, none⟩ = some b) (h3 : w.cell? ⟨gv, ov, none⟩ = some c) (n1 : bl ≠ br) (n2 : p ≠ v) (n3 : bl ≠ gv) (x : Value) :
    (w.setCell ⟨bl, p, none⟩ x).cell? ⟨br, 1, none⟩ = some a ∧ (w.setCell ⟨bl, p, none⟩ x).cell? ⟨bl, v, none⟩ = some b ∧ (w.setCell ⟨bl, p, none⟩ x).cell? ⟨gv, ov, none⟩ = some c := by
  refine ⟨?_, ?_, ?_⟩
  · exact (World.cell?_setCell_other w _ _ _ (by intro e; cases e; exact n1 rfl)).trans h1
  · exact (World.cell?_setCell_other w _ _ _ (by intro e; cases e; exact n2 rfl)).trans h2
  · exact (World.cell?_setCell_other w _ _ _ (by intro e; cases e; exact n3 rfl)).trans h3
set_option linter.unusedSimpArgs false in
set_option maxRecDepth 100000 in
set_option maxHeartbeats 20000000 in
/-- The search, from the head of its loop on: what both ways to f share. -/
theorem rget_steal2 (p : Nat) (s : Int) (hrs : 0 ≤ s.tmod (S.length : Int)) (h : Rq w U br bl bn on cn lv va S []) (hp : S[p]? = some (-1, [])) (hS : Nums0 S) (hl8 : ∀ (p : Nat) (x : Prc), S[p]? = some x → x.2.length ≤ 8) :
    Calls Tryz.prog 60 #[.pointer (some ⟨br, 0, none⟩), .int .i64 (p : Int), .int .i64 s] w (RGot w U br bl bn on cn S [] p (s % (S.length : Int)).toNat) := by
  obtain ⟨k, hk⟩ : ∃ k, k = S.length := ⟨_, rfl⟩
  have hpl := get_lt hp
  have C := Lib.hid (bad_no p 0 h hpl (by omega))
  have h1 := h.k1
  have h8 := h.k8
  have c0 := h.c0
  have c1 := h.c1
  have c2 := h.c2
  obtain ⟨c3, z3⟩ := h.cnx hp
  dsimp only at c3
  obtain ⟨c4, z4⟩ := h.clx hp
  obtain ⟨a2, cap2, hlv, -⟩ := (h.prc p _ hp).1.form
  dsimp only [List.length_nil] at hlv
  rw [hlv] at c4
  obtain ⟨a1, cap1, hva, -⟩ := h.all.form
  dsimp only [List.length_nil] at hva
  rw [hva] at c2
  rw [← hk] at c0 c1 h1 h8 hpl ⊢
  obtain ⟨r, hr⟩ : ∃ r, s.tmod (k : Int) = r := ⟨_, rfl⟩
  have hrc : 0 ≤ s.tmod (k : Int) ∧ s.tmod (k : Int) = ((s % k).toNat : Int) := by
    have := rest_cases s k h1 h8
    rw [← hk] at hrs
    omega
  rw [hr] at hrc
  obtain ⟨f, hf⟩ : ∃ f, f = (s % (k : Int)).toNat := ⟨_, rfl⟩
  rw [← hf] at hrc
  clear hrs
  have hfk : f < k := by
    have := Int.emod_lt_of_pos s (show (0 : Int) < k by omega)
    have := Int.emod_nonneg s (show (k : Int) ≠ 0 by omega)
    omega
  unfold RGot
  rw [get_steal hp, ← hf]
  have HP := Lib.hid hp
  have HK := Lib.hid hk
  have Q := Lib.hid h
  have HS := Lib.hid hS
  have HL8 := Lib.hid hl8
  have HLV := Lib.hid hlv
  have k3 : (p : Int) < k := by omega
  have k4 : (0 : Int) ≤ (p : Int) := by omega
  have k5 : (0 : Int) < (k : Int) := by omega
  clear hp hk h hf hS hl8 hlv hva
  obtain ⟨g1, g2⟩ := hrc
  go_enter Tryz.func60, Tryz.ntmps60
  go_wp2_with (go_at_call 57; ((with_reducible refine (C.out).mono ?_); rintro e w1 ⟨rfl, rfl⟩))
  clear g1 g2 hr c2 c3 z3 c4 z4
  go_loop [10] (fun ix => ∃ i : Nat, i ≤ k ∧ ix = .int .i64 (i : Int) ∧ ∀ m, m < i → vic S p ((f + m) % k) = false) (fun ix => k - (intOf ix).toNat)
  case atStart => exact ⟨0, Nat.zero_le _, rfl, fun m hm => absurd hm (by omega)⟩
  case round =>
    obtain ⟨i, hi, rfl, hno⟩ := hrel
    have HNO := Lib.hid hno
    clear hno
    by_cases hlt : i < k
    · obtain ⟨v, hv⟩ : ∃ v, v = (f + i) % k := ⟨_, rfl⟩
      have hvk : v < k := by rw [hv]; exact Nat.mod_lt _ (by omega)
      have ev : ((f : Int) + (i : Int)) % (k : Int) = (v : Int) := by rw [hv]; simp
      have HV := Lib.hid hv
      clear hv
      have k6 : (v : Int) < k := by omega
      have k7 : (0 : Int) ≤ (v : Int) := by omega
      by_cases hvp : v = p
      · have HN : Hid (∀ m, m < i + 1 → vic S p ((f + m) % k) = false) := Lib.hid fun m hm => by
          by_cases e : m = i
          · rw [e, ← HV.out, hvp]; unfold vic; simp
          · exact HNO.out m (by omega)
        subst hvp
        go_wp2
        go_round
        case rel => exact ⟨i + 1, by omega, by go_num, HN.out⟩
        case measure => simp [intOf]; omega
      · have hvp1 : (v == p) = false := by simpa using hvp
        have hvx := D_get (S := S) (p := v) (by rw [← HK.out]; exact hvk)
        generalize S.getD v (-1, []) = u at *
        obtain ⟨y, L⟩ := u
        have hy : y = -1 ∨ 0 ≤ y := HS.out v _ hvx
        have hL8 : L.length ≤ 8 := HL8.out v _ hvx
        obtain ⟨d3, e3⟩ := Q.out.cnx hvx
        dsimp only at d3
        obtain ⟨d4, e4⟩ := Q.out.clx hvx
        obtain ⟨a3, cap3, hlv3, -⟩ := (Q.out.prc v _ hvx).1.form
        dsimp only at hlv3
        rw [hlv3] at d4
        have HC : Hid (vic S p v = (cnt (y, L) != 0)) := Lib.hid (by unfold vic; rw [get_D hvx]; simp [hvp])
        have HVX := Lib.hid hvx
        cases L with
        | nil =>
          have d4 : w.cell? ⟨bl, v, none⟩ = some (.slice a3 0 cap3) := d4
          clear hvx hlv3 hL8
          by_cases hy1 : y = -1
          · have HN : Hid (∀ m, m < i + 1 → vic S p ((f + m) % k) = false) := Lib.hid fun m hm => by
              by_cases e : m = i
              · rw [e, ← HV.out, HC.out, hy1]; rfl
              · exact HNO.out m (by omega)
            subst hy1
            clear hy
            go_wp2
            go_round
            case rel => exact ⟨i + 1, by omega, by go_num, HN.out⟩
            case measure => simp [intOf]; omega
          · have hy2 : 0 ≤ y := by omega
            have HR := Lib.hid (steal_some (S := S) (p := p) (f := f) (by rw [← HK.out]; exact hlt) (by rw [← HK.out]; exact HNO.out) (by rw [← HK.out, ← HV.out, HC.out]; simp [cnt, hy1]))
            rw [← HK.out, ← HV.out] at HR
            have HT := Lib.hid (take_one (p := p) HVX.out)
            have q1 := Lib.hid (Q.out.nxt v (-1) HVX.out)
            clear hy hy1
            go_wp2
            go_returns
            rw [HR.out, HT.out]
            exact ⟨rfl, RLeft.one q1.out ((Cha.refl _ w).setCell (p := ⟨bn, on + v, none⟩) (fun _ => .inr (.inr rfl)) _)⟩
        | cons g X =>
          have HR := Lib.hid (steal_some (S := S) (p := p) (f := f) (by rw [← HK.out]; exact hlt) (by rw [← HK.out]; exact HNO.out) (by rw [← HK.out, ← HV.out, HC.out]; unfold cnt; dsimp only; split <;> simp))
          rw [← HK.out, ← HV.out] at HR
          have HT := Lib.hid (take_half hvx HP.out)
          have hls := (Q.out.prc v _ hvx).1
          rw [hlv3] at hls
          obtain ⟨gb, ob, rfl, -, -, -, hel⟩ := hls.some (by simp)
          have d5 := hel 0 (by simp)
          have d5 : w.cell? ⟨gb, ob, none⟩ = some (.int .i64 g) := d5
          have d6 : w.cell? ⟨bl, v, none⟩ = some (.slice (some ⟨gb, ob, none⟩) (X.length + 1) cap3) := d4
          clear d4
          have hX7 : X.length ≤ 7 := by simp only [List.length_cons] at hL8; omega
          obtain ⟨hh, hhe⟩ : ∃ hh, hh = X.length / 2 := ⟨_, rfl⟩
          have hhle : hh ≤ X.length := by omega
          have ehh : ((X.length : Int) + 1 + 1) / 2 = (hh : Int) + 1 := by omega
          rw [← hhe] at HT
          obtain ⟨xl, hxl⟩ : ∃ xl, xl = X.length := ⟨_, rfl⟩
          have HXL := Lib.hid hxl
          rw [← hxl] at ehh d6 hX7 hhle
          have hrow : Hid (RLeft w w U br bl bn on cn (S.set p (-1, X.take 0)) []) := Lib.hid (by
            have e : S.set p (-1, X.take 0) = S := by
              rw [List.take_zero, ← (Option.some.inj ((List.getElem?_eq_getElem (get_lt HP.out)).symm.trans HP.out))]
              exact List.set_getElem_self _
            rw [e]
            exact RLeft.one Q.out (Cha.refl _ _))
          clear hvx hlv3 hls hel hy hhe hxl hL8
          go_wp2
          go_loopw [13] (fun ix wr => ∃ m : Nat, m ≤ hh ∧ ix = .int .i64 ((m : Int) + 1) ∧ RLeft w wr U br bl bn on cn (S.set p (-1, X.take m)) []) (fun ix _ => hh + 1 - (intOf ix).toNat)
          case atStart => exact ⟨0, Nat.zero_le _, rfl, hrow.out⟩
          case round =>
            clear hrow
            obtain ⟨m, hm, rfl, hL0⟩ := hrel
            obtain ⟨B, hB⟩ : ∃ B, B = X.take m := ⟨_, rfl⟩
            have hlens : B.length = m := by rw [hB, List.length_take, ← HXL.out]; omega
            rw [← hB] at hL0
            have HB := Lib.hid hB
            clear hB
            obtain ⟨U1, lv1, va1, q, c, s1, n1⟩ := hL0
            have hpl1 : (S.set p (-1, B))[p]? = some (-1, B) := List.getElem?_set_self (get_lt HP.out)
            have hvl1 : (S.set p (-1, B))[v]? = some (y, g :: X) := by rw [List.getElem?_set_ne (Ne.symm hvp)]; exact HVX.out
            obtain ⟨ap, capp, hlp, -⟩ := (q.prc p _ hpl1).1.form
            dsimp only at hlp
            rw [hlens] at hlp
            have hls := (q.prc v _ hvl1).1
            have hown := (q.prc v _ hvl1).2
            obtain ⟨av, capv, hlv1, -⟩ := (q.prc v _ hvl1).1.form
            rw [hlv1] at hls hown
            obtain ⟨gv, ov, rfl, -, -, -, hel⟩ := hls.some (by simp)
            dsimp only [List.length_cons] at hlv1
            rw [← HXL.out] at hlv1
            have HQ := Lib.hid q
            have HC1 := Lib.hid c
            have HS1 := Lib.hid s1
            have HN1 := Lib.hid n1
            have HLP := Lib.hid hlp
            have HLV1 := Lib.hid hlv1
            have HPL := Lib.hid hpl1
            have HVL := Lib.hid hvl1
            have HLE := Lib.hid hlens
            have KX : Hid (∀ W', Cha (fun _ => False) wr W' → W'.cell? ⟨br, 1, none⟩ = some (.slice (some ⟨bl, 0, none⟩) k k) ∧ W'.cell? ⟨bl, p, none⟩ = some (.slice ap m capp) ∧ W'.frozen? ⟨bl, p, none⟩ = false ∧ W'.cell? ⟨bl, v, none⟩ = some (.slice (some ⟨gv, ov, none⟩) (xl + 1) capv) ∧ W'.frozen? ⟨bl, v, none⟩ = false ∧ ∀ i, i < xl + 1 → W'.cell? ⟨gv, ov + i, none⟩ = some (.int .i64 ((g :: X).getD i 0))) := Lib.hid fun W' hc => by
              have q' := HQ.out.same hc
              obtain ⟨e1, e2⟩ := q'.clx HPL.out
              obtain ⟨e3, e4⟩ := q'.clx HVL.out
              have e5 := q'.c1
              rw [set_len, ← HK.out] at e5
              refine ⟨e5, by rw [e1, HLP.out], e2, by rw [e3, HLV1.out], e4, ?_⟩
              have hl2 := (q'.prc v _ HVL.out).1
              rw [HLV1.out] at hl2
              obtain ⟨_, _, e, _, _, _, kk⟩ := hl2.some (by simp)
              cases e
              have : (g :: X).length = xl + 1 := by rw [List.length_cons, HXL.out]
              rw [this] at kk
              exact kk
            have HDR := Lib.hid hls
            have HOWN := Lib.hid hown
            have HVP := Lib.hid hvp
            clear q c s1 n1 hlp hlv1 hpl1 hvl1 hlens hls hown hel
            by_cases hlt2 : m < hh
            · have C5 := Lib.hid (behind_any (v := .slice ap m capp) (w := wr.drew) (A := B) (X.getD m 0) (by rw [← HLP.out]; exact (HQ.out.drew.prc p _ HPL.out).1) (by rw [HLE.out]; omega))
              have HTK := Lib.hid (take_get X (j := m) (by rw [← HXL.out]; omega))
              obtain ⟨t1, t2, t3, t4, t5, t6⟩ := KX.out wr.drew ((Cha.refl _ wr).drew)
              have t7 := t6 (m + 1) (by omega)
              have t7 : wr.drew.cell? ⟨gv, ov + (m + 1), none⟩ = some (.int .i64 (X.getD m 0)) := by rw [t7]; simp [List.getD]
              obtain ⟨u, hu⟩ : ∃ u, u = X.getD m 0 := ⟨_, rfl⟩
              rw [← hu] at C5 HTK t7
              have HU := Lib.hid hu
              clear hu
              have b1 : IntKind.i64.wrap ((m : Int) + 1) = (m : Int) + 1 := IntWalk.i64_in _ (by omega)
              have b2 : (0 : Int) ≤ (m : Int) + 1 := by omega
              have b3 : (m : Int) + 1 < (xl : Int) + 1 := by omega
              have b5 : (m : Int) + 1 < ((xl + 1 : Nat) : Int) := by omega
              have b4 : ((m : Int) + 1).toNat = m + 1 := by omega
              clear t6
              go_wp2
              have HM1 : Hid (m + 1 < xl + 1) := Lib.hid (by omega)
              have HUU : Hid (∀ w2 : World, w2.cell? ⟨gv, ov + (m + 1), none⟩ = some (.int .i64 ((g :: X).getD (m + 1) 0)) → w2.cell? ⟨gv, ov + (m + 1), none⟩ = some (.int .i64 u)) := Lib.hid fun w2 h => by rw [h, HU.out]; simp [List.getD]
              have HN1' : Hid (bl ≠ br) := Lib.hid (Ne.symm HQ.out.d1)
              have HN2' : Hid (p ≠ v) := Lib.hid (Ne.symm HVP.out)
              have HN3' : Hid (bl ≠ gv) := Lib.hid (fun e => HQ.out.u2 (e ▸ HOWN.out gv rfl))
              refine wp_region_noPanic ?_
              refine wp_region_held_drew (S := (fun w' => w'.cell? ⟨br, 1, none⟩ = some (.slice (some ⟨bl, 0, none⟩) k k) ∧ w'.cell? ⟨bl, v, none⟩ = some (.slice (some ⟨gv, ov, none⟩) (xl + 1) capv) ∧ w'.cell? ⟨gv, ov + (m + 1), none⟩ = some (.int .i64 u))) (by kernel_rfl) (by exact ⟨t1, t4, t7⟩) (fun hHeld => ?_)
              refine wpAnyH_take (i := 0) (v := ?_) rfl (by kernel_rfl) (by kernel_rfl) (by kernel_rfl) (fun _ _ _ h => h) (Or.inl ⟨by rfl, ?_⟩) (by assumption) ?_
              rotate_left
              · intro w hSw; (try dsimp only at hSw); go_simp; (try with_reducible rfl)
              try simp only [Act.put, List.setIfInBounds_toArray, List.set_cons_zero, List.set_cons_succ]
              refine wpAnyH_take (i := 1) (v := ?_) rfl (by kernel_rfl) (by kernel_rfl) (by kernel_rfl) (fun _ _ _ h => h) (Or.inl ⟨by rfl, ?_⟩) (by assumption) ?_
              rotate_left
              · intro w hSw; (try dsimp only at hSw); go_simp; (try with_reducible rfl)
              try simp only [Act.put, List.setIfInBounds_toArray, List.set_cons_zero, List.set_cons_succ]
              refine wpAnyH_take (i := 2) (v := ?_) rfl (by kernel_rfl) (by kernel_rfl) (by kernel_rfl) (fun _ _ _ h => h) (Or.inl ⟨by rfl, ?_⟩) (by assumption) ?_
              rotate_left
              · intro w hSw; (try dsimp only at hSw); go_simp; (try with_reducible rfl)
              try simp only [Act.put, List.setIfInBounds_toArray, List.set_cons_zero, List.set_cons_succ]
              refine wpAnyH_take (i := 3) (v := ?_) rfl (by kernel_rfl) (by kernel_rfl) (by kernel_rfl) (fun _ _ _ h => h) (Or.inl ⟨by rfl, ?_⟩) (by assumption) ?_
              rotate_left
              · intro w hSw; (try dsimp only at hSw); go_simp; (try with_reducible rfl)
              try simp only [Act.put, List.setIfInBounds_toArray, List.set_cons_zero, List.set_cons_succ]
              refine wpAnyH_take (i := 4) (v := ?_) rfl (by kernel_rfl) (by kernel_rfl) (by kernel_rfl) (fun _ _ _ h => h) (Or.inl ⟨by rfl, ?_⟩) (by assumption) ?_
              rotate_left
              · intro w hSw; (try dsimp only at hSw); go_simp; (try with_reducible rfl)
              try simp only [Act.put, List.setIfInBounds_toArray, List.set_cons_zero, List.set_cons_succ]
              refine wpAnyH_take (i := 5) (v := ?_) rfl (by kernel_rfl) (by kernel_rfl) (by kernel_rfl) (fun _ _ _ h => h) (Or.inl ⟨by rfl, ?_⟩) (by assumption) ?_
              rotate_left
              · intro w hSw; (try dsimp only at hSw); go_simp; (try with_reducible rfl)
              try simp only [Act.put, List.setIfInBounds_toArray, List.set_cons_zero, List.set_cons_succ]
              refine wpAnyH_take (i := 6) (v := ?_) rfl (by kernel_rfl) (by kernel_rfl) (by kernel_rfl) (fun _ _ _ h => h) (Or.inl ⟨by rfl, ?_⟩) (by assumption) ?_
              rotate_left
              · intro w hSw; (try dsimp only at hSw); go_simp; (try with_reducible rfl)
              try simp only [Act.put, List.setIfInBounds_toArray, List.set_cons_zero, List.set_cons_succ]
              refine wpAnyH_take (i := 7) (v := ?_) rfl (by kernel_rfl) (by kernel_rfl) (by kernel_rfl) (fun _ _ _ h => h) (Or.inl ⟨by rfl, ?_⟩) (by assumption) ?_
              rotate_left
              · intro w hSw; (try dsimp only at hSw); go_simp; (try with_reducible rfl)
              try simp only [Act.put, List.setIfInBounds_toArray, List.set_cons_zero, List.set_cons_succ]
              refine wpAnyH_take (i := 8) (v := ?_) rfl (by kernel_rfl) (by kernel_rfl) (by kernel_rfl) (fun _ _ _ h => h) (Or.inl ⟨by rfl, ?_⟩) (by assumption) ?_
              rotate_left
              · intro w hSw; (try dsimp only at hSw); go_simp; (try with_reducible rfl)
              try simp only [Act.put, List.setIfInBounds_toArray, List.set_cons_zero, List.set_cons_succ]
              refine wpAnyH_take (i := 9) (v := ?_) rfl (by kernel_rfl) (by kernel_rfl) (by kernel_rfl) (fun _ _ _ h => h) (Or.inl ⟨by rfl, ?_⟩) (by assumption) ?_
              rotate_left
              · intro w hSw; (try dsimp only at hSw); go_simp; (try with_reducible rfl)
              try simp only [Act.put, List.setIfInBounds_toArray, List.set_cons_zero, List.set_cons_succ]
              refine wpAnyH_take (i := 10) (v := ?_) rfl (by kernel_rfl) (by kernel_rfl) (by kernel_rfl) (fun _ _ _ h => h) (Or.inl ⟨by rfl, ?_⟩) (by assumption) ?_
              rotate_left
              · intro w hSw; (try dsimp only at hSw); go_simp; (try with_reducible rfl)
              try simp only [Act.put, List.setIfInBounds_toArray, List.set_cons_zero, List.set_cons_succ]
              refine wpAnyH_take (i := 12) (v := ?_) rfl (by kernel_rfl) (by kernel_rfl) (by kernel_rfl) (fun _ _ _ h => h) (Or.inl ⟨by rfl, ?_⟩) (by assumption) ?_
              rotate_left
              · intro w hSw; (try dsimp only at hSw); go_simp; (try with_reducible rfl)
              try simp only [Act.put, List.setIfInBounds_toArray, List.set_cons_zero, List.set_cons_succ]
              refine wpAnyH_take (i := 13) (v := ?_) rfl (by kernel_rfl) (by kernel_rfl) (by kernel_rfl) (fun _ _ _ h => h) (Or.inl ⟨by rfl, ?_⟩) (by assumption) ?_
              rotate_left
              · intro w hSw; (try dsimp only at hSw); go_simp; (try with_reducible rfl)
              try simp only [Act.put, List.setIfInBounds_toArray, List.set_cons_zero, List.set_cons_succ]
              refine wpAnyH_take (i := 14) (v := ?_) rfl (by kernel_rfl) (by kernel_rfl) (by kernel_rfl) (fun _ _ _ h => h) (Or.inl ⟨by rfl, ?_⟩) (by assumption) ?_
              rotate_left
              · intro w hSw; (try dsimp only at hSw); go_simp; (try with_reducible rfl)
              try simp only [Act.put, List.setIfInBounds_toArray, List.set_cons_zero, List.set_cons_succ]
              refine wpAnyH_take (i := 15) (v := ?_) rfl (by kernel_rfl) (by kernel_rfl) (by kernel_rfl) (fun _ _ _ h => h) (Or.inl ⟨by rfl, ?_⟩) (by assumption) ?_
              rotate_left
              · intro w hSw; (try dsimp only at hSw); go_simp; (try with_reducible rfl)
              try simp only [Act.put, List.setIfInBounds_toArray, List.set_cons_zero, List.set_cons_succ]
              refine wpAnyH_take (i := 16) (v := ?_) rfl (by kernel_rfl) (by kernel_rfl) (by kernel_rfl) (fun _ _ _ h => h) (Or.inl ⟨by rfl, ?_⟩) (by assumption) ?_
              rotate_left
              · intro w hSw; (try dsimp only at hSw); go_simp; (try with_reducible rfl)
              try simp only [Act.put, List.setIfInBounds_toArray, List.set_cons_zero, List.set_cons_succ]
              refine wpAnyH_take (i := 17) (v := ?_) rfl (by kernel_rfl) (by kernel_rfl) (by kernel_rfl) (fun _ _ _ h => h) (Or.inl ⟨by rfl, ?_⟩) (by assumption) ?_
              rotate_left
              · intro w hSw; (try dsimp only at hSw); go_simp; (try with_reducible rfl)
              try simp only [Act.put, List.setIfInBounds_toArray, List.set_cons_zero, List.set_cons_succ]
              refine wpAnyH_take (i := 18) (v := ?_) rfl (by kernel_rfl) (by kernel_rfl) (by kernel_rfl) (fun _ _ _ h => h) (Or.inl ⟨by rfl, ?_⟩) (by assumption) ?_
              rotate_left
              · intro w hSw; (try dsimp only at hSw); go_simp; (try with_reducible rfl)
              try simp only [Act.put, List.setIfInBounds_toArray, List.set_cons_zero, List.set_cons_succ]
              refine wpAnyH_take (i := 19) (v := ?_) rfl (by kernel_rfl) (by kernel_rfl) (by kernel_rfl) (fun _ _ _ h => h) (Or.inl ⟨by rfl, ?_⟩) (by assumption) ?_
              rotate_left
              · intro w hSw; (try dsimp only at hSw); go_simp; (try with_reducible rfl)
              try simp only [Act.put, List.setIfInBounds_toArray, List.set_cons_zero, List.set_cons_succ]
              refine wpAnyH_take (i := 20) (v := ?_) rfl (by kernel_rfl) (by kernel_rfl) (by kernel_rfl) (fun _ _ _ h => h) (Or.inl ⟨by rfl, ?_⟩) (by assumption) ?_
              rotate_left
              · intro w hSw; (try dsimp only at hSw); go_simp; (try with_reducible rfl)
              try simp only [Act.put, List.setIfInBounds_toArray, List.set_cons_zero, List.set_cons_succ]
              refine wpAnyH_take (i := 21) (v := ?_) rfl (by kernel_rfl) (by kernel_rfl) (by kernel_rfl) (fun _ _ _ h => h) (Or.inl ⟨by rfl, ?_⟩) (by assumption) ?_
              rotate_left
              · intro w hSw; (try dsimp only at hSw); go_simp; (try with_reducible rfl)
              try simp only [Act.put, List.setIfInBounds_toArray, List.set_cons_zero, List.set_cons_succ]
              refine wpAnyH_ready (rs := [11]) (by kernel_rfl) (by simp) ?_
              refine AllReadyH.cons rfl (fun K hK => ?_) AllReadyH.nil
              go_simp
              refine hK.out _ _ ⟨t1, t4, t7⟩ (fun hHeld => ?_)
              clear hK K
              try simp only [Act.put, List.setIfInBounds_toArray, List.set_cons_zero, List.set_cons_succ]
              refine wpAnyH_ready (rs := [22]) (by kernel_rfl) (by simp) ?_
              refine AllReadyH.cons rfl (fun K hK => ?_) AllReadyH.nil
              go_simp
              go_at_call 58
              refine (C5.out).mono ?_
              rintro e w2 ⟨g3, o3, cap3', rfl, m1, m2, m3, m4⟩
              have M := Lib.hid (HQ.out.drew.lay HPL.out m1 m2 m3 m4)
              obtain ⟨u1, u2, u3, u4, u5, u6⟩ := KX.out w2 (((Cha.refl _ wr).drew).trans m2)
              have u7 := HUU.out _ (u6 (m + 1) HM1.out)
              have S4 := Lib.hid (three_set (bl := bl) (p := p) u1 u4 u7 HN1'.out HN2'.out HN3'.out)
              clear u6 m1 m2 m3 m4
              go_wp2_with fail
              refine hK.out _ _ ⟨u1, u4, u7⟩ (fun hHeld => ?_)
              clear hK K
              try simp only [Act.put, List.setIfInBounds_toArray, List.set_cons_zero, List.set_cons_succ]
              refine wpAnyH_take (i := 23) (v := ?_) rfl (by kernel_rfl) (by kernel_rfl) (by kernel_rfl) (fun _ _ _ h => h) (Or.inl ⟨by rfl, ?_⟩) (by assumption) ?_
              rotate_left
              · intro w hSw; (try dsimp only at hSw); go_simp; (try with_reducible rfl)
              try simp only [Act.put, List.setIfInBounds_toArray, List.set_cons_zero, List.set_cons_succ]
              refine wpAnyH_ready (rs := [24]) (by kernel_rfl) (by simp) ?_
              refine AllReadyH.cons rfl (fun K hK => ?_) AllReadyH.nil
              go_simp
              refine hK.out _ _ (S4.out _) (fun hHeld => ?_)
              clear hK K
              try simp only [Act.put, List.setIfInBounds_toArray, List.set_cons_zero, List.set_cons_succ]
              refine wpAnyH_done (by kernel_rfl) ?_ _
              refine NoPanic.normal ?_
              all_goals
                have M1 := Lib.hid (rleft_step HC1.out.drew HS1.out HN1.out M.out)
                rw [List.set_set, show B ++ [u] = X.take (m + 1) by rw [HTK.out, HB.out]] at M1
                clear b1 b4
                go_wp2
                go_roundw
                case rel => exact ⟨m + 1, by omega, by go_num, M1.out⟩
                case measure => simp [intOf]; omega
            · obtain rfl : m = hh := by omega
              obtain ⟨t1, t2, t3, t4, t5, -⟩ := KX.out wr.drew ((Cha.refl _ wr).drew)
              have hdr := HDR.out.drop (k := m + 1) (by rw [List.length_cons, ← HXL.out]; omega)
              rw [List.length_cons, ← HXL.out] at hdr
              have hsl : ∀ w, (Instr.slice 37 (.slice (some ⟨gv, ov, none⟩) (xl + 1) capv) (some (.int .i64 ((m : Int) + 1))) none none).run Tryz.prog w = .ok (.slice (some ⟨gv, if capv = m + 1 then ov else ov + (m + 1), none⟩) (xl + 1 - (m + 1)) (capv - (m + 1))) w := fun w => by
                have := slice_from gv ov (xl + 1) capv (m + 1) (by omega) w
                rw [Int.natCast_add] at this
                exact this
              obtain ⟨ov', hov⟩ : ∃ o', o' = if capv = m + 1 then ov else ov + (m + 1) := ⟨_, rfl⟩
              rw [← hov] at hsl hdr
              obtain ⟨nl, hnl⟩ : ∃ nl, nl = xl + 1 - (m + 1) := ⟨_, rfl⟩
              obtain ⟨cl, hcl⟩ : ∃ cl, cl = capv - (m + 1) := ⟨_, rfl⟩
              rw [← hnl, ← hcl] at hsl hdr
              have q3 := Lib.hid (HQ.out.put v HVL.out hdr (fun i hi => HOWN.out i (by cases hi; rfl))).drew
              have HCM : Hid ((S.set p (-1, B)).set v (y, (g :: X).drop (m + 1)) = (S.set v (y, X.drop m)).set p (-1, X.take m)) := Lib.hid (by rw [HB.out]; exact List.set_comm _ _ (Ne.symm HVP.out))
              clear hdr hov hnl hcl
              go_wp2
              go_region
              all_goals
                go_wp2
                go_returns
                rw [HR.out, HT.out]
                have q4 := q3.out
                rw [HCM.out] at q4
                exact ⟨rfl, rleft_step HC1.out HS1.out HN1.out (RLeft.one q4 ((Cha.refl _ wr).setCell (p := ⟨bl, v, none⟩) (fun _ => .inr (.inl rfl)) _).drew)⟩
    · obtain rfl : i = k := by omega
      have HR := Lib.hid (steal_none (S := S) (p := p) (f := f) (by rw [← HK.out]; exact HNO.out))
      go_wp2
      go_returns
      rw [HR.out]
      exact ⟨rfl, RLeft.one Q.out (Cha.refl _ _)⟩
end Go.Proofs.YtaloafihbdamiaaGreat
