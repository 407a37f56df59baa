/- The document's scheduler beside the program's: Act of a busy processor. -/
import Derived.Test.YtaloafihbdamiaaGreatRL
namespace Go.Proofs.YtaloafihbdamiaaGreat
open Go.ChangeShapes Go.WideShapes Go.ChangeAt Go.RowKit
section
variable {w W w' : World} {F : Nat → Prop} {bd br bt n : Nat} {X : Sx} {Y : Dx} {Z : List (Int × Ent)} {sc : List Int} {N : Int}
theorem dact_busy (h : DcA bd br bt n (dx X Z sc) w F) (M : Match X.P Z X.a) (gd : Gd X) (f : Fine 1000 X) (r : Scr N X sc) (hN : N < 4611686018427387904) (p g : Nat) (s : Int) (hp : p < X.pr.length) (hn : X.on p = (g : Int)) :
    Calls Tryz.prog 21 #[.pointer (some ⟨bd, 0, none⟩), .int .i64 (p : Int), .int .i64 s] w fun e w' => e = .returned (.tuple #[.int .i64 (X.goon p).1, .int .i64 (X.on p), .int .i64 0]) ∧ ∃ sc', Scr (N + 1) (X.goon p).2 sc' ∧ Dg bd br bt n sc' (X.goon p).2 w w' F := by
  have el : (dx X Z sc).g.length = X.pr.length := by show (X.pr.map Prod.fst).length = _; rw [List.length_map]
  have C := Lib.hid (sbad_no h p (by rw [el]; exact hp))
  have ok : QOk X.Q := gd.ok (by have := f.qa; omega)
  have hq : p < X.Q.1.length := by rw [f.lq]; exact hp
  have CW := Lib.hid (dc_waiting h ok p hq)
  have h8 := (Dc.n8 h).1
  rw [el] at h8
  obtain ⟨-, -, m4, -, -, mf⟩ := Dc.facts h
  obtain ⟨b0, o0, cap0, g1, g2, g3, g4, -⟩ := Dc.setG h (i := p) (by rw [el]; exact hp)
  rw [dx_on X Z sc hp, hn] at g4
  rw [el] at g1 g2
  have hs0 := r.lo p
  have hs1 := r.hi p
  have hrn := r.rn p (by omega)
  have hup := r.on_up hp
  have HQ : Hid (∀ w1, Cha (fun _ => False) w w1 → ∃ b o cap, w1.cell? ⟨bd, 3, none⟩ = some (.slice (some ⟨b, o, none⟩) X.pr.length cap) ∧ X.pr.length ≤ cap ∧ cap ≤ maxLen ∧ w1.cell? ⟨b, o + p, none⟩ = some (.int .i64 (sc.getD p 0)) ∧ (∀ j, w1.frozen? ⟨b, j, none⟩ = false) ∧
      Goes (DcA bd br bt n { dx X Z sc with sc := sc.set p (sc.getD p 0 + 1) }) w (w1.setCell ⟨b, o + p, none⟩ (.int .i64 (sc.getD p 0 + 1))) F ∧
      Calls Tryz.prog 23 #[.pointer (some ⟨bd, 0, none⟩), .int .i64 (p : Int)] w1 fun e w' => e = .returned (.int .i64 0) ∧ Goes (DcA bd br bt n ((dx X Z sc).yld p g)) w w' F) := Lib.hid fun w1 c => by
    have h1 := fit_dc.same h c
    have ec := (Dc.n8 h).2.2.2.1
    obtain ⟨b, o, cap, q1, q2, q3, q4, q5, -, up⟩ := Dc.setSc h1 (i := p) (by rw [ec, el]; exact hp)
    rw [ec, el] at q1 q2
    refine ⟨b, o, cap, q1, q2, q3, q4, q5, (up w1 (Cha.refl _ w1) (sc.getD p 0 + 1)).before c, ?_⟩
    exact (dyield_any h1 ok p g (by rw [el]; exact hp) (by rw [dx_on X Z sc hp]; exact hn)).mono fun e w' ⟨a, G⟩ => ⟨a, G.before c⟩
  have HA : Hid (∀ w', X.goon p = (3, if X.runs p < 16 then { X with pr := X.pr.set p (X.on p, X.runs p + 1) } else X) → Goes (DcA bd br bt n { dx X Z sc with sc := sc.set p (sc.getD p 0 + 1) }) w w' F → ∃ sc', Scr (N + 1) (X.goon p).2 sc' ∧ Dg bd br bt n sc' (X.goon p).2 w w' F) := Lib.hid fun w' e G => by
    rw [e] at hup ⊢
    rw [if_neg (show ¬ (3 : Int) = 4 by decide)] at hup
    refine ⟨_, hup, Z, ?_, ?_⟩
    · by_cases c : X.runs p < 16
      · rw [if_pos c]; exact M
      · rw [if_neg c]; exact M
    · have e2 : dx (if X.runs p < 16 then { X with pr := X.pr.set p (X.on p, X.runs p + 1) } else X) Z (sc.set p (sc.getD p 0 + 1)) = { dx X Z sc with sc := sc.set p (sc.getD p 0 + 1) } := by
        by_cases c : X.runs p < 16
        · rw [if_pos c]
          unfold dx
          dsimp only
          have := set_fst X.pr p (X.runs p + 1)
          rw [show (X.on p, X.runs p + 1) = ((X.pr.getD p (-1, 0)).1, X.runs p + 1) from rfl, this]
        · rw [if_neg c]; rfl
      rw [e2]; exact G
  have HB : Hid (∀ w', X.goon p = (4, X.yld p) → Goes (DcA bd br bt n ((dx X Z sc).yld p g)) w w' F → ∃ sc', Scr (N + 1) (X.goon p).2 sc' ∧ Dg bd br bt n sc' (X.goon p).2 w w' F) := Lib.hid fun w' e G => by
    rw [e] at hup ⊢
    rw [if_pos rfl] at hup
    refine ⟨_, hup, Z, M, ?_⟩
    have e2 : dx (X.yld p) Z sc = (dx X Z sc).yld p g := by
      unfold dx Sx.yld Dx.yld
      simp only [List.map_set, hn]
    rw [e2]; exact G
  have hgo : X.goon p = if X.runs p < 16 then (3, { X with pr := X.pr.set p (X.on p, X.runs p + 1) }) else if cnt (X.Q.1.getD p (-1, [])) + X.Q.2.length = 0 then (3, X) else (4, X.yld p) := rfl
  have hcn : cnt (X.Q.1.getD p (-1, [])) ≤ 9 := by
    have hx : X.Q.1[p]? = some (X.Q.1.getD p (-1, [])) := by simp [List.getD, hq]
    have := ok.l8 p _ hx
    unfold cnt
    split <;> omega
  have hqa := f.qa
  have CW : Hid (Calls Tryz.prog 42 #[.pointer (some ⟨br, 0, none⟩), .int .i64 (p : Int)] w fun e w' => e = .returned (.tuple #[.int .i64 (cnt (X.Q.1.getD p (-1, [])) : Nat), .int .i64 (X.Q.2.length : Nat)]) ∧ Cha (fun _ => False) w w') := CW
  have HX := Lib.hid hn
  clear h M gd f r ok hup el hq
  generalize sc.getD p 0 = x at *
  generalize cnt (X.Q.1.getD p (-1, [])) = c1 at *
  generalize X.Q.2.length = c2 at *
  generalize X.pr.length = m at *
  have k1 : (p : Int) < (m : Int) := by omega
  have k2 : (0 : Int) ≤ (p : Int) := by omega
  have k3 : (0 : Int) ≤ (g : Int) := by omega
  by_cases hx : 16 ≤ x
  · have hr : ¬ X.runs p < 16 := by omega
    rw [if_neg hr] at hgo
    by_cases hc : c1 + c2 = 0
    · rw [if_pos hc] at hgo
      have hk : decide ((0 : Int) < (c1 : Int) + (c2 : Int)) = false := by simp; omega
      have HA2 := Lib.hid fun w' => HA.out w' (by rw [if_neg hr]; exact hgo)
      have hgo2 : (X.goon p).1 = 3 := by rw [hgo]
      clear hgo hn hrn hr
      rw [HX.out]
      rw [hgo2]
      go_enter Tryz.func21, Tryz.ntmps21
      go_wp2_with (first
        | (go_at_call 36; ((with_reducible refine (C.out).mono ?_); rintro e w1 ⟨rfl, rfl⟩))
        | (go_at_call 42; ((with_reducible refine (CW.out).mono ?_); rintro e w1 ⟨rfl, cc⟩; obtain ⟨b, o, cap, q1, q2, q3, q4, q5, hG, -⟩ := HQ.out _ cc; have HG := Lib.hid hG; clear hG cc)))
      go_returns
      exact ⟨rfl, HA2.out _ HG.out⟩
    · rw [if_neg hc] at hgo
      have hk : (0 : Int) < (c1 : Int) + (c2 : Int) := by omega
      have HB2 := Lib.hid fun w' => HB.out w' hgo
      have hgo2 : (X.goon p).1 = 4 := by rw [hgo]
      clear hgo hn hrn hr
      rw [HX.out]
      rw [hgo2]
      go_enter Tryz.func21, Tryz.ntmps21
      go_wp2_with (first
        | (go_at_call 36; ((with_reducible refine (C.out).mono ?_); rintro e w1 ⟨rfl, rfl⟩))
        | (go_at_call 42; ((with_reducible refine (CW.out).mono ?_); rintro e w1 ⟨rfl, cc⟩; obtain ⟨b, o, cap, q1, q2, q3, q4, q5, -, hG⟩ := HQ.out _ cc; have HC := Lib.hid hG; clear hG cc))
        | (go_at_call 23; ((with_reducible refine (HC.out).mono ?_); rintro e w2 ⟨rfl, hG⟩; have HG := Lib.hid hG; clear hG)))
      go_returns
      exact ⟨rfl, HB2.out _ HG.out⟩
  · have hr : X.runs p < 16 := by omega
    have hk : decide (16 ≤ x) = false := by simpa using hx
    rw [if_pos hr] at hgo
    have HA2 := Lib.hid fun w' => HA.out w' (by rw [if_pos hr]; exact hgo)
    have hgo2 : (X.goon p).1 = 3 := by rw [hgo]
    clear hgo hn hrn hr hx
    rw [HX.out]
    rw [hgo2]
    go_enter Tryz.func21, Tryz.ntmps21
    go_wp2_with (first
      | (go_at_call 36; ((with_reducible refine (C.out).mono ?_); rintro e w1 ⟨rfl, rfl⟩))
      | (go_at_call 42; ((with_reducible refine (CW.out).mono ?_); rintro e w1 ⟨rfl, cc⟩; obtain ⟨b, o, cap, q1, q2, q3, q4, q5, hG, -⟩ := HQ.out _ cc; have HG := Lib.hid hG; clear hG cc)))
    go_returns
    exact ⟨rfl, HA2.out _ HG.out⟩
end
end Go.Proofs.YtaloafihbdamiaaGreat

namespace Go.Proofs.YtaloafihbdamiaaGreat
open Go.ChangeShapes Go.WideShapes Go.ChangeAt Go.RowKit
section
variable {w W w' : World} {F : Nat → Prop} {bd br bt n : Nat} {X : Sx} {Y : Dx} {Z : List (Int × Ent)} {sc : List Int} {N : Int}
theorem Scr.take (r : Scr N X sc) {Y : Sx} (hY : Y.pr = X.pr) {p : Nat} (hp : p < X.pr.length) (g : Int) : Scr (N + 1) (Y.take p g) (sc.set p 0) := by
  have hl := r.len
  have key : ∀ q, (sc.set p 0).getD q 0 = if q = p then 0 else sc.getD q 0 := fun q => getD_set _ _ _ _ _ (by omega)
  refine ⟨by show _ = (Y.pr.set _ _).length; rw [List.length_set, List.length_set, hY]; exact hl, fun q => ?_, fun q => ?_, fun q hq => ?_⟩
  · rw [key]; split
    · exact Int.le_refl _
    · exact r.lo q
  · rw [key]
    have := r.hi q
    have := r.lo q
    split <;> omega
  · have e : (Y.take p g).on q = (if q = p then g else X.on q) ∧ (Y.take p g).runs q = if q = p then 0 else X.runs q := by
      unfold Sx.take Sx.on Sx.runs
      dsimp only
      rw [hY, getD_set _ _ _ _ _ hp]
      by_cases e : q = p
      · subst e; simp
      · simp [e]
    rw [e.2, key]
    by_cases e3 : q = p
    · simp only [e3, if_true]; decide
    · rw [e.1, if_neg e3] at hq
      simp only [e3, if_false]; exact r.rn q hq
theorem Scr.same (r : Scr N X sc) {Y : Sx} (hY : Y.pr = X.pr) : Scr (N + 1) Y sc :=
  ⟨by rw [hY]; exact r.len, r.lo, fun q => by have := r.hi q; omega, fun q hq => by
    have e : Y.on q = X.on q ∧ Y.runs q = X.runs q := by unfold Sx.on Sx.runs; rw [hY]; exact ⟨rfl, rfl⟩
    rw [e.1] at hq; rw [e.2]; exact r.rn q hq⟩
theorem dact_idle (h : DcA bd br bt n (dx X Z sc) w F) (M : Match X.P Z X.a) (gd : Gd X) (f : Fine 1000 X) (r : Scr N X sc) (p : Nat) (s : Int) (hp : p < X.pr.length) (hnn : X.pr.length = n) (hi : X.on p = -1) (hg : ∀ g, (X.find p s).1 = (g, true) → 0 ≤ g ∧ g < 64) :
    Calls Tryz.prog 21 #[.pointer (some ⟨bd, 0, none⟩), .int .i64 (p : Int), .int .i64 s] w fun e w' => e = .returned (.tuple #[.int .i64 (X.act p s).1.1, .int .i64 (X.act p s).1.2, .int .i64 0]) ∧ ∃ sc', Scr (N + 1) (X.act p s).2 sc' ∧ Dg bd br bt n sc' (X.act p s).2 w w' F := by
  have el : (dx X Z sc).g.length = X.pr.length := by show (X.pr.map Prod.fst).length = _; rw [List.length_map]
  have C := Lib.hid (sbad_no h p (by rw [el]; exact hp))
  have h8 := (Dc.n8 h).1
  rw [el] at h8
  obtain ⟨-, -, m4, -, -, mf⟩ := Dc.facts h
  obtain ⟨b0, o0, cap0, g1, g2, g3, g4, -⟩ := Dc.setG h (i := p) (by rw [el]; exact hp)
  rw [dx_on X Z sc hp, hi] at g4
  rw [el] at g1 g2
  have CF := Lib.hid (dfind_any (s := s) ⟨Z, M, F, h, Cha.refl _ w, fun _ x => .inl x⟩ f gd p hp hnn (by omega))
  have hact : X.act p s = if (X.find p s).1.2 then ((2, (X.find p s).1.1), (X.find p s).2.take p (X.find p s).1.1) else ((1, 0), (X.find p s).2) := by unfold Sx.act; rw [if_pos hi]
  have hpr := find_pr X p s
  generalize X.find p s = R at *
  obtain ⟨⟨g, b⟩, X1⟩ := R
  have CF : Hid (Calls Tryz.prog 43 #[.pointer (some ⟨bd, 0, none⟩), .int .i64 (p : Int), .int .i64 s] w fun e w' => e = .returned (.tuple #[.int .i64 g, .bool b]) ∧ Dg bd br bt n sc X1 w w' F) := CF
  have hpr : X1.pr = X.pr := hpr
  cases b with
  | false =>
    have hact : X.act p s = ((1, 0), X1) := hact
    rw [hact]
    have HS := Lib.hid (r.same hpr)
    clear h M gd f r hact hg hi el
    generalize X.pr.length = m at *
    have k1 : (p : Int) < (m : Int) := by omega
    have k2 : (0 : Int) ≤ (p : Int) := by omega
    go_enter Tryz.func21, Tryz.ntmps21
    go_wp2_with (first
      | (go_at_call 36; ((with_reducible refine (C.out).mono ?_); rintro e w1 ⟨rfl, rfl⟩))
      | (go_at_call 43; ((with_reducible refine (CF.out).mono ?_); rintro e w1 ⟨rfl, hG⟩; have HG := Lib.hid hG; clear hG)))
    go_returns
    exact ⟨rfl, _, HS.out, HG.out⟩
  | true =>
    have hact : X.act p s = ((2, g), X1.take p g) := hact
    rw [hact]
    have HS := Lib.hid (r.take hpr hp g)
    have HU : Hid (∀ w1, Dg bd br bt n sc X1 w w1 F → ∃ b o cap b2 o2 cap2 x y, w1.cell? ⟨bd, 2, none⟩ = some (.slice (some ⟨b, o, none⟩) X.pr.length cap) ∧ X.pr.length ≤ cap ∧ cap ≤ maxLen ∧ w1.cell? ⟨b, o + p, none⟩ = some (.int .i64 x) ∧ (∀ j, w1.frozen? ⟨b, j, none⟩ = false) ∧
        w1.cell? ⟨bd, 3, none⟩ = some (.slice (some ⟨b2, o2, none⟩) X.pr.length cap2) ∧ X.pr.length ≤ cap2 ∧ cap2 ≤ maxLen ∧ w1.cell? ⟨b2, o2 + p, none⟩ = some (.int .i64 y) ∧ (∀ j, w1.frozen? ⟨b2, j, none⟩ = false) ∧ b ≠ bd ∧ b2 ≠ bd ∧ b ≠ b2 ∧
        Dg bd br bt n (sc.set p 0) (X1.take p g) w ((w1.setCell ⟨b, o + p, none⟩ (.int .i64 g)).setCell ⟨b2, o2 + p, none⟩ (.int .i64 0)) F) := Lib.hid fun w1 ⟨Z', M', F1, h1, c1, n1⟩ => by
      have el1 : (dx X1 Z' sc).g.length = X.pr.length := by show (X1.pr.map Prod.fst).length = _; rw [List.length_map, hpr]
      obtain ⟨b, o, cap, b2, o2, cap2, q1, q2, q3, q4, q5, q6, q7, q8, q9, q10, q11, q12, q13, up⟩ := Dc.setGS h1 (i := p) (by rw [el1]; exact hp)
      rw [el1] at q1 q2 q6 q7
      refine ⟨b, o, cap, b2, o2, cap2, _, _, q1, q2, q3, q4, q5, q6, q7, q8, q9, q10, q11, q12, q13, Z', M', ?_⟩
      have e : dx (X1.take p g) Z' (sc.set p 0) = { dx X1 Z' sc with g := (dx X1 Z' sc).g.set p g, sc := (dx X1 Z' sc).sc.set p 0 } := by
        unfold dx Sx.take
        simp only [List.map_set]
      rw [e]
      obtain ⟨F3, q, cq, nq⟩ := up w1 (Cha.refl _ w1) g 0
      exact ⟨F3, q, c1.over cq n1, fun i hi => (nq i hi).elim (n1 i) fun e => .inr (Nat.le_trans c1.size e)⟩
    clear h M gd f r hact hg hi el hpr
    generalize X.pr.length = m at *
    have k1 : (p : Int) < (m : Int) := by omega
    have k2 : (0 : Int) ≤ (p : Int) := by omega
    go_enter Tryz.func21, Tryz.ntmps21
    go_wp2_with (first
      | (go_at_call 36; ((with_reducible refine (C.out).mono ?_); rintro e w1 ⟨rfl, rfl⟩))
      | (go_at_call 43; ((with_reducible refine (CF.out).mono ?_); rintro e w1 ⟨rfl, hG⟩; obtain ⟨b, o, cap, b2, o2, cap2, x, y, q1, q2, q3, q4, q5, q6, q7, q8, q9, q10, q11, q12, q13, hG2⟩ := HU.out _ hG; have HG := Lib.hid hG2; clear hG hG2)))
    go_returns
    exact ⟨rfl, _, HS.out, HG.out⟩
end
end Go.Proofs.YtaloafihbdamiaaGreat

namespace Go.Proofs.YtaloafihbdamiaaGreat
open Go.ChangeShapes Go.WideShapes Go.ChangeAt Go.RowKit
theorem infoI : (Tryz.prog.info? 3).map (fun i => (i.zero, i.size, i.bytes)) = some (some (.int .i64 0), 1, 8) := by kernel_rfl
theorem made_ints (m : Nat) : madeCells (Value.int .i64 0).cells (m * 1) = fcells m (fun _ => .int .i64 0) := by
  rw [Nat.mul_one]
  unfold madeCells fcells
  congr 1
  funext x
  show (#[Value.int .i64 0])[x % 1]! = _
  rw [Nat.mod_one]
  rfl
theorem mk_ints (m : Nat) (hm : m ≤ 1000000) (W : World) : (Instr.makeSlice 37 (.int .i64 (m : Int)) (.int .i64 (m : Int))).run Tryz.prog W = .ok (.slice (some ⟨W.heap.size, 0, none⟩) m m) (W.alloc (.cells (fcells m (fun _ => .int .i64 0)) 3)) := by
  obtain ⟨i, hi, hz, hs, hb⟩ := info_parts infoI
  have h := run_make (P := Tryz.prog) W 37 3 i _ Tryz.underlying37 hi hz .i64 .i64 (m : Int) (m : Int) (by omega) (by omega) (by rw [hb]; omega) (by omega)
  rw [hs, Int.toNat_natCast, made_ints] at h
  exact h
/-- The document's own blocks while they are made. -/
structure DH (w : World) (F : Nat → Prop) (bd br bt b4 : Nat) (v3 : Value) (n j : Nat) : Prop where
  head : w.heap[bd]? = some (.cells #[.slice none 0 0, .slice none 0 0, v3, .slice (some ⟨b4, 0, none⟩) n n, .pointer (some ⟨br, 0, none⟩), .pointer (some ⟨bt, 0, none⟩), .int .u64 0] 42 (0, 0))
  l3 : En.Lies inE w v3 (List.replicate j (-1))
  l4 : En.Lies inE w (.slice (some ⟨b4, 0, none⟩) n n) (List.replicate n 0)
  ne : bd ≠ b4
  fd : F bd
  f4 : F b4
  g3 : ∀ b, v3.ownBlock = some b → b ≠ bd ∧ b ≠ b4 ∧ F b
  old : ∀ i, F i → i < w.heap.size
def DHA (bd br bt b4 n j : Nat) : Asn := fun w F => ∃ v3, DH w F bd br bt b4 v3 n j
section
variable {w w' : World} {F S : Nat → Prop} {bd br bt b4 n j : Nat} {v3 v3' : Value}
theorem DH.cha (h : DH w F bd br bt b4 v3 n j) (c : Cha S w w') (hs : ∀ i, F i → ¬ S i) : DH w' F bd br bt b4 v3 n j :=
  { h with head := (c.old bd (h.old _ h.fd) (hs _ h.fd)).trans h.head, l3 := h.l3.cha c fun b e => hs b (h.g3 b e).2.2, l4 := h.l4.cha c fun b e => by cases e; exact hs b4 h.f4, old := fun i x => Nat.lt_of_lt_of_le (h.old i x) c.size }
theorem fit_dh : Fit (DHA bd br bt b4 n j) := ⟨fun ⟨v, h⟩ c hs => ⟨v, h.cha c hs⟩, fun ⟨_, h⟩ => h.old⟩
theorem DH.grow (h : DH w F bd br bt b4 v3 n j) (a : En.AppV inE w w' v3 (List.replicate (j + 1) (-1)) v3') : Goes (DHA bd br bt b4 n (j + 1)) w (w'.setCell ⟨bd, 2, none⟩ v3') F := by
  have cc : Cha (fun i => i = bd) w' (w'.setCell ⟨bd, 2, none⟩ v3') := (Cha.refl (fun j => j = bd) w').setCell (p := ⟨bd, 2, none⟩) (fun _ => rfl) _
  have hb : ∀ b, v3'.ownBlock = some b → b ≠ bd ∧ b ≠ b4 ∧ (F b ∨ w.heap.size ≤ b) := fun b e => by
    rcases a.at' b e with k | k
    · have := h.g3 b k; exact ⟨this.1, this.2.1, .inl this.2.2⟩
    · have := h.old _ h.fd; have := h.old _ h.f4
      exact ⟨by omega, by omega, .inr k⟩
  have hh := (a.cha.old bd (h.old _ h.fd) (fun e => (h.g3 bd e).1 rfl)).trans h.head
  refine ⟨fun i => F i ∨ v3'.ownBlock = some i, ⟨v3', { head := by rw [heap_setCell_same w' bd 2 _ 42 _ hh]; rfl, l3 := a.lies.cha cc fun b e => (hb b e).1, l4 := (h.l4.cha a.cha fun b e k => (h.g3 b k).2.1 (by cases e; rfl)).cha cc fun b e k => by cases e; exact h.ne k.symm, ne := h.ne, fd := .inl h.fd, f4 := .inl h.f4, g3 := fun b e => ⟨(hb b e).1, (hb b e).2.1, .inr e⟩, old := fun i f => ?_ }⟩, ?_, fun i f => ?_⟩
  · refine Nat.lt_of_lt_of_le ?_ cc.size
    rcases f with f | f
    · exact Nat.lt_of_lt_of_le (h.old i f) a.cha.size
    · exact a.lies.lt f
  · exact (a.cha.mono fun i _ e => (h.g3 i e).2.2).setCell (p := ⟨bd, 2, none⟩) (fun _ => h.fd) _
  · rcases f with f | f
    · exact .inl f
    · exact (hb i f).2.2
theorem DHA.fin (h : DHA bd br bt b4 n n w F) (h8 : n ≤ 8) : DoA bd br bt [] [] (List.replicate n (-1)) (List.replicate n 0) 0 w F := by
  obtain ⟨v3, h⟩ := h
  exact ⟨_, _, _, _, fun i => if i = bd then 0 else if i = b4 then 4 else 3, { head := h.head, l1 := En.Lies.nil _ _, l2 := En.Lies.nil _ _, l3 := h.l3, l4 := h.l4, tg := ⟨by simp, h.fd⟩, t1 := fun b e => (by cases e), t2 := fun b e => (by cases e), t3 := fun b e => ⟨by have := h.g3 b e; simp [this.1, this.2.1], (h.g3 b e).2.2⟩, t4 := fun b e => by cases e; exact ⟨by simp [h.ne.symm], h.f4⟩, g64 := by simp, s64 := rfl, n8 := by simpa using h8, c8 := by simp, c0 := by decide, c1 := by decide, old := h.old }⟩
end
end Go.Proofs.YtaloafihbdamiaaGreat

namespace Go.Proofs.YtaloafihbdamiaaGreat
open Go.ChangeShapes Go.WideShapes Go.ChangeAt Go.RowKit
theorem cs_zero (n : Nat) : inE.cs (List.replicate n 0) = List.replicate n (.int .i64 0) := by
  induction n with
  | zero => rfl
  | succ n ih =>
    rw [List.replicate_succ, List.replicate_succ, ← ih]
    rfl
section
variable {w w' : World} {F : Nat → Prop}
theorem dhb_bad (n : Int) (w : World) (h : n < 1 ∨ 8 < n) : Calls Tryz.prog 5 #[.int .i64 n] w fun e w' => e = .returned (.tuple #[.pointer none, .int .i64 1]) ∧ w = w' := by
  have C := Lib.hid (rnew_bad n w h)
  clear h
  go_enter Tryz.func5, Tryz.ntmps5
  go_wp2_with (go_at_call 16; ((with_reducible refine (C.out).mono ?_); rintro e w1 ⟨rfl, rfl⟩))
  go_returns
  exact ⟨rfl, rfl⟩
theorem mine_dh (n : Nat) (h2 : n ≤ 8) (w2 : World) (br bt : Nat) : Mine w2 (DHA (w2.heap.size + 1) br bt w2.heap.size n 0) ((w2.alloc (.cells (fcells n fun _ => .int .i64 0) 3)).alloc (.cells #[.slice none 0 0, .slice none 0 0, .slice none 0 0, .slice (some ⟨w2.heap.size, 0, none⟩) n n, .pointer (some ⟨br, 0, none⟩), .pointer (some ⟨bt, 0, none⟩), .int .u64 0] 42)) := by
  have hd := heap_alloc2_new w2 (.cells (fcells n fun _ => .int .i64 0) 3) (.cells #[.slice none 0 0, .slice none 0 0, .slice none 0 0, .slice (some ⟨w2.heap.size, 0, none⟩) n n, .pointer (some ⟨br, 0, none⟩), .pointer (some ⟨bt, 0, none⟩), .int .u64 0] 42)
  have ho := heap_alloc2_old w2 (.cells (fcells n fun _ => .int .i64 0) 3) (.cells #[.slice none 0 0, .slice none 0 0, .slice none 0 0, .slice (some ⟨w2.heap.size, 0, none⟩) n n, .pointer (some ⟨br, 0, none⟩), .pointer (some ⟨bt, 0, none⟩), .int .u64 0] 42)
  refine ⟨fun i => i = w2.heap.size ∨ i = w2.heap.size + 1, ⟨.slice none 0 0, { head := hd, l3 := En.Lies.nil _ _, l4 := ?_, ne := by omega, fd := .inr rfl, f4 := .inl rfl, g3 := fun b e => (by cases e), old := fun i f => ?_ }⟩, ((Cha.refl _ w2).alloc _).alloc _, fun i f => by omega⟩
  · refine .inr ⟨w2.heap.size, 0, n, fcells n fun _ => .int .i64 0, by rw [List.length_replicate], by rw [List.length_replicate]; exact Nat.le_refl _, by unfold maxLen; omega, ho, by rw [size_fcells]; show 0 + n * 1 ≤ n; omega, fun i hi => ?_⟩
    rw [List.length_replicate] at hi
    have hi : i < n := by have : inE.k = 1 := rfl; rw [this] at hi; omega
    rw [cs_zero, Nat.zero_add, get_fcells, if_pos hi, List.getElem?_replicate, if_pos hi]
  · have := (Array.getElem?_eq_some_iff.1 hd).1; omega
theorem dnew_ok (n : Nat) (w : World) (h1 : 1 ≤ n) (h2 : n ≤ 8) : Calls Tryz.prog 5 #[.int .i64 (n : Int)] w fun e w' => ∃ bd br bt, e = .returned (.tuple #[.pointer (some ⟨bd, 0, none⟩), .int .i64 0]) ∧ Mine w (DcA bd br bt n (dx (Sx.ini n) [] (List.replicate n 0))) w' := by
  have C1 : Hid (Calls Tryz.prog 16 #[.int .i64 (n : Int)] w fun e w' => e = .returned (.tuple #[.pointer (some ⟨w.heap.size + 1, 0, none⟩), .int .i64 0]) ∧ Mine w (RqA (w.heap.size + 1) (List.replicate n (-1, []), [])) w') := Lib.hid
    ((rnew_ok n w h1 h2).mono fun e w' ⟨a, bn, on, cn, lv, q, c, m⟩ => ⟨a, fun i => i = w.heap.size + 1 ∨ i = w.heap.size ∨ i = bn, ⟨_, _, bn, on, cn, lv, _, q, .inl rfl, .inr (.inl rfl), .inr (.inr rfl), fun _ f => f.elim, fun i x => by
      rcases x with rfl | rfl | rfl
      · exact (Array.getElem?_eq_some_iff.1 q.head).1
      · exact (Array.getElem?_eq_some_iff.1 q.loc).1
      · exact q.next.lt rfl⟩, c, fun i hi => by omega⟩)
  have C2 : Hid (∀ w1, Calls Tryz.prog 17 #[.int .i64 (n : Int)] w1 fun e w' => e = .returned (.tuple #[.pointer (some ⟨w1.heap.size, 0, none⟩), .int .i64 0]) ∧ Mine w1 (DtA w1.heap.size n []) w') := Lib.hid fun w1 =>
    ((dtnew_ok n w1 h1 h2).mono fun e w' ⟨a, e2⟩ => ⟨a, by
      subst e2
      exact ⟨fun i => i = w1.heap.size, ⟨_, ⟨heap_alloc_new w1 _, En.Lies.nil _ _, rfl, fun g e => (by cases e), fun i f => by rw [f, World.size_alloc]; omega⟩⟩, (Cha.refl _ w1).alloc _, fun i f => by omega⟩⟩)
  have HM := Lib.hid fun W => mk_ints n (by omega) W
  have HO := Lib.hid fun (w2 : World) br bt => mine_dh n h2 w2 br bt
  have HF : Hid (∀ (bd br bt b4 : Nat) (W : World), Mine w (Star (Star (RqA br (List.replicate n (-1, []), [])) (DtA bt n [])) (DHA bd br bt b4 n n)) W → Mine w (DcA bd br bt n (dx (Sx.ini n) [] (List.replicate n 0))) W) := Lib.hid fun bd br bt b4 W ⟨F, q, c, m⟩ => by
    have e : dx (Sx.ini n) [] (List.replicate n 0) = ⟨(List.replicate n (-1, []), []), [], [], [], List.replicate n (-1), List.replicate n 0, 0⟩ := by
      unfold dx Sx.ini
      dsimp only
      rw [List.map_replicate]
      rfl
    rw [e]
    exact ⟨F, (q.swap.monoL fun F1 a => a.fin h2).swap, c, m⟩
  have HS : Hid (∀ (bd br bt b4 j : Nat) (W : World), Mine w (Star (Star (RqA br (List.replicate n (-1, []), [])) (DtA bt n [])) (DHA bd br bt b4 n j)) W → ∃ a c, W.cell? ⟨bd, 2, none⟩ = some (.slice a j c) ∧ (∀ i, W.frozen? ⟨bd, i, none⟩ = false) ∧ En.Lies inE (W.alloc (.cells #[.int .i64 (-1)] 3)) (.slice a j c) (List.replicate j (-1)) ∧
      ∀ w3 g3 o3 cap3, En.App inE (W.alloc (.cells #[.int .i64 (-1)] 3)) w3 (.slice a j c) (List.replicate j (-1)) [-1] g3 o3 cap3 → (w3.cell? ⟨bd, 2, none⟩ = some (.slice a j c) ∧ ∀ i, w3.frozen? ⟨bd, i, none⟩ = false) ∧ Mine w (Star (Star (RqA br (List.replicate n (-1, []), [])) (DtA bt n [])) (DHA bd br bt b4 n (j + 1))) (w3.setCell ⟨bd, 2, none⟩ (.slice (some ⟨g3, o3, none⟩) (j + 1) cap3))) := Lib.hid fun bd br bt b4 j W M => by
    have M0 := M
    obtain ⟨F, q, -, -⟩ := M
    obtain ⟨F1, ⟨v3, d⟩, -, -⟩ := Star.splitR (fit_rq.star fit_dt) q
    obtain ⟨a, c, rfl, -⟩ := d.l3.form
    have d := d
    simp only [List.length_replicate] at d
    have hc2 := cell_of_row W bd 2 _ 42 (0, 0) d.head
    refine ⟨a, c, hc2, fun i => frozen_of_row W bd i _ 42 d.head, d.l3.same ((Cha.refl (fun _ => False) W).alloc _), fun w3 g3 o3 cap3 hA => ?_⟩
    have av := append_v ((Cha.refl (fun _ => False) W).alloc _) hA
    have hh := (av.cha.old bd (d.old _ d.fd) (fun e => (d.g3 bd e).1 rfl)).trans d.head
    refine ⟨⟨cell_of_row w3 bd 2 _ 42 (0, 0) hh, fun i => frozen_of_row w3 bd i _ 42 hh⟩, M0.goes fun F' q' => ?_⟩
    obtain ⟨F2, ⟨v3', d'⟩, -, kk⟩ := Star.splitR (fit_rq.star fit_dt) q'
    have hc3 := cell_of_row W bd 2 _ 42 (0, 0) d'.head
    rw [hc2] at hc3
    injection hc3 with hc3
    have hc3 : Value.slice a j c = v3' := hc3
    subst hc3
    refine kk _ _ fit_dh (d'.grow ?_)
    rw [List.replicate_succ']
    have := av
    simp only [List.length_replicate, List.length_singleton] at this
    exact this
  have HN := Lib.hid fun W => En.just_new inE W (-1 : Int) 3
  have B1 : Hid (∀ j, j < n → (List.replicate j (-1 : Int)).length + [(-1 : Int)].length ≤ maxLen) := Lib.hid fun j hj => by simp only [List.length_singleton, List.length_replicate]; unfold maxLen; omega
  have B2 : Hid (∀ j, j < n → ((List.replicate j (-1 : Int)).length + [(-1 : Int)].length) * inE.b ≤ 140737488355328) := Lib.hid fun j hj => by simp only [List.length_singleton, List.length_replicate]; show _ * 8 ≤ _; omega
  go_enter Tryz.func5, Tryz.ntmps5
  go_wp2_with (first
    | (go_at_call 16; ((with_reducible refine (C1.out).mono ?_); rintro e w1 ⟨rfl, hM⟩; have M1 := Lib.hid hM; clear hM))
    | (go_at_call 17; ((with_reducible refine (C2.out w1).mono ?_); rintro e w2 ⟨rfl, hM⟩; have M2 := Lib.hid ((M1.out.star fit_rq fit_dt hM).star (fit_rq.star fit_dt) fit_dh (HO.out w2 (w.heap.size + 1) w1.heap.size)); clear hM))
    | (rw [HM.out]))
  generalize w.heap.size + 1 = br at *
  generalize w1.heap.size = bt at *
  generalize hbs : w2.heap.size + 1 = bd at *
  generalize hb3 : w2.heap.size = b4 at *
  have M3 : Hid (Mine w (Star (Star (RqA br (List.replicate n (-1, []), [])) (DtA bt n [])) (DHA bd br bt b4 n 0)) _) := M2
  clear M1 M2 HO C1 C2 HM hbs
  go_loopw [9] (fun i wr => ∃ j : Nat, j ≤ n ∧ i = .int .i64 (j : Int) ∧ Mine w (Star (Star (RqA br (List.replicate n (-1, []), [])) (DtA bt n [])) (DHA bd br bt b4 n j)) wr) (fun i _ => n - (intOf i).toNat)
  case atStart => exact ⟨0, Nat.zero_le _, rfl, M3.out⟩
  case round =>
    clear M3
    obtain ⟨j, hj, rfl, hM⟩ := hrel
    have HM := Lib.hid hM
    obtain ⟨a, c, c2, cf, hl, hk⟩ := HS.out _ _ _ _ _ _ hM
    have HL := Lib.hid hl
    have HK := Lib.hid hk
    clear hM hl hk
    by_cases hlt : j < n
    · have b1 := Lib.hid (B1.out j hlt)
      have b2 := Lib.hid (B2.out j hlt)
      go_wp2_with (at_builtin; refine En.wpList_app inE_ok rfl (.tmp 38) (.tmp 39) rfl rfl HL.out ⟨wr.heap.size, 0, none⟩ 1 1 [(-1 : Int)] rfl rfl (HN.out _) Nat.zero_lt_one b1.out b2.out ?_; intro g3 o3 cap3 w3 hA3; obtain ⟨⟨k5, k6⟩, kk⟩ := HK.out w3 _ _ _ hA3; have A3 := Lib.hid kk; clear kk hA3; simp only [List.length_singleton, List.length_replicate])
      go_roundw
      case rel => exact ⟨j + 1, by omega, by go_num, A3.out⟩
      case measure => simp [intOf]; omega
    · obtain rfl : j = n := by omega
      have HQ := Lib.hid (HF.out _ _ _ _ _ HM.out)
      clear HM
      go_wp2
      go_returns
      first | exact ⟨bd, br, bt, rfl, HQ.out⟩ | exact ⟨bd, rfl, br, bt, HQ.out⟩
end
end Go.Proofs.YtaloafihbdamiaaGreat
