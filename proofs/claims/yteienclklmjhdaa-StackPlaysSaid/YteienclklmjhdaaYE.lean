/- The document's stack: Set, Store, Link. -/
import Derived.Test.YteienclklmjhdaaYD
namespace Go.Proofs.Yteienclklmjhdaa
open Go.ChangeShapes Go.WideShapes Go.ChangeAt Go.RowKit
variable {w w' W W' : World} {G : Nat → Prop} {rs : Nat} {vf : Value} {A : List Fr} {sl : Nat → Nat → Sl} {s : St} {S : Nat → Prop}

def upd2 (sl : Nat → Nat → Sl) (F K : Nat) (x : Sl) : Nat → Nat → Sl := fun f k => if f = F ∧ k = K then x else sl f k
/-- A slot's four cells are written. -/
def set4 (W : World) (g K : Nat) (x : Sl) : World := (((W.setCell ⟨g, K * 4, none⟩ (x.at 0)).setCell ⟨g, K * 4 + 1, none⟩ (x.at 1)).setCell ⟨g, K * 4 + 2, none⟩ (x.at 2)).setCell ⟨g, K * 4 + 3, none⟩ (x.at 3)
theorem set4_cha (W : World) (g K : Nat) (x : Sl) : Cha (fun i => i = g) W (set4 W g K x) :=
  ((((Cha.refl (fun i => i = g) W).setCell (p := ⟨g, K * 4, none⟩) (fun _ => rfl) _).setCell (p := ⟨g, K * 4 + 1, none⟩) (fun _ => rfl) _).setCell (p := ⟨g, K * 4 + 2, none⟩) (fun _ => rfl) _).setCell (p := ⟨g, K * 4 + 3, none⟩) (fun _ => rfl) _
theorem set4_row {W : World} {g n F K : Nat} {x : Sl} (h : FRow 64 W g (n * 4) (sr (sl F))) : FRow 64 (set4 W g K x) g (n * 4) (sr (upd2 sl F K x F)) := by
  refine ((((h.set (i := K * 4) (x.at 0)).set (i := K * 4 + 1) (x.at 1)).set (i := K * 4 + 2) (x.at 2)).set (i := K * 4 + 3) (x.at 3)).congr fun p _ => ?_
  unfold sr upd2
  by_cases c3 : p = K * 4 + 3
  · rw [if_pos c3, if_pos ⟨rfl, by omega⟩, show p % 4 = 3 by omega]
  · rw [if_neg c3]
    by_cases c2 : p = K * 4 + 2
    · rw [if_pos c2, if_pos ⟨rfl, by omega⟩, show p % 4 = 2 by omega]
    · rw [if_neg c2]
      by_cases c1 : p = K * 4 + 1
      · rw [if_pos c1, if_pos ⟨rfl, by omega⟩, show p % 4 = 1 by omega]
      · rw [if_neg c1]
        by_cases c0 : p = K * 4
        · rw [if_pos c0, if_pos ⟨rfl, by omega⟩, show p % 4 = 0 by omega]
        · rw [if_neg c0, if_neg (by omega)]
theorem Dk.put (h : Dk W G rs vf A sl s) {b i : Int} {d F K bf o cap g n : Nat} (q : SlotAt W rs vf A sl s b i d F K bf o cap g n) {x : Sl} {y : Wd} (hx : SlOk s.fs y x) (ho : Ok (s.put d y)) :
    DLeft W (set4 W g K x) G rs (s.put d y) := by
  obtain ⟨hF, rfl, hn⟩ := q.fA
  have hl := h.len
  have c := set4_cha W A[F].g K x
  have hg := h.gf F hF
  refine ⟨G, vf, A, upd2 sl F K x, ⟨(c.old rs (h.old _ h.gr) (fun e => hg.2.1 e.symm)).trans h.head, h.lies.cha c fun g' e e2 => hg.2.2 (by rw [e]; exact congrArg some e2), h.sz, fun f hf => ?_, fun j i hj hi => ?_, ho, h.gr, h.gv, h.gf, h.apart, fun i hi => Nat.lt_of_lt_of_le (h.old i hi) c.size⟩, c.mono fun i _ e => e ▸ hg.1, fun _ e => .inl e⟩
  · by_cases e : f = F
    · subst e
      exact set4_row (h.rows f hf)
    · refine (c.row (h.rows f hf) (fun e2 => h.apart f F hf hF e e2)).congr fun p _ => ?_
      unfold sr upd2
      rw [if_neg (by omega)]
  · replace hj : j < s.fs.length := hj
    replace hi : i < s.fs[j] := hi
    show SlOk s.fs (if pos (s.fs.drop j) - 1 - i = d then y else s.ct (pos (s.fs.drop j) - 1 - i)) (if s.fs.length - 1 - j = F ∧ i = K then x else sl (s.fs.length - 1 - j) i)
    have hjF : s.fs.length - 1 - F < s.fs.length := by have := q.fl; omega
    have hnF : n = s.fs[s.fs.length - 1 - F] := by
      have := h.nAt hjF
      rw [hn, ← this]
      simp only [show s.fs.length - 1 - (s.fs.length - 1 - F) = F by have := q.fl; omega]
    by_cases e : s.fs.length - 1 - j = F ∧ i = K
    · have ej : j = s.fs.length - 1 - F := by omega
      subst ej
      rw [if_pos e, if_pos (by rw [q.d, e.2])]
      exact hx
    · rw [if_neg e, if_neg]
      · exact h.mat j i hj hi
      · intro e2
        rw [q.d] at e2
        have := slot_inj hj hjF hi (by have := q.kn; omega) e2
        omega
theorem dset_any (h : Dk W G rs vf A sl s) (b i v : Int) (hb : b ≤ 9223372036854775807) (h0 : 0 ≤ v) (h1 : v ≤ 18446744073709551615) :
    Calls Try.prog 16 #[.pointer (some ⟨rs, 0, none⟩), .int .i64 b, .int .i64 i, .int .u64 v] W fun e W' => e = .returned (.int .i64 (s.set b i v).1) ∧ DLeft W W' G rs (s.set b i v).2 := by
  have C := Lib.hid (frame_any h b i hb)
  have hl64 := h.ok.len
  cases hf : find s.fs b i with
  | none =>
    have hg : s.set b i v = (4, s) := by unfold St.set; rw [hf]
    rw [hg]
    rw [frV_none hf] at C
    have HL := Lib.hid (h.left (Cha.refl _ W))
    clear h hf hg
    go_enter Try.func16, Try.ntmps16
    go_wp2_with (go_at_call 34; ((with_reducible refine (C.out).mono ?_); rintro e w1 ⟨rfl, rfl⟩))
    go_returns
    exact ⟨rfl, HL.out⟩
  | some d =>
    have hg : s.set b i v = (0, s.put d (.num v)) := by unfold St.set; rw [hf]
    rw [hg]
    obtain ⟨F, K, bf, o, cap, g, n, q⟩ := h.slot hf
    rw [frV_some hf, q.fb] at C
    have HE := Lib.hid (h.put q (x := ⟨v, none⟩) (y := .num v) rfl (ok_num h.ok (find_isSlot hf) h0 h1))
    have hfl := q.fl
    have hkn := q.kn
    have hn32 := q.n32
    obtain ⟨y0, y1, y2⟩ := q.cells W (Cha.refl _ _)
    have z0 := y2 0 (by omega)
    have z1 := y2 1 (by omega)
    have z2 := y2 2 (by omega)
    have z3 := y2 3 (by omega)
    rw [Nat.add_zero] at z0
    obtain ⟨a0, b0⟩ := z0
    obtain ⟨a1, b1⟩ := z1
    obtain ⟨a2, b2⟩ := z2
    obtain ⟨a3, b3⟩ := z3
    obtain rfl := q.ik
    generalize (sl F K).at 0 = u0 at a0
    generalize (sl F K).at 1 = u1 at a1
    generalize (sl F K).at 2 = u2 at a2
    generalize (sl F K).at 3 = u3 at a3
    clear h hf hg q y2
    go_enter Try.func16, Try.ntmps16
    go_wp2_with (go_at_call 34; ((with_reducible refine (C.out).mono ?_); rintro e w1 ⟨rfl, rfl⟩))
    go_returns
    exact ⟨rfl, HE.out⟩
theorem dstore_any (h : Dk W G rs vf A sl s) (b i v : Int) (hb : b ≤ 9223372036854775807) (h0 : 0 ≤ v) (h1 : v ≤ 18446744073709551615) :
    Calls Try.prog 20 #[.pointer (some ⟨rs, 0, none⟩), .int .i64 b, .int .i64 i, .int .u64 v] W fun e W' => e = .returned (.int .i64 (s.store b i v).1) ∧ DLeft W W' G rs (s.store b i v).2 := by
  obtain ⟨C1, C2⟩ := dleads_any h b i hb
  have hl64 := h.ok.len
  have H := Lib.hid h
  cases hf : s.fol b i with
  | mk o x =>
    cases o with
    | none =>
      have C := Lib.hid (C1 x hf)
      have hg : s.store b i v = (x, s) := by unfold St.store; rw [hf]
      rw [hg]
      have hx := fol_none hf
      clear hg hf h C1 C2
      rcases hx with rfl | rfl
      all_goals
        go_enter Try.func20, Try.ntmps20
        go_wp2_with (go_at_call 37; ((with_reducible refine (C.out).mono ?_); rintro e w1 ⟨rfl, hc⟩; have HC := Lib.hid hc; clear hc))
        go_returns
        exact ⟨rfl, H.out.left HC.out⟩
    | some t =>
      obtain ⟨hs, rfl, v', hv⟩ := fol_some h.ok hf
      have hg : s.store b i v = (0, s.put t (.num v)) := by unfold St.store; rw [hf]
      rw [hg]
      obtain ⟨F, K, bf, o, cap, g, n, q, C⟩ := C2 t 0 hf
      have C := Lib.hid C
      have hfl := q.fl
      have hkn := q.kn
      have hn32 := q.n32
      obtain ⟨u0, hu0⟩ : ∃ u, u = (sl F K).at 0 := ⟨_, rfl⟩
      obtain ⟨u1, hu1⟩ : ∃ u, u = (sl F K).at 1 := ⟨_, rfl⟩
      obtain ⟨u2, hu2⟩ : ∃ u, u = (sl F K).at 2 := ⟨_, rfl⟩
      obtain ⟨u3, hu3⟩ : ∃ u, u = (sl F K).at 3 := ⟨_, rfl⟩
      have HX : Hid (∀ W', Cha (fun _ => False) W W' → W'.cell? ⟨rs, 0, none⟩ = some (.slice (some ⟨bf, o, none⟩) s.fs.length cap) ∧ W'.cell? ⟨bf, o + F, none⟩ = some (.slice (some ⟨g, 0, none⟩) n n) ∧
          W'.cell? ⟨g, K * 4, none⟩ = some u0 ∧ W'.cell? ⟨g, K * 4 + 1, none⟩ = some u1 ∧ W'.cell? ⟨g, K * 4 + 2, none⟩ = some u2 ∧ W'.cell? ⟨g, K * 4 + 3, none⟩ = some u3 ∧
          W'.frozen? ⟨g, K * 4, none⟩ = false ∧ W'.frozen? ⟨g, K * 4 + 1, none⟩ = false ∧ W'.frozen? ⟨g, K * 4 + 2, none⟩ = false ∧ W'.frozen? ⟨g, K * 4 + 3, none⟩ = false) := Lib.hid fun W' c => by
        obtain ⟨a1, a2, a3⟩ := q.cells W' c
        rw [hu0, hu1, hu2, hu3]
        exact ⟨a1, a2, (a3 0 (by omega)).1, (a3 1 (by omega)).1, (a3 2 (by omega)).1, (a3 3 (by omega)).1, (a3 0 (by omega)).2, (a3 1 (by omega)).2, (a3 2 (by omega)).2, (a3 3 (by omega)).2⟩
      have HE : Hid (∀ W', Cha (fun _ => False) W W' → DLeft W (set4 W' g K ⟨v, none⟩) G rs (s.put t (.num v))) := Lib.hid fun W' c =>
        DLeft.before c ((H.out.same c).put ⟨q.fb, q.ik, q.fl, q.kn, q.n32, q.vf, q.ok, fun W2 c2 => q.cells W2 (c.trans c2), q.fA, q.d⟩ (x := ⟨v, none⟩) (y := .num v) rfl (ok_num H.out.ok hs h0 h1))
      clear hg hf h C1 C2 hs hv q hu0 hu1 hu2 hu3
      go_enter Try.func20, Try.ntmps20
      go_wp2_with (go_at_call 37; ((with_reducible refine (C.out).mono ?_); rintro e w1 ⟨rfl, hc⟩; obtain ⟨y0, y1, a0, a1, a2, a3, b0, b1, b2, b3⟩ := HX.out _ hc; have HC := Lib.hid hc; clear hc))
      go_returns
      exact ⟨rfl, HE.out _ HC.out⟩
set_option maxHeartbeats 2000000 in
theorem dlink_any (h : Dk W G rs vf A sl s) (b i tg k : Int) (hb : b ≤ 9223372036854775807) (ht : tg ≤ 9223372036854775807) :
    Calls Try.prog 18 #[.pointer (some ⟨rs, 0, none⟩), .int .i64 b, .int .i64 i, .int .i64 tg, .int .i64 k] W fun e W' => e = .returned (.int .i64 (s.link b i tg k).1) ∧ DLeft W W' G rs (s.link b i tg k).2 := by
  have C := Lib.hid (frame_any h b i hb)
  have C2 := Lib.hid (frame_any h tg k ht)
  have hl64 := h.ok.len
  have HL := Lib.hid (h.left (Cha.refl _ W))
  cases hf : find s.fs b i with
  | none =>
    have hg : s.link b i tg k = (4, s) := by unfold St.link; rw [hf]
    rw [hg]
    rw [frV_none hf] at C
    clear h hf hg
    go_enter Try.func18, Try.ntmps18
    go_wp2_with (first | (go_at_call 34; ((with_reducible refine (C.out).mono ?_); rintro e w1 ⟨rfl, rfl⟩)) | (go_at_call 34; ((with_reducible refine (C2.out).mono ?_); rintro e w1 ⟨rfl, rfl⟩)))
    go_returns
    exact ⟨rfl, HL.out⟩
  | some d =>
    obtain ⟨F, K, bf, o, cap, g, n, q⟩ := h.slot hf
    rw [frV_some hf, q.fb] at C
    cases hf2 : find s.fs tg k with
    | none =>
      have hg : s.link b i tg k = (4, s) := by unfold St.link; rw [hf, hf2]
      rw [hg]
      rw [frV_none hf2] at C2
      clear h hf hg hf2 q
      go_enter Try.func18, Try.ntmps18
      go_wp2_with (first | (go_at_call 34; ((with_reducible refine (C.out).mono ?_); rintro e w1 ⟨rfl, rfl⟩)) | (go_at_call 34; ((with_reducible refine (C2.out).mono ?_); rintro e w1 ⟨rfl, rfl⟩)))
      go_returns
      exact ⟨rfl, HL.out⟩
    | some t =>
      obtain ⟨F2, K2, bf2, o2, cap2, g2, n2, q2⟩ := h.slot hf2
      rw [frV_some hf2, q2.fb] at C2
      have hg : s.link b i tg k = (if tg < b ∨ t = d then (1, s) else if (s.ct t).isRef then (10, s) else (0, s.put d (.ref t))) := by unfold St.link; rw [hf, hf2]
      have hsame : t = d ↔ F = F2 ∧ K = K2 := by
        have a1 := q.fl
        have a2 := q2.fl
        obtain ⟨hF, e1, e2⟩ := q.fA
        obtain ⟨hF2, e3, e4⟩ := q2.fA
        have b1 : s.fs.length - 1 - F < s.fs.length := by omega
        have b2 : s.fs.length - 1 - F2 < s.fs.length := by omega
        have c1 : n = s.fs[s.fs.length - 1 - F] := by
          have := h.nAt b1
          rw [e2, ← this]
          simp only [show s.fs.length - 1 - (s.fs.length - 1 - F) = F by omega]
        have c2 : n2 = s.fs[s.fs.length - 1 - F2] := by
          have := h.nAt b2
          rw [e4, ← this]
          simp only [show s.fs.length - 1 - (s.fs.length - 1 - F2) = F2 by omega]
        constructor
        · intro e
          rw [q.d, q2.d] at e
          have := slot_inj b1 b2 (by have := q.kn; omega) (by have := q2.kn; omega) e.symm
          omega
        · rintro ⟨rfl, rfl⟩
          rw [q.d, q2.d]
      have hfl := q.fl
      have hkn := q.kn
      have hn32 := q.n32
      have hfl2 := q2.fl
      have hkn2 := q2.kn
      have hn322 := q2.n32
      obtain rfl := q.ik
      obtain rfl := q2.ik
      by_cases c1 : tg < b
      · rw [if_pos (.inl c1)] at hg
        rw [hg]
        clear h hf hg hf2 q q2 hsame
        go_enter Try.func18, Try.ntmps18
        go_wp2_with (first | (go_at_call 34; ((with_reducible refine (C.out).mono ?_); rintro e w1 ⟨rfl, rfl⟩)) | (go_at_call 34; ((with_reducible refine (C2.out).mono ?_); rintro e w1 ⟨rfl, rfl⟩)))
        go_returns
        exact ⟨rfl, HL.out⟩
      · have c1' : decide (tg < b) = false := decide_eq_false c1
        by_cases c2 : F = F2 ∧ K = K2
        · rw [if_pos (.inr (hsame.2 c2))] at hg
          rw [hg]
          have e1 : ((F : Int) == (F2 : Int)) = true := by simp [c2.1]
          have e2 : ((K : Int) == (K2 : Int)) = true := by simp [c2.2]
          clear h hf hg hf2 q q2 hsame c2
          go_enter Try.func18, Try.ntmps18
          go_wp2_with (first | (go_at_call 34; ((with_reducible refine (C.out).mono ?_); rintro e w1 ⟨rfl, rfl⟩)) | (go_at_call 34; ((with_reducible refine (C2.out).mono ?_); rintro e w1 ⟨rfl, rfl⟩)))
          go_returns
          exact ⟨rfl, HL.out⟩
        · rw [if_neg (by rintro (e | e); exact c1 e; exact c2 (hsame.1 e))] at hg
          have hr2 := q2.ok.isRef
          have y2 := ((q2.cells W (Cha.refl _ _)).2.2 1 (by omega)).1
          replace y2 : W.cell? ⟨g2, K2 * 4 + 1, none⟩ = some (.bool (s.ct t).isRef) := by rw [y2, ← hr2]; rfl
          obtain ⟨x0, x1, _⟩ := q2.cells W (Cha.refl _ _)
          obtain ⟨y0, y1, y3⟩ := q.cells W (Cha.refl _ _)
          obtain ⟨ebf, eo, ecap⟩ : bf2 = bf ∧ o2 = o ∧ cap2 = cap := by
            have := q.vf.symm.trans q2.vf
            injection this with f1 f2 f3
            injection f1 with f1
            injection f1 with f1 f4
            exact ⟨f1.symm, f4.symm, f3.symm⟩
          subst ebf eo ecap
          have z0 := y3 0 (by omega)
          have z1 := y3 1 (by omega)
          have z2 := y3 2 (by omega)
          have z3 := y3 3 (by omega)
          rw [Nat.add_zero] at z0
          obtain ⟨a0, b0⟩ := z0
          obtain ⟨a1, b1⟩ := z1
          obtain ⟨a2, b2⟩ := z2
          obtain ⟨a3, b3⟩ := z3
          generalize (sl F K).at 0 = u0 at a0
          generalize (sl F K).at 1 = u1 at a1
          generalize (sl F K).at 2 = u2 at a2
          generalize (sl F K).at 3 = u3 at a3
          cases hct : (s.ct t).isRef with
          | true =>
            rw [hct, if_pos rfl] at hg
            rw [hg]
            rw [hct] at y2
            clear h hf hg hf2 q q2 hsame y3 hr2 hct
            by_cases d1 : F = F2
            · have e1 : ((F : Int) == (F2 : Int)) = true := by simp [d1]
              have e2 : ((K : Int) == (K2 : Int)) = false := by simp; exact fun d2 => c2 ⟨d1, by omega⟩
              clear c2 d1
              go_enter Try.func18, Try.ntmps18
              go_wp2_with (first | (go_at_call 34; ((with_reducible refine (C.out).mono ?_); rintro e w1 ⟨rfl, rfl⟩)) | (go_at_call 34; ((with_reducible refine (C2.out).mono ?_); rintro e w1 ⟨rfl, rfl⟩)))
              go_returns
              exact ⟨rfl, HL.out⟩
            · have e1 : ((F : Int) == (F2 : Int)) = false := by simp; omega
              clear c2 d1
              go_enter Try.func18, Try.ntmps18
              go_wp2_with (first | (go_at_call 34; ((with_reducible refine (C.out).mono ?_); rintro e w1 ⟨rfl, rfl⟩)) | (go_at_call 34; ((with_reducible refine (C2.out).mono ?_); rintro e w1 ⟨rfl, rfl⟩)))
              go_returns
              exact ⟨rfl, HL.out⟩
          | false =>
            rw [hct, if_neg (by simp)] at hg
            rw [hg]
            rw [hct] at y2
            have hx : SlOk s.fs (.ref t) ⟨0, some (F2, K2)⟩ := by
              obtain ⟨hF2, e3, e4⟩ := q2.fA
              have b2 : s.fs.length - 1 - F2 < s.fs.length := by omega
              have c2 := h.nAt b2
              have e5 : n2 = s.fs[s.fs.length - 1 - F2] := by
                rw [e4, ← c2]
                simp only [show s.fs.length - 1 - (s.fs.length - 1 - F2) = F2 by omega]
              exact ⟨s.fs.length - 1 - F2, K2, b2, by omega, q2.d, by rw [show s.fs.length - 1 - (s.fs.length - 1 - F2) = F2 by omega]⟩
            have HE := Lib.hid (h.put q (x := ⟨0, some (F2, K2)⟩) (y := .ref t) hx (ok_ref h.ok hf hf2 c1))
            clear h hf hg hf2 q q2 hsame y3 hr2 hct hx
            by_cases d1 : F = F2
            · have e1 : ((F : Int) == (F2 : Int)) = true := by simp [d1]
              have e2 : ((K : Int) == (K2 : Int)) = false := by simp; exact fun d2 => c2 ⟨d1, by omega⟩
              clear c2 d1
              go_enter Try.func18, Try.ntmps18
              go_wp2_with (first | (go_at_call 34; ((with_reducible refine (C.out).mono ?_); rintro e w1 ⟨rfl, rfl⟩)) | (go_at_call 34; ((with_reducible refine (C2.out).mono ?_); rintro e w1 ⟨rfl, rfl⟩)))
              go_returns
              exact ⟨rfl, HE.out⟩
            · have e1 : ((F : Int) == (F2 : Int)) = false := by simp; omega
              clear c2 d1
              go_enter Try.func18, Try.ntmps18
              go_wp2_with (first | (go_at_call 34; ((with_reducible refine (C.out).mono ?_); rintro e w1 ⟨rfl, rfl⟩)) | (go_at_call 34; ((with_reducible refine (C2.out).mono ?_); rintro e w1 ⟨rfl, rfl⟩)))
              go_returns
              exact ⟨rfl, HE.out⟩
end Go.Proofs.Yteienclklmjhdaa
