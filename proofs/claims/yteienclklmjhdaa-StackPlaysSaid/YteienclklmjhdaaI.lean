/- Contracts of stack: Link. -/
import Derived.Test.YteienclklmjhdaaH
namespace Go.Proofs.Yteienclklmjhdaa
open Go.ChangeShapes Go.WideShapes Go.ChangeAt Go.RowKit
variable {W W' : World} {F : Nat → Prop} {bs bw bm : Nat} {s : St}

/-- A slot refers to another one. -/
def St.link (s : St) (b i tg k : Int) : Int × St :=
  match find s.fs b i, find s.fs tg k with
  | some d, some t => if tg < b ∨ t = d then (1, s) else if (s.ct t).isRef then (10, s) else (0, s.put d (.ref t))
  | _, _ => (4, s)
theorem link_none (a b c d : Int) (W : World) : Calls Try.prog 17 #[.pointer none, .int .i64 a, .int .i64 b, .int .i64 c, .int .i64 d] W fun e W' => e = .returned (.int .i64 5) ∧ W = W' := by
  go_enter Try.func17, Try.ntmps17
  go_wp2
  go_returns
  exact ⟨rfl, rfl⟩
theorem ok_ref (h : Ok s) {b i tg k : Int} {d t : Nat} (hd : find s.fs b i = some d) (ht : find s.fs tg k = some t) (hb : ¬ tg < b) : Ok (s.put d (.ref t)) := by
  refine h.put (find_isSlot hd) (fun _ e => by cases e) fun t' e => ?_
  cases e
  refine ⟨find_isSlot ht, fun j hj => ?_⟩
  obtain ⟨jb, ib, rfl, rfl, h1, h2, h3⟩ := find_some hd
  obtain ⟨jt, it, rfl, rfl, h4, h5, h6⟩ := find_some ht
  have q := pos_drop h1
  have hj2 : j ≤ jb := by
    by_cases c : j ≤ jb
    · exact c
    · have := pos_drop_le (fs := s.fs) (show jb + 1 ≤ j by omega)
      omega
  have := pos_drop_le (fs := s.fs) (show j ≤ jt by omega)
  omega
set_option maxHeartbeats 2000000 in
theorem link_any (h : Sk W F bs bw bm s) (b i tg k : Int) :
    Calls Try.prog 17 #[.pointer (some ⟨bs, 0, none⟩), .int .i64 b, .int .i64 i, .int .i64 tg, .int .i64 k] W fun e W' => e = .returned (.int .i64 (s.link b i tg k).1) ∧ Left W W' F bs (s.link b i tg k).2 := by
  have C := Lib.hid (find_any h b i)
  have C2 := Lib.hid (find_any h tg k)
  have hn := h.ok.n_le
  have hfit := h.ok.fit
  have H := Lib.hid h
  have HSm : Hid (Left W W F bs s) := Lib.hid (h.left (Cha.refl _ _))
  cases hf : find s.fs b i with
  | none =>
    have hg : s.link b i tg k = (4, s) := by unfold St.link; rw [hf]
    rw [hg]
    rw [hf, foundV_none] at C
    cases hf2 : find s.fs tg k with
    | none =>
      rw [hf2, foundV_none] at C2
      clear h hf hg hf2
      go_enter Try.func17, Try.ntmps17
      go_wp2_with (first | (go_at_call 33; ((with_reducible refine (C.out).mono ?_); rintro e w1 ⟨rfl, rfl⟩)) | (go_at_call 33; ((with_reducible refine (C2.out).mono ?_); rintro e w1 ⟨rfl, rfl⟩)))
      go_returns
      exact ⟨rfl, HSm.out⟩
    | some t =>
      rw [hf2, foundV_some] at C2
      clear h hf hg hf2
      go_enter Try.func17, Try.ntmps17
      go_wp2_with (first | (go_at_call 33; ((with_reducible refine (C.out).mono ?_); rintro e w1 ⟨rfl, rfl⟩)) | (go_at_call 33; ((with_reducible refine (C2.out).mono ?_); rintro e w1 ⟨rfl, rfl⟩)))
      go_returns
      exact ⟨rfl, HSm.out⟩
  | some d =>
    rw [hf, foundV_some] at C
    cases hf2 : find s.fs tg k with
    | none =>
      have hg : s.link b i tg k = (4, s) := by unfold St.link; rw [hf, hf2]
      rw [hg]
      rw [hf2, foundV_none] at C2
      clear h hf hg hf2
      go_enter Try.func17, Try.ntmps17
      go_wp2_with (first | (go_at_call 33; ((with_reducible refine (C.out).mono ?_); rintro e w1 ⟨rfl, rfl⟩)) | (go_at_call 33; ((with_reducible refine (C2.out).mono ?_); rintro e w1 ⟨rfl, rfl⟩)))
      go_returns
      exact ⟨rfl, HSm.out⟩
    | some t =>
      have hg : s.link b i tg k = (if tg < b ∨ t = d then (1, s) else if (s.ct t).isRef then (10, s) else (0, s.put d (.ref t))) := by unfold St.link; rw [hf, hf2]
      rw [hf2, foundV_some] at C2
      have hs := find_isSlot hf
      have hge := hs.ge
      have hs2 := find_isSlot hf2
      have hge2 := hs2.ge
      have HO : Hid (¬ tg < b → Ok (s.put d (.ref t))) := Lib.hid (ok_ref h.ok hf hf2)
      have CR := Lib.hid (isRef_any h (s.n - t) (by omega))
      rw [isPlace_at h (by omega) (by omega)] at CR
      have hw := h.word (e := d) (by omega) (by omega)
      obtain ⟨p, hp⟩ : ∃ p, p = s.n - d := ⟨_, rfl⟩
      obtain ⟨q, hq⟩ : ∃ q, q = s.n - t := ⟨_, rfl⟩
      rw [← hp] at C hw
      rw [← hq] at C2 CR
      have hpn : p < s.n := by omega
      have hqn : q < s.n := by omega
      have hpq : q = p ↔ t = d := by omega
      by_cases c1 : tg < b
      · rw [if_pos (.inl c1)] at hg
        rw [hg]
        clear h hf hg hf2 hp hq hpq hs hs2
        go_enter Try.func17, Try.ntmps17
        go_wp2_with (first | (go_at_call 33; ((with_reducible refine (C.out).mono ?_); rintro e w1 ⟨rfl, rfl⟩)) | (go_at_call 33; ((with_reducible refine (C2.out).mono ?_); rintro e w1 ⟨rfl, rfl⟩)))
        go_returns
        exact ⟨rfl, HSm.out⟩
      · by_cases c2 : t = d
        · rw [if_pos (.inr c2)] at hg
          rw [hg]
          have e : q = p := hpq.2 c2
          rw [e] at C2
          clear h hf hg hf2 hp hq hpq hs hs2 c2
          go_enter Try.func17, Try.ntmps17
          go_wp2_with (first | (go_at_call 33; ((with_reducible refine (C.out).mono ?_); rintro e w1 ⟨rfl, rfl⟩)) | (go_at_call 33; ((with_reducible refine (C2.out).mono ?_); rintro e w1 ⟨rfl, rfl⟩)))
          go_returns
          exact ⟨rfl, HSm.out⟩
        · rw [if_neg (by rintro (e | e); exact c1 e; exact c2 e)] at hg
          have c3 : ((q : Int) == (p : Int)) = false := by simp; exact fun e => c2 (hpq.1 (by omega))
          have c4 : decide (tg < b) = false := decide_eq_false c1
          cases hct : (s.ct t).isRef with
          | true =>
            rw [hct, if_pos rfl] at hg
            rw [hg]
            rw [hct] at CR
            clear h hf hg hf2 hp hq hpq hs hs2 c2 hct
            go_enter Try.func17, Try.ntmps17
            go_wp2_with (first | (go_at_call 33; ((with_reducible refine (C.out).mono ?_); rintro e w1 ⟨rfl, rfl⟩)) | (go_at_call 33; ((with_reducible refine (C2.out).mono ?_); rintro e w1 ⟨rfl, rfl⟩)) | (go_at_call 35; ((with_reducible refine (CR.out).mono ?_); rintro e w1 ⟨rfl, hc⟩; have HC := Lib.hid hc; clear hc)))
            go_returns
            exact ⟨rfl, H.out.left HC.out⟩
          | false =>
            rw [hct, if_neg (by simp)] at hg
            rw [hg]
            rw [hct] at CR
            have hne := h.ne
            have hwr : IntKind.u64.wrap (q : Int) = (q : Int) := IntWalk.u64_in _ (by omega)
            have HX : Hid (∀ w1, Cha (fun _ => False) W w1 → w1.cell? ⟨bs, 0, none⟩ = some (.slice (some ⟨bw, 0, none⟩) s.n s.n) ∧ w1.cell? ⟨bw, p, none⟩ = some ((s.ct d).v s.n) ∧ w1.frozen? ⟨bw, p, none⟩ = false ∧
                (w1.setCell ⟨bw, p, none⟩ (.int .u64 (q : Int))).cell? ⟨bs, 2, none⟩ = some (.map (some bm)) ∧ ∃ D, (w1.setCell ⟨bw, p, none⟩ (.int .u64 (q : Int))).ownsMap Try.prog 3 unitR bm 1000000 D ∧ IsSet D s.isPlace) := Lib.hid fun w1 c => by
              obtain ⟨⟨k1, k2⟩, k3⟩ := H.out.keep c
              obtain ⟨D, d1, d2⟩ := (H.out.same c).map
              refine ⟨k1, k3 _ _ hw, (H.out.same c).wfree p, ?_, D, d1.setCell (fun e => hne.2.2 e.symm) _, d2⟩
              rw [World.cell?_setCell_other _ _ _ _ (by intro c; injection c with c; exact hne.1 c.symm)]
              exact k2
            have HE : Hid (∀ w1 w2 D, Cha (fun _ => False) W w1 → IsSet D s.isPlace → w2.ownsMap Try.prog 3 unitR bm 1000001 (D.put (.int .i64 (p : Int)) (.agg [])) → (w1.setCell ⟨bw, p, none⟩ (.int .u64 (q : Int))).ownsMap Try.prog 3 unitR bm 1000000 D → (w1.setCell ⟨bw, p, none⟩ (.int .u64 (q : Int))).mapTurned w2 bm → Left W w2 F bs (s.put d (.ref t))) := Lib.hid fun w1 w2 D c hset o o1 tt => by
              have h2 := H.out.same c
              have ct := turned_cha tt
              have cc : Cha (fun i => i = bw ∨ i = bm) w1 w2 := ((Cha.refl (fun i => i = bw ∨ i = bm) w1).setCell (p := ⟨bw, p, none⟩) (fun _ => .inl rfl) (.int .u64 (q : Int))).trans (ct.mono fun _ _ e => .inr e)
              have hset2 := hset.put o1.isMap (x := p) (by omega) (.agg [])
              refine Left.before c (h2.upd hs (HO.out c1) (cc.old bs (h2.old _ h2.fs) (fun e => e.elim hne.1 hne.2.1)) ?_ ?_ (cc.mono fun i _ e => e.elim (fun e => e ▸ h2.fw) fun e => e ▸ h2.fm))
              · rw [← hp]
                have : (Wd.ref t).v s.n = .int .u64 (q : Int) := by rw [hq]; rfl
                rw [this]
                exact ct.old bw (by simpa [World.setCell] using h2.old _ h2.fw) hne.2.2
              · refine ⟨_, owns_mil o hset2, ?_⟩
                have e : (fun y => decide (y = p) || s.isPlace y) = (s.put d (.ref t)).isPlace := funext fun y => by
                  rw [isPlace_put h2.ok hs, ← hp]
                  by_cases c : y = p
                  · simp [c, Wd.isRef]
                  · simp [c]
                rwa [e] at hset2
            clear h hf hg hf2 hp hq hpq hs hs2 c2 hct hw
            go_enter Try.func17, Try.ntmps17
            go_wp2_with (first | (go_at_call 33; ((with_reducible refine (C.out).mono ?_); rintro e w1 ⟨rfl, rfl⟩)) | (go_at_call 33; ((with_reducible refine (C2.out).mono ?_); rintro e w1 ⟨rfl, rfl⟩)) | (go_at_call 35; ((with_reducible refine (CR.out).mono ?_); rintro e w1 ⟨rfl, hc⟩; obtain ⟨y0, y1, y2, y3, D, y4, y5⟩ := HX.out _ hc; have HC := Lib.hid hc; have HD := Lib.hid y5; clear hc y5)) | (at_mapUpdate; refine wpList_mapUpdate_in _ rfl _ _ _ 55 rfl 3 66 keyed3 Try.underlying55 unitR bm 1000000 D rfl y4 (by unfold maxLen; omega) _ _ _ rfl rfl (key3 (by omega) (by omega)) _ [] unitElem_mk ?_; intro w2 hown1 hturn1; have HL := Lib.hid (HE.out _ _ _ HC.out HD.out hown1 y4 hturn1); clear hown1 hturn1))
            go_returns
            exact ⟨rfl, HL.out⟩
end Go.Proofs.Yteienclklmjhdaa
