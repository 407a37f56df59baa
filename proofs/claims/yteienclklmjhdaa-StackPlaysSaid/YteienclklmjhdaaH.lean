/- Contracts of stack: Load, Store, Set. -/
import Derived.Test.YteienclklmjhdaaG
namespace Go.Proofs.Yteienclklmjhdaa
open Go.ChangeShapes Go.WideShapes Go.ChangeAt Go.RowKit
variable {W W' : World} {F : Nat → Prop} {bs bw bm : Nat} {s : St}

theorem Sk.upd (h : Sk W F bs bw bm s) {d : Nat} (hd : IsSlot s.fs d) {x : Wd} (ho : Ok (s.put d x)) (hh : W'.heap[bs]? = W.heap[bs]?) (hr : W'.heap[bw]? = (W.setCell ⟨bw, s.n - d, none⟩ (x.v s.n)).heap[bw]?)
    (hm : SM W' bm (s.put d x).isPlace) (c : Cha F W W') : Left W W' F bs (s.put d x) := by
  obtain ⟨r, r1, r2⟩ := h.row
  have hn := h.ok.n_le
  have hg := hd.ge
  have hf := h.ok.fit
  refine ⟨F, bw, bm, ⟨hh.trans h.head, ⟨fun y => if y = s.n - d then x.v s.n else r y, ?_, fun e e1 e2 => ?_⟩, hm, ho, h.ne, h.fs, h.fw, h.fm, fun i hi => Nat.lt_of_lt_of_le (h.old i hi) c.size⟩, c, fun _ h => .inl h⟩
  · show W'.heap[bw]? = _
    rw [hr]
    exact r1.set _
  · have e2 : e ≤ pos s.fs := e2
    show (if s.n - e = s.n - d then x.v s.n else r (s.n - e)) = (Go.Proofs.Yteienclklmjhdaa.upd s.ct d x e).v s.n
    unfold Go.Proofs.Yteienclklmjhdaa.upd
    by_cases c : e = d
    · subst c; rw [if_pos rfl, if_pos rfl]
    · rw [if_neg c, if_neg (by omega)]; exact r2 e e1 e2
/-- Places behind a store. -/
theorem isPlace_put (h : Ok s) {d : Nat} (hd : IsSlot s.fs d) (x : Wd) (y : Nat) : (s.put d x).isPlace y = if y = s.n - d then x.isRef else s.isPlace y := by
  have hg := hd.ge
  have hf := h.fit
  unfold St.isPlace
  show (decide (y < s.n) && decide (s.n ≤ y + pos s.fs) && (Go.Proofs.Yteienclklmjhdaa.upd s.ct d x (s.n - y)).isRef) = _
  unfold Go.Proofs.Yteienclklmjhdaa.upd
  by_cases c : y = s.n - d
  · rw [if_pos c, if_pos (by omega), decide_eq_true (by omega), decide_eq_true (by omega)]; rfl
  · rw [if_neg c]
    by_cases c2 : y < s.n
    · rw [if_neg (by omega)]
    · rw [decide_eq_false c2]; rfl
theorem ok_num (h : Ok s) {d : Nat} (hd : IsSlot s.fs d) {v : Int} (h0 : 0 ≤ v) (h1 : v ≤ 18446744073709551615) : Ok (s.put d (.num v)) :=
  h.put hd (fun _ e => by cases e; exact ⟨h0, h1⟩) (fun _ e => by cases e)

/-- What Load answers. -/
def St.load (s : St) (b i : Int) : Int × Int :=
  match s.fol b i with
  | (none, e) => (0, e)
  | (some t, _) => match s.ct t with | .num v => (v, 0) | .ref _ => (0, 10)
theorem fol_some {b i : Int} {t : Nat} {x : Int} (h : Ok s) (e : s.fol b i = (some t, x)) : IsSlot s.fs t ∧ x = 0 ∧ ∃ v, s.ct t = .num v := by
  unfold St.fol at e
  split at e
  · cases e
  · rename_i d hf
    have hs := (find_isSlot hf).ge
    split at e
    · cases e
    · rename_i t2 hc
      split at e
      · cases e
      · rename_i hr
        cases e
        refine ⟨(h.refs d t (by omega) (by omega) hc).1, rfl, ?_⟩
        cases hct : s.ct t with
        | num v => exact ⟨v, rfl⟩
        | ref _ => rw [hct] at hr; exact absurd rfl hr
theorem fol_none {b i : Int} {x : Int} (e : s.fol b i = (none, x)) : x = 4 ∨ x = 10 := by
  unfold St.fol at e
  split at e
  · cases e; exact .inl rfl
  · split at e
    · cases e; exact .inr rfl
    · split at e <;> cases e; exact .inr rfl
theorem load_word (h : Sk W F bs bw bm s) (b i : Int) :
    Calls Try.prog 23 #[.pointer (some ⟨bs, 0, none⟩), .int .i64 b, .int .i64 i] W fun e W' => e = .returned (wordV (s.load b i).1 (s.load b i).2) ∧ Cha (fun _ => False) W W' := by
  have C := Lib.hid (follow_any h b i)
  have hn := h.ok.n_le
  have hfit := h.ok.fit
  have H := Lib.hid h
  cases hf : s.fol b i with
  | mk o x =>
    rw [hf] at C
    cases o with
    | none =>
      have hg : s.load b i = (0, x) := by unfold St.load; rw [hf]
      rw [hg]
      have hx := fol_none hf
      clear hg hf h
      have C : Hid (Calls Try.prog 36 #[.pointer (some ⟨bs, 0, none⟩), .int .i64 b, .int .i64 i] W fun e W' => e = .returned (.tuple #[.int .i64 0, .int .i64 x]) ∧ Cha (fun _ => False) W W') := C
      rcases hx with rfl | rfl
      all_goals
        go_enter Try.func23, Try.ntmps23
        go_wp2_with (go_at_call 36; ((with_reducible refine (C.out).mono ?_); rintro e w1 ⟨rfl, hc⟩; have HC := Lib.hid hc; clear hc))
        go_returns
        exact ⟨rfl, HC.out⟩
    | some t =>
      obtain ⟨hs, rfl, v, hv⟩ := fol_some h.ok hf
      have hg : s.load b i = (v, 0) := by unfold St.load; rw [hf]; dsimp only; rw [hv]
      rw [hg]
      have hge := hs.ge
      have hw := h.word (e := t) (by omega) (by omega)
      obtain ⟨p, hp⟩ : ∃ p, p = s.n - t := ⟨_, rfl⟩
      rw [← hp, hv] at hw
      have hpn : p < s.n := by omega
      have C : Hid (Calls Try.prog 36 #[.pointer (some ⟨bs, 0, none⟩), .int .i64 b, .int .i64 i] W fun e W' => e = .returned (.tuple #[.int .i64 (p : Int), .int .i64 0]) ∧ Cha (fun _ => False) W W') := by rw [hp]; exact C
      have HX : Hid (∀ W', Cha (fun _ => False) W W' → W'.cell? ⟨bs, 0, none⟩ = some (.slice (some ⟨bw, 0, none⟩) s.n s.n) ∧ W'.cell? ⟨bw, p, none⟩ = some (.int .u64 v)) := Lib.hid fun W' c => ⟨(H.out.keep c).1.1, (H.out.keep c).2 _ _ hw⟩
      clear hg hf h hs hv hw hp
      go_enter Try.func23, Try.ntmps23
      go_wp2_with (go_at_call 36; ((with_reducible refine (C.out).mono ?_); rintro e w1 ⟨rfl, hc⟩; obtain ⟨y0, y1⟩ := HX.out _ hc; have HC := Lib.hid hc; clear hc))
      go_returns
      exact ⟨rfl, HC.out⟩
/-- A word is written where a reference leads. -/
def St.store (s : St) (b i v : Int) : Int × St :=
  match s.fol b i with
  | (none, e) => (e, s)
  | (some t, _) => (0, s.put t (.num v))
theorem store_none (a b v : Int) (W : World) : Calls Try.prog 19 #[.pointer none, .int .i64 a, .int .i64 b, .int .u64 v] W fun e W' => e = .returned (.int .i64 5) ∧ W = W' := by
  go_enter Try.func19, Try.ntmps19
  go_wp2
  go_returns
  exact ⟨rfl, rfl⟩
theorem store_word (h : Sk W F bs bw bm s) (b i v : Int) (h0 : 0 ≤ v) (h1 : v ≤ 18446744073709551615) :
    Calls Try.prog 19 #[.pointer (some ⟨bs, 0, none⟩), .int .i64 b, .int .i64 i, .int .u64 v] W fun e W' => e = .returned (.int .i64 (s.store b i v).1) ∧ Left W W' F bs (s.store b i v).2 := by
  have C := Lib.hid (follow_any h b i)
  have hn := h.ok.n_le
  have hfit := h.ok.fit
  have H := Lib.hid h
  cases hf : s.fol b i with
  | mk o x =>
    rw [hf] at C
    cases o with
    | none =>
      have hg : s.store b i v = (x, s) := by unfold St.store; rw [hf]
      rw [hg]
      have hx := fol_none hf
      clear hg hf h
      have C : Hid (Calls Try.prog 36 #[.pointer (some ⟨bs, 0, none⟩), .int .i64 b, .int .i64 i] W fun e W' => e = .returned (.tuple #[.int .i64 0, .int .i64 x]) ∧ Cha (fun _ => False) W W') := C
      rcases hx with rfl | rfl
      all_goals
        go_enter Try.func19, Try.ntmps19
        go_wp2_with (go_at_call 36; ((with_reducible refine (C.out).mono ?_); rintro e w1 ⟨rfl, hc⟩; have HC := Lib.hid hc; clear hc))
        go_returns
        exact ⟨rfl, H.out.left HC.out⟩
    | some t =>
      obtain ⟨hs, rfl, v', hv⟩ := fol_some h.ok hf
      have hg : s.store b i v = (0, s.put t (.num v)) := by unfold St.store; rw [hf]
      rw [hg]
      have hge := hs.ge
      have hw := h.word (e := t) (by omega) (by omega)
      obtain ⟨p, hp⟩ : ∃ p, p = s.n - t := ⟨_, rfl⟩
      rw [← hp] at hw
      have hpn : p < s.n := by omega
      have C : Hid (Calls Try.prog 36 #[.pointer (some ⟨bs, 0, none⟩), .int .i64 b, .int .i64 i] W fun e W' => e = .returned (.tuple #[.int .i64 (p : Int), .int .i64 0]) ∧ Cha (fun _ => False) W W') := by rw [hp]; exact C
      have HX : Hid (∀ W', Cha (fun _ => False) W W' → W'.cell? ⟨bs, 0, none⟩ = some (.slice (some ⟨bw, 0, none⟩) s.n s.n) ∧ W'.cell? ⟨bw, p, none⟩ = some ((s.ct t).v s.n) ∧ W'.frozen? ⟨bw, p, none⟩ = false) := Lib.hid fun W' c => ⟨(H.out.keep c).1.1, (H.out.keep c).2 _ _ hw, (H.out.same c).wfree p⟩
      have HE : Hid (∀ w1, Cha (fun _ => False) W w1 → Left W (w1.setCell ⟨bw, p, none⟩ (.int .u64 v)) F bs (s.put t (.num v))) := Lib.hid fun w1 c => by
        have h2 := H.out.same c
        have hne := H.out.ne
        have q : Left w1 (w1.setCell ⟨bw, p, none⟩ (.int .u64 v)) F bs (s.put t (.num v)) := by
          refine h2.upd hs (ok_num h2.ok hs h0 h1) (heap_setCell_other _ _ _ _ hne.1) (by rw [hp]; rfl) ?_ ((Cha.refl F w1).setCell (p := ⟨bw, p, none⟩) (fun _ => h2.fw) _)
          refine (h2.map.cha ((Cha.refl (· = bw) w1).setCell (p := ⟨bw, p, none⟩) (fun _ => rfl) _) (fun e => hne.2.2 e.symm)).congr fun y => ?_
          rw [isPlace_put h2.ok hs]
          split
          · rename_i e; rw [e, isPlace_at h2 (by omega) (by omega), hv]; rfl
          · rfl
        exact q.before c
      clear hg hf h hs hv hw hp
      go_enter Try.func19, Try.ntmps19
      go_wp2_with (go_at_call 36; ((with_reducible refine (C.out).mono ?_); rintro e w1 ⟨rfl, hc⟩; obtain ⟨y0, y1, y2⟩ := HX.out _ hc; have HC := Lib.hid hc; clear hc))
      go_returns
      exact ⟨rfl, HE.out _ HC.out⟩
/-- A slot is written. -/
def St.set (s : St) (b i v : Int) : Int × St :=
  match find s.fs b i with
  | none => (4, s)
  | some d => (0, s.put d (.num v))
theorem set_none (a b v : Int) (W : World) : Calls Try.prog 15 #[.pointer none, .int .i64 a, .int .i64 b, .int .u64 v] W fun e W' => e = .returned (.int .i64 5) ∧ W = W' := by
  go_enter Try.func15, Try.ntmps15
  go_wp2
  go_returns
  exact ⟨rfl, rfl⟩
theorem set_word (h : Sk W F bs bw bm s) (b i v : Int) (h0 : 0 ≤ v) (h1 : v ≤ 18446744073709551615) :
    Calls Try.prog 15 #[.pointer (some ⟨bs, 0, none⟩), .int .i64 b, .int .i64 i, .int .u64 v] W fun e W' => e = .returned (.int .i64 (s.set b i v).1) ∧ Left W W' F bs (s.set b i v).2 := by
  obtain ⟨c0, c1, c2, c3, c4⟩ := h.facts
  have C := Lib.hid (find_any h b i)
  have hn := h.ok.n_le
  have hfit := h.ok.fit
  have H := Lib.hid h
  cases hf : find s.fs b i with
  | none =>
    have hg : s.set b i v = (4, s) := by unfold St.set; rw [hf]
    rw [hg]
    rw [hf, foundV_none] at C
    clear h hf hg
    go_enter Try.func15, Try.ntmps15
    go_wp2_with (go_at_call 33; ((with_reducible refine (C.out).mono ?_); rintro e w1 ⟨rfl, rfl⟩))
    go_returns
    exact ⟨rfl, H.out.left (Cha.refl _ _)⟩
  | some d =>
    have hg : s.set b i v = (0, s.put d (.num v)) := by unfold St.set; rw [hf]
    rw [hg]
    rw [hf, foundV_some] at C
    have hs := find_isSlot hf
    have hge := hs.ge
    have hw := h.word (e := d) (by omega) (by omega)
    have hne := h.ne
    obtain ⟨p, hp⟩ : ∃ p, p = s.n - d := ⟨_, rfl⟩
    rw [← hp] at C hw
    have hpn : p < s.n := by omega
    have y2 := h.wfree p
    obtain ⟨D, hown, hset⟩ := h.map
    have c2' : (W.setCell ⟨bw, p, none⟩ (.int .u64 v)).cell? ⟨bs, 2, none⟩ = some (.map (some bm)) := by rw [World.cell?_setCell_other _ _ _ _ (by intro c; injection c with c; exact hne.1 c.symm)]; exact c2
    have hown2 : (W.setCell ⟨bw, p, none⟩ (.int .u64 v)).ownsMap Try.prog 3 unitR bm 1000000 D := hown.setCell (fun e => hne.2.2 e.symm) _
    have HE : Hid (∀ w1, w1.ownsMap Try.prog 3 unitR bm 1000000 (D.del (.int .i64 (p : Int))) → (W.setCell ⟨bw, p, none⟩ (.int .u64 v)).mapTurned w1 bm → Left W w1 F bs (s.put d (.num v))) := Lib.hid fun w1 o t => by
      have ct := turned_cha t
      have cc : Cha (fun i => i = bw ∨ i = bm) W w1 := ((Cha.refl (fun i => i = bw ∨ i = bm) W).setCell (p := ⟨bw, p, none⟩) (fun _ => .inl rfl) (.int .u64 v)).trans (ct.mono fun _ _ e => .inr e)
      refine H.out.upd hs (ok_num H.out.ok hs h0 h1) (cc.old bs (H.out.old _ H.out.fs) (fun e => e.elim hne.1 hne.2.1)) ?_ ?_ (cc.mono fun i _ e => e.elim (fun e => e ▸ H.out.fw) fun e => e ▸ H.out.fm)
      · rw [← hp]
        exact ct.old bw (by simpa [World.setCell] using H.out.old _ H.out.fw) hne.2.2
      · refine ⟨_, o, ?_⟩
        have q := hset.del p
        have e : (fun y => !decide (y = p) && s.isPlace y) = (s.put d (.num v)).isPlace := funext fun y => by
          rw [isPlace_put H.out.ok hs, ← hp]
          by_cases c : y = p
          · simp [c, Wd.isRef]
          · simp [c]
        rwa [e] at q
    have c0' : (W.setCell ⟨bw, p, none⟩ (.int .u64 v)).cell? ⟨bs, 0, none⟩ = some (.slice (some ⟨bw, 0, none⟩) s.n s.n) := by rw [World.cell?_setCell_other _ _ _ _ (by intro c; injection c with c; exact hne.1 c.symm)]; exact c0
    clear h hf hg hset hs hp
    go_enter Try.func15, Try.ntmps15
    go_wp2_with (first
      | (go_at_call 33; ((with_reducible refine (C.out).mono ?_); rintro e w1 ⟨rfl, rfl⟩))
      | (at_delete; refine wpList_delete_own _ rfl _ _ 55 3 rfl 66 keyed3 Try.underlying55 unitR bm 1000000 D rfl hown2 _ _ rfl (key3 (by omega) (by omega)) ?_; intro w1 hown1 hturn1; have HL := Lib.hid (HE.out _ hown1 hturn1); clear hown1 hturn1))
    go_returns
    exact ⟨rfl, HL.out⟩
end Go.Proofs.Yteienclklmjhdaa
