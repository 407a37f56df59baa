/- Contracts of stack: move. -/
import Derived.Test.YteienclklmjhdaaL
import Derived.OwnWalk
namespace Go.Proofs.Yteienclklmjhdaa
open Go.ChangeShapes Go.WideShapes Go.ChangeAt Go.RowKit
variable {W W' : World} {F : Nat → Prop} {bs bw bm : Nat} {s : St}

theorem Wd.v_one (n : Nat) (x : Wd) : (x.v n).oneCell' = true := rfl
theorem isPlace_lt {s : St} {x : Nat} (h : s.isPlace x = true) : x < s.n ∧ s.n ≤ x + pos s.fs ∧ ∃ d, s.ct (s.n - x) = .ref d := by
  unfold St.isPlace at h
  simp only [Bool.and_eq_true, decide_eq_true_eq] at h
  refine ⟨h.1.1, h.1.2, ?_⟩
  cases hc : s.ct (s.n - x) with
  | num _ => rw [hc] at h; cases h.2
  | ref d => exact ⟨d, rfl⟩
/-- What stands in the new words while references are told anew; the places that have been. -/
def half (s : St) (m : Nat) (left : Lit → Bool) (e : Nat) : Value := (s.ct e).v (bif left (.int .i64 ((s.n - e : Nat) : Int)) then s.n else m)
def gone (s : St) (m : Nat) (left : Lit → Bool) (y : Nat) : Bool := (s.moved m).isPlace y && !left (.int .i64 ((s.n + y - m : Nat) : Int))
structure Mid (W : World) (bm gw gm r : Nat) (s : St) (m : Nat) (D : DataW Unit) (wr : World) (left : Lit → Bool) (cn : Nat) (rr : Nat → Value) (D2 : DataW Unit) : Prop where
  rg : wr.ranges Try.prog 3 unitR bm r 1000000 D left cn
  sub : ∀ kl, left kl = true → Maps.has D kl = true
  own : wr.ownsMap Try.prog 3 unitR gm 1000000 D2
  set : IsSet D2 (gone s m left)
  row : FRow 28 wr gw m rr
  ct : ∀ e, 1 ≤ e → e ≤ pos s.fs → rr (m - e) = half s m left e
  cha : Cha (fun _ => False) W wr
  lt : r < wr.heap.size
theorem half_left {s : St} {m : Nat} {left : Lit → Bool} {e : Nat} (h : left (.int .i64 ((s.n - e : Nat) : Int)) = true ∨ (s.ct e).isRef = false) : half s m left e = (s.ct e).v s.n := by
  unfold half
  rcases h with h | h
  · rw [h]; rfl
  · cases hc : s.ct e with
    | num v => rfl
    | ref d => rw [hc] at h; cases h
/-- At the start all references are still to come. -/
theorem half_start {s : St} {m : Nat} {D : DataW Unit} (hs : IsSet D s.isPlace) {e : Nat} (h1 : 1 ≤ e) (h2 : e ≤ pos s.fs) (h3 : pos s.fs ≤ s.n) : half s m (Maps.has D) e = (s.ct e).v s.n := by
  apply half_left
  rw [hs.1]
  cases hc : (s.ct e).isRef with
  | false => exact .inr rfl
  | true =>
    left
    unfold St.isPlace
    rw [show s.n - (s.n - e) = e by omega, hc, decide_eq_true (by omega), decide_eq_true (by omega)]; rfl
theorem gone_start {s : St} {m : Nat} {D : DataW Unit} (hs : IsSet D s.isPlace) (h3 : pos s.fs ≤ s.n) (y : Nat) : gone s m (Maps.has D) y = false := by
  unfold gone
  rw [hs.1]
  unfold St.isPlace
  show (decide (y < m) && decide (m ≤ y + pos s.fs) && (s.ct (m - y)).isRef && !(decide (s.n + y - m < s.n) && decide (s.n ≤ s.n + y - m + pos s.fs) && (s.ct (s.n - (s.n + y - m))).isRef)) = false
  by_cases c1 : y < m
  · by_cases c2 : m ≤ y + pos s.fs
    · rw [show s.n - (s.n + y - m) = m - y by omega, decide_eq_true c1, decide_eq_true c2, decide_eq_true (show s.n + y - m < s.n by omega), decide_eq_true (show s.n ≤ s.n + y - m + pos s.fs by omega)]
      cases (s.ct (m - y)).isRef <;> rfl
    · rw [decide_eq_false c2]; simp
  · rw [decide_eq_false c1]; simp
theorem half_end {s : St} {m : Nat} {left : Lit → Bool} (hl : ∀ kl, left kl = false) (e : Nat) : half s m left e = (s.ct e).v m := by
  unfold half; rw [hl]; rfl
theorem gone_end {s : St} {m : Nat} {left : Lit → Bool} (hl : ∀ kl, left kl = false) (y : Nat) : gone s m left y = (s.moved m).isPlace y := by
  unfold gone; rw [hl]; simp
/-- A round: the reference at the distance e0 is told anew. -/
theorem half_step {s : St} {m : Nat} {left : Lit → Bool} {e e0 : Nat} (hn : s.n ≤ 4096) (h0 : e0 ≤ s.n) (h : e ≤ s.n) :
    half s m (fun z => left z && !z.sameKey (.int .i64 ((s.n - e0 : Nat) : Int))) e = if e = e0 then (s.ct e).v m else half s m left e := by
  show Wd.v (bif (left (.int .i64 ((s.n - e : Nat) : Int)) && !(Lit.int .i64 ((s.n - e : Nat) : Int)).sameKey (.int .i64 ((s.n - e0 : Nat) : Int))) then s.n else m) (s.ct e) = if e = e0 then _ else Wd.v (bif left (.int .i64 ((s.n - e : Nat) : Int)) then s.n else m) (s.ct e)
  rw [sameKey_nat (by omega)]
  by_cases c : e = e0
  · rw [if_pos c, c, decide_eq_true rfl]; simp
  · rw [if_neg c, decide_eq_false (by omega)]; simp
theorem gone_step {s : St} {m : Nat} {left : Lit → Bool} {e0 : Nat} (hn : s.n ≤ 4096) (h0 : 1 ≤ e0) (h1 : e0 ≤ pos s.fs) (h2 : pos s.fs ≤ s.n) (h3 : pos s.fs ≤ m) (hr : (s.ct e0).isRef = true) (y : Nat) :
    gone s m (fun z => left z && !z.sameKey (.int .i64 ((s.n - e0 : Nat) : Int))) y = (decide (y = m - e0) || gone s m left y) := by
  unfold gone
  dsimp only
  rw [sameKey_nat (by omega)]
  by_cases c : y = m - e0
  · rw [decide_eq_true c, decide_eq_true (show s.n + y - m = s.n - e0 by omega)]
    have : (s.moved m).isPlace y = true := by
      unfold St.isPlace
      show (decide (y < m) && decide (m ≤ y + pos s.fs) && (s.ct (m - y)).isRef) = true
      rw [show m - y = e0 by omega, hr, decide_eq_true (by omega), decide_eq_true (by omega)]; rfl
    rw [this]; simp
  · rw [decide_eq_false c]
    cases hp : (s.moved m).isPlace y with
    | false => rfl
    | true =>
      have q := isPlace_lt hp
      have q1 : y < m := q.1
      have q2 : m ≤ y + pos s.fs := q.2.1
      rw [decide_eq_false (show ¬ s.n + y - m = s.n - e0 by omega)]; simp
theorem grown_setCell (w : World) (p : Addr) (v : Value) : w.grownBy (w.setCell p v) (some p.block) := ⟨rfl, rfl, rfl, by simp [World.setCell], fun i _ hi => heap_setCell_other w p i v (fun e => hi (by rw [e]))⟩
theorem mid_step {gw gm r m cn cn1 : Nat} {wr w3 w4 : World} {left : Lit → Bool} {rr : Nat → Value} {D D2 : DataW Unit} {x d : Nat} (M : Mid W bm gw gm r s m D wr left cn rr D2) (ho : Ok s) (hm : pos s.fs ≤ m) (hm4 : m ≤ 4096)
    (hx : s.isPlace x = true) (hd : s.ct (s.n - x) = .ref d) (hrg : w3.ranges Try.prog 3 unitR bm r 1000000 D (fun z => left z && !z.sameKey (.int .i64 (x : Int))) cn1) (hg : wr.grownBy w3 (some r))
    (n1 : gw ≠ gm) (n2 : gw ≠ r) (n3 : gm ≠ r) (n4 : bm ≠ gw) (n5 : bm ≠ gm) (l1 : W.heap.size ≤ gw) (l2 : W.heap.size ≤ gm) (l3 : W.heap.size ≤ r)
    (o : w4.ownsMap Try.prog 3 unitR gm 1000001 (D2.put (.int .i64 ((m - (s.n - x) : Nat) : Int)) (.agg []))) (t : (w3.setCell ⟨gw, m - (s.n - x), none⟩ (.int .u64 ((m - d : Nat) : Int))).mapTurned w4 gm) :
    Mid W bm gw gm r s m D w4 (fun z => left z && !z.sameKey (.int .i64 (x : Int))) cn1 (fun p => if p = m - (s.n - x) then .int .u64 ((m - d : Nat) : Int) else rr p) (D2.put (.int .i64 ((m - (s.n - x) : Nat) : Int)) (.agg [])) := by
  obtain ⟨q1, q2, _⟩ := isPlace_lt hx
  have hf := ho.fit
  have hn := ho.n_le
  obtain ⟨e0, he0⟩ : ∃ e0, e0 = s.n - x := ⟨_, rfl⟩
  rw [← he0] at hd o t ⊢
  have ex : x = s.n - e0 := by omega
  have hr : (s.ct e0).isRef = true := by rw [hd]; rfl
  have ct := turned_cha t
  have hset2 : IsSet (D2.put (.int .i64 ((m - e0 : Nat) : Int)) (.agg [])) (gone s m fun z => left z && !z.sameKey (.int .i64 (x : Int))) := by
    have q := M.set.put M.own.isMap (x := m - e0) (by omega) (.agg [])
    have e : (fun y => decide (y = m - e0) || gone s m left y) = gone s m fun z => left z && !z.sameKey (.int .i64 (x : Int)) := funext fun y => by
      rw [ex, gone_step hn.2 (by omega) (by omega) hf hm hr]
    rwa [e] at q
  have g3 : Cha (fun i => i = r) wr w3 := Cha.of_grownBy hg fun k e => by cases e; rfl
  have c3 : Cha (fun _ => False) W w4 := by
    have a1 : Cha (fun i => i = r ∨ i = gw ∨ i = gm) wr w4 := ((g3.mono fun _ _ e => .inl e).setCell (p := ⟨gw, m - e0, none⟩) (fun _ => .inr (.inl rfl)) _).trans (ct.mono fun _ _ e => .inr (.inr e))
    exact M.cha.over a1 fun i e => .inr (by rcases e with rfl | rfl | rfl <;> assumption)
  refine ⟨?_, fun kl h => M.sub kl (by simp at h; exact h.1), owns_mil o hset2, hset2, ?_, fun e e1 e2 => ?_, c3, ?_⟩
  · exact (hrg.kept (grown_setCell w3 ⟨gw, m - e0, none⟩ _) (by intro c; injection c with c; exact n4 c) (by intro c; injection c with c; exact n2 c.symm)).kept t.grown (by intro c; injection c with c; exact n5 c) (by intro c; injection c with c; exact n3 c.symm)
  · exact ct.row ((g3.row M.row n2).set _) n1
  · show (if m - e = m - e0 then _ else rr (m - e)) = half s m (fun z => left z && !z.sameKey (.int .i64 (x : Int))) e
    rw [ex, half_step hn.2 (by omega) (by omega)]
    by_cases c : e = e0
    · subst c
      rw [if_pos rfl, if_pos rfl, hd]; rfl
    · rw [if_neg (by omega), if_neg c]; exact M.ct e e1 e2
  · have := g3.size
    have := ct.size
    have e : (w3.setCell ⟨gw, m - e0, none⟩ (.int .u64 ((m - d : Nat) : Int))).heap.size = w3.heap.size := by simp [World.setCell]
    have := M.lt
    omega
set_option maxHeartbeats 4000000 in
theorem move_any (h : Sk W F bs bw bm s) (m : Nat) (hm : m = 64 ∨ m = 128 ∨ m = 256 ∨ m = 512 ∨ m = 1024 ∨ m = 2048 ∨ m = 4096) (hp : pos s.fs ≤ m) :
    Calls Try.prog 28 #[.pointer (some ⟨bs, 0, none⟩), .int .i64 (m : Int)] W fun e W' => e = .returned (.tuple #[]) ∧ Left W W' F bs (s.moved m) := by
  obtain ⟨c0, c1, c2, c3, c4⟩ := h.facts
  obtain ⟨r0, r1, r2⟩ := h.row
  obtain ⟨D, hown, hset⟩ := h.map
  have hN := h.ok.n_le
  have hne := h.ne
  have H := Lib.hid h
  have f1 := h.free
  have hfit := h.ok.fit
  have hm4 : 64 ≤ m ∧ m ≤ 4096 := by omega
  have hb := h.old _ h.fs
  have hbw := h.old _ h.fw
  have hbm := h.old _ h.fm
  have kmk := mk m (by omega)
  have kmm := mkMap
  have HOK := Lib.hid (h.ok.moved hm hp)
  have HO := Lib.hid h.ok
  obtain ⟨u, hu⟩ : ∃ u, u = pos s.fs := ⟨_, rfl⟩
  obtain ⟨t, ht⟩ : ∃ t, t = s.n - u := ⟨_, rfl⟩
  obtain ⟨q, hq⟩ : ∃ q, q = m - u := ⟨_, rfl⟩
  rw [← hu, ← ht] at c1
  have i1 : (t : Int) + ((m : Int) - (s.n : Int)) = (q : Int) := by omega
  have i2 : 0 ≤ (q : Int) := by omega
  have i3 : (q : Int) ≤ (m : Int) := by omega
  have i4 : 0 ≤ (t : Int) := by omega
  have i5 : (t : Int) ≤ (s.n : Int) := by omega
  have x0 : ∀ ob, (W.alloc ob).cell? ⟨bs, 0, none⟩ = some (.slice (some ⟨bw, 0, none⟩) s.n s.n) := fun ob => (h.same ((Cha.refl _ W).alloc ob)).cell 0
  have i6 : IntKind.i64.wrap (q : Int) = (q : Int) := IntWalk.i64_in _ (by omega)
  obtain ⟨p1, hp1, hsl1⟩ := run_from W.heap.size m q (by omega)
  obtain ⟨p2, hp2, hsl2⟩ := run_from bw s.n t (by omega)
  have P1 : Hid (0 < u → p1 = some ⟨W.heap.size, q, none⟩ ∧ p2 = some ⟨bw, t, none⟩) := Lib.hid fun hp => ⟨hp1 (by omega), hp2 (by omega)⟩
  clear hp1 hp2
  have P2 : Hid (Nat.min (s.n - t) (m - q) = u) := Lib.hid (by show min _ _ = _; omega)
  have P3 : Hid (q + u ≤ m ∧ t + u ≤ s.n) := Lib.hid ⟨by omega, by omega⟩
  have P4 : Hid (FRow 28 (W.alloc (.cells (fcells m (fun _ => .int .u64 0)) 28)) bw s.n r0) := Lib.hid (((Cha.refl (fun _ => False) W).alloc _).row r1 id)
  have P5 : Hid (∀ i, i < u → (r0 (t + i)).oneCell' = true) := Lib.hid fun i hi => by
    have := r2 (u - i) (by omega) (by omega)
    rw [show s.n - (u - i) = t + i by omega] at this
    rw [this]; rfl
  have x0 : ∀ ob, (W.alloc ob).cell? ⟨bs, 0, none⟩ = some (.slice (some ⟨bw, 0, none⟩) s.n s.n) := fun ob => (h.same ((Cha.refl _ W).alloc ob)).cell 0
  have HR0 := Lib.hid r2
  have HU := Lib.hid hu
  have HT := Lib.hid ht
  have HQ := Lib.hid hq
  have HSET := Lib.hid hset
  have HK : Hid (∀ w1, Cha (fun _ => False) W w1 → w1.cell? ⟨bs, 0, none⟩ = some (.slice (some ⟨bw, 0, none⟩) s.n s.n) ∧ w1.cell? ⟨bs, 1, none⟩ = some (.int .i64 (t : Int)) ∧ w1.cell? ⟨bs, 2, none⟩ = some (.map (some bm)) ∧ w1.cell? ⟨bs, 4, none⟩ = some (.int .i64 s.cop) ∧ (∀ i, w1.frozen? ⟨bs, i, none⟩ = false) ∧ w1.ownsMap Try.prog 3 unitR bm 1000000 D) := Lib.hid fun w1 c => by
    obtain ⟨d0, d1, d2, d3, d4⟩ := (h.same c).facts
    refine ⟨d0, by rw [ht, hu]; exact d1, d2, d4, (h.same c).free, ?_⟩
    obtain ⟨es, clock, hb2, r⟩ := hown
    exact ⟨es, clock, (c.old bm hbm id).trans hb2, r⟩
  have HA : Hid (∀ w1, Cha (fun _ => False) W w1 → ∀ ob, (w1.alloc ob).cell? ⟨bs, 2, none⟩ = some (.map (some bm))) := Lib.hid fun w1 c ob => (h.same (c.alloc ob)).cell 2
  have HE : Hid (∀ wr left cn rr D2 gw gm, gw < gm → gw = W.heap.size → W.heap.size ≤ gm → Mid W bm gw gm (gm + 1) s m D wr left cn rr D2 → (∀ kl, left kl = false) →
      Left W ((((wr.setCell ⟨bs, 0, none⟩ (.slice (some ⟨gw, 0, none⟩) m m)).setCell ⟨bs, 2, none⟩ (.map (some gm))).setCell ⟨bs, 1, none⟩ (.int .i64 (q : Int))).setCell ⟨bs, 4, none⟩ (.int .i64 (wrap64 (s.cop + 1)))) F bs (s.moved m)) := Lib.hid fun wr left cn rr D2 gw gm hlt egw hgm M hl => by
    have hhead := (M.cha.old bs hb id).trans h.head
    have e1 := heap_setCell_same wr bs 0 _ 57 (.slice (some ⟨gw, 0, none⟩) m m) hhead
    have e2 := heap_setCell_same _ bs 2 _ 57 (.map (some gm)) e1
    have e3 := heap_setCell_same _ bs 1 _ 57 (.int .i64 (q : Int)) e2
    have e4 := heap_setCell_same _ bs 4 _ 57 (.int .i64 (wrap64 (s.cop + 1))) e3
    have cw : Cha (fun i => i = bs) wr ((((wr.setCell ⟨bs, 0, none⟩ (.slice (some ⟨gw, 0, none⟩) m m)).setCell ⟨bs, 2, none⟩ (.map (some gm))).setCell ⟨bs, 1, none⟩ (.int .i64 (q : Int))).setCell ⟨bs, 4, none⟩ (.int .i64 (wrap64 (s.cop + 1)))) :=
      ((((Cha.refl (fun i => i = bs) wr).setCell (p := ⟨bs, 0, none⟩) (fun _ => rfl) _).setCell (p := ⟨bs, 2, none⟩) (fun _ => rfl) _).setCell (p := ⟨bs, 1, none⟩) (fun _ => rfl) _).setCell (p := ⟨bs, 4, none⟩) (fun _ => rfl) _
    have cc := M.cha.wide.trans cw
    refine ⟨fun i => F i ∨ i = gw ∨ i = gm, gw, gm, ⟨?_, ⟨rr, cw.row M.row (by omega), fun e a1 a2 => ?_⟩, ?_, HOK.out, ⟨by omega, by omega, by omega⟩, .inl h.fs, .inr (.inl rfl), .inr (.inr rfl), fun i hi => ?_⟩, cc.mono fun i _ e => e ▸ h.fs, fun i hi => ?_⟩
    · rw [e4]
      simp only [St.cells, St.moved]
      rw [← hu, ← hq]
      rfl
    · show rr (m - e) = _
      rw [M.ct e a1 a2, half_end hl]; rfl
    · refine SM.cha ⟨D2, M.own, ?_⟩ cw (by omega)
      have e : gone s m left = (s.moved m).isPlace := funext fun y => gone_end hl y
      rw [← e]; exact M.set
    · have q1 := cc.size
      rcases hi with hi | rfl | rfl
      · exact Nat.lt_of_lt_of_le (h.old i hi) q1
      · exact Nat.lt_of_lt_of_le M.row.lt cw.size
      · exact Nat.lt_of_lt_of_le M.own.lt cw.size
    · rcases hi with hi | rfl | rfl
      · exact .inl hi
      · exact .inr (by omega)
      · exact .inr (by omega)
  clear h r1 r2 ht hq hset hu
  go_enter Try.func28, Try.ntmps28
  go_wp2
  go_still_tail 17, (by kernel_rfl)
  change wpStill _ _ ((W.alloc (.cells (fcells m (fun _ => .int .u64 0)) 28)).drew) _ _ _
  repeat still_step
  refine wpStill_nil ?_
  change wpList _ _ _ _ _ (W.alloc (.cells (fcells m (fun _ => .int .u64 0)) 28)).drew
  refine wpList_copyR rfl (.tmp 24) (.tmp 33) rfl _ _ _ _ _ _ rfl rfl W.heap.size q m bw t s.n _ r0 (show FRow 28 _ _ m _ from row_new W m _) (show FRow 28 _ _ _ _ from P4.out) u P2.out P1.out P3.out.1 P3.out.2 P5.out ?_; intro w1 hr1 hc1; have HR1 := Lib.hid hr1; have HC1 := Lib.hid (((Cha.refl (fun _ => False) W).alloc (.cells (fcells m (fun _ => .int .u64 0)) 28)).drew.over hc1 (fun i e => .inr (Nat.le_of_eq e.symm))); obtain ⟨y0, y1, y2, y3, y4, hown1⟩ := HK.out _ HC1.out; have y5 := HA.out _ HC1.out; have hgw1 := hr1.lt
  have hgm := World.ownsMap_made w1 Try.prog 3 unitR
  have hmb : bm < w1.heap.size := Nat.lt_of_lt_of_le hbm HC1.out.size
  go_wp2_with (first
    | (at_len; refine wpList_len_own _ rfl _ 55 rfl 3 66 Try.underlying55 unitR bm 1000000 D rfl hown1 ?_)
    | (at_range; refine wpList_range_own _ rfl _ 55 rfl 3 66 keyed3 Try.underlying55 unitR bm 1000000 D rfl (hown1.alloc _) ?_; intro w2 hrg0 hg0 hs0))
  go_frame
  have hsz : (w1.alloc (Obj.map #[] 0)).heap.size = w1.heap.size + 1 := World.size_alloc _ _
  rw [hsz] at hrg0 hs0 ⊢
  have hC2 : Cha (fun _ => False) W w2 := (HC1.out.alloc _).trans (Cha.of_grownBy hg0 fun k e => by cases e)
  have hgm2 : w2.ownsMap Try.prog 3 unitR w1.heap.size 1000000 (.map []) := (hgm.kept hg0 (by simp)).mono (Nat.zero_le _)
  have hrow2 : FRow 28 w2 W.heap.size m (fun i => if q ≤ i ∧ i < q + u then r0 (t + (i - q)) else Value.int IntKind.u64 0) := by
    have := hg0.block W.heap.size (by rw [hsz]; omega) (by simp)
    exact (this.trans (heap_alloc_old _ _ hgw1)).trans HR1.out
  have hM : Mid W bm W.heap.size w1.heap.size (w1.heap.size + 1) s m D w2 (Maps.has D) (Maps.size D) _ (.map []) :=
    ⟨hrg0, fun _ h => h, hgm2, ⟨fun y => by rw [gone_start HSET.out hfit]; rfl, fun kl h => by cases h⟩, hrow2, fun e e1 e2 => by
      have a1 := HU.out; have a2 := HT.out; have a3 := HQ.out
      rw [half_start HSET.out e1 e2 hfit, ← HR0.out e e1 e2]
      show (if q ≤ m - e ∧ m - e < q + u then r0 (t + (m - e - q)) else Value.int IntKind.u64 0) = _
      rw [if_pos (by omega), show t + (m - e - q) = s.n - e by omega], hC2, by omega⟩
  have HM := Lib.hid hM
  have HCW := Lib.hid HC1.out.size
  obtain ⟨gw, HGW⟩ : ∃ gw, Hid (gw = W.heap.size) := ⟨_, Lib.hid rfl⟩
  obtain ⟨gm, HGM⟩ : ∃ gm, Hid (gm = w1.heap.size) := ⟨_, Lib.hid rfl⟩
  have HLT : Hid (gw < gm) := Lib.hid (by rw [HGW.out, HGM.out]; exact hgw1)
  rw [← HGW.out, ← HGM.out] at HM
  rw [← HGW.out, ← HGM.out]
  clear hgm hrow2 hgm2 hC2 hM hrg0 hg0 hs0 hsz hown1 hr1 hc1 HR1 y0 y1 y2 y3 y4 y5 hmb hgw1 hsl1 hsl2 x0 HR0 P1 P2 P3 P4 P5 kmk
  go_loopw [7] (fun _ wr => ∃ left cn rr D2, Mid W bm gw gm (gm + 1) s m D wr left cn rr D2) (fun _ wr => wr.rangeLeft bm (gm + 1))
  case atStart => exact ⟨_, _, _, _, HM.out⟩
  case round =>
    clear HM
    obtain ⟨left, cn, rr, D2, hM⟩ := hrel
    obtain ⟨y0, y1, y2, y3, y4, _⟩ := HK.out _ hM.cha
    have HM := Lib.hid hM
    have hrg := hM.rg
    clear hM
    go_wp2_with (at_next; refine wpList_next_ranges _ rfl _ rfl 3 keyed3 unitR (Value.int .i64) (fun _ => Value.agg #[]) (fun key kl hk => by obtain ⟨x, hx, _⟩ := Maps.keyOf_int_inv Try.underlying3 hk; exact ⟨x, hx⟩) unit_inv bm (gm + 1) 1000000 D left cn rfl hrg ?_ ?_)
    · intro hc0 hl0
      have HL := Lib.hid hl0
      clear hl0 hrg
      go_wp2
      go_returns
      exact ⟨rfl, HE.out wr left cn rr D2 gw gm HLT.out HGW.out (Nat.le_trans HCW.out (Nat.le_of_eq HGM.out.symm)) HM.out HL.out⟩
    · intro x kl v1 v2 w3 cn1 hkey hlk hv hz hrg1 hlt1 hg1 hs1 hen
      have M := HM.out
      have HCN := Lib.hid hlt1
      obtain ⟨x', ex, ek, hwf⟩ := Maps.keyOf_int_inv Try.underlying3 hkey
      obtain ⟨x2, hx2, ek2⟩ := HSET.out.2 kl (M.sub kl hlk)
      obtain rfl : x = (x2 : Int) := by
        injection ex with _ ex
        rw [ek] at ek2
        injection ek2 with _ ek2
        omega
      subst ek2
      have hpl : s.isPlace x2 = true := by rw [← HSET.out.1]; exact M.sub _ hlk
      obtain ⟨q1, q2, d, hd⟩ := isPlace_lt hpl
      have hds := (HO.out.refs (s.n - x2) d (by omega) (by omega) hd).1.ge
      have hlt := HLT.out
      have hgwW : W.heap.size ≤ gw := Nat.le_of_eq HGW.out.symm
      have hgmW : W.heap.size ≤ gm := by omega
      have g3 : Cha (fun i => i = gm + 1) wr w3 := Cha.of_grownBy hg1 fun k e => by cases e; rfl
      have c3 : Cha (fun _ => False) W w3 := M.cha.over g3 fun i e => .inr (by omega)
      obtain ⟨z0, z1, z2, z3, z4, _⟩ := HK.out _ c3
      have hw3 : w3.cell? ⟨bw, x2, none⟩ = some (.int .u64 ((s.n - d : Nat) : Int)) := by
        have := (H.out.same c3).word (e := s.n - x2) (by omega) (by omega)
        rw [show s.n - (s.n - x2) = x2 by omega, hd] at this
        exact this
      have hrow3 := g3.row M.row (by omega : ¬ gw = gm + 1)
      have hy : m - (s.n - x2) < m := by omega
      have k1 := hrow3.cell hy
      have k2 := hrow3.free (m - (s.n - x2))
      have hown3 := (M.own.kept hg1 (by intro c; injection c with c; omega)).setCell (a := ⟨gw, m - (s.n - x2), none⟩) (by show gm ≠ gw; omega) (.int .u64 ((m - d : Nat) : Int))
      have HNEW : Hid (∀ w4, w4.ownsMap Try.prog 3 unitR gm 1000001 (D2.put (.int .i64 ((m - (s.n - x2) : Nat) : Int)) (.agg [])) → (w3.setCell ⟨gw, m - (s.n - x2), none⟩ (.int .u64 ((m - d : Nat) : Int))).mapTurned w4 gm → _) := Lib.hid fun w4 o t => mid_step M HO.out hp hm4.2 hpl hd hrg1 hg1 (by omega) (by omega) (by omega) (by omega) (by omega) (by omega) (by omega) (by omega) o t
      obtain ⟨y, hyy⟩ : ∃ y, y = m - (s.n - x2) := ⟨_, rfl⟩
      obtain ⟨v, hvv⟩ : ∃ v, v = s.n - d := ⟨_, rfl⟩
      obtain ⟨z, hzz⟩ : ∃ z, z = m - d := ⟨_, rfl⟩
      have a1 : (x2 : Int) + ((m : Int) - (s.n : Int)) = (y : Int) := by omega
      have a2 : (v : Int) + ((m : Int) - (s.n : Int)) = (z : Int) := by omega
      have a3 : z ≤ 4096 := by omega
      have a4 : v ≤ 4096 := by omega
      rw [← hyy] at k1 k2 hown3 HNEW hy
      rw [← hvv] at hw3
      rw [← hzz] at hown3 HNEW
      have CL := Lib.hid (load_any z0 q1 hw3 (by omega) (by omega))
      clear hkey ex ek hwf hv hz M hlk hpl q2 hd hds g3 c3 hrow3 hyy hvv hzz hrg1 hg1 hrg hlt1
      go_wp2_with (first
        | (go_at_call 38; ((with_reducible refine (CL.out).mono ?_); rintro e w5 ⟨rfl, rfl⟩))
        | (at_mapUpdate; refine wpList_mapUpdate_in _ rfl _ _ _ 55 rfl 3 66 keyed3 Try.underlying55 unitR gm 1000000 D2 rfl hown3 (by unfold maxLen; omega) _ _ _ rfl rfl (key3 (by omega) (by omega)) _ [] unitElem_mk ?_; intro w4 ho4 ht4; have HN := Lib.hid (HNEW.out _ ho4 ht4); clear ho4 ht4))
      try go_frame
      go_roundw
      case rel => exact ⟨_, cn1, _, _, HN.out⟩
      case measure =>
        have e1 := HN.out.rg.left_eq
        have e2 := HM.out.rg.left_eq
        show w4.rangeLeft bm (gm + 1) < wr.rangeLeft bm (gm + 1)
        rw [e1, e2]; exact HCN.out
end Go.Proofs.Yteienclklmjhdaa
