/- The document's timers: in memory; New, bad, Add. -/
import Derived.Test.YtaloafihbdamiaaGreatUB
import Derived.BigQuiet
import Derived.Handy
namespace Go.Proofs.YtaloafihbdamiaaGreat
open Go.ChangeShapes Go.WideShapes Go.ChangeAt Go.RowKit
open En (Enc)

/-- A timer of the document. -/
structure Tm where
  p : Int
  when : Int
  id : Int
def tmE : En.Enc Tm := ⟨44, 119, 3, 24, .agg #[.int .i64 0, .int .u64 0, .int .i64 0], fun a => [.int .i64 a.p, .int .u64 a.when, .int .i64 a.id]⟩
theorem tmE_ok : tmE.Ok := ⟨Tryz.underlying44, by kernel_rfl, rfl, by decide, fun _ => rfl, fun a u h => by simp [tmE] at h; rcases h with rfl | rfl | rfl <;> rfl⟩
/-- The document's timers at bd. -/
structure Dt (w : World) (F : Nat → Prop) (bd n : Nat) (v : Value) (D : List Tm) : Prop where
  head : w.heap[bd]? = some (.cells #[.int .i64 (n : Int), v] 46 (0, 0))
  l : En.Lies tmE w v D
  fc : F bd
  f1 : ∀ g, v.ownBlock = some g → F g ∧ g ≠ bd
  old : ∀ i, F i → i < w.heap.size
def DLeft (w w' : World) (F : Nat → Prop) (bd n : Nat) (D : List Tm) : Prop := ∃ F' v, Dt w' F' bd n v D ∧ Cha F w w' ∧ ∀ i, F' i → F i ∨ w.heap.size ≤ i
variable {w w' w1 w2 W : World} {F F' S : Nat → Prop} {bd n : Nat} {v v' u : Value} {D N : List Tm} {p t id : Int}
theorem Dt.cha (h : Dt w F bd n v D) (c : Cha S w w') (hs : ∀ i, F i → ¬ S i) : Dt w' F bd n v D :=
  ⟨(c.old bd (h.old _ h.fc) (hs _ h.fc)).trans h.head, h.l.cha c fun g hg => hs g (h.f1 g hg).1, h.fc, h.f1, fun i hi => Nat.lt_of_lt_of_le (h.old i hi) c.size⟩
theorem Dt.same (h : Dt w F bd n v D) (c : Cha (fun _ => False) w w') : Dt w' F bd n v D := h.cha c fun _ _ f => f
theorem Dt.procs (h : Dt w F bd n v D) : w.cell? ⟨bd, 0, none⟩ = some (.int .i64 (n : Int)) := cell_of_row w bd 0 _ 46 (0, 0) h.head
theorem Dt.list (h : Dt w F bd n v D) : w.cell? ⟨bd, 1, none⟩ = some v := cell_of_row w bd 1 _ 46 (0, 0) h.head
theorem Dt.free (h : Dt w F bd n v D) (i : Nat) : w.frozen? ⟨bd, i, none⟩ = false := frozen_of_row w bd i _ 46 h.head
/-- Another list is laid. -/
theorem Dt.put (h : Dt w F bd n v D) (c : Cha (fun i => F i ∧ i ≠ bd) w w1) (l : En.Lies tmE w1 u N) (hn : ∀ g, u.ownBlock = some g → (F g ∧ g ≠ bd) ∨ w.heap.size ≤ g) : DLeft w (w1.setCell ⟨bd, 1, none⟩ u) F bd n N := by
  have hb := h.old _ h.fc
  have h1 := (c.old bd hb (fun e => e.2 rfl)).trans h.head
  have h2 := heap_setCell_same w1 bd 1 _ 46 u h1
  have k : Cha (fun i => i = bd) w1 (w1.setCell ⟨bd, 1, none⟩ u) := (Cha.refl (· = bd) w1).setCell (p := ⟨bd, 1, none⟩) (fun _ => rfl) _
  have hne : ∀ g, u.ownBlock = some g → g ≠ bd := fun g hg => (hn g hg).elim (fun e => e.2) (fun e e2 => by omega)
  refine ⟨fun i => F i ∨ u.ownBlock = some i, u, ⟨h2, l.cha k (fun g hg e => hne g hg e), .inl h.fc, fun g hg => ⟨.inr hg, hne g hg⟩, fun i hi => ?_⟩, ?_, fun i hi => ?_⟩
  · rcases hi with hi | hi
    · exact Nat.lt_of_lt_of_le (h.old i hi) (Nat.le_trans c.size k.size)
    · exact Nat.lt_of_lt_of_le (l.lt hi) k.size
  · exact (c.mono fun i _ e => e.1).trans (k.mono fun i _ e => e ▸ h.fc)
  · rcases hi with hi | hi
    · exact .inl hi
    · exact (hn i hi).imp (fun e => e.1) id
theorem dtnew_bad (p : Int) (w : World) (hp : p < 1 ∨ 8 < p) : Calls Tryz.prog 17 #[.int .i64 p] w fun e w' => e = .returned (.tuple #[.pointer none, .int .i64 1]) ∧ w = w' := by
  by_cases h1 : p < 1
  · have h2 : decide (p < 1) = true := decide_eq_true h1
    clear hp
    go_enter Tryz.func17, Tryz.ntmps17
    go_wp2
    go_returns
    exact ⟨rfl, rfl⟩
  · have h2 : decide (p < 1) = false := decide_eq_false h1
    have h3 : 8 < p := by omega
    clear hp
    go_enter Tryz.func17, Tryz.ntmps17
    go_wp2
    go_returns
    exact ⟨rfl, rfl⟩
theorem dt_new (n : Nat) (w : World) : Dt (w.alloc (.cells #[.int .i64 (n : Int), .slice none 0 0] 46)) (fun i => i = w.heap.size) w.heap.size n (.slice none 0 0) [] :=
  ⟨heap_alloc_new w _, En.Lies.nil _ _, rfl, (fun g e => by cases e), (fun i (e : i = _) => by rw [World.size_alloc]; omega)⟩
theorem dtnew_ok (n : Nat) (w : World) (h1 : 1 ≤ n) (h2 : n ≤ 8) : Calls Tryz.prog 17 #[.int .i64 (n : Int)] w fun e w' => e = .returned (.tuple #[.pointer (some ⟨w.heap.size, 0, none⟩), .int .i64 0]) ∧ w' = w.alloc (.cells #[.int .i64 (n : Int), .slice none 0 0] 46) := by
  have k1 : ¬ ((n : Int) < 1) := by omega
  have k2 : ¬ ((8 : Int) < (n : Int)) := by omega
  go_enter Tryz.func17, Tryz.ntmps17
  go_wp2
  go_returns
  exact ⟨rfl, rfl⟩
theorem dbad_yes (p : Int) (h : Dt w F bd n v D) (hp : p < 0 ∨ (n : Int) ≤ p) : Calls Tryz.prog 68 #[.pointer (some ⟨bd, 0, none⟩), .int .i64 p] w fun e w' => e = .returned (.bool true) ∧ w = w' := by
  have c := h.procs
  clear h
  by_cases h1 : p < 0
  · clear hp
    go_enter Tryz.func68, Tryz.ntmps68
    go_wp2
    go_ret
    exact ⟨rfl, rfl⟩
  · have h2 : (n : Int) ≤ p := by omega
    clear hp
    go_enter Tryz.func68, Tryz.ntmps68
    go_wp2
    go_ret
    exact ⟨rfl, rfl⟩
theorem dbad_no (p : Int) (h : Dt w F bd n v D) (h0 : 0 ≤ p) (hp : p < (n : Int)) : Calls Tryz.prog 68 #[.pointer (some ⟨bd, 0, none⟩), .int .i64 p] w fun e w' => e = .returned (.bool false) ∧ w = w' := by
  have c := h.procs
  have h1 : ¬ (p < 0) := by omega
  have h2 : ¬ ((n : Int) ≤ p) := by omega
  clear h
  go_enter Tryz.func68, Tryz.ntmps68
  go_wp2
  go_ret
  exact ⟨rfl, rfl⟩
theorem dadd_bad (p t id : Int) (h : Dt w F bd n v D) (hp : p < 0 ∨ (n : Int) ≤ p) : Calls Tryz.prog 50 #[.pointer (some ⟨bd, 0, none⟩), .int .i64 p, .int .u64 t, .int .i64 id] w fun e w' => e = .returned (.int .i64 1) ∧ w = w' := by
  have C := Lib.hid (dbad_yes p h hp)
  clear h hp
  go_enter Tryz.func50, Tryz.ntmps50
  go_wp2_with (go_at_call 68; ((with_reducible refine (C.out).mono ?_); rintro e w1 ⟨rfl, rfl⟩))
  go_ret
  exact ⟨rfl, rfl⟩
theorem dadd_full (p t id : Int) (h : Dt w F bd n v D) (h0 : 0 ≤ p) (hp : p < (n : Int)) (hl : 1024 ≤ D.length) : Calls Tryz.prog 50 #[.pointer (some ⟨bd, 0, none⟩), .int .i64 p, .int .u64 t, .int .i64 id] w fun e w' => e = .returned (.int .i64 3) ∧ w = w' := by
  have C := Lib.hid (dbad_no p h h0 hp)
  obtain ⟨s, cap, rfl, _⟩ := h.l.form
  have c1 := h.list
  have k1 : (1024 : Int) ≤ (D.length : Int) := by omega
  clear h hp
  go_enter Tryz.func50, Tryz.ntmps50
  go_wp2_with (go_at_call 68; ((with_reducible refine (C.out).mono ?_); rintro e w1 ⟨rfl, rfl⟩))
  go_ret
  exact ⟨rfl, rfl⟩
set_option maxRecDepth 100000 in
theorem dadd_ok (p t id : Int) (h : Dt w F bd n v D) (h0 : 0 ≤ p) (hp : p < (n : Int)) (hl : D.length < 1024) : Calls Tryz.prog 50 #[.pointer (some ⟨bd, 0, none⟩), .int .i64 p, .int .u64 t, .int .i64 id] w fun e w' => e = .returned (.int .i64 0) ∧ DLeft w w' F bd n (D ++ [⟨p, t, id⟩]) := by
  have C := Lib.hid (dbad_no p h h0 hp)
  have H := Lib.hid h
  obtain ⟨s, cap, rfl, _⟩ := h.l.form
  have c1 := h.list
  have k1 : ¬ ((1024 : Int) ≤ (D.length : Int)) := by omega
  have HL := Lib.hid hl
  obtain ⟨m, hm⟩ : ∃ m, m = D.length := ⟨_, rfl⟩
  rw [← hm] at H HL c1 k1
  have HM := Lib.hid hm
  have KX : Hid (∀ W', Cha (fun i => F i ∧ i ≠ bd) w W' → W'.cell? ⟨bd, 1, none⟩ = some (.slice s m cap) ∧ W'.frozen? ⟨bd, 1, none⟩ = false) := Lib.hid fun W' c => by
    have e := (c.old bd (H.out.old _ H.out.fc) (fun e => e.2 rfl)).trans H.out.head
    exact ⟨cell_of_row W' bd 1 _ 46 (0, 0) e, frozen_of_row W' bd 1 _ 46 e⟩
  clear h hp hm
  go_enter Tryz.func50, Tryz.ntmps50
  go_wp2_with (first
    | (go_at_call 68; ((with_reducible refine (C.out).mono ?_); rintro e w1 ⟨rfl, rfl⟩))
    | (at_builtin; go_loud (refine En.wpList_app tmE_ok rfl (.tmp 22) (.tmp 27) rfl rfl (H.out.l.same ((Cha.refl _ w).alloc _)) ⟨w.heap.size, 0, none⟩ 1 1 [⟨p, t, id⟩] rfl rfl (En.just_new tmE w ⟨p, t, id⟩ 119) Nat.zero_lt_one (by rw [← HM.out]; have := HL.out; simp only [List.length_singleton, maxLen]; omega) (by rw [← HM.out]; have := HL.out; show (m + 1) * 24 ≤ _; omega) ?_; intro g3 o3 cap3 w3 hA3; have cA : Cha (fun i => F i ∧ i ≠ bd) w w3 := ((Cha.refl (fun i => F i ∧ i ≠ bd) w).alloc _).trans (hA3.cha.mono fun i _ e => H.out.f1 i e); obtain ⟨k5, k6⟩ := KX.out w3 cA; have FN := Lib.hid (H.out.put cA hA3.lies (fun g hg => by cases hg; exact hA3.at'.imp (H.out.f1 _) (fun e => Nat.le_of_succ_le (by rw [World.size_alloc] at e; exact e)))); clear hA3 cA)))
  go_returns
  exact ⟨rfl, FN.out⟩
end Go.Proofs.YtaloafihbdamiaaGreat

namespace Go.Proofs.YtaloafihbdamiaaGreat
open Go.ChangeShapes Go.WideShapes Go.ChangeAt Go.RowKit
variable {w w' w1 w2 W : World} {F F' S : Nat → Prop} {bd n m cap : Nat} {v v' u : Value} {D N : List Tm} {p t id : Int} {a : Option Addr}

def d0 : Tm := ⟨0, 0, 0⟩
/-- The place of a processor's first timer among the first j; -1: none. -/
def bst (D : List Tm) (p : Int) : Nat → Int
  | 0 => -1
  | j + 1 => if (D.getD j d0).p = p ∧ (bst D p j < 0 ∨ (D.getD j d0).when < (D.getD (bst D p j).toNat d0).when) then (j : Int) else bst D p j
theorem bst_range (D : List Tm) (p : Int) (j : Nat) : bst D p j = -1 ∨ ∃ b : Nat, bst D p j = (b : Int) ∧ b < j ∧ (D.getD b d0).p = p := by
  induction j with
  | zero => exact .inl rfl
  | succ j ih =>
    unfold bst
    split
    · rename_i h
      exact .inr ⟨j, rfl, by omega, h.1⟩
    · rcases ih with h | ⟨b, h1, h2, h3⟩
      · exact .inl h
      · exact .inr ⟨b, h1, by omega, h3⟩
def TmAt (w : World) (a : Option Addr) (D : List Tm) : Prop := 0 < D.length → ∃ g o, a = some ⟨g, o, none⟩ ∧ ∀ W, Cha (fun _ => False) w W → ∀ i, i < D.length →
  W.cell? ⟨g, o + i * 3, none⟩ = some (.int .i64 (D.getD i d0).p) ∧ W.cell? ⟨g, o + i * 3 + 1, none⟩ = some (.int .u64 (D.getD i d0).when) ∧ W.cell? ⟨g, o + i * 3 + 2, none⟩ = some (.int .i64 (D.getD i d0).id)
theorem tm_at (h : En.Lies tmE w (.slice a m cap) D) : TmAt w a D := fun hp => by
  obtain ⟨g, o, cap', e, _, _, hc⟩ := h.cells tmE_ok hp
  cases e
  refine ⟨g, o, rfl, fun W c i hi => ?_⟩
  have h4 := (hc W c.wide).1
  have e : D.getD i d0 = D[i] := by simp [List.getD, List.getElem?_eq_getElem hi]
  rw [e]
  exact ⟨by simpa [tmE] using h4 i 0 hi (by decide), by simpa [tmE] using h4 i 1 hi (by decide), by simpa [tmE] using h4 i 2 hi (by decide)⟩
set_option maxRecDepth 100000 in
set_option maxHeartbeats 4000000 in
theorem dfirst_any (p : Int) (h : Dt w F bd n v D) (hl : D.length ≤ 1024) : Calls Tryz.prog 80 #[.pointer (some ⟨bd, 0, none⟩), .int .i64 p] w fun e w' => e = .returned (.int .i64 (bst D p D.length)) ∧ ∃ k, w' = w.drewN k := by
  obtain ⟨s, cap, rfl, _, hm⟩ := h.l.form
  have HZ := Lib.hid (tm_at h.l)
  have c1 := h.list
  obtain ⟨m, hm1⟩ : ∃ m, m = D.length := ⟨_, rfl⟩
  rw [← hm1] at c1 hl ⊢
  have HM := Lib.hid hm1
  clear h hm1 hm
  go_enter Tryz.func80, Tryz.ntmps80
  go_wp2
  go_loopw [5, 6] (fun b i wr => ∃ j : Nat, j ≤ m ∧ i = .int .i64 (j : Int) ∧ b = .int .i64 (bst D p j) ∧ ∃ k, wr = w.drewN k) (fun _ i _ => m - (intOf i).toNat)
  case atStart => exact ⟨0, Nat.zero_le _, rfl, rfl, 0, rfl⟩
  case round =>
    obtain ⟨j, hj, rfl, rfl, k, rfl⟩ := hrel
    have c2 : (w.drewN k).cell? ⟨bd, 1, none⟩ = some (.slice s m cap) := c1
    by_cases hlt : j < m
    · obtain ⟨g, o, rfl, hz⟩ := HZ.out (by rw [← HM.out]; omega)
      obtain ⟨z0, z1, _⟩ := hz w (Cha.refl _ w) j (by rw [← HM.out]; exact hlt)
      have hb := bst_range D p j
      have hn : bst D p (j + 1) = if (D.getD j d0).p = p ∧ (bst D p j < 0 ∨ (D.getD j d0).when < (D.getD (bst D p j).toNat d0).when) then (j : Int) else bst D p j := rfl
      have y1 : (j : Int) < (m : Int) := by omega
      have y2 : (0 : Int) ≤ (j : Int) := by omega
      have HN := Lib.hid hn
      clear hn
      by_cases hp : (D.getD j d0).p = p
      · rcases hb with hb | ⟨b, hb, hbj, -⟩
        · have hn2 : Hid (bst D p (j + 1) = (j : Int)) := Lib.hid (by rw [HN.out, if_pos ⟨hp, .inl (by omega)⟩])
          have y7 : ((D.getD j d0).p == p) = true := by simpa using hp
          rw [hb]
          clear hz HN hp hb
          generalize (D.getD j d0).p = q at *
          generalize (D.getD j d0).when = t at *
          go_wp2
          go_quiet (fail)
          go_wp2
          go_roundw
          case rel => exact ⟨j + 1, by omega, by go_num, by rw [hn2.out], _, rfl⟩
          case measure => simp [intOf]; omega
        · obtain ⟨_, x1, _⟩ := hz w (Cha.refl _ w) b (by rw [← HM.out]; omega)
          have y3 : (b : Int) < (m : Int) := by omega
          have y4 : (0 : Int) ≤ (b : Int) := by omega
          have y5 : decide ((b : Int) < 0) = false := decide_eq_false (by omega)
          have hn2 : Hid (bst D p (j + 1) = if (D.getD j d0).when < (D.getD b d0).when then (j : Int) else (b : Int)) := Lib.hid (by
            rw [HN.out, hb, Int.toNat_natCast]
            by_cases c : (D.getD j d0).when < (D.getD b d0).when
            · rw [if_pos c, if_pos ⟨hp, .inr c⟩]
            · rw [if_neg c, if_neg]
              rintro ⟨_, c2 | c2⟩
              · omega
              · exact c c2)
          have y7 : ((D.getD j d0).p == p) = true := by simpa using hp
          rw [hb]
          clear hz HN hp hb
          generalize (D.getD j d0).p = q at *
          generalize (D.getD j d0).when = t at *
          generalize (D.getD b d0).when = tb at *
          by_cases c : t < tb
          · rw [if_pos c] at hn2
            have y6 : decide (t < tb) = true := decide_eq_true c
            go_wp2
            go_quiet (fail)
            go_wp2
            go_roundw
            case rel => exact ⟨j + 1, by omega, by go_num, by rw [hn2.out], _, rfl⟩
            case measure => simp [intOf]; omega
          · rw [if_neg c] at hn2
            have y6 : decide (t < tb) = false := decide_eq_false c
            go_wp2
            go_quiet (fail)
            go_wp2
            go_roundw
            case rel => exact ⟨j + 1, by omega, by go_num, by rw [hn2.out], _, rfl⟩
            case measure => simp [intOf]; omega
      · have hn2 : Hid (bst D p (j + 1) = bst D p j) := Lib.hid (by rw [HN.out, if_neg (fun c => hp c.1)])
        have y6 : ((D.getD j d0).p == p) = false := by simpa using hp
        clear hz HN hb
        generalize (D.getD j d0).p = q at *
        generalize bst D p j = b at *
        go_wp2
        go_quiet (fail)
        go_wp2
        go_roundw
        case rel => exact ⟨j + 1, by omega, by go_num, by rw [hn2.out], _, rfl⟩
        case measure => simp [intOf]; omega
    · obtain rfl : j = m := by omega
      have y1 : ¬ ((j : Int) < (j : Int)) := by omega
      go_wp2
      go_ret
      exact ⟨rfl, _, rfl⟩
end Go.Proofs.YtaloafihbdamiaaGreat

namespace Go.Proofs.YtaloafihbdamiaaGreat
open Go.ChangeShapes Go.WideShapes Go.ChangeAt Go.RowKit
variable {w w' w1 w2 W : World} {F F' S : Nat → Prop} {bd n m cap : Nat} {v v' u : Value} {D N : List Tm} {p q t id : Int} {a : Option Addr}

theorem dnext_none (p : Int) (h : Dt w F bd n v D) (hl : D.length ≤ 1024) (hb : bst D p D.length = -1) : Calls Tryz.prog 61 #[.pointer (some ⟨bd, 0, none⟩), .int .i64 p] w fun e w' => e = .returned (.tuple #[.int .u64 0, .bool false]) ∧ Cha (fun _ => False) w w' := by
  have C := Lib.hid (dfirst_any p h hl)
  rw [hb] at C
  clear h hb
  go_enter Tryz.func61, Tryz.ntmps61
  go_wp2_with (go_at_call 80; ((with_reducible refine (C.out).mono ?_); rintro e w1 ⟨rfl, k, rfl⟩))
  go_returns
  exact ⟨rfl, (Cha.refl _ w).drewN k⟩
theorem dnext_some (p : Int) (h : Dt w F bd n v D) (hl : D.length ≤ 1024) (b : Nat) (hb : bst D p D.length = (b : Int)) (hbl : b < D.length) : Calls Tryz.prog 61 #[.pointer (some ⟨bd, 0, none⟩), .int .i64 p] w fun e w' => e = .returned (.tuple #[.int .u64 (D.getD b d0).when, .bool true]) ∧ Cha (fun _ => False) w w' := by
  have C := Lib.hid (dfirst_any p h hl)
  rw [hb] at C
  obtain ⟨s, cap, rfl, _, hm⟩ := h.l.form
  have c1 := h.list
  obtain ⟨g, o, rfl, hz⟩ := tm_at h.l (by omega)
  obtain ⟨_, z1, _⟩ := hz w (Cha.refl _ w) b hbl
  have y1 : (b : Int) < (D.length : Int) := by omega
  have y2 : (0 : Int) ≤ (b : Int) := by omega
  have y3 : ¬ ((b : Int) < 0) := by omega
  generalize (D.getD b d0).when = t at *
  generalize D.length = m at *
  clear h hb hz hm
  go_enter Tryz.func61, Tryz.ntmps61
  go_wp2_with (go_at_call 80; ((with_reducible refine (C.out).mono ?_); rintro e w1 ⟨rfl, k, rfl⟩))
  go_returns
  exact ⟨rfl, (Cha.refl _ w).drewN k⟩
theorem dmove_bad1 (p q : Int) (h : Dt w F bd n v D) (hp : p < 0 ∨ (n : Int) ≤ p) : Calls Tryz.prog 62 #[.pointer (some ⟨bd, 0, none⟩), .int .i64 p, .int .i64 q] w fun e w' => e = .returned (.int .i64 1) ∧ w = w' := by
  have C := Lib.hid (dbad_yes p h hp)
  clear h hp
  go_enter Tryz.func62, Tryz.ntmps62
  go_wp2_with (go_at_call 68; ((with_reducible refine (C.out).mono ?_); rintro e w1 ⟨rfl, rfl⟩))
  go_ret
  exact ⟨rfl, rfl⟩
theorem dmove_bad2 (p q : Int) (h : Dt w F bd n v D) (h0 : 0 ≤ p) (hp : p < (n : Int)) (hq : q < 0 ∨ (n : Int) ≤ q) : Calls Tryz.prog 62 #[.pointer (some ⟨bd, 0, none⟩), .int .i64 p, .int .i64 q] w fun e w' => e = .returned (.int .i64 1) ∧ w = w' := by
  have C := Lib.hid (dbad_no p h h0 hp)
  have D := Lib.hid (dbad_yes q h hq)
  clear h hp hq
  go_enter Tryz.func62, Tryz.ntmps62
  go_wp2_with (first
    | (go_at_call 68; ((with_reducible refine (C.out).mono ?_); rintro e w1 ⟨rfl, rfl⟩))
    | (go_at_call 68; ((with_reducible refine (D.out).mono ?_); rintro e w1 ⟨rfl, rfl⟩)))
  go_ret
  exact ⟨rfl, rfl⟩
/-- A timer goes from p to q. -/
def mvT (p q : Int) (x : Tm) : Tm := if x.p = p then ⟨q, x.when, x.id⟩ else x
theorem tm_set {g o cap : Nat} (h : En.Lies tmE w (.slice (some ⟨g, o, none⟩) m cap) D) {i : Nat} (hi : i < D.length) (q : Int) :
    En.Lies tmE (w.setCell ⟨g, o + i * 3, none⟩ (.int .i64 q)) (.slice (some ⟨g, o, none⟩) m cap) (D.set i ⟨q, (D.getD i d0).when, (D.getD i d0).id⟩) ∧ w.frozen? ⟨g, o + i * 3, none⟩ = false := by
  rcases h with ⟨_, e⟩ | ⟨g', o', cap', cur, e, h1, h2, h3, h4, h5⟩
  · cases e
  · cases e
    have hk : tmE.k = 3 := rfl
    rw [hk] at h4 h5
    refine ⟨.inr ⟨g, o, cap, _, by rw [List.length_set], by rw [List.length_set]; exact h1, h2, heap_setCell_same w g (o + i * 3) _ _ _ h3, by rw [Array.size_setIfInBounds]; exact h4, fun j hj => ?_⟩, frozen_of_row w g _ cur _ h3⟩
    rw [List.length_set, hk] at hj
    have hs : (D.set i ⟨q, (D.getD i d0).when, (D.getD i d0).id⟩).length = D.length := List.length_set ..
    have hq1 : j / 3 < D.length := by omega
    have hq2 : j % 3 < 3 := Nat.mod_lt _ (by decide)
    have e1 := tmE_ok.cs_get (D.set i ⟨q, (D.getD i d0).when, (D.getD i d0).id⟩) (i := j / 3) (j := j % 3) (by rw [hs]; exact hq1) hq2
    have e2 := tmE_ok.cs_get D (i := j / 3) (j := j % 3) hq1 hq2
    rw [hk, show j / 3 * 3 + j % 3 = j by omega] at e1 e2
    rw [Array.getElem?_setIfInBounds, e1]
    have hd : D.getD i d0 = D[i] := by simp [List.getD, List.getElem?_eq_getElem hi]
    by_cases e : i = j / 3
    · subst e
      rw [List.getElem_set_self]
      by_cases e3 : j % 3 = 0
      · rw [if_pos (by omega), if_pos (by omega), e3]; rfl
      · rw [if_neg (by omega), h5 j hj, e2, hd]
        rcases (by omega : j % 3 = 1 ∨ j % 3 = 2) with e4 | e4 <;> rw [e4] <;> rfl
    · rw [if_neg (by omega), h5 j hj, e2, List.getElem_set_ne e]
set_option maxRecDepth 100000 in
set_option maxHeartbeats 4000000 in
theorem dmove_ok (p q : Int) (h : Dt w F bd n v D) (hp0 : 0 ≤ p) (hp : p < (n : Int)) (hq0 : 0 ≤ q) (hq : q < (n : Int)) (hl : D.length ≤ 1024) :
    Calls Tryz.prog 62 #[.pointer (some ⟨bd, 0, none⟩), .int .i64 p, .int .i64 q] w fun e w' => e = .returned (.int .i64 0) ∧ Dt w' F bd n v (D.map (mvT p q)) ∧ Cha F w w' := by
  have C := Lib.hid (dbad_no p h hp0 hp)
  have C2 := Lib.hid (dbad_no q h hq0 hq)
  have H := Lib.hid h
  obtain ⟨s, cap, rfl, hc, _⟩ := h.l.form
  obtain ⟨m, hm⟩ : ∃ m, m = D.length := ⟨_, rfl⟩
  rw [← hm] at H hl ⊢
  have HM := Lib.hid hm
  clear h hm
  go_enter Tryz.func62, Tryz.ntmps62
  go_wp2_with (first
    | (go_at_call 68; ((with_reducible refine (C.out).mono ?_); rintro e w1 ⟨rfl, rfl⟩))
    | (go_at_call 68; ((with_reducible refine (C2.out).mono ?_); rintro e w1 ⟨rfl, rfl⟩)))
  go_loopw [7] (fun i wr => ∃ (j : Nat) (D' : List Tm), j ≤ m ∧ i = .int .i64 (j : Int) ∧ D'.length = m ∧ (∀ i, i < m → D'.getD i d0 = if i < j then mvT p q (D.getD i d0) else D.getD i d0) ∧ Dt wr F bd n (.slice s m cap) D' ∧ Cha F w wr) (fun i _ => m - (intOf i).toNat)
  case atStart => exact ⟨0, D, Nat.zero_le _, rfl, HM.out.symm, fun i _ => by rw [if_neg (Nat.not_lt_zero _)], H.out, Cha.refl _ _⟩
  case round =>
    obtain ⟨j, D', hj, rfl, hD, hA, hT, hC⟩ := hrel
    have HT := Lib.hid hT
    have HA := Lib.hid hA
    have HD := Lib.hid hD
    have HC := Lib.hid hC
    have c1 := hT.list
    clear hA hT hC hD
    by_cases hlt : j < m
    · obtain ⟨g, o, rfl, hz⟩ := tm_at HT.out.l (by rw [HD.out]; omega)
      obtain ⟨z0, _, _⟩ := hz wr (Cha.refl _ _) j (by rw [HD.out]; exact hlt)
      have hs := tm_set HT.out.l (i := j) (by rw [HD.out]; exact hlt) q
      have z3 := hs.2
      have HS := Lib.hid hs.1
      have hj0 := HA.out j hlt
      rw [if_neg (Nat.lt_irrefl _)] at hj0
      have HJ := Lib.hid hj0
      have y1 : (j : Int) < (m : Int) := by omega
      have y2 : (0 : Int) ≤ (j : Int) := by omega
      have y3 := HC.out.size
      by_cases hpp : (D'.getD j d0).p = p
      · have y7 : ((D'.getD j d0).p == p) = true := by simpa using hpp
        have NX : Hid (Dt (wr.setCell ⟨g, o + j * 3, none⟩ (.int .i64 q)) F bd n (.slice (some ⟨g, o, none⟩) m cap) (D'.set j ⟨q, (D'.getD j d0).when, (D'.getD j d0).id⟩) ∧ Cha F w (wr.setCell ⟨g, o + j * 3, none⟩ (.int .i64 q))) := Lib.hid (by
          have hg := HT.out.f1 g rfl
          have k : Cha (fun i => i = g) wr (wr.setCell ⟨g, o + j * 3, none⟩ (.int .i64 q)) := (Cha.refl (· = g) wr).setCell (p := ⟨g, o + j * 3, none⟩) (fun _ => rfl) _
          exact ⟨⟨(k.old bd (HT.out.old _ HT.out.fc) (fun e => hg.2 e.symm)).trans HT.out.head, HS.out, HT.out.fc, HT.out.f1, fun i hi => Nat.lt_of_lt_of_le (HT.out.old i hi) k.size⟩, HC.out.trans (k.mono fun i _ e => e ▸ hg.1)⟩)
        have NA : Hid (∀ i, i < m → (D'.set j ⟨q, (D'.getD j d0).when, (D'.getD j d0).id⟩).getD i d0 = if i < j + 1 then mvT p q (D.getD i d0) else D.getD i d0) := Lib.hid fun i hi => by
          have hset : (D'.set j ⟨q, (D'.getD j d0).when, (D'.getD j d0).id⟩).getD i d0 = if i = j then ⟨q, (D'.getD j d0).when, (D'.getD j d0).id⟩ else D'.getD i d0 := by
            unfold List.getD
            rw [List.getElem?_set]
            by_cases e : j = i
            · subst e; rw [if_pos rfl, if_pos (by rw [HD.out]; exact hi), if_pos rfl]; rfl
            · rw [if_neg e, if_neg (Ne.symm e)]
          rw [hset]
          by_cases e : i = j
          · subst e
            rw [if_pos rfl, if_pos (Nat.lt_succ_self _), ← HJ.out]
            unfold mvT
            rw [if_pos hpp]
          · rw [if_neg e, HA.out i hi]
            by_cases e2 : i < j
            · rw [if_pos e2, if_pos (by omega)]
            · rw [if_neg e2, if_neg (by omega)]
        clear hz hs hj0 hpp
        generalize (D'.getD j d0).p = pj at *
        go_wp2
        go_roundw
        case rel => exact ⟨j + 1, _, by omega, by go_num, by rw [List.length_set]; exact HD.out, NA.out, NX.out.1, NX.out.2⟩
        case measure => simp [intOf]; omega
      · have y7 : ((D'.getD j d0).p == p) = false := by simpa using hpp
        have NA : Hid (∀ i, i < m → D'.getD i d0 = if i < j + 1 then mvT p q (D.getD i d0) else D.getD i d0) := Lib.hid fun i hi => by
          by_cases e : i = j
          · subst e
            rw [if_pos (Nat.lt_succ_self _), ← HJ.out]
            unfold mvT
            rw [if_neg hpp]
          · rw [HA.out i hi]
            by_cases e2 : i < j
            · rw [if_pos e2, if_pos (by omega)]
            · rw [if_neg e2, if_neg (by omega)]
        clear hz hs hj0 hpp
        generalize (D'.getD j d0).p = pj at *
        go_wp2
        go_roundw
        case rel => exact ⟨j + 1, D', by omega, by go_num, HD.out, NA.out, HT.out, HC.out⟩
        case measure => simp [intOf]; omega
    · obtain rfl : j = m := by omega
      have y1 : ¬ ((j : Int) < (j : Int)) := by omega
      have e : D' = D.map (mvT p q) := by
        apply List.ext_getElem
        · rw [List.length_map, HD.out, HM.out]
        · intro i h1 h2
          have := HA.out i (by rw [← HD.out]; exact h1)
          rw [if_pos (by rw [← HD.out]; exact h1)] at this
          rw [List.length_map] at h2
          simpa [List.getD, h1, h2] using this
      have FN : Hid (Dt wr F bd n (.slice s j cap) (D.map (mvT p q)) ∧ Cha F w wr) := Lib.hid ⟨e ▸ HT.out, HC.out⟩
      clear e
      go_wp2
      go_ret
      exact ⟨rfl, FN.out⟩
end Go.Proofs.YtaloafihbdamiaaGreat

namespace Go.Proofs.YtaloafihbdamiaaGreat
open Go.ChangeShapes Go.WideShapes Go.ChangeAt Go.RowKit
variable {w w' w1 w2 W : World} {F F' S : Nat → Prop} {bd n m cap g o b : Nat} {v v' u l : Value} {D D' N : List Tm} {p q t id now : Int} {a : Option Addr} {A : List Int}

/-- The first of p's timers is taken, as often as it is due. -/
inductive Steps (p now : Int) (D0 : List Tm) : List Int → List Tm → Prop
  | nil : Steps p now D0 [] D0
  | next {A : List Int} {D : List Tm} (b : Nat) : Steps p now D0 A D → bst D p D.length = (b : Int) → b < D.length → (D.getD b d0).when ≤ now → Steps p now D0 (A ++ [(D.getD b d0).id]) (D.take b ++ D.drop (b + 1))
def Halts (p now : Int) (D : List Tm) : Prop := bst D p D.length = -1 ∨ ∃ b : Nat, bst D p D.length = (b : Int) ∧ b < D.length ∧ now < (D.getD b d0).when
theorem Steps.len (h : Steps p now D A D') : A.length + D'.length = D.length := by
  induction h with
  | nil => simp
  | next b h1 h2 h3 h4 ih => simp only [List.length_append, List.length_singleton, List.length_take, List.length_drop]; omega
/-- The timers, and the ids that were told. -/
structure Cur (w : World) (F : Nat → Prop) (bd n : Nat) (w' : World) (D : List Tm) (l : Value) (A : List Int) : Prop where
  all : ∃ F' v, Dt w' F' bd n v D ∧ (∀ i, F' i → F i ∨ w.heap.size ≤ i) ∧ ∀ g, l.ownBlock = some g → ¬ F' g ∧ w.heap.size ≤ g
  cha : Cha F w w'
  lies : Lies w' l A
set_option maxRecDepth 100000 in
theorem tl64 (g o m cap b : Nat) (hb : b + 1 ≤ m) (W : World) :
    (Instr.slice 44 (.slice (some ⟨g, o, none⟩) m cap) (some (.int .i64 ((b : Int) + 1))) none none).run Tryz.prog W = .ok (.slice (some ⟨g, if cap = b + 1 then o else o + (b + 1) * 3, none⟩) (m - (b + 1)) (cap - (b + 1))) W := by
  have e : sliced (some ⟨g, o, none⟩) (b + 1) m cap 3 = .slice (some ⟨g, if cap = b + 1 then o else o + (b + 1) * 3, none⟩) (m - (b + 1)) (cap - (b + 1)) := by
    unfold sliced
    by_cases h : cap = b + 1
    · rw [if_pos h, if_pos h]
    · rw [if_neg h, if_neg h]; simp [Addr.add_lit]
  rw [run_slice_l (P := Tryz.prog) W 44 (some ⟨g, o, none⟩) m cap Tryz.underlying44 .i64 ((b : Int) + 1) (by omega) (by omega), show ((b : Int) + 1).toNat = b + 1 by omega, ← e]
  rfl
theorem due_step {x : Int} {w3 : World} {g3 o3 cap3 : Nat} (hT : Dt w1 F' bd n (.slice (some ⟨g, o, none⟩) m cap) D') (hn : ∀ i, F' i → F i ∨ w.heap.size ≤ i) (hl : ∀ g, l.ownBlock = some g → ¬ F' g ∧ w.heap.size ≤ g) (hc : Cha F w w1)
    (hm : m = D'.length) (hb : b + 1 ≤ m) (hm2 : m ≤ 1024) (hA : App (w1.alloc (.cells #[.int .i64 x] 3)) w3 l A [x] g3 o3 cap3) :
    ∃ s4 n4 c4 w4 s5 n5 c5 w5, w3.cell? ⟨bd, 1, none⟩ = some (.slice (some ⟨g, o, none⟩) m cap) ∧ (Builtin.append_ #[44, 44] 44 #[.slice none 0 0, .slice (some ⟨g, o, none⟩) b cap]).run Tryz.prog w3 = .ok (.slice s4 n4 c4) w4 ∧ w4.cell? ⟨bd, 1, none⟩ = some (.slice (some ⟨g, o, none⟩) m cap) ∧
      (Builtin.append_ #[44, 44] 44 #[.slice s4 n4 c4, .slice (some ⟨g, if cap = b + 1 then o else o + (b + 1) * 3, none⟩) (m - (b + 1)) (cap - (b + 1))]).run Tryz.prog w4 = .ok (.slice s5 n5 c5) w5 ∧ w5.cell? ⟨bd, 1, none⟩ = some (.slice (some ⟨g, o, none⟩) m cap) ∧ w5.frozen? ⟨bd, 1, none⟩ = false ∧
      Cur w F bd n (w5.setCell ⟨bd, 1, none⟩ (.slice s5 n5 c5)) (D'.take b ++ D'.drop (b + 1)) (.slice (some ⟨g3, o3, none⟩) (A.length + [x].length) cap3) (A ++ [x]) := by
  have a3 : Cha (fun i => l.ownBlock = some i) w1 w3 := ((Cha.refl (fun i => l.ownBlock = some i) w1).alloc _).trans hA.cha
  have T3 : Dt w3 F' bd n (.slice (some ⟨g, o, none⟩) m cap) D' := hT.cha a3 (fun i hi e => (hl i e).1 hi)
  obtain ⟨v4, w4, r4, k4⟩ := En.run_any tmE_ok 44 (En.Lies.nil tmE w3) (T3.l.take tmE_ok (i := b) (by omega)) (by simp only [List.length_nil, List.length_take, maxLen]; omega) (by simp only [List.length_nil, List.length_take]; show _ * 24 ≤ _; omega)
  rw [List.nil_append] at k4
  have a4 : Cha (fun _ => False) w3 w4 := k4.cha.mono fun i _ e => by cases e
  have T4 := T3.same a4
  have own4 : ∀ g, v4.ownBlock = some g → w3.heap.size ≤ g := fun g hg => (k4.at' g hg).resolve_left (fun e => by cases e)
  obtain ⟨v5, w5, r5, k5⟩ := En.run_any tmE_ok 44 k4.lies (T4.l.drop tmE_ok (i := b + 1) (by omega)) (by simp only [List.length_drop, List.length_take, maxLen]; omega) (by simp only [List.length_drop, List.length_take]; show _ * 24 ≤ _; omega)
  have a5 : Cha (fun _ => False) w3 w5 := a4.over k5.cha fun i hi => .inr (own4 i hi)
  have T5 := T3.same a5
  have own5 : ∀ g, v5.ownBlock = some g → w3.heap.size ≤ g := fun g hg => (k5.at' g hg).elim (own4 g) (Nat.le_trans a4.size)
  obtain ⟨s4, c4, e4, _⟩ := k4.lies.form
  obtain ⟨s5, c5, e5, _⟩ := k5.lies.form
  subst e4 e5
  have hs1 := hc.size
  have hs3 := a3.size
  have hs5 := a5.size
  refine ⟨s4, _, c4, w4, s5, _, c5, w5, T3.list, r4, T4.list, r5, T5.list, T5.free 1, ?_⟩
  have ll : Lies w5 (.slice (some ⟨g3, o3, none⟩) (A.length + [x].length) cap3) (A ++ [x]) := hA.lies.cha a5 (fun _ _ f => f)
  have own3 : ∀ q, (Value.slice (some ⟨g3, o3, none⟩) (A.length + [x].length) cap3).ownBlock = some q → ¬ F' q ∧ w.heap.size ≤ q ∧ q < w3.heap.size := fun q hq => by
    have e : g3 = q := by simpa [Value.ownBlock] using hq
    subst e
    rcases hA.at' with e | e
    · exact ⟨(hl _ e).1, (hl _ e).2, hA.lt⟩
    · rw [World.size_alloc] at e
      exact ⟨fun hf => by have := hT.old _ hf; omega, by omega, hA.lt⟩
  have hput := T5.put (w1 := w5) (u := .slice s5 (D'.take b ++ D'.drop (b + 1)).length c5) (Cha.refl _ _) k5.lies
  have hset : Cha (fun i => i = bd) w5 (w5.setCell ⟨bd, 1, none⟩ (.slice s5 (D'.take b ++ D'.drop (b + 1)).length c5)) := (Cha.refl (· = bd) w5).setCell (p := ⟨bd, 1, none⟩) (fun _ => rfl) _
  have cF : Cha F w w5 := by
    have c3 : Cha F w w3 := hc.over a3 fun i hi => .inr (hl i hi).2
    exact c3.trans a5.wide
  have hbd : F bd ∨ w.heap.size ≤ bd := hn _ hT.fc
  refine ⟨⟨fun i => (i = bd) ∨ (Value.slice s5 (D'.take b ++ D'.drop (b + 1)).length c5).ownBlock = some i, _, ⟨?_, k5.lies.cha hset (fun q hq e => ?_), .inl rfl, fun q hq => ⟨.inr hq, fun e => ?_⟩, fun i hi => ?_⟩, fun i hi => ?_, fun q hq => ⟨fun hf => ?_, (own3 q hq).2.1⟩⟩, cF.over hset (fun i e => by rw [e]; exact hbd), ll.cha hset (fun q hq e => (own3 q hq).1 (e ▸ hT.fc))⟩
  · exact heap_setCell_same w5 bd 1 _ 46 _ T5.head
  · have := own5 q hq; have := T3.old _ T3.fc; omega
  · have := own5 q hq; have := T3.old _ T3.fc; omega
  · rcases hi with hi | hi
    · rw [hi]; exact Nat.lt_of_lt_of_le (T5.old _ T5.fc) hset.size
    · exact Nat.lt_of_lt_of_le (k5.lies.lt hi) hset.size
  · rcases hi with hi | hi
    · rw [hi]; exact hbd
    · have := own5 i hi; exact .inr (by omega)
  · rcases hf with hf | hf
    · rw [hf] at hq; exact (own3 bd hq).1 hT.fc
    · have := own5 q hf; have := (own3 q hq).2.2; omega
end Go.Proofs.YtaloafihbdamiaaGreat
