/- The document's timers: in memory; New, bad, Add. -/
import Derived.Test.YteogepfolifneaaUB
import Derived.BigQuiet
import Derived.Handy
namespace Go.Proofs.Yteogepfolifneaa
open Go.ChangeShapes Go.WideShapes Go.ChangeAt Go.RowKit
open En (Enc)

/-- A timer of the document. -/
structure Tm where
  p : Int
  when : Int
  id : Int
def tmE : En.Enc Tm := ⟨64, 97, 3, 24, .agg #[.int .i64 0, .int .u64 0, .int .i64 0], fun a => [.int .i64 a.p, .int .u64 a.when, .int .i64 a.id]⟩
theorem tmE_ok : tmE.Ok := ⟨Try.underlying64, by kernel_rfl, rfl, by decide, fun _ => rfl, fun a u h => by simp [tmE] at h; rcases h with rfl | rfl | rfl <;> rfl⟩
/-- The document's timers at bd. -/
structure Dt (w : World) (F : Nat → Prop) (bd n : Nat) (v : Value) (D : List Tm) : Prop where
  head : w.heap[bd]? = some (.cells #[.int .i64 (n : Int), v] 66 (0, 0))
  l : En.Lies tmE w v D
  fc : F bd
  f1 : ∀ g, v.ownBlock = some g → F g ∧ g ≠ bd
  old : ∀ i, F i → i < w.heap.size
def DLeft (w w' : World) (F : Nat → Prop) (bd n : Nat) (D : List Tm) : Prop := ∃ F' v, Dt w' F' bd n v D ∧ Cha F w w' ∧ ∀ i, F' i → F i ∨ w.heap.size ≤ i
variable {w w' w1 w2 W : World} {F F' S : Nat → Prop} {bd n : Nat} {v v' u : Value} {D N : List Tm} {p t id : Int}
theorem Dt.cha (h : Dt w F bd n v D) (c : Cha S w w') (hs : ∀ i, F i → ¬ S i) : Dt w' F bd n v D :=
  ⟨(c.old bd (h.old _ h.fc) (hs _ h.fc)).trans h.head, h.l.cha c fun g hg => hs g (h.f1 g hg).1, h.fc, h.f1, fun i hi => Nat.lt_of_lt_of_le (h.old i hi) c.size⟩
theorem Dt.same (h : Dt w F bd n v D) (c : Cha (fun _ => False) w w') : Dt w' F bd n v D := h.cha c fun _ _ f => f
theorem Dt.procs (h : Dt w F bd n v D) : w.cell? ⟨bd, 0, none⟩ = some (.int .i64 (n : Int)) := cell_of_row w bd 0 _ 66 (0, 0) h.head
theorem Dt.list (h : Dt w F bd n v D) : w.cell? ⟨bd, 1, none⟩ = some v := cell_of_row w bd 1 _ 66 (0, 0) h.head
theorem Dt.free (h : Dt w F bd n v D) (i : Nat) : w.frozen? ⟨bd, i, none⟩ = false := frozen_of_row w bd i _ 66 h.head
/-- Another list is laid. -/
theorem Dt.put (h : Dt w F bd n v D) (c : Cha (fun i => F i ∧ i ≠ bd) w w1) (l : En.Lies tmE w1 u N) (hn : ∀ g, u.ownBlock = some g → (F g ∧ g ≠ bd) ∨ w.heap.size ≤ g) : DLeft w (w1.setCell ⟨bd, 1, none⟩ u) F bd n N := by
  have hb := h.old _ h.fc
  have h1 := (c.old bd hb (fun e => e.2 rfl)).trans h.head
  have h2 := heap_setCell_same w1 bd 1 _ 66 u h1
  have k : Cha (fun i => i = bd) w1 (w1.setCell ⟨bd, 1, none⟩ u) := (Cha.refl (· = bd) w1).setCell (p := ⟨bd, 1, none⟩) (fun _ => rfl) _
  have hne : ∀ g, u.ownBlock = some g → g ≠ bd := fun g hg => (hn g hg).elim (fun e => e.2) (fun e e2 => by omega)
  refine ⟨fun i => F i ∨ u.ownBlock = some i, u, ⟨h2, l.cha k (fun g hg e => hne g hg e), .inl h.fc, fun g hg => ⟨.inr hg, hne g hg⟩, fun i hi => ?_⟩, ?_, fun i hi => ?_⟩
  · rcases hi with hi | hi
    · exact Nat.lt_of_lt_of_le (h.old i hi) (Nat.le_trans c.size k.size)
    · exact Nat.lt_of_lt_of_le (l.lt hi) k.size
  · exact (c.mono fun i _ e => e.1).trans (k.mono fun i _ e => e ▸ h.fc)
  · rcases hi with hi | hi
    · exact .inl hi
    · exact (hn i hi).imp (fun e => e.1) id
theorem dtnew_bad (p : Int) (w : World) (hp : p < 1 ∨ 8 < p) : Calls Try.prog 24 #[.int .i64 p] w fun e w' => e = .returned (.tuple #[.pointer none, .int .i64 1]) ∧ w = w' := by
  by_cases h1 : p < 1
  · have h2 : decide (p < 1) = true := decide_eq_true h1
    clear hp
    go_enter Try.func24, Try.ntmps24
    go_wp2
    go_returns
    exact ⟨rfl, rfl⟩
  · have h2 : decide (p < 1) = false := decide_eq_false h1
    have h3 : 8 < p := by omega
    clear hp
    go_enter Try.func24, Try.ntmps24
    go_wp2
    go_returns
    exact ⟨rfl, rfl⟩
theorem dt_new (n : Nat) (w : World) : Dt (w.alloc (.cells #[.int .i64 (n : Int), .slice none 0 0] 66)) (fun i => i = w.heap.size) w.heap.size n (.slice none 0 0) [] :=
  ⟨heap_alloc_new w _, En.Lies.nil _ _, rfl, (fun g e => by cases e), (fun i (e : i = _) => by rw [World.size_alloc]; omega)⟩
theorem dtnew_ok (n : Nat) (w : World) (h1 : 1 ≤ n) (h2 : n ≤ 8) : Calls Try.prog 24 #[.int .i64 (n : Int)] w fun e w' => e = .returned (.tuple #[.pointer (some ⟨w.heap.size, 0, none⟩), .int .i64 0]) ∧ w' = w.alloc (.cells #[.int .i64 (n : Int), .slice none 0 0] 66) := by
  have k1 : ¬ ((n : Int) < 1) := by omega
  have k2 : ¬ ((8 : Int) < (n : Int)) := by omega
  go_enter Try.func24, Try.ntmps24
  go_wp2
  go_returns
  exact ⟨rfl, rfl⟩
theorem dbad_yes (p : Int) (h : Dt w F bd n v D) (hp : p < 0 ∨ (n : Int) ≤ p) : Calls Try.prog 49 #[.pointer (some ⟨bd, 0, none⟩), .int .i64 p] w fun e w' => e = .returned (.bool true) ∧ w = w' := by
  have c := h.procs
  clear h
  by_cases h1 : p < 0
  · clear hp
    go_enter Try.func49, Try.ntmps49
    go_wp2
    go_ret
    exact ⟨rfl, rfl⟩
  · have h2 : (n : Int) ≤ p := by omega
    clear hp
    go_enter Try.func49, Try.ntmps49
    go_wp2
    go_ret
    exact ⟨rfl, rfl⟩
theorem dbad_no (p : Int) (h : Dt w F bd n v D) (h0 : 0 ≤ p) (hp : p < (n : Int)) : Calls Try.prog 49 #[.pointer (some ⟨bd, 0, none⟩), .int .i64 p] w fun e w' => e = .returned (.bool false) ∧ w = w' := by
  have c := h.procs
  have h1 : ¬ (p < 0) := by omega
  have h2 : ¬ ((n : Int) ≤ p) := by omega
  clear h
  go_enter Try.func49, Try.ntmps49
  go_wp2
  go_ret
  exact ⟨rfl, rfl⟩
theorem dadd_bad (p t id : Int) (h : Dt w F bd n v D) (hp : p < 0 ∨ (n : Int) ≤ p) : Calls Try.prog 27 #[.pointer (some ⟨bd, 0, none⟩), .int .i64 p, .int .u64 t, .int .i64 id] w fun e w' => e = .returned (.int .i64 1) ∧ w = w' := by
  have C := Lib.hid (dbad_yes p h hp)
  clear h hp
  go_enter Try.func27, Try.ntmps27
  go_wp2_with (go_at_call 49; ((with_reducible refine (C.out).mono ?_); rintro e w1 ⟨rfl, rfl⟩))
  go_ret
  exact ⟨rfl, rfl⟩
theorem dadd_full (p t id : Int) (h : Dt w F bd n v D) (h0 : 0 ≤ p) (hp : p < (n : Int)) (hl : 1024 ≤ D.length) : Calls Try.prog 27 #[.pointer (some ⟨bd, 0, none⟩), .int .i64 p, .int .u64 t, .int .i64 id] w fun e w' => e = .returned (.int .i64 3) ∧ w = w' := by
  have C := Lib.hid (dbad_no p h h0 hp)
  obtain ⟨s, cap, rfl, _⟩ := h.l.form
  have c1 := h.list
  have k1 : (1024 : Int) ≤ (D.length : Int) := by omega
  clear h hp
  go_enter Try.func27, Try.ntmps27
  go_wp2_with (go_at_call 49; ((with_reducible refine (C.out).mono ?_); rintro e w1 ⟨rfl, rfl⟩))
  go_ret
  exact ⟨rfl, rfl⟩
set_option maxRecDepth 100000 in
theorem dadd_ok (p t id : Int) (h : Dt w F bd n v D) (h0 : 0 ≤ p) (hp : p < (n : Int)) (hl : D.length < 1024) : Calls Try.prog 27 #[.pointer (some ⟨bd, 0, none⟩), .int .i64 p, .int .u64 t, .int .i64 id] w fun e w' => e = .returned (.int .i64 0) ∧ DLeft w w' F bd n (D ++ [⟨p, t, id⟩]) := by
  have C := Lib.hid (dbad_no p h h0 hp)
  have H := Lib.hid h
  obtain ⟨s, cap, rfl, _⟩ := h.l.form
  have c1 := h.list
  have k1 : ¬ ((1024 : Int) ≤ (D.length : Int)) := by omega
  have HL := Lib.hid hl
  obtain ⟨m, hm⟩ : ∃ m, m = D.length := ⟨_, rfl⟩
  rw [← hm] at H HL c1 k1
  have HM := Lib.hid hm
  have KX : Hid (∀ W', Cha (fun i => F i ∧ i ≠ bd) w W' → W'.cell? ⟨bd, 1, none⟩ = some (.slice s m cap) ∧ W'.frozen? ⟨bd, 1, none⟩ = false) := Lib.hid fun W' c => by
    have e := (c.old bd (H.out.old _ H.out.fc) (fun e => e.2 rfl)).trans H.out.head
    exact ⟨cell_of_row W' bd 1 _ 66 (0, 0) e, frozen_of_row W' bd 1 _ 66 e⟩
  clear h hp hm
  go_enter Try.func27, Try.ntmps27
  go_wp2_with (first
    | (go_at_call 49; ((with_reducible refine (C.out).mono ?_); rintro e w1 ⟨rfl, rfl⟩))
    | (at_builtin; go_loud (refine En.wpList_app tmE_ok rfl (.tmp 22) (.tmp 27) rfl rfl (H.out.l.same ((Cha.refl _ w).alloc _)) ⟨w.heap.size, 0, none⟩ 1 1 [⟨p, t, id⟩] rfl rfl (En.just_new tmE w ⟨p, t, id⟩ 97) Nat.zero_lt_one (by rw [← HM.out]; have := HL.out; simp only [List.length_singleton, maxLen]; omega) (by rw [← HM.out]; have := HL.out; show (m + 1) * 24 ≤ _; omega) ?_; intro g3 o3 cap3 w3 hA3; have cA : Cha (fun i => F i ∧ i ≠ bd) w w3 := ((Cha.refl (fun i => F i ∧ i ≠ bd) w).alloc _).trans (hA3.cha.mono fun i _ e => H.out.f1 i e); obtain ⟨k5, k6⟩ := KX.out w3 cA; have FN := Lib.hid (H.out.put cA hA3.lies (fun g hg => by cases hg; exact hA3.at'.imp (H.out.f1 _) (fun e => Nat.le_of_succ_le (by rw [World.size_alloc] at e; exact e)))); clear hA3 cA)))
  go_returns
  exact ⟨rfl, FN.out⟩
end Go.Proofs.Yteogepfolifneaa
