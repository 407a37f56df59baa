/- Layer 7's hold, where a block is made, or can't be. -/
import Derived.Test.YtiboobaggpghjaaDoorDJ
namespace Go.Proofs.YtiboobaggpghjaaDoor
open Go.ChangeShapes Go.WideShapes Go.ChangeAt Go.RowKit
variable {n pr : Nat} {F : Nat → Prop} {a : Ad} {W : World} {A : List Bk} {y : Bk}

/-- The first row of k free pages begins at b. -/
def Row (n : Nat) (A : List Bk) (k b : Nat) : Prop := ∃ us, Alc n (covA A) (k : Int) (b : Int) 0 us
/-- There is none. -/
def NoRow (n : Nat) (A : List Bk) (k : Nat) : Prop := Alc n (covA A) (k : Int) 0 3 (covA A)
theorem alc_is {us : Nat → Bool} {k bI r : Int} {us' : Nat → Bool} (c : Alc n us k bI r us') (hr : r = 0) : ∃ x : Nat × Nat, bI = (x.1 : Int) ∧ 1 ≤ k ∧ (rws (isU us n) (n + 1)).find? (fun y => decide (k.toNat ≤ y.2)) = some x ∧ us' = fil us x.1 k.toNat true := by
  cases c with
  | arg _ => omega
  | full _ _ => omega
  | ok x h1 h2 => exact ⟨x, rfl, h1, h2, rfl⟩
theorem Row.is {k b : Nat} (h : Row n A k b) : 1 ≤ k ∧ b + k ≤ n ∧ (∀ i, b ≤ i → i < b + k → covA A i = false) ∧ Alc n (covA A) (k : Int) (b : Int) 0 (fil (covA A) b k true) := by
  obtain ⟨us, c⟩ := h
  obtain ⟨x, h1, h2, h3, h4⟩ := alc_is c rfl
  rw [Int.toNat_natCast] at h3 h4
  have hb : b = x.1 := by omega
  subst hb
  obtain ⟨g1, g2, g3, _⟩ := find_some (by omega) (n + 1) x h3
  refine ⟨by omega, by omega, fun i hi hi2 => ?_, by rw [← h4]; exact c⟩
  have := g1.fr.1 (i - x.1) (by omega)
  rw [show x.1 + (i - x.1) = i by omega] at this
  exact (isU_false.1 this).2
theorem row_ex (n : Nat) (A : List Bk) (k : Nat) (hk : 1 ≤ k) : (∃ b, Row n A k b) ∨ NoRow n A k := by
  obtain ⟨b, r, us', c⟩ := Alc.ex n (covA A) (k : Int)
  cases c with
  | arg h1 => omega
  | full h1 h2 => exact .inr (.full h1 h2)
  | ok x h1 h2 => exact .inl ⟨x.1, _, .ok x h1 h2⟩
theorem Row.alc5 {k b : Nat} (h : Row n A k b) {L : List Spn} {tg : Bk → Int} (hg : Good n L) (hk : Lk tg L A) (t : Int) : Alc5 n L (k : Int) t ⟨b, k, t⟩ 0 (ins ⟨b, k, t⟩ L) := by
  obtain ⟨h1, h2, h3, h4⟩ := h.is
  rw [← hk.cov] at h3 h4
  exact .ok b k rfl h2 h4 (hg.ins h1 h2 fun i hi => by have := has_iff.1 hi; exact h3 i this.1 this.2)
theorem NoRow.alc5 {k : Nat} (h : NoRow n A k) {L : List Spn} {tg : Bk → Int} (hk : Lk tg L A) (t : Int) : Alc5 n L (k : Int) t noS 3 L := by
  unfold NoRow at h
  rw [← hk.cov] at h
  exact .no 3 (.inr rfl) h
theorem cov_upd {f : Bk → Bk} (kf : Keeps f) (b : Nat) : covA (upd A b f) = covA A := by
  funext i
  unfold covA upd
  rw [List.any_map]
  congr 1
  funext x
  show (decide ((if x.b = b then f x else x).b ≤ i) && decide (i < (if x.b = b then f x else x).b + (if x.b = b then f x else x).k)) = _
  split
  · rw [kf.b, kf.k]
  · rfl
theorem cov_unh (p k : Nat) : covA (unh A p k) = covA A := by
  funext i
  unfold covA unh
  rw [List.any_map]
  congr 1
  funext x
  show (decide ((if x.h = (p : Int) ∧ x.c = (k : Int) then unhold x else x).b ≤ i) && decide (i < (if x.h = (p : Int) ∧ x.c = (k : Int) then unhold x else x).b + (if x.h = (p : Int) ∧ x.c = (k : Int) then unhold x else x).k)) = _
  split <;> rfl
theorem Row.unh {p k m b : Nat} (h : Row n A m b) : Row n (unh A p k) m b := by unfold Row; rw [cov_unh]; exact h
theorem NoRow.unh {p k m : Nat} (h : NoRow n A m) : NoRow n (unh A p k) m := by unfold NoRow; rw [cov_unh]; exact h
/-- A class's new block. -/
def newB (k b : Nat) : Bk := fresh b (cpg k) (k : Int) (cw k) (ccl k)
theorem newB_inv (hi : Inv n pr A) {k b : Nat} (hk : k < 16) (hp : 1 ≤ pr) (h : Row n A (cpg k) b) : Inv n pr (A ++ [newB k b]) := by
  obtain ⟨h1, h2, h3, _⟩ := h.is
  refine add_inv hi h3 h1 h2 (.inr (.inr ⟨k, hk, rfl, rfl, rfl, ?_, by show (-1 : Int) ≤ -1; omega, by show (-1 : Int) < _; omega⟩)) rfl
  show (List.replicate (ccl k) false).length = _
  rw [List.length_replicate]
set_option maxHeartbeats 4000000 in
theorem hold_new (h : Cl n pr F a W A) (hl : Live A) (p k b : Nat) (hp : p < pr) (hk : k < 16) (hno : NoHeld A p k) (hno2 : NoOpn (unh A p k) k) (hrow : Row n A (cpg k) b) : Calls Tryd.prog 67 #[.pointer (some ⟨a.bc, 0, none⟩), .int .i64 (p : Int), .int .i64 (k : Int)] W fun e w' => ∃ F' a', e = .returned (.tuple #[.pointer (some ⟨a'.pb b, 0, none⟩), .int .i64 0]) ∧ Got n pr F a W w' (upd (unh A p k ++ [newB k b]) b (holdB p)) F' a' := by
  have c2 := h.c2
  have h8 := h.prr
  have r1 := h.hd.cell hp
  have r2 := (h.hr p hp).cell hk
  obtain ⟨el, hlv⟩ := letgo_unh h.inv hl hno
  have LG : Hid (∀ W', Cha (fun _ => False) W W' → Calls Tryd.prog 54 #[.pointer (some ⟨a.bc, 0, none⟩), .int .i64 (p : Int), .int .i64 (k : Int)] W' fun e w' => e = .returned (.tuple #[]) ∧ Cl n pr F a w' (unh A p k) ∧ Cha F W w') := Lib.hid fun W' hc => (letgo_any (h.same hc) hl p k hp hk).mono fun e w' ⟨he, q1, q2⟩ => ⟨he, by rw [← el]; exact q1, hc.wide.trans q2⟩
  have FO : Hid (∀ W', Cl n pr F a W' (unh A p k) → Calls Tryd.prog 77 #[.pointer (some ⟨a.bc, 0, none⟩), .int .i64 (k : Int)] W' fun e w' => e = .returned (.pointer none) ∧ Cl n pr F a w' (unh A p k) ∧ Cha (fun _ => False) W' w') := Lib.hid fun W' hc => (fopen_no hc hk hno2).mono fun e w' ⟨he, q1⟩ => ⟨he, hc.same q1, q1⟩
  obtain ⟨kk1, kk2, kk3, kk4, kk5, kk6, kk7, kk8, _⟩ := cw_ok k hk
  have PG : Hid (∀ W', Cl n pr F a W' (unh A p k) → Calls Tryd.prog 16 #[.int .i64 (k : Int)] W' fun e w' => e = .returned (.int .i64 (cpg k : Int)) ∧ W' = w') := Lib.hid fun W' hc => pages_in k hk hc.siz
  have WD : Hid (∀ W', Cl n pr F a W' (unh A p k) → Calls Tryd.prog 14 #[.int .i64 (k : Int)] W' fun e w' => e = .returned (.int .i64 (cw k : Int)) ∧ W' = w') := Lib.hid fun W' hc => words_in k hk hc.siz
  have inv' := newB_inv (unh_inv (p := p) (k := k) h.inv) hk (by omega) hrow.unh
  have NB : Hid (∀ W', Cl n pr F a W' (unh A p k) → Calls Tryd.prog 66 #[.pointer (some ⟨a.bc, 0, none⟩), .int .i64 (cpg k : Int), .int .i64 (k : Int), .int .i64 (cw k : Int)] W' fun e w' => ∃ q q2, e = .returned (.tuple #[.pointer (some ⟨q, 0, none⟩), .int .i64 0]) ∧ (q = (a.put b q q2).pb b) ∧ Cl n pr (grow F W' w') (a.put b q q2) w' (unh A p k ++ [newB k b]) ∧ Cha F W' w') := Lib.hid fun W' hc => by
    obtain ⟨L, t1, t2⟩ := hc.tl
    refine (newBlock_ok hc t1 t2 b (cpg k) (cw k) (ccl k) (k : Int) (hrow.unh.alc5 t1.1 t2 _) (by omega) (by omega) ⟨by omega, by omega⟩ rfl inv').mono ?_
    rintro e w' ⟨q, q2, he, q3, q4⟩
    exact ⟨q, q2, he, (if_pos rfl).symm, q3, q4.mono fun j _ hj => by
      rcases hj with e | e | e
      · exact e ▸ hc.own.2.2.2.1
      · exact e ▸ hc.own.2.2.2.2.1
      · exact e ▸ hc.own.2.2.2.2.2.1⟩
  have FACT : Hid (∀ F' a' W', Cl n pr F' a' W' (unh A p k ++ [newB k b]) → W'.cell? ⟨a'.bc, 2, none⟩ = some (.slice (some ⟨a'.hb, 0, none⟩) pr pr) ∧ W'.cell? ⟨a'.hb, p, none⟩ = some (.slice (some ⟨a'.hp p, 0, none⟩) 16 16) ∧ (∃ v, W'.cell? ⟨a'.hp p, k, none⟩ = some v ∧ v = .pointer none) ∧ W'.frozen? ⟨a'.hp p, k, none⟩ = false ∧ (∃ v, W'.cell? ⟨a'.pb b, 6, none⟩ = some v ∧ v = .bool false) ∧ W'.frozen? ⟨a'.pb b, 6, none⟩ = false ∧ a'.bc ≠ a'.pb b ∧ a'.hb ≠ a'.pb b ∧ a'.hp p ≠ a'.pb b ∧
      Cl n pr F' a' ((W'.setCell ⟨a'.pb b, 6, none⟩ (.bool true)).setCell ⟨a'.hp p, k, none⟩ (.pointer (some ⟨a'.pb b, 0, none⟩))) (upd (unh A p k ++ [newB k b]) b (holdB p)) ∧ Cha F' W' ((W'.setCell ⟨a'.pb b, 6, none⟩ (.bool true)).setCell ⟨a'.hp p, k, none⟩ (.pointer (some ⟨a'.pb b, 0, none⟩)))) := Lib.hid fun F' a' W' hc => by
    have o1 : newB k b ∈ unh A p k ++ [newB k b] := List.mem_append_right _ (List.mem_singleton.2 rfl)
    have hcn : (newB k b).c ≠ -2 := by show (k : Int) ≠ -2; omega
    have hn : ∀ z ∈ unh A p k ++ [newB k b], ¬ (z.h = (p : Int) ∧ z.c = (k : Int)) := fun z hz => by
      rcases List.mem_append.1 hz with hz | hz
      · exact unh_not hz
      · obtain rfl := List.mem_singleton.1 hz
        rintro ⟨e, _⟩
        have e : (-1 : Int) = p := e
        omega
    have B := hc.bl _ o1 hcn
    have R := hc.hr p hp
    obtain ⟨k1, k2⟩ := hc.hold o1 hp (k := k) rfl (by show ¬ (0 : Int) ≤ -1; omega) hn
    refine ⟨hc.c2, hc.hd.cell hp, ⟨_, R.cell hk, hv_none hn⟩, R.free k, ⟨_, B.cells.2.2.2.2, rfl⟩, B.free 6, ty_ne hc.head B.hd (by decide), ty_ne hc.hd B.hd (by decide), ty_ne R B.hd (by decide), k1, k2.mono fun j _ hj => ?_⟩
    rcases hj with e | e
    · exact e ▸ hc.ownh p hp
    · exact e ▸ (hc.ownb _ o1 hcn).1
  rcases row_cases h hno with e | ⟨z, hz, hzc, e, hzu⟩
  · rw [e] at r2
    have H := Lib.hid h
    clear h hl hno hno2 el hlv e hrow inv'
    generalize cw k = s at *
    generalize cpg k = pg at *
    go_enter Tryd.func67, Tryd.ntmps67
    go_wp2_with (first
      | (go_at_call 54; ((with_reducible refine (LG.out _ (Cha.refl _ _)).mono ?_); rintro e w1 ⟨rfl, hx, hc⟩; have H1 := Lib.hid hx; have C1 := Lib.hid hc; clear hx hc))
      | (go_at_call 77; ((with_reducible refine (FO.out _ H1.out).mono ?_); rintro e w2 ⟨rfl, hx, hc⟩; have H2 := Lib.hid hx; have C2 := Lib.hid hc; clear hx hc))
      | (go_at_call 16; ((with_reducible refine (PG.out _ H2.out).mono ?_); rintro e w3 ⟨rfl, rfl⟩))
      | (go_at_call 14; ((with_reducible refine (WD.out _ H2.out).mono ?_); rintro e w3 ⟨rfl, rfl⟩))
      | (go_at_call 66; ((with_reducible refine (NB.out _ H2.out).mono ?_); rintro e w3 ⟨q, q2, rfl, hq, hx, hc⟩; have C3 := Lib.hid hc; obtain ⟨g1, g2, ⟨v3, g3, _⟩, g4, ⟨v5, g5, rfl⟩, g6, n1, n2, n3, g7, g8⟩ := FACT.out _ _ _ hx; rw [← hq] at g5 g6 n1 n2 n3 g7 g8; have H3 := Lib.hid g7; have C4 := Lib.hid g8; have HQ := Lib.hid hq; have HL := Lib.hid hx.lt; have g1 : w3.cell? ⟨a.bc, 2, none⟩ = some (.slice (some ⟨a.hb, 0, none⟩) pr pr) := g1; have g2 : w3.cell? ⟨a.hb, p, none⟩ = some (.slice (some ⟨a.hp p, 0, none⟩) 16 16) := g2; have g3 : w3.cell? ⟨a.hp p, k, none⟩ = some v3 := g3; have g4 : w3.frozen? ⟨a.hp p, k, none⟩ = false := g4; have n1 : a.bc ≠ q := n1; have n2 : a.hb ≠ q := n2; have n3 : a.hp p ≠ q := n3; clear hx hc g7 g8 hq)))
    go_ret2
    have hs1 := C1.out.size
    have hs2 := C2.out.size
    have c123 := (C1.out.trans C2.out.wide).trans C3.out
    refine ⟨grow F w2 w3, a.put b q q2, by rw [← HQ.out]; rfl, H3.out, rfl, c123.over C4.out (fun i hi => by rcases hi with hi | hi; exact .inl hi; exact .inr (by omega)), fun i hi => by rcases hi with hi | hi; exact .inl hi; exact .inr (by omega), fun i hi => .inl hi⟩
  · rw [e] at r2
    have FY := Lib.hid (full_yes (h.bl z hz hzc) hzu)
    have H := Lib.hid h
    clear h hl hno hno2 el hlv e hzu hz hzc hrow inv'
    generalize a.pb z.b = qz at *
    generalize cw k = s at *
    generalize cpg k = pg at *
    go_enter Tryd.func67, Tryd.ntmps67
    go_wp2_with (first
      | (go_at_call 76; ((with_reducible refine (FY.out).mono ?_); rintro e w1 ⟨rfl, m, rfl⟩))
      | (go_at_call 54; ((with_reducible refine (LG.out _ ((Cha.refl _ _).drewN m)).mono ?_); rintro e w1 ⟨rfl, hx, hc⟩; have H1 := Lib.hid hx; have C1 := Lib.hid hc; clear hx hc))
      | (go_at_call 77; ((with_reducible refine (FO.out _ H1.out).mono ?_); rintro e w2 ⟨rfl, hx, hc⟩; have H2 := Lib.hid hx; have C2 := Lib.hid hc; clear hx hc))
      | (go_at_call 16; ((with_reducible refine (PG.out _ H2.out).mono ?_); rintro e w3 ⟨rfl, rfl⟩))
      | (go_at_call 14; ((with_reducible refine (WD.out _ H2.out).mono ?_); rintro e w3 ⟨rfl, rfl⟩))
      | (go_at_call 66; ((with_reducible refine (NB.out _ H2.out).mono ?_); rintro e w3 ⟨q, q2, rfl, hq, hx, hc⟩; have C3 := Lib.hid hc; obtain ⟨g1, g2, ⟨v3, g3, _⟩, g4, ⟨v5, g5, rfl⟩, g6, n1, n2, n3, g7, g8⟩ := FACT.out _ _ _ hx; rw [← hq] at g5 g6 n1 n2 n3 g7 g8; have H3 := Lib.hid g7; have C4 := Lib.hid g8; have HQ := Lib.hid hq; have HL := Lib.hid hx.lt; have g1 : w3.cell? ⟨a.bc, 2, none⟩ = some (.slice (some ⟨a.hb, 0, none⟩) pr pr) := g1; have g2 : w3.cell? ⟨a.hb, p, none⟩ = some (.slice (some ⟨a.hp p, 0, none⟩) 16 16) := g2; have g3 : w3.cell? ⟨a.hp p, k, none⟩ = some v3 := g3; have g4 : w3.frozen? ⟨a.hp p, k, none⟩ = false := g4; have n1 : a.bc ≠ q := n1; have n2 : a.hb ≠ q := n2; have n3 : a.hp p ≠ q := n3; clear hx hc g7 g8 hq)))
    go_ret2
    have hs1 := C1.out.size
    have hs2 := C2.out.size
    have c123 := (C1.out.trans C2.out.wide).trans C3.out
    refine ⟨grow F w2 w3, a.put b q q2, by rw [← HQ.out]; rfl, H3.out, rfl, c123.over C4.out (fun i hi => by rcases hi with hi | hi; exact .inl hi; exact .inr (by omega)), fun i hi => by rcases hi with hi | hi; exact .inl hi; exact .inr (by omega), fun i hi => .inl hi⟩
set_option maxHeartbeats 4000000 in
theorem hold_full (h : Cl n pr F a W A) (hl : Live A) (p k : Nat) (hp : p < pr) (hk : k < 16) (hno : NoHeld A p k) (hno2 : NoOpn (unh A p k) k) (hrow : NoRow n A (cpg k)) : Calls Tryd.prog 67 #[.pointer (some ⟨a.bc, 0, none⟩), .int .i64 (p : Int), .int .i64 (k : Int)] W fun e w' => e = .returned (.tuple #[.pointer none, .int .i64 3]) ∧ Cl n pr F a w' (unh A p k) ∧ Cha F W w' := by
  have c2 := h.c2
  have h8 := h.prr
  have r1 := h.hd.cell hp
  have r2 := (h.hr p hp).cell hk
  obtain ⟨el, hlv⟩ := letgo_unh h.inv hl hno
  have LG : Hid (∀ W', Cha (fun _ => False) W W' → Calls Tryd.prog 54 #[.pointer (some ⟨a.bc, 0, none⟩), .int .i64 (p : Int), .int .i64 (k : Int)] W' fun e w' => e = .returned (.tuple #[]) ∧ Cl n pr F a w' (unh A p k) ∧ Cha F W w') := Lib.hid fun W' hc => (letgo_any (h.same hc) hl p k hp hk).mono fun e w' ⟨he, q1, q2⟩ => ⟨he, by rw [← el]; exact q1, hc.wide.trans q2⟩
  have FO : Hid (∀ W', Cl n pr F a W' (unh A p k) → Calls Tryd.prog 77 #[.pointer (some ⟨a.bc, 0, none⟩), .int .i64 (k : Int)] W' fun e w' => e = .returned (.pointer none) ∧ Cl n pr F a w' (unh A p k) ∧ Cha (fun _ => False) W' w') := Lib.hid fun W' hc => (fopen_no hc hk hno2).mono fun e w' ⟨he, q1⟩ => ⟨he, hc.same q1, q1⟩
  obtain ⟨kk1, kk2, kk3, kk4, _⟩ := cw_ok k hk
  have PG : Hid (∀ W', Cl n pr F a W' (unh A p k) → Calls Tryd.prog 16 #[.int .i64 (k : Int)] W' fun e w' => e = .returned (.int .i64 (cpg k : Int)) ∧ W' = w') := Lib.hid fun W' hc => pages_in k hk hc.siz
  have WD : Hid (∀ W', Cl n pr F a W' (unh A p k) → Calls Tryd.prog 14 #[.int .i64 (k : Int)] W' fun e w' => e = .returned (.int .i64 (cw k : Int)) ∧ W' = w') := Lib.hid fun W' hc => words_in k hk hc.siz
  have NB : Hid (∀ W', Cl n pr F a W' (unh A p k) → Calls Tryd.prog 66 #[.pointer (some ⟨a.bc, 0, none⟩), .int .i64 (cpg k : Int), .int .i64 (k : Int), .int .i64 (cw k : Int)] W' fun e w' => e = .returned (.tuple #[.pointer none, .int .i64 3]) ∧ Cl n pr F a w' (unh A p k) ∧ Cha F W' w') := Lib.hid fun W' hc => by
    obtain ⟨L, t1, t2⟩ := hc.tl
    refine (newBlock_no hc t1 t2 (cpg k) (cw k) (k : Int) (by omega) (hrow.unh.alc5 t2 _)).mono ?_
    rintro e w' ⟨he, q3, q4⟩
    exact ⟨he, q3, q4.mono fun j _ hj => by
      rcases hj with e | e | e
      · exact e ▸ hc.own.2.2.2.1
      · exact e ▸ hc.own.2.2.2.2.1
      · exact e ▸ hc.own.2.2.2.2.2.1⟩
  rcases row_cases h hno with e | ⟨z, hz, hzc, e, hzu⟩
  · rw [e] at r2
    clear h hl hno hno2 el hlv e hrow
    generalize cw k = s at *
    generalize cpg k = pg at *
    go_enter Tryd.func67, Tryd.ntmps67
    go_wp2_with (first
      | (go_at_call 54; ((with_reducible refine (LG.out _ (Cha.refl _ _)).mono ?_); rintro e w1 ⟨rfl, hx, hc⟩; have H1 := Lib.hid hx; have C1 := Lib.hid hc; clear hx hc))
      | (go_at_call 77; ((with_reducible refine (FO.out _ H1.out).mono ?_); rintro e w2 ⟨rfl, hx, hc⟩; have H2 := Lib.hid hx; have C2 := Lib.hid hc; clear hx hc))
      | (go_at_call 16; ((with_reducible refine (PG.out _ H2.out).mono ?_); rintro e w3 ⟨rfl, rfl⟩))
      | (go_at_call 14; ((with_reducible refine (WD.out _ H2.out).mono ?_); rintro e w3 ⟨rfl, rfl⟩))
      | (go_at_call 66; ((with_reducible refine (NB.out _ H2.out).mono ?_); rintro e w3 ⟨rfl, hx, hc⟩; have H3 := Lib.hid hx; have C3 := Lib.hid hc; clear hx hc)))
    go_ret2
    exact ⟨rfl, H3.out, (C1.out.trans C2.out.wide).trans C3.out⟩
  · rw [e] at r2
    have FY := Lib.hid (full_yes (h.bl z hz hzc) hzu)
    clear h hl hno hno2 el hlv e hzu hz hzc hrow
    generalize a.pb z.b = qz at *
    generalize cw k = s at *
    generalize cpg k = pg at *
    go_enter Tryd.func67, Tryd.ntmps67
    go_wp2_with (first
      | (go_at_call 76; ((with_reducible refine (FY.out).mono ?_); rintro e w1 ⟨rfl, m, rfl⟩))
      | (go_at_call 54; ((with_reducible refine (LG.out _ ((Cha.refl _ _).drewN m)).mono ?_); rintro e w1 ⟨rfl, hx, hc⟩; have H1 := Lib.hid hx; have C1 := Lib.hid hc; clear hx hc))
      | (go_at_call 77; ((with_reducible refine (FO.out _ H1.out).mono ?_); rintro e w2 ⟨rfl, hx, hc⟩; have H2 := Lib.hid hx; have C2 := Lib.hid hc; clear hx hc))
      | (go_at_call 16; ((with_reducible refine (PG.out _ H2.out).mono ?_); rintro e w3 ⟨rfl, rfl⟩))
      | (go_at_call 14; ((with_reducible refine (WD.out _ H2.out).mono ?_); rintro e w3 ⟨rfl, rfl⟩))
      | (go_at_call 66; ((with_reducible refine (NB.out _ H2.out).mono ?_); rintro e w3 ⟨rfl, hx, hc⟩; have H3 := Lib.hid hx; have C3 := Lib.hid hc; clear hx hc)))
    go_ret2
    exact ⟨rfl, H3.out, (C1.out.trans C2.out.wide).trans C3.out⟩
end Go.Proofs.YtiboobaggpghjaaDoor
