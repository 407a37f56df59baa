/- Lists of the law's own beside a graph; MarkNone. -/
import Derived.Test.YtllefljimkmbhaaR
namespace Go.Proofs.Ytllefljimkmbhaa
open Go.ChangeShapes Go.WideShapes Go.ChangeAt Go.RowKit
variable {w0 w w' W W' : World} {F : Nat → Prop} {bg : Nat} {g : Gr}

/-- A list in a block of its own. -/
def LsA {α : Type} (E : Enc α) (v : Value) (L : List α) : Asn := fun w F => Lies E w v L ∧ (∀ b, v.ownBlock = some b → F b) ∧ ∀ i, F i → i < w.heap.size
section
variable {α : Type} {E : Enc α} {v v' : Value} {A B : List α}
theorem fit_ls (E : Enc α) (v : Value) (A : List α) : Fit (LsA E v A) :=
  ⟨fun ⟨a, b, o⟩ c hs => ⟨a.cha c fun g e => hs g (b g e), b, fun i x => Nat.lt_of_lt_of_le (o i x) c.size⟩, fun ⟨_, _, o⟩ => o⟩
theorem ls_app (h : LsA E v A w F) (k : AppV E w w' v B v') : Goes (LsA E v' B) w w' F := by
  obtain ⟨a, b, o⟩ := h
  refine ⟨fun i => F i ∨ v'.ownBlock = some i, ⟨k.lies, fun g e => .inr e, fun i x => x.elim (fun x => Nat.lt_of_lt_of_le (o i x) k.cha.size) fun e => k.lies.lt e⟩, k.cha.mono fun i _ e => b i e, fun i x => ?_⟩
  rcases x with x | x
  · exact .inl x
  · exact (k.at' i x).imp (b i) id
theorem ls_nil (E : Enc α) (W : World) : Mine W (LsA E (.slice none 0 0) []) W := ⟨fun _ => False, ⟨Lies.nil _ _, fun b e => (by cases e), fun _ x => False.elim x⟩, Cha.refl _ _, fun _ x => False.elim x⟩
theorem LsA.lies {F : Nat → Prop} (h : LsA E v A w F) : Lies E w v A := h.1
/-- An element is written. -/
theorem ls_set (h : LsA E v A w F) (hk : E.k = 1) {b o n cap i : Nat} (e : v = .slice (some ⟨b, o, none⟩) n cap) (hi : i < A.length) (a : α) (u : Value) (hu : E.ce a = [u]) (ok : E.Ok) : LsA E v (A.set i a) (w.setCell ⟨b, o + i, none⟩ u) F ∧ Cha F w (w.setCell ⟨b, o + i, none⟩ u) := by
  obtain ⟨l, m, d⟩ := h
  have cc := Cha.at w b (o + i) u
  have hb : F b := m b (by rw [e]; rfl)
  refine ⟨⟨?_, m, fun i x => Nat.lt_of_lt_of_le (d i x) cc.size⟩, cc.mono fun i _ x => x ▸ hb⟩
  rcases l with ⟨e1, _⟩ | ⟨b', o', cap', cur, e1, h1, h2, h3, h4, h5⟩
  · subst e1; cases hi
  · rw [e] at e1
    injection e1 with x1 x2 x3
    injection x1 with x1
    injection x1 with x1 x1' _
    subst x1 x1' x3
    refine .inr ⟨b, o, cap, _, by rw [e, List.length_set, x2], by rw [List.length_set]; exact h1, h2, heap_setCell_same w b (o + i) cur _ u h3, by rw [Array.size_setIfInBounds]; exact h4, fun j hj => ?_⟩
    rw [List.length_set, hk, Nat.mul_one] at hj
    rw [hk, Nat.mul_one] at h4
    have ce : ∀ (M : List α) (x : Nat) (hx : x < M.length), (E.cs M)[x]? = (E.ce M[x])[0]? := fun M x hx => by
      have := ok.cs_get M (i := x) (j := 0) hx ok.pos
      rwa [hk, Nat.mul_one, Nat.add_zero] at this
    rw [ce _ j (by rw [List.length_set]; exact hj), Array.getElem?_setIfInBounds]
    by_cases c : i = j
    · subst c
      rw [if_pos rfl, if_pos (by omega), List.getElem_set_self, hu]
      rfl
    · rw [if_neg (by omega), h5 j (by rw [hk, Nat.mul_one]; exact hj), ce A j hj, List.getElem_set_ne c]
end
def izE : Enc Int := ⟨50, 3, 1, 8, .int .i64 0, fun a => [.int .i64 a]⟩
theorem izE_ok : izE.Ok := ⟨Try.underlying50, by kernel_rfl, rfl, by decide, fun _ => rfl, fun a u h => by simp [izE] at h; subst h; rfl⟩
theorem Lies.iz {v : Value} {L : List Nat} (h : Lies inE w v L) : Lies izE w v (L.map Int.ofNat) := by
  have e : ∀ M : List Nat, izE.cs (M.map Int.ofNat) = inE.cs M := fun M => by
    unfold Enc.cs izE inE
    induction M with
    | nil => rfl
    | cons a l ih => rw [List.map_cons, List.flatMap_cons, List.flatMap_cons, ih]; rfl
  rcases h with ⟨rfl, rfl⟩ | ⟨g, o, cap, cur, rfl, h1, h2, h3, h4, h5⟩
  · exact .inl ⟨rfl, rfl⟩
  · refine .inr ⟨g, o, cap, cur, by rw [List.length_map], by rw [List.length_map]; exact h1, h2, h3, h4, fun i hi => ?_⟩
    rw [List.length_map] at hi
    rw [e]; exact h5 i hi
theorem Fresh.ls {v : Value} {L : List Nat} (h : Fresh W W' v L) : Mine W (LsA inE v L) W' :=
  ⟨fun i => v.ownBlock = some i, ⟨h.1, fun _ e => e, fun _ e => h.1.lt e⟩, h.2.1, fun i e => h.2.2 i e⟩
theorem Fresh.iz {v : Value} {L : List Nat} (h : Fresh W W' v L) : Mine W (LsA izE v (L.map Int.ofNat)) W' :=
  ⟨fun i => v.ownBlock = some i, ⟨h.1.iz, fun _ e => e, fun _ e => h.1.lt e⟩, h.2.1, fun i e => h.2.2 i e⟩

/-- So many objects without fields. -/
def adds : Nat → Gr
  | 0 => Gr.new
  | j + 1 => (adds j).add 0
theorem adds_n : ∀ j, (adds j).n = j
  | 0 => rfl
  | j + 1 => by show (adds j).n + 1 = _; rw [adds_n j]
theorem adds_roots : ∀ j, (adds j).roots = (List.range j).map (· + 1)
  | 0 => rfl
  | j + 1 => by show (adds j).roots ++ [(adds j).n + 1] = _; rw [adds_roots j, adds_n j, List.range_succ, List.map_append]; rfl
theorem adds_addR {j : Nat} (h : j < 4096) : (adds j).addR 0 = ((((j + 1 : Nat) : Int), 0), adds (j + 1)) := by
  unfold Gr.addR
  rw [if_neg (by omega), if_neg (by rw [adds_n]; omega), adds_n]
  rfl
def upto (j : Nat) : List Nat := (List.range j).map (· + 1)
theorem upto_succ (j : Nat) : upto (j + 1) = upto j ++ [j + 1] := by unfold upto; rw [List.range_succ, List.map_append]; rfl
theorem upto_len (j : Nat) : (upto j).length = j := by simp [upto]
section
variable {α : Type} {E : Enc α} {P : Asn} {v v' : Value} {L N : List α} {W1 : World}
theorem mine_app (fp : Fit P) (h : Mine w0 (Star P (LsA E v L)) W) (c : Cha (fun _ => False) W W1) (hA : AppV E W1 W' v N v') : Mine w0 (Star P (LsA E v' N)) W' := by
  have f := fp.star (fit_ls E v L)
  exact (h.same f c).goes fun F q => q.right fp (fit_ls _ _ _) fun F1 q1 => ls_app q1 hA
theorem mine_lies (h : Mine w0 (Star P (LsA E v L)) W) : Lies E W v L := by
  obtain ⟨F, ⟨F1, F2, _, q, _⟩, _⟩ := h
  exact q.1
end
theorem m31g {P : Asn} (fp : Fit P) (h : Mine w0 P W) (k : ∀ F, P W F → ∃ F1, PgA bg g W F1) : Calls Try.prog 31 #[.pointer (some ⟨bg, 0, none⟩)] W fun e W' => ∃ a c, e = .returned (.slice a g.roots.length c) ∧ Fresh W W' (.slice a g.roots.length c) g.roots ∧ Mine w0 P W' := by
  have h' := h
  obtain ⟨F, q, c, n⟩ := h
  obtain ⟨F1, q1⟩ := k F q
  obtain ⟨K, vo, vr, vq, qq, f, T, hi, p⟩ := q1.open
  refine (roots_any p).mono fun _ _ ⟨a, n, c, e, k⟩ => ?_
  obtain ⟨a', c', e', _⟩ := k.1.form
  injection e' with x1 x2 x3
  subst x2
  exact ⟨a, c, e, k, h'.same fp k.2.1⟩
/-- What stands when both lists were asked for. -/
def NoneA (bg n : Nat) (w x y : Value) (M : List Int) : Asn := Star (Star (Star (PgA bg (adds n)) (LsA inE w (upto n))) (LsA izE x M)) (LsA inE y (upto n))
theorem fit_none (bg n : Nat) (w x y : Value) (M : List Int) : Fit (NoneA bg n w x y M) := (((fit_pg _ _).star (fit_ls _ _ _)).star (fit_ls _ _ _)).star (fit_ls _ _ _)
theorem NoneA.parts {n : Nat} {wv x y : Value} {M : List Int} (h : NoneA bg n wv x y M w F) : (∃ F1, PgA bg (adds n) w F1) ∧ Lies inE w wv (upto n) ∧ Lies izE w x M ∧ Lies inE w y (upto n) := by
  obtain ⟨F1, F2, ⟨F3, F4, ⟨F5, F6, p1, p2, _⟩, p3, _⟩, p4, _⟩ := h
  exact ⟨⟨_, p1⟩, p2.1, p3.1, p4.1⟩
theorem Mine.parts {n : Nat} {wv x y : Value} {M : List Int} (h : Mine w0 (NoneA bg n wv x y M) w) : Lies inE w wv (upto n) ∧ Lies izE w x M ∧ Lies inE w y (upto n) := by
  obtain ⟨F, q, _⟩ := h
  exact q.parts.2
set_option maxRecDepth 100000 in
set_option maxHeartbeats 4000000 in
theorem none_walk (a : Int) (W : World) (h0 : 0 ≤ a) (h1 : a ≤ 255) : Calls Try.prog 6 #[.int .u8 a] W fun e w' => e = .returned (.bool true) ∧ Cha (fun _ => False) W w' := by
  obtain ⟨n, hn⟩ : ∃ n : Nat, a % 20 = (n : Int) := ⟨(a % 20).toNat, by omega⟩
  have hn20 : n < 20 := by omega
  have N12 := Lib.hid fun W => add_none 1 W
  have N24 : Hid (∀ W, Calls Try.prog 24 #[.pointer none, .int .i64 1, .int .i64 0] W fun e W' => e = .returned (.tuple #[.int .i64 0, .int .i64 5]) ∧ W = W') := Lib.hid fun W => get_none 1 0 W
  have N22 := Lib.hid fun W => work_none W
  have N26 := Lib.hid fun W => counts_none W
  have C9 := Lib.hid (m9 (Cha.refl (fun _ => False) W))
  have C11 : Hid (∀ bg W1, Mine W (PgA bg Gr.new) W1 → Calls Try.prog 11 #[] W1 fun e W' => e = .returned (.bool true) ∧ Mine W (Star (PgA bg (adds 0)) (LsA inE (.slice none 0 0) (upto 0))) W') := Lib.hid fun bg W1 h =>
    (awake_any W1).mono fun _ W' ⟨a, c⟩ => ⟨a, (h.same (fit_pg _ _) c).star (fit_pg _ _) (fit_ls _ _ _) (ls_nil inE W')⟩
  go_enter Try.func6, Try.ntmps6
  go_wp2_with (first
    | (go_at_call 12; ((with_reducible refine (N12.out _).mono ?_); rintro e w1 ⟨rfl, rfl⟩))
    | (go_at_call 24; ((with_reducible refine (N24.out _).mono ?_); rintro e w1 ⟨rfl, rfl⟩))
    | (go_at_call 22; ((with_reducible refine (N22.out _).mono ?_); rintro e w1 ⟨rfl, rfl⟩))
    | (go_at_call 26; ((with_reducible refine (N26.out _).mono ?_); rintro e w1 ⟨rfl, rfl⟩))
    | (go_at_call 9; ((with_reducible refine (C9.out).mono ?_); rintro e w1 ⟨bg, rfl, h⟩; have D1 := Lib.hid (C11.out _ _ h); clear h))
    | (go_at_call 11; ((with_reducible refine (D1.out).mono ?_); rintro e w2 ⟨rfl, h⟩; have H2 := Lib.hid h; clear h)))
  simp only [hn]
  have CA : Hid (∀ W1 j v, j < n → Mine W (Star (PgA bg (adds j)) (LsA inE v (upto j))) W1 → Calls Try.prog 12 #[.pointer (some ⟨bg, 0, none⟩), .int .i64 0] W1 fun e W' => e = .returned (.tuple #[.int .i64 ((j + 1 : Nat) : Int), .int .i64 0]) ∧ Mine W (Star (PgA bg (adds (j + 1))) (LsA inE v (upto j))) W') := Lib.hid fun W1 j v hj h =>
    h.step fun F q => q.stepL (fit_pg _ _) (fit_ls _ _ _) fun F1 p => by
      have := add_any p 0
      rw [adds_addR (by omega)] at this
      exact this
  go_loopw [14, 15, 50] (fun v _ i wr => ∃ j : Nat, i = .int .i64 (j : Int) ∧ j ≤ n ∧ ∃ a c, v = .slice a j c ∧ Mine W (Star (PgA bg (adds j)) (LsA inE (.slice a j c) (upto j))) wr) (fun _ _ i _ => n - (intOf i).toNat)
  case atStart => exact ⟨0, rfl, Nat.zero_le _, none, 0, rfl, H2.out⟩
  case round =>
    clear H2 D1
    obtain ⟨j, rfl, hj, a, c, rfl, hM⟩ := hrel
    by_cases hlt : j < n
    · have C := Lib.hid (CA.out _ _ _ hlt hM)
      have e1 : IntKind.i64.wrap ((j : Int) + 1) = (j : Int) + 1 := IntWalk.i64_in _ (by omega)
      have B1 : Hid ((upto j).length + [j + 1].length ≤ maxLen) := Lib.hid (by rw [upto_len]; unfold maxLen; simp only [List.length_singleton]; omega)
      have B2 : Hid (((upto j).length + [j + 1].length) * inE.b ≤ 140737488355328) := Lib.hid (by rw [upto_len]; show _ * 8 ≤ _; simp only [List.length_singleton]; omega)
      have HU : Hid ((upto j).length = j) := Lib.hid (upto_len j)
      have HN : Hid (∀ w : World, ∀ x u, (inE.cs [j + 1])[x]? = some u → (w.alloc (.cells #[.int .i64 ((j : Int) + 1)] 3)).cell? ((⟨w.heap.size, 0, none⟩ : Addr).add x) = some u) := Lib.hid fun w => just_new inE w (j + 1) 3
      clear hM
      go_wp2_with (first
        | (go_at_call 12; ((with_reducible refine (C.out).mono ?_); rintro e w2 ⟨rfl, hM2⟩; have HM2 := Lib.hid hM2; clear hM2))
        | (at_builtin; refine wpList_app inE_ok rfl (.tmp 55) (.tmp 58) rfl rfl ((mine_lies HM2.out).same ((Cha.refl (fun _ => False) _).alloc _)) ⟨w2.heap.size, 0, none⟩ 1 1 [j + 1] rfl rfl (HN.out w2) Nat.zero_lt_one B1.out B2.out ?_; intro g3 o3 cap3 w3 hA3; have H3 := Lib.hid (mine_app (fit_pg _ _) HM2.out ((Cha.refl (fun _ => False) _).alloc _) hA3.v); clear hA3; rw [HU.out] at H3 ⊢; dsimp only [List.length_singleton] at H3 ⊢))
      go_roundw
      case rel => exact ⟨j + 1, rfl, hlt, _, _, rfl, by rw [upto_succ]; exact H3.out⟩
      case measure => simp [intOf]; omega
    · obtain rfl : j = n := by omega
      have hr : (adds j).roots = upto j := adds_roots j
      have f0 := (fit_pg bg (adds j)).star (fit_ls inE (.slice a j c) (upto j))
      have CX := Lib.hid (m31g f0 hM (g := adds j) (bg := bg) fun F ⟨F1, F2, p, _⟩ => ⟨F1, p⟩)
      rw [hr, upto_len] at CX
      have CY : Hid (∀ W1 x, Mine W (Star (Star (PgA bg (adds j)) (LsA inE (.slice a j c) (upto j))) (LsA izE x ((upto j).map Int.ofNat))) W1 → Calls Try.prog 31 #[.pointer (some ⟨bg, 0, none⟩)] W1 fun e W' => ∃ a2 c2, e = .returned (.slice a2 j c2) ∧ Mine W (NoneA bg j (.slice a j c) x (.slice a2 j c2) ((upto j).map Int.ofNat)) W') := Lib.hid fun W1 x h => by
        have f1 := f0.star (fit_ls izE x ((upto j).map Int.ofNat))
        have := m31g f1 h (g := adds j) (bg := bg) fun F ⟨F1, F2, ⟨F3, F4, p, _⟩, _⟩ => ⟨F3, p⟩
        rw [hr, upto_len] at this
        exact this.mono fun _ _ ⟨a2, c2, e, k, m⟩ => ⟨a2, c2, e, h.star f1 (fit_ls _ _ _) k.ls⟩
      have SX : Hid (∀ W1 W2 x, Mine W (Star (PgA bg (adds j)) (LsA inE (.slice a j c) (upto j))) W1 → Fresh W1 W2 x (upto j) → Mine W (Star (Star (PgA bg (adds j)) (LsA inE (.slice a j c) (upto j))) (LsA izE x ((upto j).map Int.ofNat))) W2) := Lib.hid fun W1 W2 x h k => h.star f0 (fit_ls _ _ _) k.iz
      have HM := Lib.hid hM
      clear hM CA
      go_wp2_with (first
        | (go_at_call 31; ((with_reducible refine (CX.out).mono ?_); rintro e w2 ⟨ax, cx, rfl, hf, hM2⟩; have HX := Lib.hid (SX.out _ _ _ HM.out hf); have CY2 := Lib.hid (CY.out _ _ HX.out); clear hf hM2 CX))
        | (go_at_call 31; ((with_reducible refine (CY2.out).mono ?_); rintro e w3 ⟨ay, cy, rfl, hM3⟩; have H3 := Lib.hid hM3; clear hM3)))
      clear CY SX CY2 HX HM
      go_loopw [18, 67] (fun _ i wr => ∃ k : Nat, i = .int .i64 (k : Int) ∧ k ≤ j ∧ ∃ M : List Int, M.length = j ∧ Mine W (NoneA bg j (.slice a j c) (.slice ax j cx) (.slice ay j cy) M) wr) (fun _ i _ => j - (intOf i).toNat)
      case atStart => exact ⟨0, rfl, Nat.zero_le _, _, by rw [List.length_map, upto_len], H3.out⟩
      case round =>
        clear H3
        obtain ⟨k, rfl, hk, M, hMl, hM⟩ := hrel
        by_cases hlt : k < j
        · obtain ⟨bx, ox, capx, ex, x1, x2, x3, x4⟩ := hM.parts.2.1.elem izE_ok (i := k) (by omega)
          injection ex with ex1 ex2 ex3
          subst ex1 ex3
          have z := x3 0 (by decide)
          have ek : izE.k = 1 := rfl
          rw [ek, Nat.mul_one, Nat.add_zero] at z
          replace z : wr.cell? ⟨bx, ox + k, none⟩ = some (.int .i64 (M[k]'(by omega))) := z
          have z2 := x4 (ox + k)
          generalize M[k]'(by omega) = V at *
          have HN : Hid (∃ M : List Int, M.length = j ∧ Mine W (NoneA bg j (.slice a j c) (.slice (some ⟨bx, ox, none⟩) j cx) (.slice ay j cy) M) (wr.setCell ⟨bx, ox + k, none⟩ (.int .i64 (-1)))) := Lib.hid ⟨M.set k (-1), by rw [List.length_set]; exact hMl, hM.goes fun F q => q.left (((f0).star (fit_ls _ _ _))) (fit_ls _ _ _) fun F1 q1 => q1.right f0 (fit_ls _ _ _) fun F2 q2 => by
            obtain ⟨y1, y2⟩ := ls_set q2 rfl (b := bx) (o := ox) rfl (i := k) (by omega) (-1) (.int .i64 (-1)) rfl izE_ok
            exact ⟨F2, y1, y2, fun _ x => .inl x⟩⟩
          have hlt2 : (k : Int) < (j : Int) := by omega
          clear x1 x2 x3 x4 hM ek hMl ex2 hr f0
          go_wp2
          go_roundw
          case rel => exact ⟨k + 1, rfl, hlt, HN.out⟩
          case measure => simp [intOf]; omega
        · obtain rfl : k = j := by omega
          have B1 : Hid (M.length + [(-2 : Int)].length ≤ maxLen) := Lib.hid (by rw [hMl]; unfold maxLen; simp only [List.length_singleton]; omega)
          have B2 : Hid ((M.length + [(-2 : Int)].length) * izE.b ≤ 140737488355328) := Lib.hid (by rw [hMl]; show _ * 8 ≤ _; simp only [List.length_singleton]; omega)
          have HL : Hid (Lies izE wr (.slice ax M.length cx) M) := Lib.hid (by rw [hMl]; exact hM.parts.2.1)
          have HML := Lib.hid hMl
          have HN : Hid (∀ w : World, ∀ x u, (izE.cs [(-2 : Int)])[x]? = some u → (w.alloc (.cells #[.int .i64 (-2)] 3)).cell? ((⟨w.heap.size, 0, none⟩ : Addr).add x) = some u) := Lib.hid fun w => just_new izE w (-2) 3
          have HA : Hid (∀ w' b' o' cap', App izE (wr.alloc (.cells #[.int .i64 (-2)] 3)) w' (.slice ax M.length cx) M [-2] b' o' cap' → Mine W (NoneA bg k (.slice a k c) (.slice (some ⟨b', o', none⟩) (M.length + 1) cap') (.slice ay k cy) (M ++ [-2])) w') := Lib.hid fun w' b' o' cap' hA => by
            have h2 := hM.same (fit_none _ _ _ _ _ _) ((Cha.refl (fun _ => False) wr).alloc (.cells #[.int .i64 (-2)] 3))
            rw [← hMl] at h2
            refine h2.goes fun F q => ?_
            rw [hMl] at q hA ⊢
            exact q.left (((f0).star (fit_ls _ _ _))) (fit_ls _ _ _) fun F1 q1 => q1.right f0 (fit_ls _ _ _) fun F2 q2 => ls_app q2 (by have := hA.v; rw [hMl] at this; exact this)
          have C30 : Hid (∀ W1 x M, Mine W (NoneA bg k (.slice a k c) x (.slice ay k cy) M) W1 → Calls Try.prog 30 #[.slice ay k cy, .slice a k c] W1 fun e W' => e = .returned (.bool true) ∧ Mine W (NoneA bg k (.slice a k c) x (.slice ay k cy) M) W') := Lib.hid fun W1 x M h =>
            (same_any h.parts.2.2 h.parts.1 (by rw [upto_len]; omega)).mono fun _ _ ⟨a, c⟩ => ⟨a, h.same (fit_none _ _ _ _ _ _) c⟩
          have C31 : Hid (∀ W1 x M, Mine W (NoneA bg k (.slice a k c) x (.slice ay k cy) M) W1 → Calls Try.prog 31 #[.pointer (some ⟨bg, 0, none⟩)] W1 fun e W2 => ∃ az cz, e = .returned (.slice az k cz) ∧ Calls Try.prog 30 #[.slice az k cz, .slice a k c] W2 fun e W' => e = .returned (.bool true) ∧ Cha (fun _ => False) W W') := Lib.hid fun W1 x M h => by
            have := m31g (fit_none _ _ _ _ _ _) h (g := adds k) (bg := bg) fun F q => q.parts.1
            rw [hr, upto_len] at this
            exact this.mono fun _ W2 ⟨az, cz, e, hf, m⟩ => ⟨az, cz, e, (same_any hf.1 m.parts.1 (by rw [upto_len]; omega)).mono fun _ _ ⟨a, c⟩ => ⟨a, m.cha.trans c⟩⟩
          have N14 := Lib.hid fun W => drop_none 0 W
          have N16 := Lib.hid fun W => root_nil 1 0 W
          have N18 := Lib.hid fun W => set_nil 1 0 0 W
          have N20 := Lib.hid fun W => start_none W
          have N28 := Lib.hid fun W => has_none 1 W
          have N31 := Lib.hid fun W => roots_none W
          clear hM hr f0
          rw [← hMl]
          go_wp2_with (first
            | (at_builtin; refine wpList_app izE_ok rfl (.tmp 74) (.tmp 75) rfl (v := .slice ax M.length cx) (by rw [HML.out]; rfl) (HL.out.same ((Cha.refl (fun _ => False) _).alloc _)) ⟨wr.heap.size, 0, none⟩ 1 1 [-2] rfl rfl (HN.out wr) Nat.zero_lt_one B1.out B2.out ?_; intro g3 o3 cap3 w3 hA3; have C3 := Lib.hid (C30.out _ _ _ (HA.out _ _ _ _ hA3)); clear hA3)
            | (go_at_call 30; ((with_reducible refine (C3.out).mono ?_); rintro e w4 ⟨rfl, hM4⟩; have C4 := Lib.hid (C31.out _ _ _ hM4); clear hM4))
            | (go_at_call 31; ((with_reducible refine (C4.out).mono ?_); rintro e w5 ⟨az, cz, rfl, hC⟩; have C5 := Lib.hid hC; clear hC))
            | (go_at_call 30; ((with_reducible refine (C5.out).mono ?_); rintro e w6 ⟨rfl, hC⟩; have H6 := Lib.hid hC; clear hC))
            | (go_at_call 14; ((with_reducible refine (N14.out _).mono ?_); rintro e w1 ⟨rfl, rfl⟩))
            | (go_at_call 16; ((with_reducible refine (N16.out _).mono ?_); rintro e w1 ⟨rfl, rfl⟩))
            | (go_at_call 18; ((with_reducible refine (N18.out _).mono ?_); rintro e w1 ⟨rfl, rfl⟩))
            | (go_at_call 20; ((with_reducible refine (N20.out _).mono ?_); rintro e w1 ⟨rfl, rfl⟩))
            | (go_at_call 28; ((with_reducible refine (N28.out _).mono ?_); rintro e w1 ⟨rfl, rfl⟩))
            | (go_at_call 31; ((with_reducible refine (N31.out _).mono ?_); rintro e w1 ⟨rfl, rfl⟩)))
          go_returns
          exact ⟨by simp, H6.out⟩
end Go.Proofs.Ytllefljimkmbhaa
