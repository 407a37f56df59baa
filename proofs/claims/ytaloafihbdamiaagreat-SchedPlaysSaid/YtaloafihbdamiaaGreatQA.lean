/- Contracts of layer 10: isProc, layBehind, Put, Last, Waiting. -/
import Derived.Test.YtaloafihbdamiaaGreatE
import Derived.Handy
import Derived.Deep.QuietTactic
namespace Go.Proofs.YtaloafihbdamiaaGreat
open Go.ChangeShapes Go.WideShapes Go.ChangeAt Go.RowKit
variable {w w' W : World} {F F' T : Nat → Prop} {bq bp g o cap : Nat} {z : Nat → Int} {S : List Prc} {v : Value} {A N L L0 : List Int} {x y : Int}

theorem Qs.ptr (h : Qs w F bq bp z S v A) : w.cell? ⟨bq, 0, none⟩ = some (.slice (some ⟨bp, 0, none⟩) S.length S.length) := cell_of_row w bq 0 _ 87 (0, 0) h.head
theorem Qs.lst (h : Qs w F bq bp z S v A) : w.cell? ⟨bq, 1, none⟩ = some v := cell_of_row w bq 1 _ 87 (0, 0) h.head
theorem Qs.free (h : Qs w F bq bp z S v A) (i : Nat) : w.frozen? ⟨bq, i, none⟩ = false := frozen_of_row w bq i _ 87 h.head
theorem isproc_yes (p : Nat) (h : Qs w F bq bp z S v A) (hp : p < S.length) : Calls Tryz.prog 69 #[.pointer (some ⟨bq, 0, none⟩), .int .i64 (p : Int)] w fun e w' => e = .returned (.bool true) ∧ w = w' := by
  have c := h.ptr
  have h8 := h.k8
  clear h
  generalize S.length = n at *
  have hp2 : (p : Int) < n := by omega
  have hp1 : (0 : Int) ≤ (p : Int) := by omega
  go_enter Tryz.func69, Tryz.ntmps69
  go_wp2
  go_ret
  exact ⟨rfl, rfl⟩
theorem isproc_no (p : Int) (h : Qs w F bq bp z S v A) (hp : p < 0 ∨ (S.length : Int) ≤ p) : Calls Tryz.prog 69 #[.pointer (some ⟨bq, 0, none⟩), .int .i64 p] w fun e w' => e = .returned (.bool false) ∧ w = w' := by
  have c := h.ptr
  have h8 := h.k8
  clear h
  generalize S.length = n at *
  by_cases h0 : p < 0
  · have h1 : decide (0 ≤ p) = false := by simpa using h0
    clear hp
    go_enter Tryz.func69, Tryz.ntmps69
    go_wp2
    go_ret
    exact ⟨rfl, rfl⟩
  · have h1 : 0 ≤ p := by omega
    have h2 : decide (p < (n : Int)) = false := by simp; omega
    clear hp h0
    go_enter Tryz.func69, Tryz.ntmps69
    go_wp2
    go_ret
    exact ⟨rfl, rfl⟩

theorem Turned.cha {t : TypeId} {b m o : Nat} {z : Nat → Int} {L : List Int} (h : Turned t b m o z L w w') : Cha (fun i => i = b) w w' := by
  obtain ⟨_, _, _, _, _, c⟩ := h
  exact c
theorem Cha.but (h : Cha (fun i => i = bp) w w') (hne : bq ≠ bp) : Cha (fun i => i ≠ bq) w w' := h.mono fun i _ e => by
  have e : i = bp := e
  show i ≠ bq
  omega
/-- A cell of the queues' block stays wherever else something changes. -/
theorem Qs.keeps (h : Qs w F bq bp z S v A) {W' : World} (hc : Cha (fun i => i ≠ bq) w W') (i : Nat) : W'.cell? ⟨bq, i, none⟩ = w.cell? ⟨bq, i, none⟩ ∧ W'.frozen? ⟨bq, i, none⟩ = false := by
  have e := (hc.old bq (h.old _ h.fq) (fun e => e rfl)).trans h.head
  exact ⟨by rw [cell_of_row W' bq i _ 87 (0, 0) e, cell_of_row w bq i _ 87 (0, 0) h.head], frozen_of_row W' bq i _ 87 e⟩
theorem own_slice (g o n cap : Nat) : (Value.slice (some ⟨g, o, none⟩) n cap).ownBlock = some g := rfl

theorem behind_room (p : Nat) (x : Int) (h : Qs w F bq bp z S v A) (hp : S[p]? = some (y, L)) (hl : L.length < 8) :
    Calls Tryz.prog 71 #[.pointer (some ⟨bq, 0, none⟩), .pointer (some ⟨bp, p * 11, none⟩), .int .i64 x] w fun e w' => e = .returned (.tuple #[]) ∧ Left w w' F bq bp (S.set p (y, L ++ [x])) A := by
  obtain ⟨hz, f, hR⟩ := h.prc p _ hp
  have hpl := get_lt hp
  have c9 := h.ints.cell (i := p * 11 + 1 + 9) (by omega)
  have hR : Ring z (p * 11 + 1) f L := hR
  rw [hR.len] at c9
  have C := Lib.hid (push_any (g := x) h.ints (by omega) hR hl)
  have H := Lib.hid h
  have HP := Lib.hid hp
  generalize hn : L.length = n at *
  have HN := Lib.hid hn
  clear h hz hR hp hn hpl
  have hl2 : (n : Int) < 8 := by omega
  go_enter Tryz.func71, Tryz.ntmps71
  go_wp2_with (go_at_call 85; ((with_reducible refine (C.out).mono ?_); rintro e w1 ⟨rfl, hT⟩; have HT := Lib.hid hT; clear hT))
  go_returns
  obtain ⟨z', q⟩ := H.out.turn HP.out HT.out
  obtain ⟨_, _, _, _, _, c⟩ := HT.out
  exact ⟨rfl, F, z', v, q, c.mono fun i _ e => by have e : i = bp := e; rw [e]; exact H.out.fp, fun _ h => h, fun _ h => .inl h⟩


/-- A list for all that has grown, and what changed. -/
theorem Qs.grown {w2 w3 : World} {F1 : Nat → Prop} {S1 : List Prc} {A1 : List Int} {z2 : Nat → Int} {ob : Obj} (hq : Qs W F1 bq bp z S v A) (c2 : Cha F1 W w2) (q2 : Qs w2 F1 bq bp z2 S1 v A1) (a : App (w2.alloc ob) w3 v A1 N g o cap) (x : Value) :
    Cha F1 W (w3.setCell ⟨bq, 1, none⟩ x) ∧ (∀ i, F1 i ∨ i = g → F1 i ∨ W.heap.size ≤ i) := by
  refine ⟨((c2.alloc _).trans (a.cha.mono fun i _ e => (q2.fv i e).1)).setCell (p := ⟨bq, 1, none⟩) (fun _ => hq.fq) x, fun i hi => ?_⟩
  rcases hi with hi | rfl
  · exact .inl hi
  · rcases a.at' with e | e
    · exact .inl (q2.fv _ e).1
    · refine .inr (Nat.le_trans c2.size ?_)
      rw [World.size_alloc] at e
      omega
theorem left_more {F1 F2 : Nat → Prop} (hc : Cha F w W) (hs : ∀ i, F i → F1 i) (hn : ∀ i, F1 i → F i ∨ w.heap.size ≤ i) (q : Qs w' F2 bq bp z S v A) (c : Cha F1 W w') (s2 : ∀ i, F1 i → F2 i) (n2 : ∀ i, F2 i → F1 i ∨ W.heap.size ≤ i) : Left w w' F bq bp S A :=
  ⟨F2, z, v, q, hc.over c hn, fun i hi => s2 i (hs i hi), fun i hi => by
    rcases n2 i hi with e | e
    · exact hn i e
    · exact .inr (Nat.le_trans hc.size e)⟩
theorem drop_get {j : Nat} (L : List Int) (h : j < L.length) : L.drop j = L.getD j 0 :: L.drop (j + 1) := by
  rw [List.drop_eq_getElem_cons h]; simp [List.getD, List.getElem?_eq_getElem h]
theorem take_get {j : Nat} (L : List Int) (h : j < L.length) : L.take (j + 1) = L.take j ++ [L.getD j 0] := by
  rw [List.take_succ_eq_append_getElem h]; simp [List.getD, List.getElem?_eq_getElem h]
set_option maxRecDepth 100000 in
set_option maxHeartbeats 1000000 in
theorem behind_full (p : Nat) (x : Int) (h : Qs w F bq bp z S v A) (hp : S[p]? = some (y, L)) (hl : L.length = 8) (hA : A.length + 5 ≤ 17592186044416) :
    Calls Tryz.prog 71 #[.pointer (some ⟨bq, 0, none⟩), .pointer (some ⟨bp, p * 11, none⟩), .int .i64 x] w fun e w' => e = .returned (.tuple #[]) ∧ Left w w' F bq bp (S.set p (y, L.drop 4)) (A ++ (L.take 4 ++ [x])) := by
  obtain ⟨hz, f, hR⟩ := h.prc p _ hp
  have hpl := get_lt hp
  have c9 := h.ints.cell (i := p * 11 + 1 + 9) (by omega)
  have hR : Ring z (p * 11 + 1) f L := hR
  rw [hR.len, hl] at c9
  have H0 : Hid (Left w w F bq bp (S.set p (y, L.drop 0)) (A ++ L.take 0)) := Lib.hid ⟨F, z, v, by
    rw [List.drop_zero, List.take_zero, List.append_nil]
    have e : S.set p (y, L) = S := by rw [← (Option.some.inj ((List.getElem?_eq_getElem hpl).symm.trans hp))]; exact List.set_getElem_self hpl
    rw [e]; exact h, Cha.refl _ _, fun _ h => h, fun _ h => .inl h⟩
  have HP := Lib.hid hp
  have HL := Lib.hid hl
  have HPL := Lib.hid hpl
  clear h hz hR hp hl hpl
  go_enter Tryz.func71, Tryz.ntmps71
  go_wp2
  go_loopw [17] (fun i wr => ∃ j : Nat, j ≤ 4 ∧ i = .int .i64 (j : Int) ∧ Left w wr F bq bp (S.set p (y, L.drop j)) (A ++ L.take j)) (fun i _ => 4 - (intOf i).toNat)
  case atStart => exact ⟨0, by omega, rfl, H0.out⟩
  case round =>
    clear H0
    obtain ⟨j, hj, rfl, hL⟩ := hrel
    by_cases hlt : j < 4
    · obtain ⟨F1, z1, v1, q, c, s, n⟩ := hL
      have hp1 : (S.set p (y, L.drop j))[p]? = some (y, L.getD j 0 :: L.drop (j + 1)) := by rw [List.getElem?_set_self HPL.out, drop_get L (by have := HL.out; omega)]
      obtain ⟨_, f1, r1⟩ := q.prc p _ hp1
      have C1 := Lib.hid (take_any q.drew.ints (by rw [set_len]; have := HPL.out; omega) r1)
      obtain ⟨a1, cap1, rfl, _⟩ := q.all.form
      have hA1 : (A ++ L.take j).length ≤ A.length + 4 := by rw [List.length_append, List.length_take]; omega
      have HT := Lib.hid (take_get L (j := j) (by have := HL.out; omega))
      generalize hAj : A ++ L.take j = A1 at *
      generalize L.getD j 0 = u at *
      have HAj := Lib.hid hAj
      have HP1 := Lib.hid hp1
      have Q := Lib.hid q.drew
      have HN := Lib.hid n
      have HS := Lib.hid s
      have HC := Lib.hid c
      have KX : Hid (∀ W', Cha (fun i => i ≠ bq) wr.drew W' → W'.cell? ⟨bq, 1, none⟩ = some (.slice a1 A1.length cap1) ∧ W'.frozen? ⟨bq, 1, none⟩ = false) := Lib.hid fun W' hc => by
        obtain ⟨e1, e2⟩ := Q.out.keeps hc 1
        exact ⟨e1.trans Q.out.lst, e2⟩
      clear q r1 hp1 n s c hAj
      go_wp2
      obtain ⟨k1, k2⟩ := KX.out wr.drew (Cha.refl _ _)
      go_region_law (first
        | (go_simp; go_at_call 74; go_loud (refine (C1.out).mono ?_; rintro e w2 ⟨rfl, hT⟩; obtain ⟨z2, q2⟩ := Q.out.turn HP1.out hT; have Q2 := Lib.hid q2; have hbq := q2.old _ q2.fq; have c2 := Lib.hid hT.cha; obtain ⟨k3, k4⟩ := KX.out w2 (c2.out.but Q2.out.ne); clear q2 hT))
        | (refine step_app (by rfl) (.tmp 23) (.tmp 28) (by rfl) (v := .slice a1 A1.length cap1) (A := A1) (by rfl) (Q2.out.all.cha ((Cha.refl (fun _ => False) w2).alloc _) (fun _ _ f => f)) ⟨w2.heap.size, 0, none⟩ 1 1 [u] (by rfl) rfl (one_new _ _ _) Nat.zero_lt_one (by simp only [List.length_singleton]; omega) ?_; intro g3 o3 cap3 w3 hA3; obtain ⟨k5, k6⟩ := KX.out w3 (((c2.out.but Q2.out.ne).alloc _).trans (hA3.cha.mono fun i _ e => (Q2.out.fv i e).2.1)); have A3 := Lib.hid hA3; clear hA3))
      all_goals
        have q3 := (Q2.out.same ((Cha.refl (fun _ => False) w2).alloc (.cells #[.int .i64 u] 3))).app A3.out
        rw [List.set_set] at q3
        obtain ⟨c3, n3⟩ := Q.out.grown (c2.out.mono fun i _ e => by have e : i = bp := e; rw [e]; exact Q.out.fp) Q2.out A3.out (.slice (some ⟨g3, o3, none⟩) (A1.length + [u].length) cap3)
        have HL3 := Lib.hid (left_more HC.out.drew HS.out HN.out q3 c3 (fun _ h => .inl h) n3)
        have eA : A1 ++ [u] = A ++ L.take (j + 1) := by rw [HT.out, ← List.append_assoc, HAj.out]
        rw [eA] at HL3
        clear eA
        clear q3 c3 n3 k1 k2 k3 k4 k5 k6
        go_wp2
        go_roundw
        case rel => exact ⟨j + 1, by omega, by go_num, HL3.out⟩
        case measure => simp [intOf]; omega
    · obtain rfl : j = 4 := by omega
      obtain ⟨F1, z1, v1, q, c, s, n⟩ := hL
      obtain ⟨a1, cap1, rfl, _⟩ := q.all.form
      have hA1 : (A ++ L.take 4).length ≤ A.length + 4 := by rw [List.length_append, List.length_take]; omega
      generalize hAj : A ++ L.take 4 = A1 at *
      have HAj := Lib.hid hAj
      have Q := Lib.hid q
      have HN := Lib.hid n
      have HS := Lib.hid s
      have HC := Lib.hid c
      have k1 := q.lst
      have k2 := q.free 1
      have hbq := q.old _ q.fq
      have KX : Hid (∀ W', Cha (fun i => i ≠ bq) wr W' → W'.cell? ⟨bq, 1, none⟩ = some (.slice a1 A1.length cap1) ∧ W'.frozen? ⟨bq, 1, none⟩ = false) := Lib.hid fun W' hc => by
        obtain ⟨e1, e2⟩ := Q.out.keeps hc 1
        exact ⟨e1.trans Q.out.lst, e2⟩
      clear q n s c hAj
      go_wp2_with (refine wpList_app rfl (.tmp 37) (.tmp 39) rfl (v := .slice a1 A1.length cap1) (A := A1) rfl (Q.out.all.cha ((Cha.refl (fun _ => False) wr).alloc _) (fun _ _ f => f)) ⟨wr.heap.size, 0, none⟩ 1 1 [x] rfl rfl (one_new _ _ _) Nat.zero_lt_one (by simp only [List.length_singleton]; omega) ?_; intro g3 o3 cap3 w3 hA3; obtain ⟨k5, k6⟩ := KX.out w3 (((Cha.refl _ wr).alloc _).trans (hA3.cha.mono fun i _ e => (Q.out.fv i e).2.1)); have A3 := Lib.hid hA3; clear hA3)
      go_returns
      have q3 := (Q.out.same ((Cha.refl (fun _ => False) wr).alloc (.cells #[.int .i64 x] 3))).app A3.out
      obtain ⟨c3, n3⟩ := Q.out.grown (Cha.refl _ _) Q.out A3.out (.slice (some ⟨g3, o3, none⟩) (A1.length + [x].length) cap3)
      have HL3 := left_more HC.out HS.out HN.out q3 c3 (fun _ h => .inl h) n3
      have eA : A1 ++ [x] = A ++ (L.take 4 ++ [x]) := by rw [← List.append_assoc, HAj.out]
      rw [eA] at HL3
      exact ⟨rfl, HL3⟩
end Go.Proofs.YtaloafihbdamiaaGreat

namespace Go.Proofs.YtaloafihbdamiaaGreat
open Go.ChangeShapes Go.WideShapes Go.ChangeAt Go.RowKit
variable {w w' W : World} {F F' T : Nat → Prop} {bq bp o cap : Nat} {z : Nat → Int} {S : List Prc} {v : Value} {A N L L0 : List Int} {x y g : Int}

theorem put_none (p g : Int) (w : World) : Calls Tryz.prog 51 #[.pointer none, .int .i64 p, .int .i64 g] w fun e w' => e = .returned (.int .i64 5) ∧ w = w' := by
  go_enter Tryz.func51, Tryz.ntmps51
  go_wp2
  go_ret
  exact ⟨rfl, rfl⟩
theorem put_bad (p g : Int) (h : Qs w F bq bp z S v A) (hp : p < 0 ∨ (S.length : Int) ≤ p ∨ g < 0) :
    Calls Tryz.prog 51 #[.pointer (some ⟨bq, 0, none⟩), .int .i64 p, .int .i64 g] w fun e w' => e = .returned (.int .i64 1) ∧ w = w' := by
  by_cases hb : p < 0 ∨ (S.length : Int) ≤ p
  · have C := Lib.hid (isproc_no p h hb)
    clear h hp hb
    go_enter Tryz.func51, Tryz.ntmps51
    go_wp2_with (go_at_call 69; ((with_reducible refine (C.out).mono ?_); rintro e w1 ⟨rfl, rfl⟩))
    go_ret
    exact ⟨rfl, rfl⟩
  · obtain ⟨q, rfl⟩ : ∃ q : Nat, p = (q : Int) := ⟨p.toNat, by omega⟩
    have C := Lib.hid (isproc_yes q h (by omega))
    have hg : g < 0 := by omega
    clear h hp hb
    go_enter Tryz.func51, Tryz.ntmps51
    go_wp2_with (go_at_call 69; ((with_reducible refine (C.out).mono ?_); rintro e w1 ⟨rfl, rfl⟩))
    go_ret
    exact ⟨rfl, rfl⟩
set_option maxRecDepth 100000 in
theorem put_any (p : Nat) (g : Int) (h : Qs w F bq bp z S v A) (hp : p < S.length) (hg : 0 ≤ g) (hA : A.length + 5 ≤ 17592186044416) :
    Calls Tryz.prog 51 #[.pointer (some ⟨bq, 0, none⟩), .int .i64 (p : Int), .int .i64 g] w fun e w' => e = .returned (.int .i64 0) ∧ Left w w' F bq bp (putS S A p g).1 (putS S A p g).2 := by
  have C := Lib.hid (isproc_yes p h hp)
  have h8 := h.k8
  have hpx := D_get hp
  unfold putS
  generalize S.getD p (-1, []) = u at *
  obtain ⟨x, L⟩ := u
  dsimp only
  obtain ⟨hz, f, hR⟩ := h.prc p _ hpx
  have hz : z (p * 11) = x := hz
  have hn : L.length ≤ 8 := hR.n8
  have C2 := Lib.hid (next_any (P := p * 11) h.ints (by omega))
  rw [hz] at C2
  have q1 := h.next hpx (-1)
  have q2 := q1.next (L := L) (List.getElem?_set_self hp) g
  rw [List.set_set] at q2
  have hp2 : (S.set p (g, L))[p]? = some (g, L) := List.getElem?_set_self hp
  have k1 := h.ptr
  have c0 := q1.ints.cell (i := p * 11) (by rw [set_len]; omega)
  have z0 := q1.ints.free (p * 11)
  have k3 : (p : Int) < S.length := by omega
  have cc : Cha F w ((w.setCell ⟨bp, p * 11, none⟩ (.int .i64 (-1))).setCell ⟨bp, p * 11, none⟩ (.int .i64 g)) := ((Cha.refl F w).setCell (p := ⟨bp, p * 11, none⟩) (fun _ => h.fp) _).setCell (p := ⟨bp, p * 11, none⟩) (fun _ => h.fp) _
  have CC := Lib.hid cc
  have Q2 := Lib.hid q2
  have HP2 := Lib.hid hp2
  clear h hz hR q1 q2 hp2 cc hpx hp
  have hgl : decide (g < 0) = false := by simpa using hg
  by_cases hx : x = -1
  · subst hx
    rw [if_pos rfl]
    go_enter Tryz.func51, Tryz.ntmps51
    go_wp2_with (first
      | (go_at_call 69; ((with_reducible refine (C.out).mono ?_); rintro e w1 ⟨rfl, rfl⟩))
      | (go_at_call 70; ((with_reducible refine (C2.out).mono ?_); rintro e w1 ⟨rfl, rfl⟩)))
    go_ret
    exact ⟨rfl, left_more (Cha.refl F w) (fun _ h => h) (fun _ h => .inl h) Q2.out CC.out (fun _ h => h) (fun _ h => .inl h)⟩
  · rw [if_neg hx]
    have hx1 : (x == -1) = false := by simpa using hx
    have hx2 : (x != -1) = true := by simpa using hx
    clear hx
    by_cases hl : L.length < 8
    · rw [if_pos hl]
      have C3 := Lib.hid (behind_room p x Q2.out HP2.out hl)
      rw [List.set_set] at C3
      clear hl hn
      go_enter Tryz.func51, Tryz.ntmps51
      go_wp2_with (first
        | (go_at_call 69; ((with_reducible refine (C.out).mono ?_); rintro e w1 ⟨rfl, rfl⟩))
        | (go_at_call 70; ((with_reducible refine (C2.out).mono ?_); rintro e w1 ⟨rfl, rfl⟩))
        | (go_at_call 71; ((with_reducible refine (C3.out).mono ?_); rintro e w3 ⟨rfl, hL⟩; have HL := Lib.hid hL; clear hL)))
      go_ret
      obtain ⟨F', z', v', a, b, c, d⟩ := HL.out
      exact ⟨rfl, left_more CC.out (fun _ h => h) (fun _ h => .inl h) a b c (fun i hi => d i hi)⟩
    · rw [if_neg hl]
      have C3 := Lib.hid (behind_full p x Q2.out HP2.out (by omega) hA)
      rw [List.set_set] at C3
      clear hl hn
      go_enter Tryz.func51, Tryz.ntmps51
      go_wp2_with (first
        | (go_at_call 69; ((with_reducible refine (C.out).mono ?_); rintro e w1 ⟨rfl, rfl⟩))
        | (go_at_call 70; ((with_reducible refine (C2.out).mono ?_); rintro e w1 ⟨rfl, rfl⟩))
        | (go_at_call 71; ((with_reducible refine (C3.out).mono ?_); rintro e w3 ⟨rfl, hL⟩; have HL := Lib.hid hL; clear hL)))
      go_ret
      obtain ⟨F', z', v', a, b, c, d⟩ := HL.out
      exact ⟨rfl, left_more CC.out (fun _ h => h) (fun _ h => .inl h) a b c (fun i hi => d i hi)⟩

theorem last_none (g : Int) (w : World) : Calls Tryz.prog 63 #[.pointer none, .int .i64 g] w fun e w' => e = .returned (.int .i64 5) ∧ w = w' := by
  go_enter Tryz.func63, Tryz.ntmps63
  go_wp2
  go_ret
  exact ⟨rfl, rfl⟩
theorem last_bad (g : Int) (w : World) (hg : g < 0) : Calls Tryz.prog 63 #[.pointer (some ⟨bq, 0, none⟩), .int .i64 g] w fun e w' => e = .returned (.int .i64 1) ∧ w = w' := by
  go_enter Tryz.func63, Tryz.ntmps63
  go_wp2
  go_ret
  exact ⟨rfl, rfl⟩
theorem last_any (g : Int) (h : Qs w F bq bp z S v A) (hg : 0 ≤ g) (hA : A.length + 5 ≤ 17592186044416) :
    Calls Tryz.prog 63 #[.pointer (some ⟨bq, 0, none⟩), .int .i64 g] w fun e w' => e = .returned (.int .i64 0) ∧ Left w w' F bq bp S (A ++ [g]) := by
  obtain ⟨a1, cap1, rfl, _⟩ := h.all.form
  have Q := Lib.hid h
  have k1 := h.lst
  have k2 := h.free 1
  have hbq := h.old _ h.fq
  have hgl : decide (g < 0) = false := by simpa using hg
  have KX : Hid (∀ W', Cha (fun i => i ≠ bq) w W' → W'.cell? ⟨bq, 1, none⟩ = some (.slice a1 A.length cap1) ∧ W'.frozen? ⟨bq, 1, none⟩ = false) := Lib.hid fun W' hc => by
    obtain ⟨e1, e2⟩ := Q.out.keeps hc 1
    exact ⟨e1.trans Q.out.lst, e2⟩
  clear h
  go_enter Tryz.func63, Tryz.ntmps63
  go_wp2_with (refine wpList_app rfl (.tmp 13) (.tmp 15) rfl (v := .slice a1 A.length cap1) (A := A) rfl (Q.out.all.cha ((Cha.refl (fun _ => False) w).alloc _) (fun _ _ f => f)) ⟨w.heap.size, 0, none⟩ 1 1 [g] rfl rfl (one_new _ _ _) Nat.zero_lt_one (by simp only [List.length_singleton]; omega) ?_; intro g3 o3 cap3 w3 hA3; obtain ⟨k5, k6⟩ := KX.out w3 (((Cha.refl _ w).alloc _).trans (hA3.cha.mono fun i _ e => (Q.out.fv i e).2.1)); have A3 := Lib.hid hA3; clear hA3)
  go_ret
  have q3 := (Q.out.same ((Cha.refl (fun _ => False) w).alloc (.cells #[.int .i64 g] 3))).app A3.out
  obtain ⟨c3, n3⟩ := Q.out.grown (Cha.refl _ _) Q.out A3.out (.slice (some ⟨g3, o3, none⟩) (A.length + [g].length) cap3)
  exact ⟨rfl, left_more (Cha.refl F w) (fun _ h => h) (fun _ h => .inl h) q3 c3 (fun _ h => .inl h) n3⟩

theorem waiting_none (p : Int) (w : World) : Calls Tryz.prog 52 #[.pointer none, .int .i64 p] w fun e w' => e = .returned (.tuple #[.int .i64 0, .int .i64 0]) ∧ w = w' := by
  go_enter Tryz.func52, Tryz.ntmps52
  go_wp2
  go_returns
  exact ⟨rfl, rfl⟩
theorem waiting_bad (p : Int) (h : Qs w F bq bp z S v A) (hp : p < 0 ∨ (S.length : Int) ≤ p) : Calls Tryz.prog 52 #[.pointer (some ⟨bq, 0, none⟩), .int .i64 p] w fun e w' => e = .returned (.tuple #[.int .i64 0, .int .i64 0]) ∧ w = w' := by
  have C := Lib.hid (isproc_no p h hp)
  clear h hp
  go_enter Tryz.func52, Tryz.ntmps52
  go_wp2_with (go_at_call 69; ((with_reducible refine (C.out).mono ?_); rintro e w1 ⟨rfl, rfl⟩))
  go_returns
  exact ⟨rfl, rfl⟩
theorem waiting_any (p : Nat) (h : Qs w F bq bp z S v A) (hp : p < S.length) : Calls Tryz.prog 52 #[.pointer (some ⟨bq, 0, none⟩), .int .i64 (p : Int)] w fun e w' => e = .returned (.tuple #[.int .i64 (cnt (S.getD p (-1, [])) : Nat), .int .i64 (A.length : Nat)]) ∧ ∃ n, w' = w.drewN n := by
  have C := Lib.hid (isproc_yes p h hp)
  have hpx := D_get hp
  have h8 := h.k8
  generalize S.getD p (-1, []) = u at *
  obtain ⟨x, L⟩ := u
  obtain ⟨hz, f, hR⟩ := h.prc p _ hpx
  have hz : z (p * 11) = x := hz
  have C2 : Hid (∀ n, Calls Tryz.prog 72 #[.pointer (some ⟨bp, p * 11, none⟩)] (w.drewN n) fun e w' => e = .returned (.int .i64 (cnt (x, L) : Nat)) ∧ w' = w.drewN n) := Lib.hid fun n => by
    have hI : Ints 92 (w.drewN n) bp (S.length * 11) z := h.ints.cha ((Cha.refl (fun _ => False) w).drewN n) (fun f => f)
    have := count_any (P := p * 11) hI (by omega) hR
    rw [hz] at this
    exact this.mono fun _ _ ⟨a, b⟩ => ⟨a, b.symm⟩
  obtain ⟨a1, cap1, rfl, _⟩ := h.all.form
  have k1 := h.ptr
  have k2 := h.lst
  have k3 : (p : Int) < S.length := by omega
  have k4 : (0 : Int) ≤ (p : Int) := by omega
  clear h hz hR hpx hp
  generalize A.length = n at *
  generalize S.length = m at *
  go_enter Tryz.func52, Tryz.ntmps52
  go_wp2_with (go_at_call 69; ((with_reducible refine (C.out).mono ?_); rintro e w1 ⟨rfl, rfl⟩))
  go_quiet ((go_at_call 72; exact Calls.quiet_of_same (C2.out _)))
  go_wp2
  go_returns
  exact ⟨rfl, _, rfl⟩
end Go.Proofs.YtaloafihbdamiaaGreat

namespace Go.Proofs.YtaloafihbdamiaaGreat
open Go.ChangeShapes Go.WideShapes Go.ChangeAt Go.RowKit

theorem info78 : (Tryz.prog.info? 92).map (fun i => (i.zero, i.size, i.bytes)) = some (some (.agg #[.int .i64 0, .int .i64 0, .int .i64 0, .int .i64 0, .int .i64 0, .int .i64 0, .int .i64 0, .int .i64 0, .int .i64 0, .int .i64 0, .int .i64 0]), 11, 88) := by kernel_rfl
theorem made_procs (m : Nat) : madeCells (Value.agg #[.int .i64 0, .int .i64 0, .int .i64 0, .int .i64 0, .int .i64 0, .int .i64 0, .int .i64 0, .int .i64 0, .int .i64 0, .int .i64 0, .int .i64 0]).cells (m * 11) = fcells (m * 11) (fun _ => .int .i64 0) := by
  unfold madeCells fcells
  congr 1
  funext x
  show (#[Value.int .i64 0, .int .i64 0, .int .i64 0, .int .i64 0, .int .i64 0, .int .i64 0, .int .i64 0, .int .i64 0, .int .i64 0, .int .i64 0, .int .i64 0])[x % 11]! = _
  have h : x % 11 < 11 := Nat.mod_lt _ (by decide)
  generalize x % 11 = y at *
  have : y = 0 ∨ y = 1 ∨ y = 2 ∨ y = 3 ∨ y = 4 ∨ y = 5 ∨ y = 6 ∨ y = 7 ∨ y = 8 ∨ y = 9 ∨ y = 10 := by omega
  rcases this with h | h | h | h | h | h | h | h | h | h | h <;> rw [h] <;> rfl
theorem mk_procs (m : Nat) (hm : m ≤ 1000000) (W : World) : (Instr.makeSlice 85 (.int .i64 (m : Int)) (.int .i64 (m : Int))).run Tryz.prog W = .ok (.slice (some ⟨W.heap.size, 0, none⟩) m m) (W.alloc (.cells (fcells (m * 11) (fun _ => .int .i64 0)) 92)) := by
  obtain ⟨i, hi, hz, hs, hb⟩ := info_parts info78
  have h := run_make (P := Tryz.prog) W 85 92 i _ Tryz.underlying85 hi hz .i64 .i64 (m : Int) (m : Int) (by omega) (by omega) (by rw [hb]; omega) (by omega)
  rw [hs, Int.toNat_natCast, made_procs] at h
  exact h

theorem new_bad (n : Int) (w : World) (h : n < 1 ∨ 8 < n) : Calls Tryz.prog 14 #[.int .i64 n] w fun e w' => e = .returned (.tuple #[.pointer none, .int .i64 1]) ∧ w = w' := by
  by_cases h1 : n < 1
  · go_enter Tryz.func14, Tryz.ntmps14
    go_wp2
    go_ret2
    exact ⟨rfl, rfl⟩
  · have h2 : 8 < n := by omega
    clear h
    go_enter Tryz.func14, Tryz.ntmps14
    go_wp2
    go_ret2
    exact ⟨rfl, rfl⟩
/-- So many processors have no next one. -/
def zN (j : Nat) : Nat → Int := fun i => if i % 11 = 0 ∧ i / 11 < j then -1 else 0
theorem zN_zero : zN 0 = fun _ => 0 := by funext i; unfold zN; rw [if_neg (by omega)]
theorem zN_up (j : Nat) : up (zN j) (j * 11) (-1) = zN (j + 1) := by
  funext i
  unfold up zN
  by_cases e : i = j * 11
  · rw [if_pos e, if_pos (by omega)]
  · rw [if_neg e]
    by_cases c : i % 11 = 0 ∧ i / 11 < j
    · rw [if_pos c, if_pos (by omega)]
    · rw [if_neg c, if_neg (by omega)]
/-- Queues that were just made. -/
def Fresh (n : Nat) (w w' : World) : Prop := Qs w' (fun i => i = w.heap.size + 1 ∨ i = w.heap.size) (w.heap.size + 1) w.heap.size (zN n) (List.replicate n (-1, [])) (.slice none 0 0) [] ∧ Cha (fun _ => False) w w'
theorem ring_zero (n o : Nat) (h : o % 11 = 1) : Ring (zN n) o 0 [] := by
  refine ⟨by omega, by simp, ?_, ?_, fun i hi => by simp at hi⟩
  · unfold zN; rw [if_neg (by omega)]; rfl
  · unfold zN; rw [if_neg (by omega)]; rfl
theorem new_ok (n : Nat) (w : World) (h1 : 1 ≤ n) (h2 : n ≤ 8) : Calls Tryz.prog 14 #[.int .i64 (n : Int)] w fun e w' => e = .returned (.tuple #[.pointer (some ⟨w.heap.size + 1, 0, none⟩), .int .i64 0]) ∧ Fresh n w w' := by
  have hmk := mk_procs n (by omega)
  have I0 : Hid (Ints 92 ((w.alloc (.cells (fcells (n * 11) (fun _ => .int .i64 0)) 92)).alloc (.cells #[.slice (some ⟨w.heap.size, 0, none⟩) n n, .slice none 0 0] 87)) w.heap.size (n * 11) (zN 0)) := Lib.hid (by rw [zN_zero]; exact heap_alloc2_old w _ _)
  have I1 : Hid (((w.alloc (.cells (fcells (n * 11) (fun _ => .int .i64 0)) 92)).alloc (.cells #[.slice (some ⟨w.heap.size, 0, none⟩) n n, .slice none 0 0] 87)).heap[w.heap.size + 1]? = some (.cells #[.slice (some ⟨w.heap.size, 0, none⟩) n n, .slice none 0 0] 87 (0, 0))) := Lib.hid (heap_alloc2_new w _ _)
  have I2 : Hid (Cha (fun _ => False) w ((w.alloc (.cells (fcells (n * 11) (fun _ => .int .i64 0)) 92)).alloc (.cells #[.slice (some ⟨w.heap.size, 0, none⟩) n n, .slice none 0 0] 87))) := Lib.hid (((Cha.refl _ w).alloc _).alloc _)
  obtain ⟨c, hc⟩ : ∃ c, c = fcells (n * 11) (fun _ => .int .i64 0) := ⟨_, rfl⟩
  rw [← hc] at I0 I1 I2 hmk
  clear hc
  obtain ⟨bp, hbp⟩ : ∃ bp, bp = w.heap.size := ⟨_, rfl⟩
  have HBP := Lib.hid hbp
  clear hbp
  go_enter Tryz.func14, Tryz.ntmps14
  go_wp2
  go_loopw [5, 21] (fun _ i wr => ∃ j : Nat, j ≤ n ∧ i = .int .i64 (j : Int) ∧ Ints 92 wr w.heap.size (n * 11) (zN j) ∧ wr.heap[w.heap.size + 1]? = some (.cells #[.slice (some ⟨w.heap.size, 0, none⟩) n n, .slice none 0 0] 87 (0, 0)) ∧ Cha (fun _ => False) w wr) (fun _ i _ => n - (intOf i).toNat)
  case atStart => exact ⟨0, Nat.zero_le _, rfl, I0.out, I1.out, I2.out⟩
  case round =>
    clear I0 I1 I2
    obtain ⟨j, hj, rfl, k1, k2, k3⟩ := hrel
    have c0 := cell_of_row wr _ 0 _ 87 (0, 0) k2
    by_cases hlt : j < n
    · have z0 := k1.free (j * 11)
      have c1 := k1.cell (i := j * 11) (by omega)
      have K1 := Lib.hid (k1.set (j * 11) (-1))
      rw [zN_up] at K1
      have K2 := Lib.hid k2
      have K3 := Lib.hid k3
      clear k1 k2 k3
      go_wp2
      go_roundw
      case rel => exact ⟨j + 1, by omega, by go_num, K1.out, (heap_setCell_other _ _ _ _ (by show w.heap.size + 1 ≠ w.heap.size; omega)).trans K2.out, K3.out.over ((Cha.refl (fun i => i = w.heap.size) wr).setCell (p := ⟨w.heap.size, j * 11, none⟩) (fun _ => rfl) _) (fun i e => .inr (by have e : i = w.heap.size := e; omega))⟩
      case measure => simp [intOf]; omega
    · obtain rfl : j = n := by omega
      have K1 := Lib.hid k1
      have K2 := Lib.hid k2
      have K3 := Lib.hid k3
      clear k1 k2 k3
      go_wp2
      go_ret2
      refine ⟨rfl, ⟨by rw [List.length_replicate]; exact K2.out, by simpa using h1, by simpa using h2, by rw [List.length_replicate]; exact K1.out, fun p x hx => ?_, Lies.nil _, by omega, .inl rfl, .inr rfl, (fun g hg => by cases hg), fun i hi => ?_⟩, K3.out⟩
      · rw [List.getElem?_replicate] at hx
        split at hx
        · obtain rfl := Option.some.inj hx
          refine ⟨?_, 0, ring_zero _ _ (by omega)⟩
          show zN j (p * 11) = -1
          unfold zN
          rw [if_pos (by omega)]
        · cases hx
      · have := (Array.getElem?_eq_some_iff.1 K2.out).1
        omega
end Go.Proofs.YtaloafihbdamiaaGreat

namespace Go.Proofs.YtaloafihbdamiaaGreat
open Go.ChangeShapes Go.WideShapes Go.ChangeAt Go.RowKit
variable {w w' W : World} {F F' T : Nat → Prop} {bq bp o cap p v f i : Nat} {z : Nat → Int} {S : List Prc} {va : Value} {A N L L0 X : List Int} {x y g : Int}

theorem steal_none (h : ∀ m, m < S.length → vic S p ((f + m) % S.length) = false) : stealS S p f = ((0, false), S) := by
  unfold stealS
  have e : (List.range S.length).find? (fun i => vic S p ((f + i) % S.length)) = none := by
    rw [List.find?_eq_none]
    intro m hm
    rw [List.mem_range] at hm
    simp [h m hm]
  rw [e]
theorem steal_some (hi : i < S.length) (h : ∀ m, m < i → vic S p ((f + m) % S.length) = false) (hv : vic S p ((f + i) % S.length) = true) : stealS S p f = takeFrom S p ((f + i) % S.length) := by
  unfold stealS
  have e : (List.range S.length).find? (fun i => vic S p ((f + i) % S.length)) = some i := by
    rw [List.find?_range_eq_some]
    exact ⟨hv, List.mem_range.2 hi, fun j hj => by rw [h j hj]; rfl⟩
  rw [e]
theorem take_one (h : S[v]? = some (y, [])) : takeFrom S p v = ((y, true), S.set v (-1, [])) := by
  unfold takeFrom; rw [get_D h]
theorem take_half (h : S[v]? = some (y, g :: X)) (hp : S[p]? = some (-1, [])) : takeFrom S p v = ((g, true), (S.set v (y, X.drop (X.length / 2))).set p (-1, X.take (X.length / 2))) := by
  unfold takeFrom; rw [get_D h, get_D hp]; rfl
theorem Qs.halve (h : Qs w F bq bp z S va A) (hv : S[v]? = some (y, L0)) (hp : S[p]? = some (x, L)) (hne : v ≠ p) {B C : List Int} (t : Halved 92 bp (S.length * 11) (p * 11) (v * 11 + 1) z B C w w') :
    ∃ z', Qs w' F bq bp z' ((S.set v (y, C)).set p (x, B)) va A ∧ Cha F w w' := by
  obtain ⟨z', f1, f2, h1, h2, h3, h4, h5⟩ := t
  have hlp := get_lt hp
  have hlv := get_lt hv
  have cc : Cha F w w' := h5.mono fun i _ e => by have e : i = bp := e; rw [e]; exact h.fp
  refine ⟨z', ⟨by rw [set_len, set_len]; exact (h5.old bq (h.old _ h.fq) h.ne).trans h.head, by rw [set_len, set_len]; exact h.k1, by rw [set_len, set_len]; exact h.k8, by rw [set_len, set_len]; exact h1, fun q u hu => ?_, h.all.cha h5 (fun g hg e => (h.fv g hg).2.2 e), h.ne, h.fq, h.fp, h.fv, fun i hi => Nat.lt_of_lt_of_le (h.old i hi) h5.size⟩, cc⟩
  by_cases e : q = p
  · subst e
    rw [List.getElem?_set_self (by rw [set_len]; exact hlp)] at hu
    obtain rfl := Option.some.inj hu
    exact ⟨(h4 _ (by omega) (by omega)).trans (h.prc q _ hp).1, f1, h2⟩
  · rw [List.getElem?_set_ne (Ne.symm e)] at hu
    by_cases e2 : q = v
    · subst e2
      rw [List.getElem?_set_self hlv] at hu
      obtain rfl := Option.some.inj hu
      exact ⟨(h4 _ (by omega) (by omega)).trans (h.prc q _ hv).1, f2, h3⟩
    · rw [List.getElem?_set_ne (Ne.symm e2)] at hu
      obtain ⟨a, f', b⟩ := h.prc q u hu
      exact ⟨(h4 _ (by omega) (by omega)).trans a, f', b.congr fun i _ _ => h4 i (by omega) (by omega)⟩

theorem rest_of (s : Int) (k : Nat) (h1 : 1 ≤ k) (h8 : k ≤ 8) : -(k : Int) < s.tmod k ∧ s.tmod k < k ∧ (s.tmod k + k) % k = ((s % k).toNat : Int) := by
  have hk : k = 1 ∨ k = 2 ∨ k = 3 ∨ k = 4 ∨ k = 5 ∨ k = 6 ∨ k = 7 ∨ k = 8 := by omega
  by_cases hs : 0 ≤ s
  · rw [Int.tmod_eq_emod_of_nonneg hs]
    rcases hk with rfl | rfl | rfl | rfl | rfl | rfl | rfl | rfl <;> omega
  · have e : s.tmod (k : Int) = -((-s) % (k : Int)) := by rw [← Int.tmod_eq_emod_of_nonneg (a := -s) (by omega), Int.neg_tmod, Int.neg_neg]
    rw [e]
    clear e
    rcases hk with rfl | rfl | rfl | rfl | rfl | rfl | rfl | rfl <;> omega
/-- What stealing leaves. -/
def Stolen (w : World) (F : Nat → Prop) (bq bp : Nat) (S : List Prc) (A : List Int) (p f : Nat) (e : Ending) (w' : World) : Prop :=
  e = .returned (.tuple #[.int .i64 (stealS S p f).1.1, .bool (stealS S p f).1.2]) ∧ Left w w' F bq bp (stealS S p f).2 A
set_option maxRecDepth 100000 in
set_option maxHeartbeats 1000000 in
theorem steal_any (s : Int) (h : Qs w F bq bp z S va A) (hp : S[p]? = some (-1, [])) :
    Calls Tryz.prog 75 #[.pointer (some ⟨bq, 0, none⟩), .int .i64 (p : Int), .int .i64 s] w (Stolen w F bq bp S A p (s % (S.length : Int)).toNat) := by
  obtain ⟨k, hk⟩ : ∃ k, k = S.length := ⟨_, rfl⟩
  have h1 := h.k1
  have h8 := h.k8
  have hpl := get_lt hp
  have kp := h.ptr
  rw [← hk] at kp h1 h8 hpl ⊢
  obtain ⟨r, hr⟩ : ∃ r, s.tmod (k : Int) = r := ⟨_, rfl⟩
  obtain ⟨hr1, hr2, e3⟩ := rest_of s k h1 h8
  rw [hr] at hr1 hr2 e3
  obtain ⟨f, hf⟩ : ∃ f, f = (s % (k : Int)).toNat := ⟨_, rfl⟩
  rw [← hf] at e3
  have hfk : f < k := by
    have := Int.emod_lt_of_pos s (show (0 : Int) < k by omega)
    have := Int.emod_nonneg s (show (k : Int) ≠ 0 by omega)
    omega
  have e4 : (r + (k : Int)).tmod (k : Int) = (f : Int) := by rw [Int.tmod_eq_emod_of_nonneg (by omega)]; exact e3
  rw [← hf]
  have HP := Lib.hid hp
  have HK := Lib.hid hk
  have Q := Lib.hid h
  have E0 := Lib.hid hr
  have k3 : (p : Int) < k := by omega
  have k4 : (0 : Int) ≤ (p : Int) := by omega
  have k5 : (0 : Int) < (k : Int) := by omega
  clear hp hk h hf
  go_enter Tryz.func75, Tryz.ntmps75
  go_wp2
  go_step3
  go_wp2
  go_region
  go_wp2
  go_step3
  go_wp2
  clear e3 e4 hr1 hr2
  go_loop [33] (fun ix => ∃ i : Nat, i ≤ k ∧ ix = .int .i64 (i : Int) ∧ ∀ m, m < i → vic S p ((f + m) % k) = false) (fun ix => k - (intOf ix).toNat)
  case atStart => exact ⟨0, Nat.zero_le _, rfl, fun m hm => absurd hm (by omega)⟩
  case round =>
    obtain ⟨i, hi, rfl, hno⟩ := hrel
    have HNO := Lib.hid hno
    clear hno
    by_cases hlt : i < k
    · obtain ⟨v, hv⟩ : ∃ v, v = (f + i) % k := ⟨_, rfl⟩
      have hvk : v < k := by rw [hv]; exact Nat.mod_lt _ (by omega)
      have ev : ((f : Int) + (i : Int)) % (k : Int) = (v : Int) := by rw [hv]; simp
      have HV := Lib.hid hv
      clear hv
      have k6 : (v : Int) < k := by omega
      have k7 : (0 : Int) ≤ (v : Int) := by omega
      by_cases hvp : v = p
      · have HN : Hid (∀ m, m < i + 1 → vic S p ((f + m) % k) = false) := Lib.hid fun m hm => by
          by_cases e : m = i
          · rw [e, ← HV.out, hvp]; unfold vic; simp
          · exact HNO.out m (by omega)
        subst hvp
        go_wp2
        go_round
        case rel => exact ⟨i + 1, by omega, by go_num, HN.out⟩
        case measure => simp [intOf]; omega
      · have hvp1 : (v == p) = false := by simpa using hvp
        have hvx := D_get (S := S) (p := v) (by rw [← HK.out]; exact hvk)
        generalize S.getD v (-1, []) = u at *
        obtain ⟨y, L⟩ := u
        obtain ⟨hz, f1, hR⟩ := Q.out.prc v _ hvx
        have hz : z (v * 11) = y := hz
        have C := count_any (P := v * 11) (Q.out.drew.ints) (by rw [← HK.out]; omega) hR
        rw [hz] at C
        have c9 := Q.out.ints.cell (i := v * 11 + 1 + 9) (by rw [← HK.out]; omega)
        rw [hR.len] at c9
        have HC : Hid (vic S p v = (cnt (y, L) != 0)) := Lib.hid (by unfold vic; rw [get_D hvx]; simp [hvp])
        by_cases hc : cnt (y, L) = 0
        · have HN : Hid (∀ m, m < i + 1 → vic S p ((f + m) % k) = false) := Lib.hid fun m hm => by
            by_cases e : m = i
            · rw [e, ← HV.out, HC.out, hc]; rfl
            · exact HNO.out m (by omega)
          rw [hc] at C
          have C : Calls Tryz.prog 72 #[.pointer (some ⟨bp, v * 11, none⟩)] w.drew fun e w' => e = .returned (.int .i64 0) ∧ w.drew = w' := C
          have C := Lib.hid C
          clear hc hR hz hvx c9
          go_wp2_with (go_at_call 72; ((with_reducible refine (C.out).mono ?_); rintro e w1 ⟨rfl, rfl⟩))
          go_round
          case rel => exact ⟨i + 1, by omega, by go_num, HN.out⟩
          case measure => simp [intOf]; omega
        · have HR := Lib.hid (steal_some (S := S) (p := p) (f := f) (by rw [← HK.out]; exact hlt) (by rw [← HK.out]; exact HNO.out) (by rw [← HK.out, ← HV.out, HC.out]; simpa using hc))
          rw [← HK.out, ← HV.out] at HR
          generalize hcn : cnt (y, L) = n at *
          have hc1 : ((n : Int) == 0) = false := by simp; omega
          have C := Lib.hid C
          cases L with
          | nil =>
            have c9 : w.cell? ⟨bp, v * 11 + 1 + 9, none⟩ = some (.int .i64 0) := c9
            have C2 := Lib.hid (next_any (P := v * 11) (Q.out.drew.ints) (by rw [← HK.out]; omega))
            rw [hz] at C2
            have q1 := Lib.hid (Q.out.drew.next hvx (-1))
            have HT := Lib.hid (take_one (p := p) hvx)
            clear hc hR hz hvx hcn
            go_wp2_with (first
              | (go_at_call 72; ((with_reducible refine (C.out).mono ?_); rintro e w1 ⟨rfl, rfl⟩))
              | (go_at_call 70; ((with_reducible refine (C2.out).mono ?_); rintro e w1 ⟨rfl, rfl⟩)))
            rw [Exit.noGoto_ret]
            go_returns
            unfold Stolen
            rw [HR.out, HT.out]
            exact ⟨rfl, left_more (Cha.refl F w) (fun _ h => h) (fun _ h => .inl h) q1.out (((Cha.refl F w).drew).setCell (p := ⟨bp, v * 11, none⟩) (fun _ => Q.out.fp) _) (fun _ h => h) (fun _ h => .inl h)⟩
          | cons g X =>
            have c9 : w.cell? ⟨bp, v * 11 + 1 + 9, none⟩ = some (.int .i64 ((X.length + 1 : Nat) : Int)) := c9
            have hx1 : (((X.length + 1 : Nat) : Int) == 0) = false := by simp; omega
            obtain ⟨_, f2, hR2⟩ := Q.out.prc p _ HP.out
            have hX := hR.n8
            simp only [List.length_cons] at hX
            have C2 := Lib.hid (half_any (P := p * 11) (R := v * 11 + 1) (Q.out.drew.ints) (by rw [← HK.out]; omega) (by rw [← HK.out]; omega) (by omega) hR2 hR (by simp; omega))
            have HVX := Lib.hid hvx
            have HT := Lib.hid (take_half hvx HP.out)
            clear hc hR hz hvx hcn hX hR2
            generalize X.length = xl at *
            go_wp2_with (first
              | (go_at_call 72; ((with_reducible refine (C.out).mono ?_); rintro e w1 ⟨rfl, rfl⟩))
              | (go_at_call 87; ((with_reducible refine (C2.out).mono ?_); rintro e w1 ⟨rfl, hH⟩; have HH := Lib.hid hH; clear hH)))
            rw [Exit.noGoto_ret]
            go_returns
            obtain ⟨z', q', c'⟩ := Q.out.drew.halve HVX.out HP.out hvp HH.out
            unfold Stolen
            rw [HR.out, HT.out]
            exact ⟨rfl, left_more ((Cha.refl F w).drew) (fun _ h => h) (fun _ h => .inl h) q' c' (fun _ h => h) (fun _ h => .inl h)⟩
    · obtain rfl : i = k := by omega
      have HR := Lib.hid (steal_none (S := S) (p := p) (f := f) (by rw [← HK.out]; exact HNO.out))
      go_wp2
      go_returns
      unfold Stolen
      rw [HR.out]
      exact ⟨rfl, left_more (Cha.refl F w) (fun _ h => h) (fun _ h => .inl h) Q.out.drew (Cha.refl F w).drew (fun _ h => h) (fun _ h => .inl h)⟩
end Go.Proofs.YtaloafihbdamiaaGreat

namespace Go.Proofs.YtaloafihbdamiaaGreat
open Go.ChangeShapes Go.WideShapes Go.ChangeAt Go.RowKit
variable {w w' W : World} {F F' T : Nat → Prop} {bq bp : Nat} {z : Nat → Int} {S : List Prc} {va : Value} {A N L L0 X : List Int} {x y : Int}

set_option maxRecDepth 100000 in
theorem slice_tail (g o n cap : Nat) (h1 : 1 ≤ n) (w : World) : (Instr.slice 37 (.slice (some ⟨g, o, none⟩) n cap) (some (.int .i64 1)) none none).run Tryz.prog w = .ok (.slice (some ⟨g, if cap = 1 then o else o + 1, none⟩) (n - 1) (cap - 1)) w := by
  have := run_slice_l (P := Tryz.prog) w 37 (some ⟨g, o, none⟩) n cap Tryz.underlying37 .i64 1 (by omega) (by omega)
  rw [this]
  have e : (Option.map (fun x => x.add (Int.toNat 1 * 1)) (some (⟨g, o, none⟩ : Addr))) = some ⟨g, o + 1, none⟩ := by
    show some ((⟨g, o, none⟩ : Addr).add 1) = _
    unfold Addr.add
    split <;> simp_all
  have e2 : sliced (some ⟨g, o, none⟩) (Int.toNat 1) n cap 1 = .slice (some ⟨g, if cap = 1 then o else o + 1, none⟩) (n - 1) (cap - 1) := by
    unfold sliced
    rw [e]
    show Value.slice (if cap = 1 then _ else _) (n - 1) (cap - 1) = _
    split <;> rfl
  rw [← e2]
  rfl
theorem get_none (p s : Int) (w : World) : Calls Tryz.prog 54 #[.pointer none, .int .i64 p, .int .i64 s] w fun e w' => e = .returned (.tuple #[.int .i64 0, .bool false]) ∧ w = w' := by
  go_enter Tryz.func54, Tryz.ntmps54
  go_wp2
  go_returns
  exact ⟨rfl, rfl⟩
theorem get_bad (p s : Int) (h : Qs w F bq bp z S va A) (hp : p < 0 ∨ (S.length : Int) ≤ p) :
    Calls Tryz.prog 54 #[.pointer (some ⟨bq, 0, none⟩), .int .i64 p, .int .i64 s] w fun e w' => e = .returned (.tuple #[.int .i64 0, .bool false]) ∧ w = w' := by
  have C := Lib.hid (isproc_no p h hp)
  clear h hp
  go_enter Tryz.func54, Tryz.ntmps54
  go_wp2_with (go_at_call 69; ((with_reducible refine (C.out).mono ?_); rintro e w1 ⟨rfl, rfl⟩))
  go_returns
  exact ⟨rfl, rfl⟩
/-- What Get leaves. -/
def Got (w : World) (F : Nat → Prop) (bq bp : Nat) (S : List Prc) (A : List Int) (p f : Nat) (e : Ending) (w' : World) : Prop :=
  e = .returned (.tuple #[.int .i64 (getS S A p f).1.1, .bool (getS S A p f).1.2]) ∧ Left w w' F bq bp (getS S A p f).2.1 (getS S A p f).2.2
theorem get_next {p f : Nat} (h : S[p]? = some (x, L)) (hx : x ≠ -1) : getS S A p f = ((x, true), S.set p (-1, L), A) := by
  unfold getS; rw [get_D h, if_neg hx]
theorem get_own {p f : Nat} {g : Int} (h : S[p]? = some (-1, g :: L)) : getS S A p f = ((g, true), S.set p (-1, L), A) := by
  unfold getS; rw [get_D h]; rfl
theorem get_all {p f : Nat} {g : Int} (h : S[p]? = some (-1, [])) : getS S (g :: A) p f = ((g, true), S, A) := by
  unfold getS; rw [get_D h]; rfl
theorem get_steal {p f : Nat} (h : S[p]? = some (-1, [])) : getS S [] p f = ((stealS S p f).1, (stealS S p f).2, []) := by
  unfold getS; rw [get_D h]; rfl
set_option maxRecDepth 100000 in
theorem get_any (p : Nat) (s : Int) (h : Qs w F bq bp z S va A) (hp : p < S.length) :
    Calls Tryz.prog 54 #[.pointer (some ⟨bq, 0, none⟩), .int .i64 (p : Int), .int .i64 s] w (Got w F bq bp S A p (s % (S.length : Int)).toNat) := by
  have C := Lib.hid (isproc_yes p h hp)
  have h8 := h.k8
  have hpx := D_get hp
  generalize S.getD p (-1, []) = u at *
  obtain ⟨x, L⟩ := u
  obtain ⟨hz, f1, hR⟩ := h.prc p _ hpx
  have hz : z (p * 11) = x := hz
  have c0 := h.ints.cell (i := p * 11) (by omega)
  rw [hz] at c0
  have c9 := h.ints.cell (i := p * 11 + 1 + 9) (by omega)
  rw [hR.len] at c9
  have k1 := h.ptr
  have k2 := h.lst
  have k3 : (p : Int) < S.length := by omega
  have Q := Lib.hid h
  have HP := Lib.hid hpx
  generalize hf : (s % (S.length : Int)).toNat = f
  have HF := Lib.hid hf
  clear hf
  unfold Got
  by_cases hx : x = -1
  · subst hx
    cases L with
    | cons g l =>
      have c9 : w.cell? ⟨bp, p * 11 + 1 + 9, none⟩ = some (.int .i64 ((l.length + 1 : Nat) : Int)) := c9
      have hl1 : decide ((0 : Int) < ((l.length + 1 : Nat) : Int)) = true := decide_eq_true (by omega)
      have C2 := Lib.hid (take_any h.ints (by omega) hR)
      rw [get_own hpx]
      have hn := hR.n8
      simp only [List.length_cons] at hn
      clear h hz hR hpx hp
      generalize l.length = ll at *
      generalize hk : S.length = k at *
      have HK := Lib.hid hk
      clear hk
      go_enter Tryz.func54, Tryz.ntmps54
      go_wp2_with (first
        | (go_at_call 69; ((with_reducible refine (C.out).mono ?_); rintro e w1 ⟨rfl, rfl⟩))
        | (go_at_call 74; ((with_reducible refine (C2.out).mono ?_); rintro e w1 ⟨rfl, hT⟩; have HT := Lib.hid hT; clear hT)))
      go_returns
      obtain ⟨z', q'⟩ := Q.out.turn HP.out (by rw [HK.out]; exact HT.out)
      exact ⟨rfl, left_more (Cha.refl F w) (fun _ h => h) (fun _ h => .inl h) q' (HT.out.cha.mono fun i _ e => by have e : i = bp := e; rw [e]; exact Q.out.fp) (fun _ h => h) (fun _ h => .inl h)⟩
    | nil =>
      have c9 : w.cell? ⟨bp, p * 11 + 1 + 9, none⟩ = some (.int .i64 0) := c9
      cases A with
      | cons g A =>
        rw [get_all hpx]
        obtain ⟨gb, o, cap, rfl, hc, hcap, _⟩ := h.all.at (i := 0) (by simp)
        have hc : w.cell? ⟨gb, o, none⟩ = some (.int .i64 g) := hc
        simp only [List.length_cons] at k2 hcap
        have hsl := slice_tail gb o (A.length + 1) cap (by omega)
        have hlt := h.all
        simp only [List.length_cons] at hlt
        have hq := Lib.hid (h.store (N := A) hlt.tail (fun i hi => h.fv i hi))
        have z1 := h.free 1
        have hl1 : decide ((0 : Int) < ((A.length + 1 : Nat) : Int)) = true := decide_eq_true (by omega)
        rw [Nat.add_sub_cancel] at hsl hq
        obtain ⟨o', ho'⟩ : ∃ o', o' = if cap = 1 then o else o + 1 := ⟨_, rfl⟩
        rw [← ho'] at hsl hq
        clear h hz hR hpx hp hcap hlt ho'
        generalize S.length = k at *
        generalize A.length = n at *
        go_enter Tryz.func54, Tryz.ntmps54
        go_wp2_with (go_at_call 69; ((with_reducible refine (C.out).mono ?_); rintro e w1 ⟨rfl, rfl⟩))
        go_returns
        exact ⟨rfl, left_more (Cha.refl F w) (fun _ h => h) (fun _ h => .inl h) hq.out ((Cha.refl F w).setCell (p := ⟨bq, 1, none⟩) (fun _ => Q.out.fq) _) (fun _ h => h) (fun _ h => .inl h)⟩
      | nil =>
        rw [get_steal hpx]
        obtain ⟨a1, cap1, rfl, _⟩ := h.all.form
        have C3 := Lib.hid (steal_any s h hpx)
        rw [HF.out] at C3
        clear h hz hR hpx hp
        generalize S.length = k at *
        go_enter Tryz.func54, Tryz.ntmps54
        go_wp2_with (first
          | (go_at_call 69; ((with_reducible refine (C.out).mono ?_); rintro e w1 ⟨rfl, rfl⟩))
          | (go_at_call 75; ((with_reducible refine (C3.out).mono ?_); rintro e w1 ⟨rfl, hL⟩; have HL := Lib.hid hL; clear hL)))
        go_returns
        exact ⟨rfl, HL.out⟩
  · rw [get_next hpx hx]
    have hx1 : (x != -1) = true := by simpa using hx
    have C2 := Lib.hid (next_any (P := p * 11) h.ints (by omega))
    rw [hz] at C2
    have q1 := Lib.hid (h.next hpx (-1))
    clear h hz hR hpx hp hx
    generalize S.length = k at *
    go_enter Tryz.func54, Tryz.ntmps54
    go_wp2_with (first
      | (go_at_call 69; ((with_reducible refine (C.out).mono ?_); rintro e w1 ⟨rfl, rfl⟩))
      | (go_at_call 70; ((with_reducible refine (C2.out).mono ?_); rintro e w1 ⟨rfl, rfl⟩)))
    go_returns
    exact ⟨rfl, left_more (Cha.refl F w) (fun _ h => h) (fun _ h => .inl h) q1.out ((Cha.refl F w).setCell (p := ⟨bp, p * 11, none⟩) (fun _ => Q.out.fp) _) (fun _ h => h) (fun _ h => .inl h)⟩
end Go.Proofs.YtaloafihbdamiaaGreat

namespace Go.Proofs.YtaloafihbdamiaaGreat
open Go.ChangeShapes Go.WideShapes Go.ChangeAt Go.RowKit
variable {w0 w w' : World} {bq bp : Nat} {S : List Prc} {A : List Int}

/-- Queues that were made since w0. -/
def Live (w0 w : World) (bq bp : Nat) (s : List Prc × List Int) : Prop := ∃ F z v, Qs w F bq bp z s.1 v s.2 ∧ Cha (fun _ => False) w0 w ∧ ∀ i, F i → w0.heap.size ≤ i
abbrev St := List Prc × List Int
variable {s : St}
theorem Live.same (h : Live w0 w bq bp s) (c : Cha (fun _ => False) w w') : Live w0 w' bq bp s := by
  obtain ⟨F, z, v, q, k, n⟩ := h
  exact ⟨F, z, v, q.same c, k.trans c, n⟩
theorem Live.cha (h : Live w0 w bq bp s) : Cha (fun _ => False) w0 w := by obtain ⟨F, z, v, q, k, n⟩ := h; exact k
theorem live_is {s' : St} (h : Live w0 w bq bp s) (e : s = s') : Live w0 w bq bp s' := e ▸ h
theorem Live.left (h : Live w0 w bq bp s) {s' : St} (k : ∀ F z v, Qs w F bq bp z s.1 v s.2 → Left w w' F bq bp s'.1 s'.2) : Live w0 w' bq bp s' := by
  obtain ⟨F, z, v, q, c, n⟩ := h
  obtain ⟨F', z', v', q', c', s1, n1⟩ := k F z v q
  refine ⟨F', z', v', q', c.over c' (fun i hi => .inr (n i hi)), fun i hi => ?_⟩
  rcases n1 i hi with e | e
  · exact n i e
  · exact Nat.le_trans c.size e
def ini (n : Nat) : St := (List.replicate n (-1, []), [])
def putP (s : St) (p : Nat) (g : Int) : St := putS s.1 s.2 p g
def getP (s : St) (p : Nat) (x : Int) : (Int × Bool) × St := getS s.1 s.2 p (x % (s.1.length : Int)).toNat
theorem live_new (n : Nat) (hc : Cha (fun _ => False) w0 w) (h1 : 1 ≤ n) (h2 : n ≤ 8) : Calls Tryz.prog 14 #[.int .i64 (n : Int)] w fun e w' => e = .returned (.tuple #[.pointer (some ⟨w.heap.size + 1, 0, none⟩), .int .i64 0]) ∧ Live w0 w' (w.heap.size + 1) w.heap.size (ini n) :=
  (new_ok n w h1 h2).mono fun e w' ⟨a, q, c⟩ => ⟨a, _, _, _, q, hc.trans c, fun i hi => by have := hc.size; omega⟩
theorem live_put (h : Live w0 w bq bp s) (p : Nat) (g : Int) (hp : p < s.1.length) (hg : 0 ≤ g) (hA : s.2.length + 5 ≤ 17592186044416) :
    Calls Tryz.prog 51 #[.pointer (some ⟨bq, 0, none⟩), .int .i64 (p : Int), .int .i64 g] w fun e w' => e = .returned (.int .i64 0) ∧ Live w0 w' bq bp (putP s p g) := by
  obtain ⟨F, z, v, q, c, n⟩ := h
  exact (put_any p g q hp hg hA).mono fun e w' ⟨a, l⟩ => ⟨a, by
    obtain ⟨F', z', v', q', c', s1, n1⟩ := l
    refine ⟨F', z', v', q', c.over c' (fun i hi => .inr (n i hi)), fun i hi => ?_⟩
    rcases n1 i hi with e | e
    · exact n i e
    · exact Nat.le_trans c.size e⟩
theorem live_last (h : Live w0 w bq bp s) (g : Int) (hg : 0 ≤ g) (hA : s.2.length + 5 ≤ 17592186044416) :
    Calls Tryz.prog 63 #[.pointer (some ⟨bq, 0, none⟩), .int .i64 g] w fun e w' => e = .returned (.int .i64 0) ∧ Live w0 w' bq bp (s.1, s.2 ++ [g]) := by
  obtain ⟨F, z, v, q, c, n⟩ := h
  exact (last_any g q hg hA).mono fun e w' ⟨a, l⟩ => ⟨a, by
    obtain ⟨F', z', v', q', c', s1, n1⟩ := l
    refine ⟨F', z', v', q', c.over c' (fun i hi => .inr (n i hi)), fun i hi => ?_⟩
    rcases n1 i hi with e | e
    · exact n i e
    · exact Nat.le_trans c.size e⟩
theorem live_get (h : Live w0 w bq bp s) (p : Nat) (x : Int) (hp : p < s.1.length) :
    Calls Tryz.prog 54 #[.pointer (some ⟨bq, 0, none⟩), .int .i64 (p : Int), .int .i64 x] w fun e w' => e = .returned (.tuple #[.int .i64 (getP s p x).1.1, .bool (getP s p x).1.2]) ∧ Live w0 w' bq bp (getP s p x).2 := by
  obtain ⟨F, z, v, q, c, n⟩ := h
  exact (get_any p x q hp).mono fun e w' ⟨a, l⟩ => ⟨a, by
    obtain ⟨F', z', v', q', c', s1, n1⟩ := l
    refine ⟨F', z', v', q', c.over c' (fun i hi => .inr (n i hi)), fun i hi => ?_⟩
    rcases n1 i hi with e | e
    · exact n i e
    · exact Nat.le_trans c.size e⟩
theorem live_waiting (h : Live w0 w bq bp s) (p : Nat) (hp : p < s.1.length) : Calls Tryz.prog 52 #[.pointer (some ⟨bq, 0, none⟩), .int .i64 (p : Int)] w fun e w' => e = .returned (.tuple #[.int .i64 (cnt (s.1.getD p (-1, [])) : Nat), .int .i64 (s.2.length : Nat)]) ∧ Live w0 w' bq bp s := by
  obtain ⟨F, z, v, q, c, n⟩ := h
  exact (waiting_any p q hp).mono fun e w' ⟨a, m, e⟩ => ⟨a, by rw [e]; exact ⟨F, z, v, q.same ((Cha.refl _ w).drewN m), c.drewN m, n⟩⟩
theorem live_bad (h : Live w0 w bq bp s) (p g : Int) (hp : p < 0 ∨ (s.1.length : Int) ≤ p ∨ g < 0) :
    Calls Tryz.prog 51 #[.pointer (some ⟨bq, 0, none⟩), .int .i64 p, .int .i64 g] w fun e w' => e = .returned (.int .i64 1) ∧ w = w' := by
  obtain ⟨F, z, v, q, c, n⟩ := h
  exact put_bad p g q hp

/-- So many put onto processor p, from b on. -/
def puts (s : St) (p : Nat) (b : Int) : Nat → St
  | 0 => s
  | n + 1 => putP (puts s p b n) p (b + n)
theorem putS_len (S : List Prc) (A : List Int) (p : Nat) (g : Int) : (putS S A p g).1.length = S.length := by
  unfold putS
  split
  · exact set_len ..
  · split <;> exact set_len ..
theorem puts_len (s : St) (p : Nat) (b : Int) : ∀ n, (puts s p b n).1.length = s.1.length
  | 0 => rfl
  | n + 1 => (putS_len ..).trans (puts_len s p b n)
theorem putS_all (S : List Prc) (A : List Int) (p : Nat) (g : Int) : (putS S A p g).2.length ≤ A.length + 5 := by
  unfold putS
  split
  · simp
  · split
    · simp
    · simp only [List.length_append, List.length_take, List.length_singleton]; omega
theorem puts_all (s : St) (p : Nat) (b : Int) : ∀ n, (puts s p b n).2.length ≤ s.2.length + 5 * n
  | 0 => by show s.2.length ≤ _; omega
  | n + 1 => by
    have h1 := puts_all s p b n
    have h2 := putS_all (puts s p b n).1 (puts s p b n).2 p (b + n)
    show (putS _ _ _ _).2.length ≤ _
    omega
end Go.Proofs.YtaloafihbdamiaaGreat

namespace Go.Proofs.YtaloafihbdamiaaGreat
open Go.ChangeShapes Go.WideShapes Go.ChangeAt Go.RowKit
variable {S : List Prc} {A L N : List Int} {p v f : Nat} {x y g : Int}

def lens (S : List Prc) : Nat := (S.map fun x => x.2.length).sum
theorem sum_set : ∀ (l : List Nat) (i n : Nat) (h : i < l.length), (l.set i n).sum + l[i] = l.sum + n
  | a :: l, 0, n, _ => by simp; omega
  | a :: l, i + 1, n, h => by
    have := sum_set l i n (by simpa using h)
    simp only [List.set_cons_succ, List.sum_cons, List.getElem_cons_succ]
    omega
theorem lens_set (hp : S[p]? = some (y, L)) (x : Int) (N : List Int) : lens (S.set p (x, N)) + L.length = lens S + N.length := by
  have hl := get_lt hp
  unfold lens
  rw [List.map_set]
  have h2 : p < (S.map fun x : Prc => x.2.length).length := by rw [List.length_map]; exact hl
  have := sum_set (S.map fun x : Prc => x.2.length) p N.length h2
  have e : (S.map fun x : Prc => x.2.length)[p] = L.length := by
    rw [List.getElem_map]
    have := Option.some.inj ((List.getElem?_eq_getElem hl).symm.trans hp)
    rw [this]
  rw [e] at this
  exact this
/-- Queues as they should be, with no more than n numbers. -/
structure Good (n : Nat) (S : List Prc) (A : List Int) : Prop where
  nx : ∀ (p : Nat) (x : Prc), S[p]? = some x → x.1 = -1 ∨ 0 ≤ x.1
  ln : ∀ (p : Nat) (x : Prc), S[p]? = some x → x.2.length ≤ 8
  sum : A.length + lens S ≤ n
theorem Good.set {n m : Nat} (h : Good n S A) (hx : x = -1 ∨ 0 ≤ x) (hN : N.length ≤ 8) {A' : List Int} (hs : A'.length + lens (S.set p (x, N)) ≤ m) : Good m (S.set p (x, N)) A' := by
  refine ⟨fun q u hu => ?_, fun q u hu => ?_, hs⟩
  · by_cases e : q = p
    · subst e
      have hl : q < S.length := by have := get_lt hu; rwa [set_len] at this
      rw [List.getElem?_set_self hl] at hu
      obtain rfl := Option.some.inj hu
      exact hx
    · rw [List.getElem?_set_ne (Ne.symm e)] at hu
      exact h.nx q u hu
  · by_cases e : q = p
    · subst e
      have hl : q < S.length := by have := get_lt hu; rwa [set_len] at this
      rw [List.getElem?_set_self hl] at hu
      obtain rfl := Option.some.inj hu
      exact hN
    · rw [List.getElem?_set_ne (Ne.symm e)] at hu
      exact h.ln q u hu
theorem Good.put {n : Nat} (h : Good n S A) (hp : p < S.length) (hg : 0 ≤ g) : Good (n + 1) (putS S A p g).1 (putS S A p g).2 := by
  have hpx := D_get hp
  unfold putS
  generalize S.getD p (-1, []) = u at *
  obtain ⟨x, L⟩ := u
  dsimp only
  have hs := h.sum
  have hl := h.ln p _ hpx
  dsimp only at hl
  split
  · have := lens_set hpx g L
    dsimp only
    exact h.set (.inr hg) hl (by omega)
  · split
    · have := lens_set hpx g (L ++ [x])
      rw [List.length_append, List.length_singleton] at this
      dsimp only
      exact h.set (.inr hg) (by rw [List.length_append, List.length_singleton]; omega) (by omega)
    · have := lens_set hpx g (L.drop 4)
      rw [List.length_drop] at this
      dsimp only
      refine h.set (.inr hg) (by rw [List.length_drop]; omega) ?_
      rw [List.length_append, List.length_append, List.length_take, List.length_singleton]
      omega
theorem Good.last {n : Nat} (h : Good n S A) (g : Int) : Good (n + 1) S (A ++ [g]) := ⟨h.nx, h.ln, by rw [List.length_append, List.length_singleton]; have := h.sum; omega⟩
theorem Good.more {n m : Nat} (h : Good n S A) (hm : n ≤ m) : Good m S A := ⟨h.nx, h.ln, Nat.le_trans h.sum hm⟩
theorem Good.take {n : Nat} (h : Good n S A) (hp : S[p]? = some (-1, [])) (hv : v < S.length) (hne : v ≠ p) : Good n (takeFrom S p v).2 A := by
  have hvx := D_get hv
  have hl := h.ln v _ hvx
  generalize hu : S.getD v (-1, []) = u at *
  obtain ⟨y, L⟩ := u
  have hs := h.sum
  cases L with
  | nil =>
    rw [take_one hvx]
    have := lens_set hvx (-1) []
    simp only [List.length_nil] at this
    dsimp only
    exact h.set (.inl rfl) (by simp) (by omega)
  | cons g X =>
    rw [take_half hvx hp]
    simp only [List.length_cons] at hl
    have e1 := lens_set hvx y (X.drop (X.length / 2))
    rw [List.length_drop, List.length_cons] at e1
    have h1 : Good n (S.set v (y, X.drop (X.length / 2))) A := h.set (by have := h.nx v _ hvx; exact this) (by rw [List.length_drop]; omega) (by omega)
    have hp2 : (S.set v (y, X.drop (X.length / 2)))[p]? = some (-1, []) := by rw [List.getElem?_set_ne hne]; exact hp
    have e2 := lens_set hp2 (-1) (X.take (X.length / 2))
    rw [List.length_take, List.length_nil] at e2
    dsimp only
    exact h1.set (.inl rfl) (by rw [List.length_take]; omega) (by omega)
theorem Good.steal {n : Nat} (h : Good n S A) (hp : S[p]? = some (-1, [])) (h1 : 1 ≤ S.length) (f : Nat) : Good n (stealS S p f).2 A := by
  unfold stealS
  split
  · exact h
  · rename_i i hi
    have hv := List.find?_some hi
    refine h.take hp (Nat.mod_lt _ (by omega)) ?_
    unfold vic at hv
    simp at hv
    exact hv.1
theorem Good.get {n : Nat} (h : Good n S A) (hp : p < S.length) (f : Nat) : Good n (getS S A p f).2.1 (getS S A p f).2.2 := by
  have hpx := D_get hp
  generalize S.getD p (-1, []) = u at *
  obtain ⟨x, L⟩ := u
  have hs := h.sum
  have hl := h.ln p _ hpx
  by_cases hx : x = -1
  · subst hx
    cases L with
    | cons g l =>
      rw [get_own hpx]
      have := lens_set hpx (-1) l
      simp only [List.length_cons] at this hl
      dsimp only
      exact h.set (.inl rfl) (by omega) (by omega)
    | nil =>
      cases A with
      | cons g A => rw [get_all hpx]; exact ⟨h.nx, h.ln, by simp only [List.length_cons] at hs; dsimp only; omega⟩
      | nil => rw [get_steal hpx]; exact h.steal hpx (by omega) f
  · rw [get_next hpx hx]
    have := lens_set hpx (-1) L
    dsimp only
    exact h.set (N := L) (.inl rfl) hl (by omega)
theorem take_len (S : List Prc) (p v : Nat) : (takeFrom S p v).2.length = S.length := by
  unfold takeFrom
  split
  · exact set_len ..
  · dsimp only; rw [set_len, set_len]
theorem steal_len (S : List Prc) (p f : Nat) : (stealS S p f).2.length = S.length := by
  unfold stealS
  split
  · rfl
  · exact take_len ..
theorem getS_len (S : List Prc) (A : List Int) (p f : Nat) : (getS S A p f).2.1.length = S.length := by
  unfold getS
  split
  · split
    · exact set_len ..
    · split
      · rfl
      · exact steal_len ..
  · exact set_len ..
theorem good_ini (n : Nat) : Good 0 (List.replicate n (-1, [])) [] := by
  refine ⟨fun p x hx => ?_, fun p x hx => ?_, ?_⟩
  · rw [List.getElem?_replicate] at hx
    split at hx
    · obtain rfl := Option.some.inj hx; exact .inl rfl
    · cases hx
  · rw [List.getElem?_replicate] at hx
    split at hx
    · obtain rfl := Option.some.inj hx; simp
    · cases hx
  · simp [lens]
end Go.Proofs.YtaloafihbdamiaaGreat

namespace Go.Proofs.YtaloafihbdamiaaGreat
open Go.ChangeShapes Go.WideShapes Go.ChangeAt Go.RowKit
variable {S : List Prc} {A L N : List Int} {p v f : Nat} {x y g : Int} {F : Int → Nat}

/-- What a processor's numbers weigh; what all do. -/
def pw (F : Int → Nat) (x : Prc) : Nat := (if x.1 = -1 then 0 else F x.1) + (x.2.map F).sum
def wt (F : Int → Nat) (S : List Prc) (A : List Int) : Nat := (A.map F).sum + (S.map (pw F)).sum
theorem wt_set (hp : S[p]? = some (y, L)) (x : Int) (N : List Int) (A' : List Int) : wt F (S.set p (x, N)) A' + pw F (y, L) + (A.map F).sum = wt F S A + pw F (x, N) + (A'.map F).sum := by
  have hl := get_lt hp
  unfold wt
  rw [List.map_set]
  have h2 : p < (S.map (pw F)).length := by rw [List.length_map]; exact hl
  have := sum_set (S.map (pw F)) p (pw F (x, N)) h2
  have e : (S.map (pw F))[p] = pw F (y, L) := by
    rw [List.getElem_map]
    have := Option.some.inj ((List.getElem?_eq_getElem hl).symm.trans hp)
    rw [this]
  rw [e] at this
  omega
theorem pw_none (F : Int → Nat) (L : List Int) : pw F (-1, L) = (L.map F).sum := by simp [pw]
theorem pw_some (F : Int → Nat) (L : List Int) (h : x ≠ -1) : pw F (x, L) = F x + (L.map F).sum := by simp [pw, h]
theorem sum_split (F : Int → Nat) (L : List Int) (k : Nat) : (L.map F).sum = ((L.take k).map F).sum + ((L.drop k).map F).sum := by
  conv => lhs; rw [← List.take_append_drop k L]
  rw [List.map_append, List.sum_append]
theorem wt_put (hp : p < S.length) (hg : 0 ≤ g) : wt F (putS S A p g).1 (putS S A p g).2 = wt F S A + F g := by
  have hpx := D_get hp
  unfold putS
  generalize S.getD p (-1, []) = u at *
  obtain ⟨x, L⟩ := u
  dsimp only
  have hgn : g ≠ -1 := by omega
  split
  · rename_i hx
    have hx : x = -1 := hx
    subst hx
    have := wt_set (F := F) (A := A) hpx g L A
    rw [pw_none, pw_some _ _ hgn] at this
    dsimp only
    omega
  · rename_i hx
    have hx : x ≠ -1 := hx
    split
    · have := wt_set (F := F) (A := A) hpx g (L ++ [x]) A
      rw [pw_some _ _ hx, pw_some _ _ hgn, List.map_append, List.sum_append] at this
      simp only [List.map_cons, List.map_nil, List.sum_cons, List.sum_nil] at this
      dsimp only
      omega
    · have := wt_set (F := F) (A := A) hpx g (L.drop 4) (A ++ (L.take 4 ++ [x]))
      rw [pw_some _ _ hx, pw_some _ _ hgn, List.map_append, List.sum_append, List.map_append, List.sum_append] at this
      simp only [List.map_cons, List.map_nil, List.sum_cons, List.sum_nil] at this
      have h4 := sum_split F L 4
      dsimp only
      omega
theorem wt_last : wt F S (A ++ [g]) = wt F S A + F g := by
  unfold wt
  rw [List.map_append, List.sum_append]
  simp
  omega
theorem sum_zero {l : List Nat} (h : ∀ x ∈ l, x = 0) : l.sum = 0 := by
  induction l with
  | nil => rfl
  | cons a l ih => rw [List.sum_cons, h a (by simp), ih (fun x hx => h x (by simp [hx]))]
/-- Get, weighed. -/
theorem wt_take (hp : S[p]? = some (-1, [])) (hv : v < S.length) (hne : v ≠ p) (hc : cnt (S.getD v (-1, [])) ≠ 0) : (takeFrom S p v).1.2 = true ∧ wt F S A = wt F (takeFrom S p v).2 A + F (takeFrom S p v).1.1 := by
  have hvx := D_get hv
  generalize hu : S.getD v (-1, []) = u at *
  obtain ⟨y, L⟩ := u
  cases L with
  | nil =>
    have hy : y ≠ -1 := fun e => by subst e; simp [cnt] at hc
    rw [take_one hvx]
    have := wt_set (F := F) (A := A) hvx (-1) [] A
    rw [pw_none, pw_some _ _ hy] at this
    simp only [List.map_nil, List.sum_nil] at this
    exact ⟨rfl, by dsimp only; omega⟩
  | cons g X =>
    rw [take_half hvx hp]
    have e1 := wt_set (F := F) (A := A) hvx y (X.drop (X.length / 2)) A
    have hp2 : (S.set v (y, X.drop (X.length / 2)))[p]? = some (-1, []) := by rw [List.getElem?_set_ne hne]; exact hp
    have e2 := wt_set (F := F) (A := A) hp2 (-1) (X.take (X.length / 2)) A
    rw [pw_none, pw_none] at e2
    have h4 := sum_split F X (X.length / 2)
    unfold pw at e1
    simp only [List.map_cons, List.sum_cons, List.map_nil, List.sum_nil] at e1 e2
    exact ⟨rfl, by dsimp only; omega⟩
theorem find_all {k : Nat} (hf : f < k) (hv : v < k) : ∃ m, m < k ∧ (f + m) % k = v := by
  refine ⟨(v + k - f) % k, Nat.mod_lt _ (by omega), ?_⟩
  rw [Nat.add_mod_mod, show f + (v + k - f) = v + k by omega, Nat.add_mod_right, Nat.mod_eq_of_lt hv]
theorem wt_get (hp : p < S.length) (hf : f < S.length) : ((getS S A p f).1.2 = true ∧ wt F S A = wt F (getS S A p f).2.1 (getS S A p f).2.2 + F (getS S A p f).1.1) ∨ ((getS S A p f).1 = (0, false) ∧ (getS S A p f).2 = (S, A) ∧ wt F S A = 0) := by
  have hpx := D_get hp
  generalize S.getD p (-1, []) = u at *
  obtain ⟨x, L⟩ := u
  by_cases hx : x = -1
  · subst hx
    cases L with
    | cons g l =>
      left
      rw [get_own hpx]
      have := wt_set (F := F) (A := A) hpx (-1) l A
      rw [pw_none, pw_none] at this
      simp only [List.map_cons, List.sum_cons] at this
      exact ⟨rfl, by dsimp only; omega⟩
    | nil =>
      cases A with
      | cons g A =>
        left
        rw [get_all hpx]
        unfold wt
        simp only [List.map_cons, List.sum_cons]
        exact ⟨trivial, by omega⟩
      | nil =>
        rw [get_steal hpx]
        unfold stealS
        split
        · rename_i hno
          right
          refine ⟨rfl, rfl, ?_⟩
          rw [List.find?_eq_none] at hno
          unfold wt
          rw [List.map_nil, List.sum_nil, Nat.zero_add]
          refine sum_zero fun y hy => ?_
          obtain ⟨u, hu, rfl⟩ := List.mem_map.1 hy
          obtain ⟨v, hv, rfl⟩ := List.mem_iff_getElem.1 hu
          by_cases e : v = p
          · subst e
            have := Option.some.inj ((List.getElem?_eq_getElem hv).symm.trans hpx)
            rw [this, pw_none]; rfl
          · obtain ⟨m, hm, hm2⟩ := find_all hf hv
            have := hno m (List.mem_range.2 hm)
            rw [hm2] at this
            unfold vic at this
            rw [get_D (List.getElem?_eq_getElem hv)] at this
            simp [e] at this
            generalize S[v] = u at *
            obtain ⟨a, l⟩ := u
            unfold cnt at this
            dsimp only at this
            split at this
            · rename_i ha
              subst ha
              have hl : l = [] := List.eq_nil_of_length_eq_zero this
              subst hl
              rfl
            · omega
        · rename_i i hi
          left
          have hv := List.find?_some hi
          unfold vic at hv
          simp at hv
          exact wt_take hpx (Nat.mod_lt _ (by omega)) hv.1 hv.2
  · left
    rw [get_next hpx hx]
    have := wt_set (F := F) (A := A) hpx (-1) L A
    rw [pw_none, pw_some _ _ hx] at this
    exact ⟨rfl, by dsimp only; omega⟩
theorem sum_le {l : List Int} {F : Int → Nat} (h : (l.map fun _ => 1).sum = 0) : (l.map F).sum = 0 := by
  cases l with
  | nil => rfl
  | cons a l => simp at h
theorem wt_zero (h : wt (fun _ => 1) S A = 0) : wt F S A = 0 := by
  unfold wt at h ⊢
  rw [sum_le (F := F) (by omega), Nat.zero_add]
  have h2 : (S.map (pw fun _ => 1)).sum = 0 := by omega
  clear h
  induction S with
  | nil => rfl
  | cons u S ih =>
    rw [List.map_cons, List.sum_cons] at h2 ⊢
    rw [ih (by omega), Nat.add_zero]
    obtain ⟨a, l⟩ := u
    have h3 : pw (fun _ => 1) (a, l) = 0 := by omega
    unfold pw at h3 ⊢
    dsimp only at h3 ⊢
    rw [sum_le (F := F) (by omega)]
    by_cases e : a = -1
    · rw [if_pos e]
    · rw [if_neg e] at h3; omega
theorem len_wt : A.length ≤ wt (fun _ => 1) S A := by
  unfold wt
  have : (A.map fun _ : Int => 1).sum = A.length := by
    induction A with
    | nil => rfl
    | cons a l ih => rw [List.map_cons, List.sum_cons, ih, List.length_cons]; omega
  omega

/-- One number's weight. -/
def one (n : Int) : Int → Nat := fun x => if x = n then 1 else 0
/-- Of each number that was put, one: seen, or still in the queues. -/
structure Inv (g : Nat) (sn : Nat → Nat) (S : List Prc) (A : List Int) (out : Nat) : Prop where
  occ : ∀ n : Nat, sn n + wt (one (n : Int)) S A = if n < g then 1 else 0
  neg : ∀ n : Int, n < 0 → wt (one n) S A = 0
  tot : wt (fun _ => 1) S A + out = g
theorem Inv.add {sn : Nat → Nat} {out k : Nat} {S' : List Prc} {A' : List Int} (h : Inv k sn S A out) (hw : ∀ F : Int → Nat, wt F S' A' = wt F S A + F (k : Int)) : Inv (k + 1) sn S' A' out := by
  refine ⟨fun n => ?_, fun n hn => ?_, ?_⟩
  · have := h.occ n
    rw [hw]
    unfold one at *
    by_cases e : n = k
    · subst e; rw [if_pos rfl, if_pos (by omega)]; rw [if_neg (by omega)] at this; omega
    · rw [if_neg (show ¬ (k : Int) = (n : Int) by omega)]
      by_cases c : n < k
      · rw [if_pos c] at this; rw [if_pos (by omega)]; omega
      · rw [if_neg c] at this; rw [if_neg (by omega)]; omega
  · have := h.neg n hn
    rw [hw]
    unfold one at *
    rw [if_neg (by omega)]; omega
  · have := h.tot
    rw [hw]; omega
theorem Inv.take {sn : Nat → Nat} {out k : Nat} {S' : List Prc} {A' : List Int} (h : Inv k sn S A out) (hw : ∀ F : Int → Nat, wt F S A = wt F S' A' + F x) : ∃ n : Nat, x = (n : Int) ∧ n < k ∧ sn n = 0 ∧ out < k ∧ Inv k (fun i => if i = n then 1 else sn i) S' A' (out + 1) := by
  have hx : 0 ≤ x := by
    by_cases c : 0 ≤ x
    · exact c
    · have a := h.neg x (by omega)
      have b := hw (one x)
      unfold one at a b
      rw [if_pos rfl] at b
      omega
  obtain ⟨n, rfl⟩ : ∃ n : Nat, x = (n : Int) := ⟨x.toNat, by omega⟩
  have a := h.occ n
  have b := hw (one (n : Int))
  have t := h.tot
  have t2 := hw (fun _ => 1)
  have e1 : one (n : Int) (n : Int) = 1 := if_pos rfl
  rw [e1] at b
  have hk : n < k := by
    by_cases c : n < k
    · exact c
    · rw [if_neg c] at a; omega
  rw [if_pos hk] at a
  refine ⟨n, rfl, hk, by omega, by omega, fun m => ?_, fun m hm => ?_, by omega⟩
  · have am := h.occ m
    have bm := hw (one (m : Int))
    try dsimp only
    by_cases e : m = n
    · subst e; rw [if_pos rfl, if_pos hk]; omega
    · have e2 : one (m : Int) (n : Int) = 0 := if_neg (by omega)
      rw [if_neg e]
      rw [e2] at bm
      omega
  · have am := h.neg m hm
    have bm := hw (one m)
    omega
theorem inv_ini (n : Nat) : Inv 0 (fun _ => 0) (List.replicate n (-1, [])) [] 0 := by
  have e : ∀ F : Int → Nat, wt F (List.replicate n (-1, [])) [] = 0 := fun F => by
    unfold wt
    rw [List.map_replicate, pw_none]
    simp
  exact ⟨fun n => by rw [e]; rfl, fun _ _ => e _, by rw [e]⟩
end Go.Proofs.YtaloafihbdamiaaGreat
