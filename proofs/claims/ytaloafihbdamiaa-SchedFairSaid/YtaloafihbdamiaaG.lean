/- Contracts of layer 10: isProc, layBehind, Put, Last, Waiting. -/
import Derived.Test.YtaloafihbdamiaaE
import Derived.Handy
namespace Go.Proofs.Ytaloafihbdamiaa
open Go.ChangeShapes Go.WideShapes Go.ChangeAt Go.RowKit
variable {w w' W : World} {F F' T : Nat → Prop} {bq bp g o cap : Nat} {z : Nat → Int} {S : List Prc} {v : Value} {A N L L0 : List Int} {x y : Int}

theorem Qs.ptr (h : Qs w F bq bp z S v A) : w.cell? ⟨bq, 0, none⟩ = some (.slice (some ⟨bp, 0, none⟩) S.length S.length) := cell_of_row w bq 0 _ 80 (0, 0) h.head
theorem Qs.lst (h : Qs w F bq bp z S v A) : w.cell? ⟨bq, 1, none⟩ = some v := cell_of_row w bq 1 _ 80 (0, 0) h.head
theorem Qs.free (h : Qs w F bq bp z S v A) (i : Nat) : w.frozen? ⟨bq, i, none⟩ = false := frozen_of_row w bq i _ 80 h.head
theorem isproc_yes (p : Nat) (h : Qs w F bq bp z S v A) (hp : p < S.length) : Calls Try.prog 47 #[.pointer (some ⟨bq, 0, none⟩), .int .i64 (p : Int)] w fun e w' => e = .returned (.bool true) ∧ w = w' := by
  have c := h.ptr
  have h8 := h.k8
  clear h
  generalize S.length = n at *
  have hp2 : (p : Int) < n := by omega
  have hp1 : (0 : Int) ≤ (p : Int) := by omega
  go_enter Try.func47, Try.ntmps47
  go_wp2
  go_ret
  exact ⟨rfl, rfl⟩
theorem isproc_no (p : Int) (h : Qs w F bq bp z S v A) (hp : p < 0 ∨ (S.length : Int) ≤ p) : Calls Try.prog 47 #[.pointer (some ⟨bq, 0, none⟩), .int .i64 p] w fun e w' => e = .returned (.bool false) ∧ w = w' := by
  have c := h.ptr
  have h8 := h.k8
  clear h
  generalize S.length = n at *
  by_cases h0 : p < 0
  · have h1 : decide (0 ≤ p) = false := by simpa using h0
    clear hp
    go_enter Try.func47, Try.ntmps47
    go_wp2
    go_ret
    exact ⟨rfl, rfl⟩
  · have h1 : 0 ≤ p := by omega
    have h2 : decide (p < (n : Int)) = false := by simp; omega
    clear hp h0
    go_enter Try.func47, Try.ntmps47
    go_wp2
    go_ret
    exact ⟨rfl, rfl⟩

theorem Turned.cha {t : TypeId} {b m o : Nat} {z : Nat → Int} {L : List Int} (h : Turned t b m o z L w w') : Cha (fun i => i = b) w w' := by
  obtain ⟨_, _, _, _, _, c⟩ := h
  exact c
theorem Cha.but (h : Cha (fun i => i = bp) w w') (hne : bq ≠ bp) : Cha (fun i => i ≠ bq) w w' := h.mono fun i _ e => by
  have e : i = bp := e
  show i ≠ bq
  omega
/-- A cell of the queues' block stays wherever else something changes. -/
theorem Qs.keeps (h : Qs w F bq bp z S v A) {W' : World} (hc : Cha (fun i => i ≠ bq) w W') (i : Nat) : W'.cell? ⟨bq, i, none⟩ = w.cell? ⟨bq, i, none⟩ ∧ W'.frozen? ⟨bq, i, none⟩ = false := by
  have e := (hc.old bq (h.old _ h.fq) (fun e => e rfl)).trans h.head
  exact ⟨by rw [cell_of_row W' bq i _ 80 (0, 0) e, cell_of_row w bq i _ 80 (0, 0) h.head], frozen_of_row W' bq i _ 80 e⟩
theorem own_slice (g o n cap : Nat) : (Value.slice (some ⟨g, o, none⟩) n cap).ownBlock = some g := rfl

theorem behind_room (p : Nat) (x : Int) (h : Qs w F bq bp z S v A) (hp : S[p]? = some (y, L)) (hl : L.length < 8) :
    Calls Try.prog 49 #[.pointer (some ⟨bq, 0, none⟩), .pointer (some ⟨bp, p * 11, none⟩), .int .i64 x] w fun e w' => e = .returned (.tuple #[]) ∧ Left w w' F bq bp (S.set p (y, L ++ [x])) A := by
  obtain ⟨hz, f, hR⟩ := h.prc p _ hp
  have hpl := get_lt hp
  have c9 := h.ints.cell (i := p * 11 + 1 + 9) (by omega)
  have hR : Ring z (p * 11 + 1) f L := hR
  rw [hR.len] at c9
  have C := Lib.hid (push_any (g := x) h.ints (by omega) hR hl)
  have H := Lib.hid h
  have HP := Lib.hid hp
  generalize hn : L.length = n at *
  have HN := Lib.hid hn
  clear h hz hR hp hn hpl
  have hl2 : (n : Int) < 8 := by omega
  go_enter Try.func49, Try.ntmps49
  go_wp2_with (go_at_call 61; ((with_reducible refine (C.out).mono ?_); rintro e w1 ⟨rfl, hT⟩; have HT := Lib.hid hT; clear hT))
  go_returns
  obtain ⟨z', q⟩ := H.out.turn HP.out HT.out
  obtain ⟨_, _, _, _, _, c⟩ := HT.out
  exact ⟨rfl, F, z', v, q, c.mono fun i _ e => by have e : i = bp := e; rw [e]; exact H.out.fp, fun _ h => h, fun _ h => .inl h⟩


/-- A list for all that has grown, and what changed. -/
theorem Qs.grown {w2 w3 : World} {F1 : Nat → Prop} {S1 : List Prc} {A1 : List Int} {z2 : Nat → Int} {ob : Obj} (hq : Qs W F1 bq bp z S v A) (c2 : Cha F1 W w2) (q2 : Qs w2 F1 bq bp z2 S1 v A1) (a : App (w2.alloc ob) w3 v A1 N g o cap) (x : Value) :
    Cha F1 W (w3.setCell ⟨bq, 1, none⟩ x) ∧ (∀ i, F1 i ∨ i = g → F1 i ∨ W.heap.size ≤ i) := by
  refine ⟨((c2.alloc _).trans (a.cha.mono fun i _ e => (q2.fv i e).1)).setCell (p := ⟨bq, 1, none⟩) (fun _ => hq.fq) x, fun i hi => ?_⟩
  rcases hi with hi | rfl
  · exact .inl hi
  · rcases a.at' with e | e
    · exact .inl (q2.fv _ e).1
    · refine .inr (Nat.le_trans c2.size ?_)
      rw [World.size_alloc] at e
      omega
theorem left_more {F1 F2 : Nat → Prop} (hc : Cha F w W) (hs : ∀ i, F i → F1 i) (hn : ∀ i, F1 i → F i ∨ w.heap.size ≤ i) (q : Qs w' F2 bq bp z S v A) (c : Cha F1 W w') (s2 : ∀ i, F1 i → F2 i) (n2 : ∀ i, F2 i → F1 i ∨ W.heap.size ≤ i) : Left w w' F bq bp S A :=
  ⟨F2, z, v, q, hc.over c hn, fun i hi => s2 i (hs i hi), fun i hi => by
    rcases n2 i hi with e | e
    · exact hn i e
    · exact .inr (Nat.le_trans hc.size e)⟩
theorem drop_get {j : Nat} (L : List Int) (h : j < L.length) : L.drop j = L.getD j 0 :: L.drop (j + 1) := by
  rw [List.drop_eq_getElem_cons h]; simp [List.getD, List.getElem?_eq_getElem h]
theorem take_get {j : Nat} (L : List Int) (h : j < L.length) : L.take (j + 1) = L.take j ++ [L.getD j 0] := by
  rw [List.take_succ_eq_append_getElem h]; simp [List.getD, List.getElem?_eq_getElem h]
set_option maxRecDepth 100000 in
set_option maxHeartbeats 1000000 in
theorem behind_full (p : Nat) (x : Int) (h : Qs w F bq bp z S v A) (hp : S[p]? = some (y, L)) (hl : L.length = 8) (hA : A.length + 5 ≤ 17592186044416) :
    Calls Try.prog 49 #[.pointer (some ⟨bq, 0, none⟩), .pointer (some ⟨bp, p * 11, none⟩), .int .i64 x] w fun e w' => e = .returned (.tuple #[]) ∧ Left w w' F bq bp (S.set p (y, L.drop 4)) (A ++ (L.take 4 ++ [x])) := by
  obtain ⟨hz, f, hR⟩ := h.prc p _ hp
  have hpl := get_lt hp
  have c9 := h.ints.cell (i := p * 11 + 1 + 9) (by omega)
  have hR : Ring z (p * 11 + 1) f L := hR
  rw [hR.len, hl] at c9
  have H0 : Hid (Left w w F bq bp (S.set p (y, L.drop 0)) (A ++ L.take 0)) := Lib.hid ⟨F, z, v, by
    rw [List.drop_zero, List.take_zero, List.append_nil]
    have e : S.set p (y, L) = S := by rw [← (Option.some.inj ((List.getElem?_eq_getElem hpl).symm.trans hp))]; exact List.set_getElem_self hpl
    rw [e]; exact h, Cha.refl _ _, fun _ h => h, fun _ h => .inl h⟩
  have HP := Lib.hid hp
  have HL := Lib.hid hl
  have HPL := Lib.hid hpl
  clear h hz hR hp hl hpl
  go_enter Try.func49, Try.ntmps49
  go_wp2
  go_loopw [17] (fun i wr => ∃ j : Nat, j ≤ 4 ∧ i = .int .i64 (j : Int) ∧ Left w wr F bq bp (S.set p (y, L.drop j)) (A ++ L.take j)) (fun i _ => 4 - (intOf i).toNat)
  case atStart => exact ⟨0, by omega, rfl, H0.out⟩
  case round =>
    clear H0
    obtain ⟨j, hj, rfl, hL⟩ := hrel
    by_cases hlt : j < 4
    · obtain ⟨F1, z1, v1, q, c, s, n⟩ := hL
      have hp1 : (S.set p (y, L.drop j))[p]? = some (y, L.getD j 0 :: L.drop (j + 1)) := by rw [List.getElem?_set_self HPL.out, drop_get L (by have := HL.out; omega)]
      obtain ⟨_, f1, r1⟩ := q.prc p _ hp1
      have C1 := Lib.hid (take_any q.drew.ints (by rw [set_len]; have := HPL.out; omega) r1)
      obtain ⟨a1, cap1, rfl, _⟩ := q.all.form
      have hA1 : (A ++ L.take j).length ≤ A.length + 4 := by rw [List.length_append, List.length_take]; omega
      have HT := Lib.hid (take_get L (j := j) (by have := HL.out; omega))
      generalize hAj : A ++ L.take j = A1 at *
      generalize L.getD j 0 = u at *
      have HAj := Lib.hid hAj
      have HP1 := Lib.hid hp1
      have Q := Lib.hid q.drew
      have HN := Lib.hid n
      have HS := Lib.hid s
      have HC := Lib.hid c
      have KX : Hid (∀ W', Cha (fun i => i ≠ bq) wr.drew W' → W'.cell? ⟨bq, 1, none⟩ = some (.slice a1 A1.length cap1) ∧ W'.frozen? ⟨bq, 1, none⟩ = false) := Lib.hid fun W' hc => by
        obtain ⟨e1, e2⟩ := Q.out.keeps hc 1
        exact ⟨e1.trans Q.out.lst, e2⟩
      clear q r1 hp1 n s c hAj
      go_wp2
      obtain ⟨k1, k2⟩ := KX.out wr.drew (Cha.refl _ _)
      go_region_law (first
        | (go_simp; go_at_call 52; go_loud (refine (C1.out).mono ?_; rintro e w2 ⟨rfl, hT⟩; obtain ⟨z2, q2⟩ := Q.out.turn HP1.out hT; have Q2 := Lib.hid q2; have hbq := q2.old _ q2.fq; have c2 := Lib.hid hT.cha; obtain ⟨k3, k4⟩ := KX.out w2 (c2.out.but Q2.out.ne); clear q2 hT))
        | (refine step_app (by rfl) (.tmp 23) (.tmp 28) (by rfl) (v := .slice a1 A1.length cap1) (A := A1) (by rfl) (Q2.out.all.cha ((Cha.refl (fun _ => False) w2).alloc _) (fun _ _ f => f)) ⟨w2.heap.size, 0, none⟩ 1 1 [u] (by rfl) rfl (one_new _ _ _) Nat.zero_lt_one (by simp only [List.length_singleton]; omega) ?_; intro g3 o3 cap3 w3 hA3; obtain ⟨k5, k6⟩ := KX.out w3 (((c2.out.but Q2.out.ne).alloc _).trans (hA3.cha.mono fun i _ e => (Q2.out.fv i e).2.1)); have A3 := Lib.hid hA3; clear hA3))
      all_goals
        have q3 := (Q2.out.same ((Cha.refl (fun _ => False) w2).alloc (.cells #[.int .i64 u] 3))).app A3.out
        rw [List.set_set] at q3
        obtain ⟨c3, n3⟩ := Q.out.grown (c2.out.mono fun i _ e => by have e : i = bp := e; rw [e]; exact Q.out.fp) Q2.out A3.out (.slice (some ⟨g3, o3, none⟩) (A1.length + [u].length) cap3)
        have HL3 := Lib.hid (left_more HC.out.drew HS.out HN.out q3 c3 (fun _ h => .inl h) n3)
        have eA : A1 ++ [u] = A ++ L.take (j + 1) := by rw [HT.out, ← List.append_assoc, HAj.out]
        rw [eA] at HL3
        clear eA
        clear q3 c3 n3 k1 k2 k3 k4 k5 k6
        go_wp2
        go_roundw
        case rel => exact ⟨j + 1, by omega, by go_num, HL3.out⟩
        case measure => simp [intOf]; omega
    · obtain rfl : j = 4 := by omega
      obtain ⟨F1, z1, v1, q, c, s, n⟩ := hL
      obtain ⟨a1, cap1, rfl, _⟩ := q.all.form
      have hA1 : (A ++ L.take 4).length ≤ A.length + 4 := by rw [List.length_append, List.length_take]; omega
      generalize hAj : A ++ L.take 4 = A1 at *
      have HAj := Lib.hid hAj
      have Q := Lib.hid q
      have HN := Lib.hid n
      have HS := Lib.hid s
      have HC := Lib.hid c
      have k1 := q.lst
      have k2 := q.free 1
      have hbq := q.old _ q.fq
      have KX : Hid (∀ W', Cha (fun i => i ≠ bq) wr W' → W'.cell? ⟨bq, 1, none⟩ = some (.slice a1 A1.length cap1) ∧ W'.frozen? ⟨bq, 1, none⟩ = false) := Lib.hid fun W' hc => by
        obtain ⟨e1, e2⟩ := Q.out.keeps hc 1
        exact ⟨e1.trans Q.out.lst, e2⟩
      clear q n s c hAj
      go_wp2_with (refine wpList_app rfl (.tmp 37) (.tmp 39) rfl (v := .slice a1 A1.length cap1) (A := A1) rfl (Q.out.all.cha ((Cha.refl (fun _ => False) wr).alloc _) (fun _ _ f => f)) ⟨wr.heap.size, 0, none⟩ 1 1 [x] rfl rfl (one_new _ _ _) Nat.zero_lt_one (by simp only [List.length_singleton]; omega) ?_; intro g3 o3 cap3 w3 hA3; obtain ⟨k5, k6⟩ := KX.out w3 (((Cha.refl _ wr).alloc _).trans (hA3.cha.mono fun i _ e => (Q.out.fv i e).2.1)); have A3 := Lib.hid hA3; clear hA3)
      go_returns
      have q3 := (Q.out.same ((Cha.refl (fun _ => False) wr).alloc (.cells #[.int .i64 x] 3))).app A3.out
      obtain ⟨c3, n3⟩ := Q.out.grown (Cha.refl _ _) Q.out A3.out (.slice (some ⟨g3, o3, none⟩) (A1.length + [x].length) cap3)
      have HL3 := left_more HC.out HS.out HN.out q3 c3 (fun _ h => .inl h) n3
      have eA : A1 ++ [x] = A ++ (L.take 4 ++ [x]) := by rw [← List.append_assoc, HAj.out]
      rw [eA] at HL3
      exact ⟨rfl, HL3⟩
end Go.Proofs.Ytaloafihbdamiaa
