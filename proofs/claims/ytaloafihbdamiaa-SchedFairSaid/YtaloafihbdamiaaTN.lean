/- Timers: Due, of what is wrong; a list's ids, one behind the other. -/
import Derived.Test.YtaloafihbdamiaaTL
import Derived.Test.YtaloafihbdamiaaTM
import Derived.Deep.CutBlock
namespace Go.Proofs.Ytaloafihbdamiaa
open Go.ChangeShapes Go.WideShapes Go.ChangeAt Go.RowKit
variable {w w' : World} {F F' : Nat → Prop} {bt bp : Nat} {lv : Nat → Value} {P : List (List Ent)} {a x now : Int} {y : Ent} {E L L2 : List Ent} {v v' : Value}

theorem delete_any {j : Nat} (h : Ents w v E) (hj : j ≤ E.length) : Calls Try.prog 62 #[v, .int .i64 0, .int .i64 (j : Int)] w (Cut w v E j) := by
  by_cases h0 : j = 0
  · subst h0; exact delete_zero h
  · rcases h.2 with ⟨e, e0⟩ | ⟨g, cap, cur, e, r⟩
    · omega
    · subst e
      by_cases hc : cap = j
      · have hn : j = E.length := by have := r.2.2.1; omega
        subst hc
        have := delete_whole g cap h hn (by omega)
        rw [← hn]
        exact this
      · exact delete_some g cap j h hj (by omega) hc
theorem tdue_none (p now : Int) (w : World) : Calls Try.prog 51 #[.pointer none, .int .i64 p, .int .u64 now] w fun e w' => e = .returned (.slice none 0 0) ∧ w = w' := by
  go_enter Try.func51, Try.ntmps51
  go_wp2
  go_ret
  exact ⟨rfl, rfl⟩
theorem tdue_bad (p now : Int) (h : Ts w F bt bp lv P a) (hp : p < 0 ∨ (P.length : Int) ≤ p) : Calls Try.prog 51 #[.pointer (some ⟨bt, 0, none⟩), .int .i64 p, .int .u64 now] w fun e w' => e = .returned (.slice none 0 0) ∧ w = w' := by
  have C := Lib.hid (tisproc_no p h hp)
  clear h hp
  go_enter Try.func51, Try.ntmps51
  go_wp2_with (go_at_call 43; ((with_reducible refine (C.out).mono ?_); rintro e w1 ⟨rfl, rfl⟩))
  go_ret
  exact ⟨rfl, rfl⟩
/-- So many ids: what was just laid behind a box. -/
theorem one_new2 (w : World) (x : Int) (bs : Array Value) : ∀ j u, (iz [x])[j]? = some u → ((w.alloc (.cells bs 93)).alloc (.cells #[.int .i64 x] 3)).cell? ((⟨w.heap.size + 1, 0, none⟩ : Addr).add j) = some u := by
  have h := one_new (w.alloc (.cells bs 93)) x 3
  rw [World.size_alloc] at h
  exact h
/-- So many of a list's ids stand in a new one. -/
structure Told (w : World) (L : List Ent) (now : Int) (j : Nat) (v : Value) (wr : World) : Prop where
  le : j ≤ L.length
  lo : ∀ i, i < j → (L.getD i ⟨0, 0, 0⟩).when ≤ now
  lies : Lies wr v ((L.take j).map Ent.id)
  own : ∀ g, v.ownBlock = some g → w.heap.size ≤ g
  cha : Cha (fun _ => False) w wr
theorem Told.more {wr w3 : World} {j g o cap : Nat} {z : Int} {bs : Array Value} (h : Told w L now j v wr) (hj : j < L.length) (hw : (L.getD j ⟨0, 0, 0⟩).when ≤ now) (hz : z = (L.getD j ⟨0, 0, 0⟩).id)
    (hA : App ((wr.alloc (.cells bs 93)).alloc (.cells #[.int .i64 z] 3)) w3 v ((L.take j).map Ent.id) [z] g o cap) : Told w L now (j + 1) (.slice (some ⟨g, o, none⟩) (j + 1) cap) w3 := by
  have c1 : Cha (fun _ => False) w ((wr.alloc (.cells bs 93)).alloc (.cells #[.int .i64 z] 3)) := (h.cha.alloc _).alloc _
  have e : (L.take (j + 1)).map Ent.id = (L.take j).map Ent.id ++ [z] := by
    rw [List.take_add_one, List.getElem?_eq_getElem hj, List.map_append, hz]
    simp [List.getD, List.getElem?_eq_getElem hj]
  have hl : ((L.take j).map Ent.id).length + [z].length = j + 1 := by simp only [List.length_map, List.length_take, List.length_singleton]; omega
  have hlies := hA.lies
  rw [hl] at hlies
  refine ⟨hj, fun i hi => ?_, by rw [e]; exact hlies, fun g' hg' => ?_, c1.over hA.cha fun i hi => .inr (h.own i hi)⟩
  · by_cases e : i = j
    · rw [e]; exact hw
    · exact h.lo i (by omega)
  · have e : g = g' := by simpa [Value.ownBlock] using hg'
    subst e
    rcases hA.at' with e | e
    · exact h.own g e
    · exact Nat.le_trans c1.size e
theorem Told.alloc {wr : World} {j : Nat} (h : Told w L now j v wr) (o : Obj) : Told w L now j v (wr.alloc o) :=
  ⟨h.le, h.lo, h.lies.cha ((Cha.refl (fun _ => False) wr).alloc o) (fun _ _ f => f), h.own, h.cha.alloc o⟩
/-- Behind Due. -/
def Dued (w : World) (F : Nat → Prop) (bt bp : Nat) (P : List (List Ent)) (a : Int) (L : List Ent) (p : Nat) (now : Int) (e : Ending) (w' : World) : Prop :=
  ∃ k v, e = .returned v ∧ Upto L now k ∧ Lies w' v ((L.take k).map Ent.id) ∧ ∃ F' lv, Ts w' F' bt bp lv (P.set p (L.drop k)) a ∧ Cha F w w' ∧ (∀ i, F i → F' i) ∧ (∀ i, F' i → F i ∨ w.heap.size ≤ i) ∧ ∀ g, v.ownBlock = some g → ¬ F' g ∧ w.heap.size ≤ g
theorem dued_mk {wr w5 : World} {k p : Nat} (h : Ts w F bt bp lv P a) (hp : p < P.length) (hu : Upto L now k) (ht : Told w L now k v wr) (hA : EApp wr.drew w5 (lv p) (L.drop k) v') :
    Dued w F bt bp P a L p now (.returned v) (w5.setCell ⟨bp, p, none⟩ v') := by
  have T2 := (h.same ht.cha).same ((Cha.refl (fun _ => False) wr).drew)
  have hs : ∀ i, F i → i < w.heap.size := h.old
  have hne : ∀ g, v.ownBlock = some g → ¬ F g := fun g hg hf => by have := hs g hf; have := ht.own g hg; omega
  have ek : Cha F wr.drew w5 := hA.cha.mono fun i _ e => (T2.fv p i hp e).1
  have e2 : Cha F wr.drew (w5.setCell ⟨bp, p, none⟩ v') := ek.setCell (p := ⟨bp, p, none⟩) (fun _ => T2.fp) _
  have cc : Cha F w (w5.setCell ⟨bp, p, none⟩ v') := ((ht.cha.wide (S := F)).drew).trans e2
  obtain ⟨F', lv', q1, q2, q3, q4⟩ := T2.put hp hA
  have hsz : w.heap.size ≤ wr.drew.heap.size := ht.cha.size
  refine ⟨k, v, rfl, hu, (ht.lies.cha ((Cha.refl F wr).drew) hne).cha e2 hne, F', lv', q1, cc, q3, fun i hi => (q4 i hi).imp id fun e => Nat.le_trans hsz e, fun g hg => ⟨fun hf => ?_, ht.own g hg⟩⟩
  rcases q4 g hf with e | e
  · exact hne g hg e
  · have h1 : g < wr.heap.size := ht.lies.lt hg
    have h2 : wr.heap.size ≤ g := e
    omega
set_option maxRecDepth 100000 in
set_option linter.unusedSimpArgs false in
set_option maxHeartbeats 4000000 in
theorem tdue_ok (p : Nat) (h : Ts w F bt bp lv P a) (hp : P[p]? = some L) (hl : L.length ≤ 1024) :
    Calls Try.prog 51 #[.pointer (some ⟨bt, 0, none⟩), .int .i64 (p : Int), .int .u64 now] w (Dued w F bt bp P a L p now) := by
  have hpl := (List.getElem?_eq_some_iff.1 hp).1
  have C := Lib.hid (tisproc_yes p h hpl)
  have c0 := h.ptr
  have c1 : w.cell? ⟨bp, p, none⟩ = some (lv p) := h.tab.cell hpl
  have HE := Lib.hid (h.lst p _ hp)
  obtain ⟨s, cap, hv⟩ := (h.lst p _ hp).form
  rw [hv] at c1
  have HV := Lib.hid hv
  have k1 : (p : Int) < (P.length : Int) := by omega
  have H := Lib.hid h
  have HL := Lib.hid hl
  have HP := Lib.hid hp
  clear h hl hp hv
  go_enter Try.func51, Try.ntmps51
  go_upto_block 0 with (go_at_call 43; ((with_reducible refine (C.out).mono ?_); rintro e w1 ⟨rfl, rfl⟩))
  go_cut [7] (fun v wx => ∃ k, Upto L now k ∧ Told w L now k v wx)
  case first =>
    go_wp2
    go_loopw [7, 27] (fun v i wr => ∃ j : Nat, i = .int .i64 (j : Int) ∧ Told w L now j v wr) (fun _ i _ => L.length - (intOf i).toNat)
    case atStart => exact ⟨0, rfl, Nat.zero_le _, fun i hi => absurd hi (Nat.not_lt_zero _), Lies.nil _, (fun g hg => by cases hg), Cha.refl _ _⟩
    case round =>
      obtain ⟨j, rfl, hT⟩ := hrel
      have HT := Lib.hid hT
      obtain ⟨a7, cap7, rfl, -⟩ := hT.lies.form
      clear hT
      by_cases hlt : j < L.length
      · have hE2 := HE.out
        rw [HV.out] at hE2
        obtain ⟨g, cap', hv2, -, -, hc⟩ := hE2.at hlt
        cases hv2
        obtain ⟨y0, y1, y2⟩ := hc wr HT.out.cha
        obtain ⟨⟨t0, t1, t2⟩, hy⟩ : ∃ y, y = L.getD j ⟨0, 0, 0⟩ := ⟨_, rfl⟩
        rw [← hy] at y0 y1 y2
        have HY := Lib.hid hy
        have HR : Hid (wr.rangeAt g (j * 3) [.int .u64 t0, .int .u64 t1, .int .i64 t2]) := Lib.hid fun i u hu => by
          rcases i with _ | _ | _ | i
          · cases hu; exact y0
          · cases hu; exact y1
          · cases hu; exact y2
          · cases hu
        have hle : ((L.take j).map Ent.id).length = j := by simp only [List.length_map, List.length_take]; omega
        rw [hle] at HT ⊢
        have HLE := Lib.hid hle
        clear hle
        clear hE2 hy hc y0 y1 y2
        have hb : j < 1024 := Nat.lt_of_lt_of_le hlt HL.out
        by_cases hw : t0 ≤ now
        · have hw2 : ¬ now < t0 := by omega
          go_wp2_with (first
            | (refine wpList_load_mid rfl 93 (.tmp 29) rfl g (j * 3) rfl _ _ HR.out Try.underlying93 rfl (by kernel_rfl) ?_)
            | (at_builtin; go_loud (refine wpList_app rfl (.tmp 35) (.tmp 38) rfl (A := (L.take j).map Ent.id) rfl (HT.out.lies.cha (((Cha.refl (fun _ => False) wr).alloc _).alloc _) (fun _ _ f => f)) ⟨wr.heap.size + 1, 0, none⟩ 1 1 [t2] rfl rfl (one_new2 _ _ _) Nat.zero_lt_one (by rw [HLE.out]; have := HL.out; simp only [List.length_singleton]; omega) ?_; intro g3 o3 cap3 w3 hA3; have HN := Lib.hid (HT.out.more hlt (by rw [← HY.out]; exact hw) (by rw [← HY.out]) hA3); clear hA3; rw [HLE.out])))
          go_roundw
          case rel => exact ⟨j + 1, by go_num, HN.out⟩
          case measure => simp [intOf]; omega
        · have hw2 : now < t0 := by omega
          go_wp2_with (refine wpList_load_mid rfl 93 (.tmp 29) rfl g (j * 3) rfl _ _ HR.out Try.underlying93 rfl (by kernel_rfl) ?_)
          go_meet
          exact ⟨j, ⟨Nat.le_of_lt hlt, HT.out.lo, fun _ => by rw [← HY.out]; exact hw2⟩, HT.out.alloc _⟩
      · have hle : ((L.take j).map Ent.id).length = j := by have := HT.out.le; simp only [List.length_map, List.length_take]; omega
        have ej : j = L.length := by have := HT.out.le; omega
        rw [hle] at HT ⊢
        have hw2 : ¬ (j : Int) < (L.length : Int) := by omega
        go_wp2
        go_meet
        refine ⟨j, ⟨Nat.le_of_eq ej, HT.out.lo, fun h => absurd h (by omega)⟩, ?_⟩
        have := HT.out
        rw [ej] at this ⊢
        exact this
  case rest =>
    obtain ⟨k, hu, hT⟩ := hcut
    have hlk : ((L.take k).map Ent.id).length = k := by have := hu.le; simp only [List.length_map, List.length_take]; omega
    obtain ⟨a7, cap7, rfl, -⟩ := hT.lies.form
    rw [hlk] at hT ⊢
    have T2 := (H.out.same hT.cha).same ((Cha.refl (fun _ => False) wc).drew)
    have D := Lib.hid (delete_any (j := k) (T2.lst p L HP.out) hu.le)
    have FIN : Hid (∀ w5 v', EApp wc.drew w5 (lv p) (L.drop k) v' → Dued w F bt bp P a L p now (.returned (.slice a7 k cap7)) (w5.setCell ⟨bp, p, none⟩ v')) := Lib.hid fun w5 v' hA => dued_mk H.out hpl hu hT hA
    have KX : Hid (∀ w5 v', EApp wc.drew w5 (lv p) (L.drop k) v' → w5.cell? ⟨bt, 0, none⟩ = some (.slice (some ⟨bp, 0, none⟩) P.length P.length) ∧ w5.frozen? ⟨bp, p, none⟩ = false ∧ w5.cell? ⟨bp, p, none⟩ = some (lv p) ∧ ∀ u, (w5.setCell ⟨bp, p, none⟩ u).cell? ⟨bt, 0, none⟩ = some (.slice (some ⟨bp, 0, none⟩) P.length P.length)) := Lib.hid fun w5 v' hA => by
      have hbp : FRow 95 w5 bp P.length lv := hA.cha.row T2.tab (fun e => (T2.fv p bp hpl e).2.2 rfl)
      have e1 := (hA.cha.old bt (T2.old _ T2.ft) (fun e => (T2.fv p bt hpl e).2.1 rfl)).trans T2.head
      have e2 := cell_of_row w5 bt 0 _ 88 (0, 0) e1
      refine ⟨e2, hbp.free p, hbp.cell hpl, fun u => (World.cell?_setCell_other w5 _ _ _ ?_).trans e2⟩
      intro e; cases e; exact T2.ne rfl
    have c2 : wc.drew.cell? ⟨bt, 0, none⟩ = some (.slice (some ⟨bp, 0, none⟩) P.length P.length) := T2.ptr
    have c3 : wc.drew.cell? ⟨bp, p, none⟩ = some (lv p) := T2.tab.cell hpl
    rw [HV.out] at c3 D FIN KX
    clear T2 hT hlk hu H HE HV HL c0 c1
    go_wp2
    refine wp_region_held_drew (S := (fun w' => w'.cell? ⟨bt, 0, none⟩ = some (.slice (some ⟨bp, 0, none⟩) P.length P.length))) (by kernel_rfl) (by exact c2) (fun hHeld => ?_)
    refine wpAnyH_take (i := 0) (v := ?_) rfl (by kernel_rfl) (by kernel_rfl) (by kernel_rfl) (fun _ _ _ h => h) (Or.inl ⟨by rfl, ?_⟩) (by assumption) ?_
    rotate_left
    · intro w hSw; (try dsimp only at hSw); go_simp; (try with_reducible rfl)
    try simp only [Act.put, List.setIfInBounds_toArray, List.set_cons_zero, List.set_cons_succ]
    refine wpAnyH_take (i := 1) (v := ?_) rfl (by kernel_rfl) (by kernel_rfl) (by kernel_rfl) (fun _ _ _ h => h) (Or.inl ⟨by rfl, ?_⟩) (by assumption) ?_
    rotate_left
    · intro w hSw; (try dsimp only at hSw); go_simp; (try with_reducible rfl)
    try simp only [Act.put, List.setIfInBounds_toArray, List.set_cons_zero, List.set_cons_succ]
    refine wpAnyH_take (i := 2) (v := ?_) rfl (by kernel_rfl) (by kernel_rfl) (by kernel_rfl) (fun _ _ _ h => h) (Or.inl ⟨by rfl, ?_⟩) (by assumption) ?_
    rotate_left
    · intro w hSw; (try dsimp only at hSw); go_simp; (try with_reducible rfl)
    try simp only [Act.put, List.setIfInBounds_toArray, List.set_cons_zero, List.set_cons_succ]
    refine wpAnyH_take (i := 3) (v := ?_) rfl (by kernel_rfl) (by kernel_rfl) (by kernel_rfl) (fun _ _ _ h => h) (Or.inl ⟨by rfl, ?_⟩) (by assumption) ?_
    rotate_left
    · intro w hSw; (try dsimp only at hSw); go_simp; (try with_reducible rfl)
    try simp only [Act.put, List.setIfInBounds_toArray, List.set_cons_zero, List.set_cons_succ]
    refine wpAnyH_take (i := 4) (v := ?_) rfl (by kernel_rfl) (by kernel_rfl) (by kernel_rfl) (fun _ _ _ h => h) (Or.inl ⟨by rfl, ?_⟩) (by assumption) ?_
    rotate_left
    · intro w hSw; (try dsimp only at hSw); go_simp; (try with_reducible rfl)
    try simp only [Act.put, List.setIfInBounds_toArray, List.set_cons_zero, List.set_cons_succ]
    refine wpAnyH_take (i := 5) (v := ?_) rfl (by kernel_rfl) (by kernel_rfl) (by kernel_rfl) (fun _ _ _ h => h) (Or.inl ⟨by rfl, ?_⟩) (by assumption) ?_
    rotate_left
    · intro w hSw; (try dsimp only at hSw); go_simp; (try with_reducible rfl)
    try simp only [Act.put, List.setIfInBounds_toArray, List.set_cons_zero, List.set_cons_succ]
    refine wpAnyH_take (i := 6) (v := ?_) rfl (by kernel_rfl) (by kernel_rfl) (by kernel_rfl) (fun _ _ _ h => h) (Or.inl ⟨by rfl, ?_⟩) (by assumption) ?_
    rotate_left
    · intro w hSw; (try dsimp only at hSw); go_simp; (try with_reducible rfl)
    try simp only [Act.put, List.setIfInBounds_toArray, List.set_cons_zero, List.set_cons_succ]
    refine wpAnyH_take (i := 7) (v := ?_) rfl (by kernel_rfl) (by kernel_rfl) (by kernel_rfl) (fun _ _ _ h => h) (Or.inl ⟨by rfl, ?_⟩) (by assumption) ?_
    rotate_left
    · intro w hSw; (try dsimp only at hSw); go_simp; (try with_reducible rfl)
    try simp only [Act.put, List.setIfInBounds_toArray, List.set_cons_zero, List.set_cons_succ]
    refine wpAnyH_take (i := 8) (v := ?_) rfl (by kernel_rfl) (by kernel_rfl) (by kernel_rfl) (fun _ _ _ h => h) (Or.inl ⟨by rfl, ?_⟩) (by assumption) ?_
    rotate_left
    · intro w hSw; (try dsimp only at hSw); go_simp; (try with_reducible rfl)
    try simp only [Act.put, List.setIfInBounds_toArray, List.set_cons_zero, List.set_cons_succ]
    refine wpAnyH_take (i := 9) (v := ?_) rfl (by kernel_rfl) (by kernel_rfl) (by kernel_rfl) (fun _ _ _ h => h) (Or.inl ⟨by rfl, ?_⟩) (by assumption) ?_
    rotate_left
    · intro w hSw; (try dsimp only at hSw); go_simp; (try with_reducible rfl)
    try simp only [Act.put, List.setIfInBounds_toArray, List.set_cons_zero, List.set_cons_succ]
    refine wpAnyH_take (i := 10) (v := ?_) rfl (by kernel_rfl) (by kernel_rfl) (by kernel_rfl) (fun _ _ _ h => h) (Or.inl ⟨by rfl, ?_⟩) (by assumption) ?_
    rotate_left
    · intro w hSw; (try dsimp only at hSw); go_simp; (try with_reducible rfl)
    try simp only [Act.put, List.setIfInBounds_toArray, List.set_cons_zero, List.set_cons_succ]
    refine wpAnyH_take (i := 12) (v := ?_) rfl (by kernel_rfl) (by kernel_rfl) (by kernel_rfl) (fun _ _ _ h => h) (Or.inl ⟨by rfl, ?_⟩) (by assumption) ?_
    rotate_left
    · intro w hSw; (try dsimp only at hSw); go_simp; (try with_reducible rfl)
    try simp only [Act.put, List.setIfInBounds_toArray, List.set_cons_zero, List.set_cons_succ]
    refine wpAnyH_take (i := 13) (v := ?_) rfl (by kernel_rfl) (by kernel_rfl) (by kernel_rfl) (fun _ _ _ h => h) (Or.inl ⟨by rfl, ?_⟩) (by assumption) ?_
    rotate_left
    · intro w hSw; (try dsimp only at hSw); go_simp; (try with_reducible rfl)
    try simp only [Act.put, List.setIfInBounds_toArray, List.set_cons_zero, List.set_cons_succ]
    refine wpAnyH_ready (rs := [11]) (by kernel_rfl) (by simp) ?_
    refine AllReadyH.cons rfl (fun K hK => ?_) AllReadyH.nil
    go_simp
    refine hK.out _ _ c2 (fun hHeld => ?_)
    clear hK K
    try simp only [Act.put, List.setIfInBounds_toArray, List.set_cons_zero, List.set_cons_succ]
    refine wpAnyH_ready (rs := [14]) (by kernel_rfl) (by simp) ?_
    refine AllReadyH.cons rfl (fun K hK => ?_) AllReadyH.nil
    go_simp
    go_at_call 62
    refine (D.out).mono ?_
    rintro e5 w5 ⟨v5, rfl, hA⟩
    obtain ⟨x5, c5, rfl⟩ := hA.ents.form
    obtain ⟨s1, s2, s3, S5⟩ := KX.out _ _ hA
    have S5 := Lib.hid S5
    have FN := Lib.hid (FIN.out _ _ hA)
    rw [List.length_drop] at FN
    clear hA
    go_wp2_with fail
    refine hK.out _ _ s1 (fun hHeld => ?_)
    clear hK K
    try simp only [Act.put, List.setIfInBounds_toArray, List.set_cons_zero, List.set_cons_succ]
    refine wpAnyH_take (i := 15) (v := ?_) rfl (by kernel_rfl) (by kernel_rfl) (by kernel_rfl) (fun _ _ _ h => h) (Or.inl ⟨by rfl, ?_⟩) (by assumption) ?_
    rotate_left
    · intro w hSw; (try dsimp only at hSw); go_simp; (try with_reducible rfl)
    try simp only [Act.put, List.setIfInBounds_toArray, List.set_cons_zero, List.set_cons_succ]
    refine wpAnyH_ready (rs := [16]) (by kernel_rfl) (by simp) ?_
    refine AllReadyH.cons rfl (fun K hK => ?_) AllReadyH.nil
    go_simp
    refine hK.out _ _ (S5.out _) (fun hHeld => ?_)
    clear hK K
    try simp only [Act.put, List.setIfInBounds_toArray, List.set_cons_zero, List.set_cons_succ]
    refine wpAnyH_done (by kernel_rfl) ?_ _
    go_wp2
    go_returns
    exact FN.out
end Go.Proofs.Ytaloafihbdamiaa
