/- Contracts of chans: Close, Values. -/
import Derived.Test.YtnhjkmkocpjkmaaG
import Derived.Laws.OwnMore
namespace Go.Proofs.Ytnhjkmkocpjkmaa
open Go.ChangeShapes Go.WideShapes Go.ChangeAt Go.RowKit

/-- A list that was made since w. -/
structure Made {α : Type} (E : Enc α) (w w' : World) (v : Value) (A : List α) : Prop where
  lies : Lies E w' v A
  own : ∀ g, v.ownBlock = some g → w.heap.size ≤ g
  cha : Cha (fun _ => False) w w'
section
variable {α : Type} {E : Enc α} {w w1 w' : World} {v : Value} {A N : List α} {g o cap : Nat}
theorem Made.nil (E : Enc α) (w : World) : Made E w w (.slice none 0 0) [] := ⟨Lies.nil _ _, (fun _ e => by cases e), Cha.refl _ _⟩
theorem Made.same (h : Made E w w1 v A) (c : Cha (fun _ => False) w1 w') : Made E w w' v A := ⟨h.lies.same c, h.own, h.cha.trans c⟩
theorem Made.app (h : Made E w w1 v A) (a : App E w1 w' v A N g o cap) : Made E w w' (.slice (some ⟨g, o, none⟩) (A.length + N.length) cap) (A ++ N) :=
  ⟨a.lies, fun g' e => by
    cases e
    rcases a.at' with e | e
    · exact h.own g e
    · exact Nat.le_trans h.cha.size e, h.cha.over a.cha fun i e => .inr (h.own i e)⟩
variable (ok : E.Ok)
include ok
theorem run_app_nil (ty : TypeId) {x : Value} (h : Lies E w x N) (b1 : N.length ≤ maxLen) (b2 : N.length * E.b ≤ 140737488355328) :
    ∃ v' w', (Builtin.append_ #[E.s, E.s] ty #[.slice none 0 0, x]).run Try.prog w = .ok v' w' ∧ Made E w w' v' N := by
  obtain ⟨i0, hi, hz0, hz1, hz2⟩ := info_parts ok.inf
  by_cases hN : N = []
  · subst hN
    rcases h with ⟨_, rfl⟩ | ⟨g, o, cap, cur, rfl, h1, h2, h3, h4, h5⟩
    · exact ⟨_, w, run_append_owned_none (P := Try.prog) (w := w) w.heap.size E.s ty E.e i0 E.k ok.und hi _ 0 [] (World.ownsRow_nil w _ E.e E.k), Made.nil E w⟩
    · obtain ⟨v', w', hr, r1, r2, _⟩ := run_append_own (P := Try.prog) w w.heap.size E.s ty E.e i0 _ E.k E.b ok.und hi hz0 hz1 hz2 ok.zk ok.pos (.slice none 0 0) 0 [] (World.ownsRow_nil w _ E.e E.k) ⟨g, o, none⟩ 0 cap [] (by simp) (fun j u hu => by cases hu) (fun u hu => by cases hu) (by decide) (by simp) (Nat.le_refl _)
      refine ⟨v', w', hr, Lies.of_own (A := []) (by simpa [Enc.cs_nil] using r1), fun g' e => ?_, Cha.of_grownBy r2 (fun k e => by cases e)⟩
      rcases r1.2 with ⟨rfl, _⟩ | ⟨g2, cap2, cur2, rfl, hb, _⟩
      · cases e
      · cases e; exact hb
  · have hpos : 0 < N.length := List.length_pos_iff.2 hN
    obtain ⟨g, o, cap, rfl, _, _, hc⟩ := h.cells ok hpos
    obtain ⟨g2, o2, cap2, w', hr, hA⟩ := run_app ok ty (Lies.nil E w) ⟨g, o, none⟩ cap N (hc w (Cha.refl _ w)).2 hpos (by simpa using b1) (by simpa using b2)
    refine ⟨_, w', hr, ?_⟩
    have := (Made.nil E w).app hA
    simpa using this
variable {ops : Array Oper} {rest : List Oper} {o : Oper} {a : Act} {Q : Exit → Act → World → Prop}
theorem wpList_app_nil (hgd : o.guard = none) (s x : Operand) (ho : o.op = .call { callee := .builtin .append, args := #[s, x], argTypes := #[E.s, E.s] })
    (hs : a.eval s = .slice none 0 0) {xv : Value} (hx : a.eval x = xv) (hl : Lies E w xv N) (b1 : N.length ≤ maxLen) (b2 : N.length * E.b ≤ 140737488355328)
    (h : ∀ v' w', Made E w w' v' N → wpList Try.prog ops Q rest (a.put o.dst v') w') : wpList Try.prog ops Q (o :: rest) a w := by
  obtain ⟨v', w', hr, hM⟩ := run_app_nil ok o.type hl b1 b2
  refine wpList_plain hgd fun _ hK => ?_
  unfold Oper.wp execOp
  simp only [ho, resolve, invoke, builtin, Sem.run_bind, Sem.run_pure, Result.andThen_ok, List.map_toArray, List.map_cons, List.map_nil, hs, hx, hr]
  exact hK _ _ (h v' w' hM)
end
variable {w w' W : World} {F : Nat → Prop} {bc g o n cap : Nat} {v1 v2 v3 : Value} {s : St}

/-- Those who wait to send, one by one. -/
def SndAt (w : World) (a : Option Addr) (L : List Snd) : Prop := 0 < L.length → ∃ g o, a = some ⟨g, o, none⟩ ∧ ∀ W, Cha (fun _ => False) w W → ∀ j, j < L.length → W.cell? ⟨g, o + j * 2, none⟩ = some (.int .i64 (L.getD j ⟨0, 0⟩).id) ∧ W.cell? ⟨g, o + j * 2 + 1, none⟩ = some (.int .u64 (L.getD j ⟨0, 0⟩).val)
theorem snd_at {a : Option Addr} {L : List Snd} {n cap : Nat} (h : Lies sndE w (.slice a n cap) L) : SndAt w a L := fun hp => by
  obtain ⟨g, o, cap', e, _, _, hc⟩ := h.cells sndE_ok hp
  cases e
  refine ⟨g, o, rfl, fun W c j hj => ?_⟩
  have h4 := (hc W c.wide).1
  have x := h4 j 0 hj (by decide)
  have y := h4 j 1 hj (by decide)
  have e : L.getD j ⟨0, 0⟩ = L[j] := by simp [List.getD, List.getElem?_eq_getElem hj]
  rw [e]
  exact ⟨by simpa [sndE] using x, by simpa [sndE] using y⟩
theorem take_map {β : Type} (f : Snd → β) (L : List Snd) {j : Nat} (h : j < L.length) : (L.take (j + 1)).map f = (L.take j).map f ++ [f (L.getD j ⟨0, 0⟩)] := by
  rw [List.take_succ_eq_append_getElem h, List.map_append]; simp [List.getD, List.getElem?_eq_getElem h]
theorem close_none (w : World) : Calls Try.prog 18 #[.pointer none] w fun e w' => e = .returned (.tuple #[.slice none 0 0, .bool false]) ∧ w = w' := by
  go_enter Try.func18, Try.ntmps18
  go_wp2
  go_returns
  exact ⟨rfl, rfl⟩
theorem close_shut (h : Ch w F bc v1 v2 v3 s) (hs : s.shut = true) : Calls Try.prog 18 #[.pointer (some ⟨bc, 0, none⟩)] w fun e w' => e = .returned (.tuple #[.slice none 0 0, .bool false]) ∧ w = w' := by
  have k1 : w.cell? ⟨bc, 1, none⟩ = some (.bool s.shut) := h.cell 1
  rw [hs] at k1
  clear h
  go_enter Try.func18, Try.ntmps18
  go_wp2
  go_returns
  exact ⟨rfl, rfl⟩
/-- What Close leaves. -/
def Shuts (w w' : World) (F : Nat → Prop) (bc : Nat) (v1 : Value) (s : St) (v : Value) : Prop :=
  Ch w' F bc v1 (.slice none 0 0) (.slice none 0 0) s.close.2 ∧ Cha F w w' ∧ Lies intE w' v s.close.1.1 ∧ ∀ g, v.ownBlock = some g → w.heap.size ≤ g
theorem shuts_mk {wr X : World} {v : Value} (h : Ch w F bc v1 v2 v3 s) (hs : s.shut = false) (hM : Made intE w wr v (s.rcvs ++ s.snds.map Snd.id)) (hh : X.heap[bc]? = some (.cells (s.close.2.cells v1 (.slice none 0 0) (.slice none 0 0)) 65 (0, 0))) (c : Cha (fun i => i = bc) wr X) : Shuts w X F bc v1 s v := by
  have e : s.close = ((s.rcvs ++ s.snds.map Snd.id, true), { s with shut := true, snds := [], rcvs := [] }) := by unfold St.close; rw [if_neg (by simp [hs])]
  have hb := h.old _ h.fc
  rw [e] at hh
  unfold Shuts
  rw [e]
  have c1 : Cha (fun i => i = bc) w X := hM.cha.wide.trans c
  refine ⟨⟨hh, h.l1.cha c1 fun g hg => (h.f1 g hg).2, Lies.nil _ _, Lies.nil _ _, h.fc, h.f1, (fun g e => by cases e), (fun g e => by cases e), (fun g _ e => by cases e), (fun g _ e => by cases e), (fun g e => by cases e), fun i hi => Nat.lt_of_lt_of_le (h.old i hi) c1.size, h.c16⟩, c1.mono fun i _ e => e ▸ h.fc, hM.lies.cha c fun g hg e => ?_, hM.own⟩
  have := hM.own g hg
  omega
set_option maxHeartbeats 1000000 in
theorem close_open (h : Ch w F bc v1 v2 v3 s) (hs : s.shut = false) (hA : s.size < 8796093022208) :
    Calls Try.prog 18 #[.pointer (some ⟨bc, 0, none⟩)] w fun e w' => ∃ v, e = .returned (.tuple #[v, .bool true]) ∧ Shuts w w' F bc v1 s v := by
  have k1 : w.cell? ⟨bc, 1, none⟩ = some (.bool s.shut) := h.cell 1
  rw [hs] at k1
  have k4 : w.cell? ⟨bc, 4, none⟩ = some v3 := h.cell 4
  obtain ⟨a2, cap2, rfl, hc2, hm2⟩ := h.l2.form
  have hb := h.old _ h.fc
  have H := Lib.hid h
  have KX : Hid (∀ W', Cha (fun i => i ≠ bc) w W' → W'.cell? ⟨bc, 3, none⟩ = some (.slice a2 s.snds.length cap2) ∧ W'.frozen? ⟨bc, 3, none⟩ = false) := Lib.hid fun W' c => H.out.keeps c 3
  have B1 : Hid (s.rcvs.length ≤ maxLen ∧ s.rcvs.length * intE.b ≤ 140737488355328) := Lib.hid (by unfold St.size at hA; refine ⟨by unfold maxLen; omega, by show _ * 8 ≤ _; omega⟩)
  obtain ⟨n, hn⟩ : ∃ n, n = s.snds.length := ⟨_, rfl⟩
  have HN := Lib.hid hn
  have HA := Lib.hid hA
  rw [← hn] at KX hc2
  unfold maxLen at hm2
  clear h hA hn
  go_enter Try.func18, Try.ntmps18
  go_wp2_with (at_builtin; refine wpList_app_nil intE_ok rfl (.tmp 15) (.tmp 19) rfl rfl rfl H.out.l3 B1.out.1 B1.out.2 ?_; intro ids w1 hM; obtain ⟨k3, _⟩ := KX.out w1 (hM.cha.mono fun _ _ f => f.elim); have HM := Lib.hid hM; clear hM)
  have HZ := Lib.hid (snd_at H.out.l2)
  clear k4
  go_loopw [4, 6, 26] (fun v _ i wr => ∃ j : Nat, j ≤ n ∧ i = .int .i64 (j : Int) ∧ Made intE w wr v (s.rcvs ++ (s.snds.take j).map Snd.id)) (fun _ _ i _ => n - (intOf i).toNat)
  case atStart => exact ⟨0, Nat.zero_le _, rfl, by simpa using HM.out⟩
  case round =>
    clear HM
    obtain ⟨j, hj, rfl, hM⟩ := hrel
    by_cases hlt : j < n
    · have hlt2 : j < s.snds.length := by rw [← HN.out]; exact hlt
      obtain ⟨g, o, rfl, hz⟩ := HZ.out (by omega)
      obtain ⟨z0, z1⟩ := hz wr hM.cha j hlt2
      have HT := Lib.hid (take_map Snd.id s.snds hlt2)
      have HM := Lib.hid hM
      have BB : Hid ((s.rcvs ++ (s.snds.take j).map Snd.id).length + [(s.snds.getD j ⟨0, 0⟩).id].length ≤ 8796093022208) := Lib.hid (by
        have := HA.out
        unfold St.size at this
        simp only [List.length_append, List.length_map, List.length_take, List.length_singleton]; omega)
      clear hz hM hlt2
      generalize s.snds.getD j ⟨0, 0⟩ = a at *
      go_wp2_with (at_builtin; go_loud (refine wpList_app intE_ok rfl (.tmp 30) (.tmp 33) rfl rfl (HM.out.lies.same (((Cha.refl _ wr).alloc _).alloc _)) ⟨wr.heap.size + 1, 0, none⟩ 1 1 [a.id] rfl rfl (by have := just_new intE (wr.alloc (.cells #[.int .i64 a.id, .int .u64 a.val] 73)) a.id 3; rw [World.size_alloc] at this; exact this) Nat.zero_lt_one (Nat.le_trans BB.out (by decide)) (Nat.le_trans (Nat.mul_le_mul_right 8 BB.out) (by decide)) ?_; intro g3 o3 cap3 w3 hA3; have A3 := Lib.hid ((HM.out.same (((Cha.refl _ wr).alloc _).alloc _)).app hA3); clear hA3))
      go_roundw
      case rel => exact ⟨j + 1, by omega, by go_num, by have := A3.out; rw [List.length_append, List.length_map, List.length_take] at this; rw [HT.out, ← List.append_assoc]; exact this⟩
      case measure => simp [intOf]; omega
    · obtain rfl : j = n := by omega
      have c0 : Cha (fun i => i ≠ bc) w wr := hM.cha.mono fun _ _ f => f.elim
      obtain ⟨q1, z1⟩ := H.out.keeps c0 1
      obtain ⟨q3, z3⟩ := H.out.keeps c0 3
      obtain ⟨q4, z4⟩ := H.out.keeps c0 4
      have HM := Lib.hid hM
      clear hM c0
      go_wp2
      go_returns
      have hM := HM.out
      rw [HN.out, List.take_length] at hM
      have hh : wr.heap[bc]? = some (.cells (s.cells v1 (.slice a2 s.snds.length cap2) v3) 65 (0, 0)) := (hM.cha.old bc hb (fun f => f)).trans H.out.head
      refine ⟨_, rfl, shuts_mk H.out hs hM ?_ ?_⟩
      · rw [heap_setCell_same _ bc 3 _ 65 _ (heap_setCell_same _ bc 4 _ 65 _ (heap_setCell_same _ bc 1 _ 65 _ hh))]
        simp [St.cells, St.close, hs]
      · exact (((Cha.refl (· = bc) wr).setCell (p := ⟨bc, 1, none⟩) (fun _ => rfl) _).setCell (p := ⟨bc, 4, none⟩) (fun _ => rfl) _).setCell (p := ⟨bc, 3, none⟩) (fun _ => rfl) _
theorem values_none (w : World) : Calls Try.prog 25 #[.pointer none] w fun e w' => e = .returned (.slice none 0 0) ∧ w = w' := by
  go_enter Try.func25, Try.ntmps25
  go_wp2
  go_returns
  exact ⟨rfl, rfl⟩
set_option maxHeartbeats 1000000 in
theorem values_any (h : Ch w F bc v1 v2 v3 s) (hA : s.size < 8796093022208) :
    Calls Try.prog 25 #[.pointer (some ⟨bc, 0, none⟩)] w fun e w' => ∃ v, e = .returned v ∧ Made u64E w w' v s.values := by
  have k4 : w.cell? ⟨bc, 2, none⟩ = some v1 := h.cell 2
  obtain ⟨a2, cap2, rfl, hc2, hm2⟩ := h.l2.form
  have hb := h.old _ h.fc
  have H := Lib.hid h
  have KX : Hid (∀ W', Cha (fun i => i ≠ bc) w W' → W'.cell? ⟨bc, 3, none⟩ = some (.slice a2 s.snds.length cap2) ∧ W'.frozen? ⟨bc, 3, none⟩ = false) := Lib.hid fun W' c => H.out.keeps c 3
  have B1 : Hid (s.vals.length ≤ maxLen ∧ s.vals.length * u64E.b ≤ 140737488355328) := Lib.hid (by unfold St.size at hA; refine ⟨by unfold maxLen; omega, by show _ * 8 ≤ _; omega⟩)
  obtain ⟨n, hn⟩ : ∃ n, n = s.snds.length := ⟨_, rfl⟩
  have HN := Lib.hid hn
  have HA := Lib.hid hA
  rw [← hn] at KX hc2
  unfold maxLen at hm2
  have HZ := Lib.hid (snd_at H.out.l2)
  clear h hA hn
  go_enter Try.func25, Try.ntmps25
  go_wp2_with (at_builtin; refine wpList_app_nil u64E_ok rfl (.tmp 8) (.tmp 12) rfl rfl rfl H.out.l1 B1.out.1 B1.out.2 ?_; intro ids w1 hM; obtain ⟨k3, _⟩ := KX.out w1 (hM.cha.mono fun _ _ f => f.elim); have HM := Lib.hid hM; clear hM)
  clear k4
  go_loopw [3, 5, 19] (fun v _ i wr => ∃ j : Nat, j ≤ n ∧ i = .int .i64 (j : Int) ∧ Made u64E w wr v (s.vals ++ (s.snds.take j).map Snd.val)) (fun _ _ i _ => n - (intOf i).toNat)
  case atStart => exact ⟨0, Nat.zero_le _, rfl, by simpa using HM.out⟩
  case round =>
    clear HM
    obtain ⟨j, hj, rfl, hM⟩ := hrel
    by_cases hlt : j < n
    · have hlt2 : j < s.snds.length := by rw [← HN.out]; exact hlt
      obtain ⟨g, o, rfl, hz⟩ := HZ.out (by omega)
      obtain ⟨z0, z1⟩ := hz wr hM.cha j hlt2
      have HT := Lib.hid (take_map Snd.val s.snds hlt2)
      have HM := Lib.hid hM
      have BB : Hid ((s.vals ++ (s.snds.take j).map Snd.val).length + [(s.snds.getD j ⟨0, 0⟩).val].length ≤ 8796093022208) := Lib.hid (by
        have := HA.out
        unfold St.size at this
        simp only [List.length_append, List.length_map, List.length_take, List.length_singleton]; omega)
      clear hz hM hlt2
      generalize s.snds.getD j ⟨0, 0⟩ = a at *
      go_wp2_with (at_builtin; (refine wpList_app u64E_ok rfl (.tmp 23) (.tmp 26) rfl rfl (HM.out.lies.same (((Cha.refl _ wr).alloc _).alloc _)) ⟨wr.heap.size + 1, 0, none⟩ 1 1 [a.val] rfl rfl (by have := just_new u64E (wr.alloc (.cells #[.int .i64 a.id, .int .u64 a.val] 73)) a.val 31; rw [World.size_alloc] at this; exact this) Nat.zero_lt_one (Nat.le_trans BB.out (by decide)) (Nat.le_trans (Nat.mul_le_mul_right 8 BB.out) (by decide)) ?_; intro g3 o3 cap3 w3 hA3; have A3 := Lib.hid ((HM.out.same (((Cha.refl _ wr).alloc _).alloc _)).app hA3); clear hA3))
      go_roundw
      case rel => exact ⟨j + 1, by omega, by go_num, by have := A3.out; rw [List.length_append, List.length_map, List.length_take] at this; rw [HT.out, ← List.append_assoc]; exact this⟩
      case measure => simp [intOf]; omega
    · obtain rfl : j = n := by omega
      have HM := Lib.hid hM
      clear hM
      go_wp2
      go_returns
      have hM := HM.out
      rw [HN.out, List.take_length] at hM
      exact ⟨_, rfl, hM⟩
end Go.Proofs.Ytnhjkmkocpjkmaa
