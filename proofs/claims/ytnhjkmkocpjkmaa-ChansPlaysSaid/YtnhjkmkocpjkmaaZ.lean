/- The document's channels: without, Leave. -/
import Derived.Test.YtnhjkmkocpjkmaaY
import Derived.Test.YtnhjkmkocpjkmaaK
namespace Go.Proofs.Ytnhjkmkocpjkmaa
open Go.ChangeShapes Go.WideShapes Go.ChangeAt Go.RowKit
variable {w w' W : World} {F : Nat → Prop} {bc g o n cap : Nat} {v1 v2 v3 v : Value} {s : St}

def other (id : Int) (a : Snd) : Bool := !decide (a.id = id)
def keepS (L : List Snd) (id : Int) : List Snd := L.filter (other id)
theorem keep_step (L : List Snd) (id : Int) {j : Nat} (h : j < L.length) : keepS (L.take (j + 1)) id = keepS (L.take j) id ++ (if (L.getD j ⟨0, 0⟩).id = id then [] else [L.getD j ⟨0, 0⟩]) := by
  have e : L.getD j ⟨0, 0⟩ = L[j] := by simp [List.getD, List.getElem?_eq_getElem h]
  unfold keepS
  rw [filter_take _ L h, e]
  congr 1
  unfold other
  by_cases c : L[j].id = id
  · rw [if_pos c, if_neg (by simp [c])]
  · rw [if_neg c, if_pos (by simp [c])]
theorem keep_le (L : List Snd) (id : Int) : (keepS L id).length ≤ L.length := List.length_filter_le _ _
theorem without_any {a : Option Addr} {L : List Snd} (h : Lies wtE w (.slice a n cap) L) (id : Int) (hA : L.length < 8796093022208) :
    Calls Try.prog 38 #[.slice a n cap, .int .i64 id] w fun e w' => ∃ a m c, e = .returned (.slice a m c) ∧ Made wtE w w' (.slice a m c) (keepS L id) := by
  have HZ := Lib.hid (wt_at h)
  obtain ⟨a', cap', ee, hc2, hm2⟩ := h.form
  obtain ⟨rfl, rfl, rfl⟩ : a = a' ∧ n = L.length ∧ cap = cap' := by cases ee; exact ⟨rfl, rfl, rfl⟩
  clear ee h
  obtain ⟨n, hn⟩ : ∃ n, n = L.length := ⟨_, rfl⟩
  have HN := Lib.hid hn
  have HA := Lib.hid hA
  rw [← hn] at hc2 ⊢
  unfold maxLen at hm2
  clear hA hn
  have HM0 := Lib.hid (Made.nil wtE w)
  go_enter Try.func38, Try.ntmps38
  go_wp2
  go_loopw [5, 6] (fun v i wr => ∃ j : Nat, j ≤ n ∧ i = .int .i64 (j : Int) ∧ Made wtE w wr v (keepS (L.take j) id)) (fun _ i _ => n - (intOf i).toNat)
  case atStart => exact ⟨0, Nat.zero_le _, rfl, by simpa [keepS] using HM0.out⟩
  case round =>
    clear HM0
    obtain ⟨j, hj, rfl, hM⟩ := hrel
    by_cases hlt : j < n
    · have hlt2 : j < L.length := by rw [← HN.out]; exact hlt
      obtain ⟨g, o, rfl, _, hz⟩ := HZ.out (by omega)
      obtain ⟨z0, z1⟩ := hz wr (hM.cha.mono fun _ _ f => f.elim) j hlt2
      have HT := Lib.hid (keep_step L id hlt2)
      have HM := Lib.hid hM
      have BB : Hid ((keepS (L.take j) id).length + [L.getD j ⟨0, 0⟩].length ≤ 8796093022208) := Lib.hid (by
        have := HA.out
        have := keep_le (L.take j) id
        simp only [List.length_take, List.length_singleton] at *; omega)
      clear hz hM hlt2
      generalize L.getD j ⟨0, 0⟩ = x at *
      obtain ⟨xi, xv⟩ := x
      dsimp only at z0 z1
      by_cases hx : xi = id
      · have HX := Lib.hid hx
        subst hx
        go_wp2
        go_roundw
        case rel => exact ⟨j + 1, by omega, by go_num, by rw [HT.out, if_pos rfl, List.append_nil]; exact HM.out⟩
        case measure => simp [intOf]; omega
      · have HX := Lib.hid hx
        have hx2 : ¬ (id = xi) := fun e => hx e.symm
        go_wp2_with (at_builtin; (refine wpList_app wtE_ok rfl (.tmp 20) (.tmp 25) rfl rfl (HM.out.lies.same ((Cha.refl _ wr).alloc _)) ⟨wr.heap.size, 0, none⟩ 1 1 [⟨xi, xv⟩] rfl rfl (just_new wtE wr ⟨xi, xv⟩ 67) Nat.zero_lt_one (Nat.le_trans BB.out (by decide)) (Nat.le_trans (Nat.mul_le_mul_right 16 BB.out) (by decide)) ?_; intro g3 o3 cap3 w3 hA3; have A3 := Lib.hid ((HM.out.same ((Cha.refl _ wr).alloc _)).app hA3); clear hA3))
        go_roundw
        case rel => exact ⟨j + 1, by omega, by go_num, by rw [HT.out, if_neg HX.out]; exact A3.out⟩
        case measure => simp [intOf]; omega
    · obtain rfl : j = n := by omega
      have HM := Lib.hid hM
      clear hM
      go_wp2
      go_ret
      have hM := HM.out
      rw [HN.out, List.take_length] at hM
      obtain ⟨a, cap, rfl, _, _⟩ := hM.lies.form
      exact ⟨_, _, _, rfl, hM⟩
theorem keep_gts (L : List Int) (id : Int) : keepS (gts L) id = gts (L.filter fun r => !decide (r = id)) := (gts_filter L id).symm
theorem dleave_any (h : Dc w F bc v1 v2 v3 s) (id : Int) (hA : s.size < 8796093022208) :
    Calls Try.prog 22 #[.pointer (some ⟨bc, 0, none⟩), .int .i64 id] w fun e w' => e = .returned (.tuple #[]) ∧ DLeft w w' F bc (s.leave id) := by
  obtain ⟨a2, cap2, rfl, _, _⟩ := h.l2.form
  obtain ⟨a3, cap3, rfl, _, _⟩ := h.l3.form
  have k3 : w.cell? ⟨bc, 3, none⟩ = some (.slice a2 s.snds.length cap2) := h.cell 3
  have C1 := Lib.hid (without_any h.l2 id (by unfold St.size at hA; omega))
  have H := Lib.hid h
  have HL : Hid ((gts s.rcvs).length < 8796093022208) := Lib.hid (by rw [gts_len]; unfold St.size at hA; omega)
  have KX : Hid (∀ W', Cha (fun _ => False) w W' → ∀ i, W'.cell? ⟨bc, i, none⟩ = (s.dcells v1 (.slice a2 s.snds.length cap2) (.slice a3 (gts s.rcvs).length cap3))[i]? ∧ W'.frozen? ⟨bc, i, none⟩ = false) := Lib.hid fun W' c i => H.out.keeps (c.mono fun _ _ f => f.elim) i
  have e0 : s.leave id = { s with snds := keepS s.snds id, rcvs := s.rcvs.filter fun r => !decide (r = id) } := rfl
  rw [e0]
  have hD : ∀ w1 v, Made wtE w w1 v (keepS s.snds id) → ∃ F1 u1 u2, Dc (w1.setCell ⟨bc, 3, none⟩ v) F1 bc u1 u2 (.slice a3 (gts s.rcvs).length cap3) { s with snds := keepS s.snds id } ∧ Cha F w (w1.setCell ⟨bc, 3, none⟩ v) ∧ ∀ i, F1 i → F i ∨ w.heap.size ≤ i := by
    intro w1 v M
    have hb := h.old _ h.fc
    have hh := (M.cha.old bc hb (fun f => f)).trans h.head
    have h3 := heap_setCell_same w1 bc 3 _ 53 v hh
    have k : Cha (fun i => i = bc) w1 (w1.setCell ⟨bc, 3, none⟩ v) := (Cha.refl (· = bc) w1).setCell (p := ⟨bc, 3, none⟩) (fun _ => rfl) _
    have c := (M.cha.wide (S := fun i => i = bc)).trans k
    have o1 : ∀ q, v1.ownBlock = some q → q < w.heap.size := fun q e => h.old _ (h.f1 q e).1
    have o3 : ∀ q, (Value.slice a3 (gts s.rcvs).length cap3).ownBlock = some q → q < w.heap.size := fun q e => h.old _ (h.f3 q e).1
    refine ⟨fun i => F i ∨ v.ownBlock = some i, v1, v, ⟨h3, h.l1.cha c fun q hq => (h.f1 q hq).2, M.lies.cha k fun q hq e => ?_, h.l3.cha c fun q hq => (h.f3 q hq).2, .inl h.fc, fun q hq => ⟨.inl (h.f1 q hq).1, (h.f1 q hq).2⟩, fun q hq => ⟨.inr hq, fun e => ?_⟩, fun q hq => ⟨.inl (h.f3 q hq).1, (h.f3 q hq).2⟩, fun q hq e => ?_, h.d13, fun q hq e => ?_, fun i hi => ?_, h.c16⟩, c.mono fun i _ e => e ▸ h.fc, fun i hi => hi.imp (fun e => e) (M.own i)⟩
    · have := M.own q hq; omega
    · have := M.own q hq; omega
    · have := o1 q hq; have := M.own q e; omega
    · have := o3 q e; have := M.own q hq; omega
    · rcases hi with hi | hi
      · exact Nat.lt_of_lt_of_le (h.old i hi) c.size
      · rw [size_setCell']; exact M.lies.lt hi
  have HD := Lib.hid hD
  clear h hD e0 hA
  have C2 : Hid (∀ w1 v, Made wtE w w1 v (keepS s.snds id) → Calls Try.prog 38 #[.slice a3 (gts s.rcvs).length cap3, .int .i64 id] (w1.setCell ⟨bc, 3, none⟩ v) fun e w' => ∃ a m c, e = .returned (.slice a m c) ∧ Made wtE (w1.setCell ⟨bc, 3, none⟩ v) w' (.slice a m c) (keepS (gts s.rcvs) id)) := Lib.hid fun w1 v M => by
    obtain ⟨F1, u1, u2, d, _⟩ := HD.out w1 v M
    exact without_any d.l3 id HL.out
  go_enter Try.func22, Try.ntmps22
  go_wp2_with (first
    | (go_at_call 38; (with_reducible refine (C1.out).mono ?_); rintro e w1 ⟨b2, m2, d2, rfl, hM⟩; (obtain ⟨r3, z3⟩ := KX.out w1 hM.cha 3); (obtain ⟨r4, z4⟩ := KX.out w1 hM.cha 4); have q3 : w1.cell? ⟨bc, 3, none⟩ = some (.slice a2 s.snds.length cap2) := r3; have q4 : w1.cell? ⟨bc, 4, none⟩ = some (.slice a3 (gts s.rcvs).length cap3) := r4; have D2 := Lib.hid (C2.out w1 _ hM); have M1 := Lib.hid hM; clear hM r3 r4 C1)
    | (go_at_call 38; (with_reducible refine (D2.out).mono ?_); rintro e w2 ⟨b3, m3, d3, rfl, hM⟩; (obtain ⟨F1, u1, u2, d, _⟩ := HD.out _ _ M1.out); (obtain ⟨r4, z5⟩ := d.keeps (hM.cha.mono fun _ _ f => f.elim) 4); have q5 : w2.cell? ⟨bc, 4, none⟩ = some (.slice a3 (gts s.rcvs).length cap3) := r4; have M2 := Lib.hid hM; clear hM d r4))
  go_end0
  refine ⟨rfl, ?_⟩
  obtain ⟨F1, u1, u2, d, c, n⟩ := HD.out _ _ M1.out
  exact DLeft.cons c n (d.lay3 (keep_gts s.rcvs id ▸ M2.out))
end Go.Proofs.Ytnhjkmkocpjkmaa
