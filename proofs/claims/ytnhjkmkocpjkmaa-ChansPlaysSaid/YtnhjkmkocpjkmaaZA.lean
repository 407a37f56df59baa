/- The document's channels: Close. -/
import Derived.Test.YtnhjkmkocpjkmaaZ
namespace Go.Proofs.Ytnhjkmkocpjkmaa
open Go.ChangeShapes Go.WideShapes Go.ChangeAt Go.RowKit
variable {w w' W : World} {F : Nat → Prop} {bc g o n cap : Nat} {v1 v2 v3 v : Value} {s : St}

def DShuts (w w' : World) (F : Nat → Prop) (bc : Nat) (v1 : Value) (s : St) (v : Value) : Prop :=
  Dc w' F bc v1 (.slice none 0 0) (.slice none 0 0) s.close.2 ∧ Cha F w w' ∧ Lies intE w' v s.close.1.1 ∧ ∀ g, v.ownBlock = some g → w.heap.size ≤ g
theorem dshuts_mk {wr : World} {v : Value} (h : Dc w F bc v1 v2 v3 s) (hs : s.shut = false) (hM : Made intE (w.setCell ⟨bc, 2, none⟩ (.bool true)) wr v (s.rcvs ++ s.snds.map Snd.id)) :
    DShuts w ((wr.setCell ⟨bc, 4, none⟩ (.slice none 0 0)).setCell ⟨bc, 3, none⟩ (.slice none 0 0)) F bc v1 s v := by
  have e : s.close = ((s.rcvs ++ s.snds.map Snd.id, true), { s with shut := true, snds := [], rcvs := [] }) := by unfold St.close; rw [if_neg (by simp [hs])]
  have hb := h.old _ h.fc
  have h1 := heap_setCell_same w bc 2 _ 53 (.bool true) h.head
  have h2 := (hM.cha.old bc (Array.getElem?_eq_some_iff.1 h1).1 (fun f => f)).trans h1
  have h3 := heap_setCell_same wr bc 4 _ 53 (.slice none 0 0) h2
  have h4 := heap_setCell_same _ bc 3 _ 53 (.slice none 0 0) h3
  have c0 : Cha (fun i => i = bc) w (w.setCell ⟨bc, 2, none⟩ (.bool true)) := (Cha.refl (· = bc) w).setCell (p := ⟨bc, 2, none⟩) (fun _ => rfl) _
  have k : Cha (fun i => i = bc) wr ((wr.setCell ⟨bc, 4, none⟩ (.slice none 0 0)).setCell ⟨bc, 3, none⟩ (.slice none 0 0)) := ((Cha.refl (· = bc) wr).setCell (p := ⟨bc, 4, none⟩) (fun _ => rfl) _).setCell (p := ⟨bc, 3, none⟩) (fun _ => rfl) _
  have c1 := (c0.trans hM.cha.wide).trans k
  unfold DShuts
  rw [e]
  have hw : ∀ g, v.ownBlock = some g → w.heap.size ≤ g := fun g hg => by have := hM.own g hg; rwa [size_setCell'] at this
  refine ⟨⟨h4, h.l1.cha c1 fun g hg => (h.f1 g hg).2, Lies.nil _ _, Lies.nil _ _, h.fc, h.f1, (fun g e => by cases e), (fun g e => by cases e), (fun g _ e => by cases e), (fun g _ e => by cases e), (fun g e => by cases e), fun i hi => Nat.lt_of_lt_of_le (h.old i hi) c1.size, h.c16⟩, c1.mono fun i _ e => e ▸ h.fc, hM.lies.cha k fun g hg e => ?_, hw⟩
  have := hw g hg
  omega
theorem dclose_shut (h : Dc w F bc v1 v2 v3 s) (hs : s.shut = true) : Calls Try.prog 19 #[.pointer (some ⟨bc, 0, none⟩)] w fun e w' => e = .returned (.tuple #[.slice none 0 0, .bool false]) ∧ w = w' := by
  have k1 : w.cell? ⟨bc, 2, none⟩ = some (.bool s.shut) := h.cell 2
  rw [hs] at k1
  clear h
  go_enter Try.func19, Try.ntmps19
  go_wp2
  go_returns
  exact ⟨rfl, rfl⟩
set_option maxHeartbeats 1000000 in
theorem dclose_open (h : Dc w F bc v1 v2 v3 s) (hs : s.shut = false) (hA : s.size < 8796093022208) :
    Calls Try.prog 19 #[.pointer (some ⟨bc, 0, none⟩)] w fun e w' => ∃ v, e = .returned (.tuple #[v, .bool true]) ∧ DShuts w w' F bc v1 s v := by
  have k1 : w.cell? ⟨bc, 2, none⟩ = some (.bool s.shut) := h.cell 2
  rw [hs] at k1
  have z1 := h.free 2
  obtain ⟨a2, cap2, rfl, hc2, hm2⟩ := h.l2.form
  obtain ⟨a3, cap3, rfl, hc3, hm3⟩ := h.l3.form
  have hb := h.old _ h.fc
  have H := Lib.hid h
  have c0 : Cha (fun i => i = bc) w (w.setCell ⟨bc, 2, none⟩ (.bool true)) := (Cha.refl (· = bc) w).setCell (p := ⟨bc, 2, none⟩) (fun _ => rfl) _
  have hh := heap_setCell_same w bc 2 _ 53 (.bool true) h.head
  have KX : Hid (∀ W', Cha (fun _ => False) (w.setCell ⟨bc, 2, none⟩ (.bool true)) W' → ∀ i, W'.cell? ⟨bc, i, none⟩ = (({ s with shut := true } : St).dcells v1 (.slice a2 s.snds.length cap2) (.slice a3 (gts s.rcvs).length cap3))[i]? ∧ W'.frozen? ⟨bc, i, none⟩ = false) := Lib.hid fun W' c i => by
    have e := (c.old bc (Array.getElem?_eq_some_iff.1 hh).1 (fun f => f)).trans hh
    exact ⟨cell_of_row W' bc i _ 53 (0, 0) e, frozen_of_row W' bc i _ 53 e⟩
  have HZ2 := Lib.hid (wt_at (h.l2.cha c0 fun g hg => (h.f2 g hg).2))
  have HZ3 := Lib.hid (wt_at (h.l3.cha c0 fun g hg => (h.f3 g hg).2))
  have HG3 : Hid ((gts s.rcvs).map Snd.id = s.rcvs) := Lib.hid (gts_ids _)
  have HS := Lib.hid hs
  have HA : Hid ((gts s.rcvs).length + s.snds.length < 8796093022208) := Lib.hid (by rw [gts_len]; unfold St.size at hA; omega)
  have HK : Hid (∀ wr v, Made intE (w.setCell ⟨bc, 2, none⟩ (.bool true)) wr v (s.rcvs ++ s.snds.map Snd.id) → DShuts w ((wr.setCell ⟨bc, 4, none⟩ (.slice none 0 0)).setCell ⟨bc, 3, none⟩ (.slice none 0 0)) F bc v1 s v) := Lib.hid fun wr v M => dshuts_mk h hs M
  obtain ⟨L, hL⟩ : ∃ L, L = gts s.rcvs := ⟨_, rfl⟩
  rw [← hL] at HG3 HZ3 HA KX hc3
  obtain ⟨n, hn⟩ : ∃ n, n = s.snds.length := ⟨_, rfl⟩
  have HN := Lib.hid hn
  obtain ⟨m, hm⟩ : ∃ m, m = L.length := ⟨_, rfl⟩
  have HM' := Lib.hid hm
  rw [← hn] at KX hc2
  rw [← hm] at KX hc3
  unfold maxLen at hm2 hm3
  have HM0 := Lib.hid (Made.nil intE (w.setCell ⟨bc, 2, none⟩ (.bool true)))
  clear h hA hn hm hL hs hh c0
  go_enter Try.func19, Try.ntmps19
  go_wp2
  clear k1 z1
  go_loopw [4, 5] (fun v i wr => ∃ j : Nat, j ≤ m ∧ i = .int .i64 (j : Int) ∧ Made intE (w.setCell ⟨bc, 2, none⟩ (.bool true)) wr v ((L.take j).map Snd.id)) (fun _ i _ => m - (intOf i).toNat)
  case atStart => exact ⟨0, Nat.zero_le _, rfl, by simpa using HM0.out⟩
  case round =>
    clear HM0
    obtain ⟨i0, hj, rfl, hM⟩ := hrel
    have k4 : wr.cell? ⟨bc, 4, none⟩ = some (.slice a3 m cap3) := (KX.out wr hM.cha 4).1
    by_cases hlt : i0 < m
    · have hlt2 : i0 < L.length := by rw [← HM'.out]; exact hlt
      obtain ⟨g, o, rfl, _, hz⟩ := HZ3.out (by omega)
      obtain ⟨z0, z1⟩ := hz wr (hM.cha.mono fun _ _ f => f.elim) i0 hlt2
      have HT := Lib.hid (take_map Snd.id L hlt2)
      have HM := Lib.hid hM
      have BB : Hid (((L.take i0).map Snd.id).length + [(L.getD i0 ⟨0, 0⟩).id].length ≤ 8796093022208) := Lib.hid (by
        have := HA.out
        simp only [List.length_map, List.length_take, List.length_singleton]; omega)
      clear hz hM hlt2
      generalize L.getD i0 ⟨0, 0⟩ = a at *
      go_wp2_with (at_builtin; (refine wpList_app intE_ok rfl (.tmp 23) (.tmp 32) rfl rfl (HM.out.lies.same ((Cha.refl _ wr).alloc _)) ⟨wr.heap.size, 0, none⟩ 1 1 [a.id] rfl rfl (just_new intE wr a.id 3) Nat.zero_lt_one (Nat.le_trans BB.out (by decide)) (Nat.le_trans (Nat.mul_le_mul_right 8 BB.out) (by decide)) ?_; intro g3 o3 cap3 w3 hA3; have A3 := Lib.hid ((HM.out.same ((Cha.refl _ wr).alloc _)).app hA3); clear hA3))
      go_roundw
      case rel => exact ⟨i0 + 1, by omega, by go_num, by have := A3.out; rw [List.length_map, List.length_take] at this; rw [HT.out]; exact this⟩
      case measure => simp [intOf]; omega
    · obtain rfl : i0 = m := by omega
      have HM1 := Lib.hid hM
      rw [HM'.out, List.take_length, HG3.out] at HM1
      clear hM
      go_wp2
      clear k4
      go_loopw [4, 6] (fun v i wr => ∃ j : Nat, j ≤ n ∧ i = .int .i64 (j : Int) ∧ Made intE (w.setCell ⟨bc, 2, none⟩ (.bool true)) wr v (s.rcvs ++ (s.snds.take j).map Snd.id)) (fun _ i _ => n - (intOf i).toNat)
      case atStart => exact ⟨0, Nat.zero_le _, rfl, by simpa using HM1.out⟩
      case round =>
        clear HM1
        obtain ⟨j, hj, rfl, hM⟩ := hrel
        have k3 : wr.cell? ⟨bc, 3, none⟩ = some (.slice a2 n cap2) := (KX.out wr hM.cha 3).1
        by_cases hlt : j < n
        · have hlt2 : j < s.snds.length := by rw [← HN.out]; exact hlt
          obtain ⟨g, o, rfl, _, hz⟩ := HZ2.out (by omega)
          obtain ⟨z0, z1⟩ := hz wr (hM.cha.mono fun _ _ f => f.elim) j hlt2
          have HT := Lib.hid (take_map Snd.id s.snds hlt2)
          have HM := Lib.hid hM
          have BB : Hid ((s.rcvs ++ (s.snds.take j).map Snd.id).length + [(s.snds.getD j ⟨0, 0⟩).id].length ≤ 8796093022208) := Lib.hid (by
            have := HA.out
            have e2 : L.length = s.rcvs.length := by rw [← HG3.out, List.length_map]
            simp only [List.length_append, List.length_map, List.length_take, List.length_singleton]; omega)
          clear hz hM hlt2
          generalize s.snds.getD j ⟨0, 0⟩ = a at *
          go_wp2_with (at_builtin; (refine wpList_app intE_ok rfl (.tmp 43) (.tmp 52) rfl rfl (HM.out.lies.same ((Cha.refl _ wr).alloc _)) ⟨wr.heap.size, 0, none⟩ 1 1 [a.id] rfl rfl (just_new intE wr a.id 3) Nat.zero_lt_one (Nat.le_trans BB.out (by decide)) (Nat.le_trans (Nat.mul_le_mul_right 8 BB.out) (by decide)) ?_; intro g3 o3 cap3 w3 hA3; have A3 := Lib.hid ((HM.out.same ((Cha.refl _ wr).alloc _)).app hA3); clear hA3))
          go_roundw
          case rel => exact ⟨j + 1, by omega, by go_num, by have := A3.out; rw [List.length_append, List.length_map, List.length_take] at this; rw [HT.out, ← List.append_assoc]; exact this⟩
          case measure => simp [intOf]; omega
        · obtain rfl : j = n := by omega
          have hM2 := hM
          rw [HN.out, List.take_length] at hM2
          have HK2 := Lib.hid (HK.out _ _ hM2)
          obtain ⟨_, y3⟩ := KX.out wr hM.cha 3
          obtain ⟨x4, y4⟩ := KX.out wr hM.cha 4
          have k4 : wr.cell? ⟨bc, 4, none⟩ = some (.slice a3 i0 cap3) := x4
          clear hM hM2 x4
          go_wp2
          go_returns
          exact ⟨_, rfl, HK2.out⟩
end Go.Proofs.Ytnhjkmkocpjkmaa
