/- The document's channels: Recv's other ways, Ready, Values. -/
import Derived.Test.YtnhjkmkocpjkmaaX
namespace Go.Proofs.Ytnhjkmkocpjkmaa
open Go.ChangeShapes Go.WideShapes Go.ChangeAt Go.RowKit
variable {w w' W : World} {F : Nat → Prop} {bc g o n cap : Nat} {v1 v2 v3 v : Value} {s : St}

theorem drecv_hand (h : Dc w F bc v1 v2 v3 s) (id : Int) (b : Bool) (e : s.vals = []) {a : Snd} {m : List Snd} (e2 : s.snds = a :: m) :
    Calls Try.prog 14 #[.pointer (some ⟨bc, 0, none⟩), .int .i64 id, .bool b] w fun e w' => e = .returned (.tuple #[.int .i64 2, .int .i64 a.id, .int .u64 a.val]) ∧ DLeft w w' F bc { s with snds := m } := by
  obtain ⟨a1, cap1, k1⟩ := h.len1
  rw [e] at k1
  obtain ⟨a2, cap2, rfl, hc2, hm2⟩ := h.l2.form
  have k3 : w.cell? ⟨bc, 3, none⟩ = some (.slice a2 s.snds.length cap2) := h.cell 3
  have z3 := h.free 3
  have hlen2 : s.snds.length = m.length + 1 := by rw [e2]; rfl
  obtain ⟨g2, o2, rfl, hgl2, hy⟩ := wt_at h.l2 (by omega)
  have ea : s.snds.getD 0 ⟨0, 0⟩ = a := by rw [e2]; rfl
  have hbg := hy w (Cha.refl _ _) 0 (by omega)
  rw [ea, Nat.zero_mul, Nat.add_zero] at hbg
  obtain ⟨p0, p1⟩ := hbg
  have hb := h.old _ h.fc
  have HD : Hid (∀ X, X.heap[bc]? = (w.setCell ⟨bc, 3, none⟩ (.slice (some ⟨g2, hd cap2 o2 2, none⟩) m.length (cap2 - 1))).heap[bc]? → Cha (fun i => i = bc) w X → DLeft w X F bc { s with snds := m }) := Lib.hid fun X hh c => h.take2 e2 (by rw [tailV_hd, hlen2, Nat.add_sub_cancel]; exact hh) c
  have sl2 := tl51 g2 o2 (m.length + 1) cap2 (by omega)
  rw [Nat.add_sub_cancel] at sl2
  rw [hlen2] at k3 hc2
  unfold maxLen at hm2
  clear h e e2 hy hlen2 ea
  generalize hd cap2 o2 2 = o3 at *
  generalize m.length = k at *
  go_enter Try.func14, Try.ntmps14
  go_wp2
  go_region
  go_wp2
  go_returns
  refine ⟨rfl, HD.out _ ?_ ?_⟩
  · exact heap_alloc_old _ _ (by rw [size_setCell']; exact hb)
  · exact (((Cha.refl (· = bc) w).setCell (p := ⟨bc, 3, none⟩) (fun _ => rfl) _).alloc _).drew
theorem drecv_end (h : Dc w F bc v1 v2 v3 s) (id : Int) (b : Bool) (e : s.vals = []) (e2 : s.snds = []) (hA : s.size < 8796093022208) :
    Calls Try.prog 14 #[.pointer (some ⟨bc, 0, none⟩), .int .i64 id, .bool b] w fun e w' => e = .returned (.tuple #[.int .i64 (if s.shut = true then 4 else 3), .int .i64 0, .int .u64 0]) ∧ DLeft w w' F bc (if s.shut = true then s else if b = true then s.queue id 0 false else s) := by
  obtain ⟨a1, cap1, k1⟩ := h.len1
  obtain ⟨a2, cap2, k3⟩ := h.len2
  have k2 : w.cell? ⟨bc, 2, none⟩ = some (.bool s.shut) := h.cell 2
  rw [e] at k1
  rw [e2] at k3
  have H := Lib.hid h
  have HL := Lib.hid (h.left (Cha.refl _ _))
  obtain ⟨a3, cap3, rfl, _, _⟩ := h.l3.form
  have k4 : w.cell? ⟨bc, 4, none⟩ = some (.slice a3 (gts s.rcvs).length cap3) := h.cell 4
  have C := Lib.hid (with_any h.l3 id 0 (by rw [gts_len]; unfold St.size at hA; omega))
  have KX : Hid (∀ W', Cha (fun _ => False) w W' → W'.cell? ⟨bc, 4, none⟩ = some (.slice a3 (gts s.rcvs).length cap3) ∧ W'.frozen? ⟨bc, 4, none⟩ = false) := Lib.hid fun W' c => H.out.keeps (c.mono fun _ _ f => f.elim) 4
  have HG : Hid ((gts s.rcvs) ++ [⟨id, 0⟩] = gts (s.rcvs ++ [id])) := Lib.hid (gts_app _ _).symm
  rw [HG.out] at C
  clear h e e2
  generalize (gts s.rcvs).length = m at *
  by_cases hs : s.shut = true
  · rw [if_pos hs, if_pos hs]
    rw [hs] at k2
    go_enter Try.func14, Try.ntmps14
    go_wp2
    go_returns
    exact ⟨rfl, HL.out⟩
  · rw [if_neg hs, if_neg hs]
    have hs2 : s.shut = false := by simpa using hs
    rw [hs2] at k2
    clear hs hs2
    cases b
    · go_enter Try.func14, Try.ntmps14
      go_wp2
      go_returns
      exact ⟨rfl, HL.out⟩
    · go_enter Try.func14, Try.ntmps14
      go_wp2_with (go_at_call 30; (with_reducible refine (C.out).mono ?_); rintro e w1 ⟨g3, o3, c3, rfl, hM⟩; (obtain ⟨q3, z3⟩ := KX.out w1 hM.cha); have HM := Lib.hid hM; clear hM)
      go_returns
      exact ⟨rfl, H.out.lay3 HM.out⟩
theorem drecv_any (h : Dc w F bc v1 v2 v3 s) (id : Int) (b : Bool) (hA : s.size < 8796093022208) :
    Calls Try.prog 14 #[.pointer (some ⟨bc, 0, none⟩), .int .i64 id, .bool b] w fun e w' => e = .returned (.tuple #[.int .i64 (s.recv id b).1.what, .int .i64 (s.recv id b).1.who, .int .u64 (s.recv id b).1.val]) ∧ DLeft w w' F bc (s.recv id b).2 := by
  unfold St.recv
  split
  · rename_i x l e e2
    exact drecv_place h id b e e2 hA
  · rename_i x l a m e e2
    exact drecv_both h id b e e2 hA
  · rename_i a m e e2
    exact drecv_hand h id b e e2
  · rename_i e e2
    have := drecv_end h id b e e2 hA
    by_cases hs : s.shut = true
    · rw [if_pos hs] at this ⊢
      rw [if_pos hs] at this
      exact this
    · rw [if_neg hs] at this ⊢
      rw [if_neg hs] at this
      exact this
theorem dready_any (h : Dc w F bc v1 v2 v3 s) (b : Bool) : Calls Try.prog 29 #[.pointer (some ⟨bc, 0, none⟩), .bool b] w fun e w' => e = .returned (.bool (s.ready b)) ∧ Cha (fun _ => False) w w' := by
  have k0 : w.cell? ⟨bc, 1, none⟩ = some (.int .i64 (s.cap : Nat)) := h.cell 1
  have k1 : w.cell? ⟨bc, 2, none⟩ = some (.bool s.shut) := h.cell 2
  obtain ⟨a1, cap1, k2⟩ := h.len1
  obtain ⟨a2, cap2, k3⟩ := h.len2
  obtain ⟨a3, cap3, k4⟩ := h.len3
  have h0 := Lib.hid (Cha.refl (fun _ => False) w)
  clear h
  unfold St.ready
  generalize s.vals.length = n1 at *
  generalize s.snds.length = n2 at *
  generalize s.rcvs.length = n3 at *
  by_cases hs : s.shut = true
  · rw [if_pos hs]
    rw [hs] at k1
    go_enter Try.func29, Try.ntmps29
    go_wp2
    go_returns
    exact ⟨rfl, h0.out⟩
  · rw [if_neg hs]
    have hs2 : s.shut = false := by simpa using hs
    rw [hs2] at k1
    clear hs hs2
    cases b
    · rw [if_neg (by decide), Bool.or_comm]
      by_cases hl : 0 < n2
      · have hl2 : (0 : Int) < (n2 : Int) := by omega
        rw [decide_eq_true hl]
        clear hl
        go_enter Try.func29, Try.ntmps29
        go_wp2
        go_returns
        exact ⟨rfl, h0.out⟩
      · obtain rfl : n2 = 0 := by omega
        have e0 : (decide (0 < 0) || decide (0 < n1)) = decide (0 < n1) := by simp
        rw [e0]
        clear hl e0
        go_enter Try.func29, Try.ntmps29
        go_wp2
        go_returns
        exact ⟨rfl, h0.out⟩
    · rw [if_pos rfl]
      by_cases hl : 0 < n3
      · have hl2 : (0 : Int) < (n3 : Int) := by omega
        have hd := decide_eq_true hl
        rw [hd]
        go_enter Try.func29, Try.ntmps29
        go_wp2
        go_region
        go_wp2
        go_returns
        exact ⟨rfl, h0.out.drew⟩
      · obtain rfl : n3 = 0 := by omega
        by_cases hl3 : n1 < s.cap
        · have hl2 : (n1 : Int) < ((s.cap : Nat) : Int) := by omega
          have hd := decide_eq_true hl3
          rw [hd]
          clear hl
          go_enter Try.func29, Try.ntmps29
          go_wp2
          go_region
          go_wp2
          go_returns
          exact ⟨rfl, h0.out.drew⟩
        · have hl2 : ¬ ((n1 : Int) < ((s.cap : Nat) : Int)) := by omega
          have hd := decide_eq_false hl3
          rw [hd]
          clear hl
          go_enter Try.func29, Try.ntmps29
          go_wp2
          go_region
          go_wp2
          go_returns
          exact ⟨rfl, h0.out.drew⟩
set_option maxHeartbeats 1000000 in
theorem dvalues_any (h : Dc w F bc v1 v2 v3 s) (hA : s.size < 8796093022208) :
    Calls Try.prog 26 #[.pointer (some ⟨bc, 0, none⟩)] w fun e w' => ∃ v, e = .returned v ∧ Made u64E w w' v s.values := by
  have k1 : w.cell? ⟨bc, 0, none⟩ = some v1 := h.cell 0
  obtain ⟨a2, cap2, rfl, hc2, hm2⟩ := h.l2.form
  have H := Lib.hid h
  have KX : Hid (∀ W', Cha (fun _ => False) w W' → W'.cell? ⟨bc, 3, none⟩ = some (.slice a2 s.snds.length cap2)) := Lib.hid fun W' c => (H.out.keeps (c.mono fun _ _ f => f.elim) 3).1
  have B1 : Hid (Fits u64E s.vals) := Lib.hid (by unfold St.size at hA; exact ⟨by unfold maxLen; omega, by show _ * 8 ≤ _; omega⟩)
  obtain ⟨n, hn⟩ : ∃ n, n = s.snds.length := ⟨_, rfl⟩
  have HN := Lib.hid hn
  have HA := Lib.hid hA
  rw [← hn] at KX hc2
  unfold maxLen at hm2
  have HZ := Lib.hid (wt_at H.out.l2)
  clear h hA hn
  go_enter Try.func26, Try.ntmps26
  go_wp2_with (at_builtin; refine wpList_app_nil u64E_ok rfl (.tmp 5) (.tmp 9) rfl rfl rfl H.out.l1 B1.out.1 B1.out.2 ?_; intro ids w1 hM; have HM := Lib.hid hM; clear hM)
  clear k1
  go_loopw [3, 4] (fun v i wr => ∃ j : Nat, j ≤ n ∧ i = .int .i64 (j : Int) ∧ Made u64E w wr v (s.vals ++ (s.snds.take j).map Snd.val)) (fun _ i _ => n - (intOf i).toNat)
  case atStart => exact ⟨0, Nat.zero_le _, rfl, by simpa using HM.out⟩
  case round =>
    clear HM
    obtain ⟨j, hj, rfl, hM⟩ := hrel
    have k3 := KX.out wr hM.cha
    by_cases hlt : j < n
    · have hlt2 : j < s.snds.length := by rw [← HN.out]; exact hlt
      obtain ⟨g, o, rfl, _, hz⟩ := HZ.out (by omega)
      obtain ⟨z0, z1⟩ := hz wr (hM.cha.mono fun _ _ f => f.elim) j hlt2
      have HT := Lib.hid (take_map Snd.val s.snds hlt2)
      have HM := Lib.hid hM
      have BB : Hid ((s.vals ++ (s.snds.take j).map Snd.val).length + [(s.snds.getD j ⟨0, 0⟩).val].length ≤ 8796093022208) := Lib.hid (by
        have := HA.out
        unfold St.size at this
        simp only [List.length_append, List.length_map, List.length_take, List.length_singleton]; omega)
      clear hz hM hlt2
      generalize s.snds.getD j ⟨0, 0⟩ = a at *
      go_wp2_with (at_builtin; (refine wpList_app u64E_ok rfl (.tmp 20) (.tmp 29) rfl rfl (HM.out.lies.same ((Cha.refl _ wr).alloc _)) ⟨wr.heap.size, 0, none⟩ 1 1 [a.val] rfl rfl (just_new u64E wr a.val 31) Nat.zero_lt_one (Nat.le_trans BB.out (by decide)) (Nat.le_trans (Nat.mul_le_mul_right 8 BB.out) (by decide)) ?_; intro g3 o3 cap3 w3 hA3; have A3 := Lib.hid ((HM.out.same ((Cha.refl _ wr).alloc _)).app hA3); clear hA3))
      go_roundw
      case rel => exact ⟨j + 1, by omega, by go_num, by have := A3.out; rw [List.length_append, List.length_map, List.length_take] at this; rw [HT.out, ← List.append_assoc]; exact this⟩
      case measure => simp [intOf]; omega
    · obtain rfl : j = n := by omega
      have HM := Lib.hid hM
      clear hM
      go_wp2
      go_ret
      have hM := HM.out
      rw [HN.out, List.take_length] at hM
      exact ⟨_, rfl, hM⟩
end Go.Proofs.Ytnhjkmkocpjkmaa
