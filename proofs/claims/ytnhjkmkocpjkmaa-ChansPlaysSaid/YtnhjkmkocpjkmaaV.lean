/- The document's channels: Send. -/
import Derived.Test.YtnhjkmkocpjkmaaU
namespace Go.Proofs.Ytnhjkmkocpjkmaa
open Go.ChangeShapes Go.WideShapes Go.ChangeAt Go.RowKit
variable {w w' W : World} {F : Nat → Prop} {bc g o n cap : Nat} {v1 v2 v3 v : Value} {s : St}

theorem Dc.app_at {α : Type} {E : Enc α} {w3 : World} {v : Value} {A N : List α} {g o cap i : Nat} {u : Value} (h : Dc w F bc v1 v2 v3 s) (c0 : Cha (fun _ => False) w W) (hv : v.ownBlock ≠ some bc) (hA : App E W w3 v A N g o cap) :
    (w3.setCell ⟨bc, i, none⟩ u).heap[bc]? = (w.setCell ⟨bc, i, none⟩ u).heap[bc]? ∧ Cha (fun i => i = bc ∨ v.ownBlock = some i) w (w3.setCell ⟨bc, i, none⟩ u) ∧ g ≠ bc ∧ (v.ownBlock = some g ∨ w.heap.size ≤ g) := by
  have hb := h.old _ h.fc
  have hb2 := Nat.lt_of_lt_of_le hb c0.size
  have hg : v.ownBlock = some g ∨ w.heap.size ≤ g := hA.at'.imp id fun e => Nat.le_trans c0.size e
  refine ⟨heap_at h.head (((hA.cha.old bc hb2 hv).trans (c0.old bc hb (fun f => f))).trans h.head), (((c0.wide.trans (hA.cha.mono fun _ _ e => .inr e))).setCell (p := ⟨bc, i, none⟩) (fun _ => .inl rfl) _), ?_, hg⟩
  rintro rfl
  rcases hg with e | e
  · exact hv e
  · omega
theorem Dc.take2 (h : Dc w F bc v1 (.slice (some ⟨g, o, none⟩) n cap) v3 s) {x : Snd} {l : List Snd} (e : s.snds = x :: l) (hh : W.heap[bc]? = (w.setCell ⟨bc, 3, none⟩ (tailV g o n cap 2)).heap[bc]?) (c : Cha (fun i => i = bc) w W) : DLeft w W F bc { s with snds := l } := by
  have h1 := h.l2
  rw [e] at h1
  exact h.put2 hh (c.mono fun _ _ e => .inl e) ((h1.tail wtE_ok).cha c fun g' hg => (h.f2 g' hg).2) (fun g' hg => .inl hg)
theorem Dc.take3 (h : Dc w F bc v1 v2 (.slice (some ⟨g, o, none⟩) n cap) s) {x : Int} {l : List Int} (e : s.rcvs = x :: l) (hh : W.heap[bc]? = (w.setCell ⟨bc, 4, none⟩ (tailV g o n cap 2)).heap[bc]?) (c : Cha (fun i => i = bc) w W) : DLeft w W F bc { s with rcvs := l } := by
  have h1 := h.l3
  rw [e] at h1
  exact h.put3 hh (c.mono fun _ _ e => .inl e) (Lies.tail (A := gts l) (x := ⟨x, 0⟩) wtE_ok h1 |>.cha c fun g' hg => (h.f3 g' hg).2) (fun g' hg => .inl hg)
theorem dsend_shut (h : Dc w F bc v1 v2 v3 s) (id x : Int) (b : Bool) (hs : s.shut = true) :
    Calls Try.prog 12 #[.pointer (some ⟨bc, 0, none⟩), .int .i64 id, .int .u64 x, .bool b] w fun e w' => e = .returned (.tuple #[.int .i64 4, .int .i64 0]) ∧ DLeft w w' F bc s := by
  have k1 : w.cell? ⟨bc, 2, none⟩ = some (.bool s.shut) := h.cell 2
  rw [hs] at k1
  have H := Lib.hid (h.left (Cha.refl _ _))
  clear h
  go_enter Try.func12, Try.ntmps12
  go_wp2
  go_returns
  exact ⟨rfl, H.out⟩
theorem dsend_hand (h : Dc w F bc v1 v2 v3 s) (id x : Int) (b : Bool) (hs : s.shut = false) {r : Int} {l : List Int} (e : s.rcvs = r :: l) :
    Calls Try.prog 12 #[.pointer (some ⟨bc, 0, none⟩), .int .i64 id, .int .u64 x, .bool b] w fun e w' => e = .returned (.tuple #[.int .i64 2, .int .i64 r]) ∧ DLeft w w' F bc { s with rcvs := l } := by
  have k1 : w.cell? ⟨bc, 2, none⟩ = some (.bool s.shut) := h.cell 2
  rw [hs] at k1
  obtain ⟨a, cap, rfl, hc, hm⟩ := h.l3.form
  have k4 : w.cell? ⟨bc, 4, none⟩ = some (.slice a (gts s.rcvs).length cap) := h.cell 4
  have z4 := h.free 4
  have hl : (gts s.rcvs).length = l.length + 1 := by rw [gts_len, e]; rfl
  obtain ⟨g, o, rfl, _, hz⟩ := wt_at h.l3 (by omega)
  have hz0 := (hz w (Cha.refl _ _) 0 (by omega)).1
  have e0 : ((gts s.rcvs).getD 0 ⟨0, 0⟩).id = r := by rw [e]; rfl
  rw [e0, Nat.zero_mul, Nat.add_zero] at hz0
  have H := Lib.hid h
  have HE := Lib.hid e
  rw [hl] at k4 hc H
  unfold maxLen at hm
  clear h e hz e0 hl
  generalize l.length = m at *
  by_cases h1 : cap = 1
  · subst h1
    obtain rfl : m = 0 := by omega
    go_enter Try.func12, Try.ntmps12
    go_wp2
    go_returns
    exact ⟨rfl, H.out.take3 HE.out rfl ((Cha.refl (· = bc) w).setCell (p := ⟨bc, 4, none⟩) (fun _ => rfl) _)⟩
  · have HT : Hid (tailV g o (m + 1) cap 2 = .slice (some ⟨g, o + 2, none⟩) m (cap - 1)) := Lib.hid (by unfold tailV; rw [if_neg h1]; rfl)
    go_enter Try.func12, Try.ntmps12
    go_wp2
    go_returns
    exact ⟨rfl, H.out.take3 HE.out (by rw [HT.out]) ((Cha.refl (· = bc) w).setCell (p := ⟨bc, 4, none⟩) (fun _ => rfl) _)⟩
theorem dsend_place (h : Dc w F bc v1 v2 v3 s) (id x : Int) (b : Bool) (hs : s.shut = false) (e : s.rcvs = []) (hlt : s.vals.length < s.cap) :
    Calls Try.prog 12 #[.pointer (some ⟨bc, 0, none⟩), .int .i64 id, .int .u64 x, .bool b] w fun e w' => e = .returned (.tuple #[.int .i64 1, .int .i64 0]) ∧ DLeft w w' F bc { s with vals := s.vals ++ [x] } := by
  have k1 : w.cell? ⟨bc, 2, none⟩ = some (.bool s.shut) := h.cell 2
  rw [hs] at k1
  have k0 : w.cell? ⟨bc, 1, none⟩ = some (.int .i64 (s.cap : Nat)) := h.cell 1
  have h16 := h.c16
  obtain ⟨a3, cap3, k4⟩ := h.len3
  rw [e] at k4
  obtain ⟨a1, cap1, rfl, hc1, hm1⟩ := h.l1.form
  have k2 : w.cell? ⟨bc, 0, none⟩ = some (.slice a1 s.vals.length cap1) := h.cell 0
  have H := Lib.hid h
  have hl2 : ((s.vals.length : Nat) : Int) < ((s.cap : Nat) : Int) := by omega
  have HV : Hid (s.vals.length + [x].length ≤ 17) := Lib.hid (by simp only [List.length_singleton]; omega)
  have KX : Hid (∀ W', Cha (fun i => i ≠ bc) w W' → W'.cell? ⟨bc, 0, none⟩ = some (.slice a1 s.vals.length cap1) ∧ W'.frozen? ⟨bc, 0, none⟩ = false) := Lib.hid fun W' c => H.out.keeps c 0
  have HL : Hid (∀ W', Cha (fun _ => False) w W' → Lies u64E W' (.slice a1 s.vals.length cap1) s.vals) := Lib.hid fun W' c => H.out.l1.same c
  have HN : Hid (∀ j u, (u64E.cs [x])[j]? = some u → ((w.alloc (.cells #[.int .u64 x] 31)).drew).cell? ((⟨w.heap.size, 0, none⟩ : Addr).add j) = some u) := Lib.hid (just_new u64E w x 31)
  clear h e hlt h16 hc1 hm1
  go_enter Try.func12, Try.ntmps12
  go_wp2
  go_region
  go_wp2_with (at_builtin; (refine wpList_app u64E_ok rfl (.tmp 51) (.tmp 53) rfl (v := .slice a1 s.vals.length cap1) (A := s.vals) rfl (HL.out _ (((Cha.refl _ w).alloc _).drew)) ⟨w.heap.size, 0, none⟩ 1 1 [x] rfl rfl HN.out Nat.zero_lt_one (Nat.le_trans HV.out (by decide)) (Nat.le_trans (Nat.mul_le_mul_right 8 HV.out) (by decide)) ?_; intro g3 o3 cap3 w3 hA3; obtain ⟨k5, k6⟩ := KX.out w3 (((Cha.refl _ w).alloc _).drew.trans (hA3.cha.mono fun i _ e => (H.out.f1 i e).2)); have A3 := Lib.hid hA3; clear hA3))
  go_returns
  obtain ⟨e1, e2, e3, e4⟩ := H.out.app_at (i := 0) (u := .slice (some ⟨g3, o3, none⟩) (s.vals.length + 1) cap3) (((Cha.refl _ w).alloc _).drew) (fun e => (H.out.f1 _ e).2 rfl) A3.out
  exact ⟨rfl, H.out.put1 e1 e2 (A3.out.lies.cha ((Cha.refl (· = bc) w3).setCell (p := ⟨bc, 0, none⟩) (fun _ => rfl) _) (fun g hg => by cases hg; exact e3)) (fun g hg => by cases hg; exact e4)⟩
theorem dsend_wait (h : Dc w F bc v1 v2 v3 s) (id x : Int) (b : Bool) (hs : s.shut = false) (e : s.rcvs = []) (hlt : s.cap ≤ s.vals.length) (hA : s.size < 8796093022208) :
    Calls Try.prog 12 #[.pointer (some ⟨bc, 0, none⟩), .int .i64 id, .int .u64 x, .bool b] w fun e w' => e = .returned (.tuple #[.int .i64 3, .int .i64 0]) ∧ DLeft w w' F bc (if b = true then s.queue id x true else s) := by
  have k1 : w.cell? ⟨bc, 2, none⟩ = some (.bool s.shut) := h.cell 2
  rw [hs] at k1
  have k0 : w.cell? ⟨bc, 1, none⟩ = some (.int .i64 (s.cap : Nat)) := h.cell 1
  obtain ⟨a3, cap3, k4⟩ := h.len3
  rw [e] at k4
  obtain ⟨a1, cap1, k2⟩ := h.len1
  obtain ⟨a2, cap2, rfl, _, _⟩ := h.l2.form
  have k3 : w.cell? ⟨bc, 3, none⟩ = some (.slice a2 s.snds.length cap2) := h.cell 3
  have hl2 : ¬ ((s.vals.length : Nat) : Int) < ((s.cap : Nat) : Int) := by omega
  have h0 := h.same ((Cha.refl (fun _ => False) w).drew)
  have C := Lib.hid (with_any h0.l2 id x (by unfold St.size at hA; omega))
  have KX : Hid (∀ W', Cha (fun _ => False) w.drew W' → W'.cell? ⟨bc, 3, none⟩ = some (.slice a2 s.snds.length cap2) ∧ W'.frozen? ⟨bc, 3, none⟩ = false) := Lib.hid fun W' c => h0.keeps (c.mono fun _ _ f => f.elim) 3
  have HL := Lib.hid (h.left (Cha.refl _ w).drew)
  have H0 := Lib.hid h0
  clear h e hlt h0
  cases b
  · go_enter Try.func12, Try.ntmps12
    go_wp2
    go_region
    go_wp2
    go_returns
    exact ⟨rfl, HL.out⟩
  · go_enter Try.func12, Try.ntmps12
    go_wp2
    go_region
    go_wp2_with (go_at_call 30; (with_reducible refine (C.out).mono ?_); rintro e w1 ⟨g3, o3, c3, rfl, hM⟩; (obtain ⟨q3, z3⟩ := KX.out w1 hM.cha); have HM := Lib.hid hM; clear hM)
    go_returns
    exact ⟨rfl, DLeft.before ((Cha.refl _ w).drew) (H0.out.lay2 HM.out)⟩
theorem dsend_any (h : Dc w F bc v1 v2 v3 s) (id x : Int) (b : Bool) (hA : s.size < 8796093022208) :
    Calls Try.prog 12 #[.pointer (some ⟨bc, 0, none⟩), .int .i64 id, .int .u64 x, .bool b] w fun e w' => e = .returned (.tuple #[.int .i64 (s.send id x b).1.what, .int .i64 (s.send id x b).1.who]) ∧ DLeft w w' F bc (s.send id x b).2 := by
  unfold St.send
  by_cases hs : s.shut = true
  · rw [if_pos hs]
    exact dsend_shut h id x b hs
  · rw [if_neg hs]
    have hs : s.shut = false := by simpa using hs
    split
    · rename_i r l e
      exact dsend_hand h id x b hs e
    · rename_i e
      by_cases hl : s.vals.length < s.cap
      · rw [if_pos hl]
        exact dsend_place h id x b hs e hl
      · rw [if_neg hl]
        exact dsend_wait h id x b hs e (by omega) hA
end Go.Proofs.Ytnhjkmkocpjkmaa
