/- Contracts of chans: Send. -/
import Derived.Test.YtnhjkmkocpjkmaaD
namespace Go.Proofs.Ytnhjkmkocpjkmaa
open Go.ChangeShapes Go.WideShapes Go.ChangeAt Go.RowKit
variable {w w' W : World} {F : Nat → Prop} {bc g o n cap : Nat} {v1 v2 v3 : Value} {s : St}

/-- A result's variable, as it was made. -/
theorem res_facts {m : Nat} (h : W.heap[m]? = some (.cells #[.int .i64 0, .int .i64 0, .int .u64 0] 37 (0, 0))) :
    W.cell? ⟨m, 0, none⟩ = some (.int .i64 0) ∧ W.cell? ⟨m, 1, none⟩ = some (.int .i64 0) ∧ W.cell? ⟨m, 2, none⟩ = some (.int .u64 0) ∧ (∀ i, W.frozen? ⟨m, i, none⟩ = false) :=
  ⟨cell_of_row W m 0 _ 37 (0, 0) h, cell_of_row W m 1 _ 37 (0, 0) h, cell_of_row W m 2 _ 37 (0, 0) h, fun i => frozen_of_row W m i _ 37 h⟩
theorem Ch.app_res {α : Type} {E : Enc α} {w3 : World} {v : Value} {A N : List α} {g o cap i : Nat} {u a0 a1 a2 : Value} (h : Ch w F bc v1 v2 v3 s) (c0 : Cha (fun _ => False) w W) (hm : w.heap.size < W.heap.size) (hv : ∀ g, v.ownBlock = some g → F g ∧ g ≠ bc) (hA : App E W w3 v A N g o cap) :
    ((((w3.setCell ⟨bc, i, none⟩ u).setCell ⟨w.heap.size, 0, none⟩ a0).setCell ⟨w.heap.size, 1, none⟩ a1).setCell ⟨w.heap.size, 2, none⟩ a2).heap[bc]? = (w.setCell ⟨bc, i, none⟩ u).heap[bc]? ∧
    Cha (fun i => i = bc ∨ v.ownBlock = some i) w ((((w3.setCell ⟨bc, i, none⟩ u).setCell ⟨w.heap.size, 0, none⟩ a0).setCell ⟨w.heap.size, 1, none⟩ a1).setCell ⟨w.heap.size, 2, none⟩ a2) ∧ (v.ownBlock = some g ∨ w.heap.size ≤ g) ∧
    Lies E ((((w3.setCell ⟨bc, i, none⟩ u).setCell ⟨w.heap.size, 0, none⟩ a0).setCell ⟨w.heap.size, 1, none⟩ a1).setCell ⟨w.heap.size, 2, none⟩ a2) (.slice (some ⟨g, o, none⟩) (A.length + N.length) cap) (A ++ N) := by
  have hb := h.old _ h.fc
  obtain ⟨e1, e2, e3, e4⟩ := h.app_at (i := i) (u := u) c0 (fun e => (hv _ e).2 rfl) hA
  have hgm : g ≠ w.heap.size := by
    rcases hA.at' with e | e
    · have := h.old _ (hv g e).1; omega
    · omega
  refine ⟨?_, ((e2.setCell (p := ⟨w.heap.size, 0, none⟩) (fun e => absurd e (Nat.lt_irrefl _)) _).setCell (p := ⟨w.heap.size, 1, none⟩) (fun e => absurd e (Nat.lt_irrefl _)) _).setCell (p := ⟨w.heap.size, 2, none⟩) (fun e => absurd e (Nat.lt_irrefl _)) _, e4, ?_⟩
  · rw [heap_setCell_other _ _ _ _ (show bc ≠ w.heap.size by omega), heap_setCell_other _ _ _ _ (show bc ≠ w.heap.size by omega), heap_setCell_other _ _ _ _ (show bc ≠ w.heap.size by omega)]
    exact e1
  · exact hA.lies.cha ((((Cha.refl (fun i => i = bc ∨ i = w.heap.size) w3).setCell (p := ⟨bc, i, none⟩) (fun _ => .inl rfl) _).setCell (p := ⟨w.heap.size, 0, none⟩) (fun _ => .inr rfl) _).setCell (p := ⟨w.heap.size, 1, none⟩) (fun _ => .inr rfl) _ |>.setCell (p := ⟨w.heap.size, 2, none⟩) (fun _ => .inr rfl) _) (fun g' hg => by cases hg; exact fun c => c.elim e3 hgm)
theorem set3 (w1 : World) (m : Nat) (a0 a1 a2 : Value) : Cha (fun i => i = m) w1 (((w1.setCell ⟨m, 0, none⟩ a0).setCell ⟨m, 1, none⟩ a1).setCell ⟨m, 2, none⟩ a2) :=
  (((Cha.refl (fun i => i = m) w1).setCell (p := ⟨m, 0, none⟩) (fun _ => rfl) _).setCell (p := ⟨m, 1, none⟩) (fun _ => rfl) _).setCell (p := ⟨m, 2, none⟩) (fun _ => rfl) _
theorem Left.row {w1 : World} {m : Nat} {cs : Array Value} {t : TypeId} (h : Left W w1 F bc s) (hr : W.heap[m]? = some (.cells cs t (0, 0))) (hf : ¬ F m) : w1.heap[m]? = some (.cells cs t (0, 0)) := by
  obtain ⟨F1, u1, u2, u3, q, c, n⟩ := h
  exact (c.old m (Array.getElem?_eq_some_iff.1 hr).1 hf).trans hr
/-- A new block that only the caller knows is written. -/
theorem Left.res {w1 X : World} (h : Left W w1 F bc s) (hO : ∀ i, F i → i < w.heap.size) (c0 : Cha (fun _ => False) w W) (hm : w.heap.size < W.heap.size) (c : Cha (fun i => i = w.heap.size) w1 X) : Left w X F bc s := by
  obtain ⟨F1, u1, u2, u3, q, c1, n⟩ := h
  have hn : ∀ i, F1 i → i ≠ w.heap.size := fun i hi => by
    rcases n i hi with e | e
    · have := hO i e; omega
    · omega
  exact ⟨F1, u1, u2, u3, q.cha c hn, (c0.wide.trans c1).over c (fun i e => .inr (by omega)), fun i hi => (n i hi).imp id fun e => by omega⟩
theorem send_none (id v : Int) (b : Bool) (w : World) : Calls Try.prog 13 #[.pointer none, .int .i64 id, .int .u64 v, .bool b] w fun e w' => e = .returned (Res.v ⟨0, 0, 0⟩) ∧ Cha (fun _ => False) w w' := by
  go_enter Try.func13, Try.ntmps13
  go_wp2
  exact bodyPost_ret (v := Res.v ⟨0, 0, 0⟩) (by simp [results, Try.results13, go_sem, Res.v]) rfl ⟨rfl, (Cha.refl _ _).alloc _⟩
theorem send_shut (h : Ch w F bc v1 v2 v3 s) (id v : Int) (b : Bool) (hs : s.shut = true) :
    Calls Try.prog 13 #[.pointer (some ⟨bc, 0, none⟩), .int .i64 id, .int .u64 v, .bool b] w fun e w' => e = .returned (Res.v ⟨4, 0, 0⟩) ∧ Left w w' F bc s := by
  have k1 : w.cell? ⟨bc, 1, none⟩ = some (.bool s.shut) := h.cell 1
  rw [hs] at k1
  have hb := h.old _ h.fc
  have H := Lib.hid h
  clear h
  go_enter Try.func13, Try.ntmps13
  go_wp2
  exact bodyPost_ret (v := Res.v ⟨4, 0, 0⟩) (by simp [results, Try.results13, go_sem, Res.v]) rfl ⟨rfl, H.out.left ((Cha.refl _ _).alloc _)⟩
theorem send_hand (h : Ch w F bc v1 v2 v3 s) (id v : Int) (b : Bool) (hs : s.shut = false) {r : Int} {l : List Int} (e : s.rcvs = r :: l) :
    Calls Try.prog 13 #[.pointer (some ⟨bc, 0, none⟩), .int .i64 id, .int .u64 v, .bool b] w fun e w' => e = .returned (Res.v ⟨2, r, 0⟩) ∧ Left w w' F bc { s with rcvs := l } := by
  have k1 : w.cell? ⟨bc, 1, none⟩ = some (.bool s.shut) := h.cell 1
  rw [hs] at k1
  obtain ⟨g, o, cap, rfl, hc, hm, hg, hgl, hx⟩ := h.open3 e
  have k4 : w.cell? ⟨bc, 4, none⟩ = some (.slice (some ⟨g, o, none⟩) (l.length + 1) cap) := h.cell 4
  have hb := h.old _ h.fc
  have H := Lib.hid h
  have HE := Lib.hid e
  have C := Lib.hid fun (W : World) (a : W.cell? ⟨bc, 4, none⟩ = some (.slice (some ⟨g, o, none⟩) (l.length + 1) cap)) (b : W.frozen? ⟨bc, 4, none⟩ = false) (c : W.cell? ⟨g, o, none⟩ = some (.int .i64 r)) => takeI_any a b (Nat.succ_pos _) hc hm c
  have HX := Lib.hid hx
  have z4 := h.free 4
  generalize l.length = m at *
  clear h e hx hc hm
  have F0 : Hid (∀ ob, (w.alloc ob).cell? ⟨bc, 4, none⟩ = some (.slice (some ⟨g, o, none⟩) (m + 1) cap) ∧ (w.alloc ob).frozen? ⟨bc, 4, none⟩ = false ∧ (w.alloc ob).cell? ⟨g, o, none⟩ = some (.int .i64 r)) := Lib.hid fun ob => by
    obtain ⟨a, b⟩ := H.out.keeps ((Cha.refl _ w).alloc ob) 4
    exact ⟨a, b, HX.out _ ((Cha.refl _ w).alloc ob)⟩
  go_enter Try.func13, Try.ntmps13
  go_wp2_with (go_at_call 31; ((with_reducible refine (C.out _ (F0.out _).1 (F0.out _).2.1 (F0.out _).2.2).mono ?_); rintro e w1 ⟨rfl, rfl⟩))
  refine bodyPost_ret (v := Res.v ⟨2, r, 0⟩) (by simp [results, Try.results13, go_sem, Res.v]) rfl ⟨rfl, H.out.take3 HE.out ?_ ?_⟩
  · exact heap_alloc_old _ _ (by rw [size_setCell']; exact hb)
  · exact ((Cha.refl (· = bc) w).setCell (p := ⟨bc, 4, none⟩) (fun _ => rfl) _).alloc _
theorem send_place (h : Ch w F bc v1 v2 v3 s) (id v : Int) (b : Bool) (hs : s.shut = false) (e : s.rcvs = []) (hlt : s.vals.length < s.cap) :
    Calls Try.prog 13 #[.pointer (some ⟨bc, 0, none⟩), .int .i64 id, .int .u64 v, .bool b] w fun e w' => e = .returned (Res.v ⟨1, 0, 0⟩) ∧ Left w w' F bc { s with vals := s.vals ++ [v] } := by
  have k1 : w.cell? ⟨bc, 1, none⟩ = some (.bool s.shut) := h.cell 1
  rw [hs] at k1
  have k0 : w.cell? ⟨bc, 0, none⟩ = some (.int .i64 (s.cap : Nat)) := h.cell 0
  have h16 := h.c16
  obtain ⟨a3, cap3, hv3, _, _⟩ := h.l3.form
  have k4 : w.cell? ⟨bc, 4, none⟩ = some (.slice a3 s.rcvs.length cap3) := (h.cell 4).trans (by rw [hv3]; rfl)
  rw [e] at k4
  obtain ⟨a1, cap1, rfl, hc1, hm1⟩ := h.l1.form
  have k2 : w.cell? ⟨bc, 2, none⟩ = some (.slice a1 s.vals.length cap1) := h.cell 2
  have hb := h.old _ h.fc
  have H := Lib.hid h
  have hl2 : ((s.vals.length : Nat) : Int) < ((s.cap : Nat) : Int) := by omega
  have HV : Hid (s.vals.length + [v].length ≤ 17) := Lib.hid (by simp only [List.length_singleton]; omega)
  have KX : Hid (∀ W', Cha (fun i => i ≠ bc) w W' → W'.cell? ⟨bc, 2, none⟩ = some (.slice a1 s.vals.length cap1) ∧ W'.frozen? ⟨bc, 2, none⟩ = false) := Lib.hid fun W' c => H.out.keeps c 2
  have HL : Hid (∀ W', Cha (fun _ => False) w W' → Lies u64E W' (.slice a1 s.vals.length cap1) s.vals) := Lib.hid fun W' c => H.out.l1.same c
  have KR : Hid (∀ w3, Cha (fun i => i ≠ w.heap.size) (w.alloc (.cells #[.int .i64 0, .int .i64 0, .int .u64 0] 37)) w3 → w3.heap[w.heap.size]? = some (.cells #[.int .i64 0, .int .i64 0, .int .u64 0] 37 (0, 0))) := Lib.hid fun w3 c => (c.old _ (by rw [World.size_alloc]; omega) (fun e => e rfl)).trans (heap_alloc_new w _)
  clear h e hlt h16 hc1 hm1
  go_enter Try.func13, Try.ntmps13
  go_wp2
  go_region
  go_wp2_with (at_builtin; (refine wpList_app u64E_ok rfl (.tmp 46) (.tmp 48) rfl (v := .slice a1 s.vals.length cap1) (A := s.vals) rfl (HL.out _ (((Cha.refl _ w).alloc _).alloc _).drew) ⟨w.heap.size + 1, 0, none⟩ 1 1 [v] rfl rfl (by have := just_new u64E (w.alloc (.cells #[.int .i64 0, .int .i64 0, .int .u64 0] 37)) v 31; rw [World.size_alloc] at this; exact this) Nat.zero_lt_one (Nat.le_trans HV.out (by decide)) (Nat.le_trans (Nat.mul_le_mul_right 8 HV.out) (by decide)) ?_; intro g3 o3 cap3 w3 hA3; obtain ⟨k5, k6⟩ := KX.out w3 ((((Cha.refl _ w).alloc _).alloc _).drew.trans (hA3.cha.mono fun i _ e => (H.out.f1 i e).2)); obtain ⟨y0, y1, y2, y3⟩ := res_facts (KR.out w3 (((Cha.refl _ (w.alloc (.cells #[.int .i64 0, .int .i64 0, .int .u64 0] 37))).alloc _).drew.trans (hA3.cha.mono fun i _ e => Nat.ne_of_lt (H.out.old i (H.out.f1 i e).1)))); have A3 := Lib.hid hA3; clear hA3))
  refine bodyPost_ret (v := Res.v ⟨1, 0, 0⟩) (by simp [results, Try.results13, go_sem, Res.v, y0, y1, y2]) rfl ⟨rfl, ?_⟩
  obtain ⟨e1, e2, e3, e4⟩ := H.out.app_res (i := 2) (u := .slice (some ⟨g3, o3, none⟩) (s.vals.length + 1) cap3) (a0 := .int .i64 1) (a1 := .int .i64 0) (a2 := .int .u64 0) ((((Cha.refl _ w).alloc _).alloc _).drew) (by simp only [World.size_drew, World.size_alloc]; omega) (fun g e => (H.out.f1 g e)) A3.out
  exact H.out.put1 e1 e2 e4 (fun g hg => by cases hg; exact e3)
theorem send_wait (h : Ch w F bc v1 v2 v3 s) (id v : Int) (b : Bool) (hs : s.shut = false) (e : s.rcvs = []) (hlt : s.cap ≤ s.vals.length) (hA : s.size < 8796093022208) :
    Calls Try.prog 13 #[.pointer (some ⟨bc, 0, none⟩), .int .i64 id, .int .u64 v, .bool b] w fun e w' => e = .returned (Res.v ⟨3, 0, 0⟩) ∧ Left w w' F bc (if b = true then s.queue id v true else s) := by
  have k1 : w.cell? ⟨bc, 1, none⟩ = some (.bool s.shut) := h.cell 1
  rw [hs] at k1
  have k0 : w.cell? ⟨bc, 0, none⟩ = some (.int .i64 (s.cap : Nat)) := h.cell 0
  obtain ⟨a3, cap3, hv3, _, _⟩ := h.l3.form
  have k4 : w.cell? ⟨bc, 4, none⟩ = some (.slice a3 s.rcvs.length cap3) := (h.cell 4).trans (by rw [hv3]; rfl)
  rw [e] at k4
  obtain ⟨a1, cap1, hv1, hc1, hm1⟩ := h.l1.form
  have k2 : w.cell? ⟨bc, 2, none⟩ = some (.slice a1 s.vals.length cap1) := (h.cell 2).trans (by rw [hv1]; rfl)
  have hb := h.old _ h.fc
  have hl2 : ¬ ((s.vals.length : Nat) : Int) < ((s.cap : Nat) : Int) := by omega
  have HW : Hid (Ch ((w.alloc (.cells #[.int .i64 0, .int .i64 0, .int .u64 0] 37)).drew) F bc v1 v2 v3 s) := Lib.hid (h.same ((Cha.refl _ w).alloc _).drew)
  have C := Lib.hid (queue_any HW.out id v true hA)
  have HO := Lib.hid h.old
  have HR : Hid (((w.alloc (.cells #[.int .i64 0, .int .i64 0, .int .u64 0] 37)).drew).heap[w.heap.size]? = some (.cells #[.int .i64 0, .int .i64 0, .int .u64 0] 37 (0, 0))) := Lib.hid (heap_alloc_new w _)
  have HL : Hid (∀ ob, Left w ((w.alloc ob).drew) F bc s) := Lib.hid fun ob => h.left ((Cha.refl _ w).alloc _).drew
  clear h hv1 hv3 e hlt hc1 hm1
  cases b
  · go_enter Try.func13, Try.ntmps13
    go_wp2
    go_region
    go_wp2
    exact bodyPost_ret (v := Res.v ⟨3, 0, 0⟩) (by simp [results, Try.results13, go_sem, Res.v]) rfl ⟨rfl, HL.out _⟩
  · go_enter Try.func13, Try.ntmps13
    go_wp2
    go_region
    go_wp2_with (go_at_call 16; (with_reducible refine (C.out).mono ?_); rintro e w1 ⟨rfl, h⟩; obtain ⟨y0, y1, y2, y3⟩ := res_facts (h.row HR.out fun e => Nat.lt_irrefl _ (HO.out _ e)); have HK := Lib.hid h; clear h)
    refine bodyPost_ret (v := Res.v ⟨3, 0, 0⟩) (by simp [results, Try.results13, go_sem, Res.v, y0, y1, y2]) rfl ⟨rfl, HK.out.res HO.out (((Cha.refl _ w).alloc _).drew) (by simp only [World.size_drew, World.size_alloc]; omega) (set3 _ _ _ _ _)⟩
theorem send_any (h : Ch w F bc v1 v2 v3 s) (id v : Int) (b : Bool) (hA : s.size < 8796093022208) :
    Calls Try.prog 13 #[.pointer (some ⟨bc, 0, none⟩), .int .i64 id, .int .u64 v, .bool b] w fun e w' => e = .returned (s.send id v b).1.v ∧ Left w w' F bc (s.send id v b).2 := by
  unfold St.send
  by_cases hs : s.shut = true
  · rw [if_pos hs]
    exact send_shut h id v b hs
  · rw [if_neg hs]
    have hs : s.shut = false := by simpa using hs
    split
    · rename_i r l e
      exact send_hand h id v b hs e
    · rename_i e
      by_cases hl : s.vals.length < s.cap
      · rw [if_pos hl]
        exact send_place h id v b hs e hl
      · rw [if_neg hl]
        exact send_wait h id v b hs e (by omega) hA
end Go.Proofs.Ytnhjkmkocpjkmaa
