/- Contracts of chans: recvFromPlace, Recv. -/
import Derived.Test.YtnhjkmkocpjkmaaE
namespace Go.Proofs.Ytnhjkmkocpjkmaa
open Go.ChangeShapes Go.WideShapes Go.ChangeAt Go.RowKit
variable {w w' W : World} {F : Nat → Prop} {bc g o n cap : Nat} {v1 v2 v3 : Value} {s : St}

theorem take1_any (h : Ch w F bc v1 v2 v3 s) {x : Int} {l : List Int} (e : s.vals = x :: l) :
    Calls Try.prog 39 #[.pointer (some ⟨bc, 2, none⟩)] w fun e w' => e = .returned (.int .u64 x) ∧ Left w w' F bc { s with vals := l } := by
  obtain ⟨g, o, cap, rfl, hc, hm, hg, hgl, hx⟩ := h.open1 e
  refine (take8_any (h.cell 2) (h.free 2) (Nat.succ_pos _) hc hm (hx w (Cha.refl _ w))).mono fun e1 w1 ⟨a, b⟩ => ⟨a, ?_⟩
  rw [b]
  exact h.take1 e rfl ((Cha.refl (· = bc) w).setCell (p := ⟨bc, 2, none⟩) (fun _ => rfl) _)
theorem take2_any (h : Ch w F bc v1 v2 v3 s) {x : Snd} {l : List Snd} (e : s.snds = x :: l) :
    Calls Try.prog 33 #[.pointer (some ⟨bc, 3, none⟩)] w fun e w' => e = .returned (.agg #[.int .i64 x.id, .int .u64 x.val]) ∧ Left w w' F bc { s with snds := l } := by
  obtain ⟨g, o, cap, rfl, hc, hm, hg, hgl, hx⟩ := h.open2 e
  obtain ⟨hx1, hx2⟩ := hx w (Cha.refl _ w)
  exact (takeS_any (h.old _ h.fc) hgl (h.cell 3) (h.free 3) (Nat.succ_pos _) hc hm hx1 hx2).mono fun e1 w1 ⟨a, b, c⟩ => ⟨a, h.take2 e b c⟩
theorem Left.cons {w1 w2 : World} {F1 : Nat → Prop} (c : Cha F w w1) (n : ∀ i, F1 i → F i ∨ w.heap.size ≤ i) (h : Left w1 w2 F1 bc s) : Left w w2 F bc s := by
  obtain ⟨F2, u1, u2, u3, q2, c2, n2⟩ := h
  refine ⟨F2, u1, u2, u3, q2, c.over c2 n, fun i hi => ?_⟩
  rcases n2 i hi with e | e
  · exact n i e
  · exact .inr (Nat.le_trans c.size e)
theorem snd_facts {m : Nat} {a : Snd} (h : W.heap[m]? = some (.cells #[.int .i64 a.id, .int .u64 a.val] 73 (0, 0))) : W.cell? ⟨m, 0, none⟩ = some (.int .i64 a.id) ∧ W.cell? ⟨m, 1, none⟩ = some (.int .u64 a.val) :=
  ⟨cell_of_row W m 0 _ 73 (0, 0) h, cell_of_row W m 1 _ 73 (0, 0) h⟩
theorem place_done (h : Ch w F bc v1 v2 v3 s) {x : Int} {l : List Int} (e : s.vals = x :: l) (e2 : s.snds = []) :
    Calls Try.prog 32 #[.pointer (some ⟨bc, 0, none⟩)] w fun e w' => e = .returned (Res.v ⟨1, 0, x⟩) ∧ Left w w' F bc { s with vals := l } := by
  have HW : Hid (Ch (w.alloc (.cells #[.int .i64 0, .int .i64 0, .int .u64 0] 37)) F bc v1 v2 v3 s) := Lib.hid (h.same ((Cha.refl _ w).alloc _))
  have C := Lib.hid (take1_any HW.out e)
  have HO := Lib.hid h.old
  have hb := h.old _ h.fc
  have HE := Lib.hid e2
  clear h e e2
  go_enter Try.func32, Try.ntmps32
  go_wp2_with (go_at_call 39; (with_reducible refine (C.out).mono ?_); rintro e w1 ⟨rfl, h⟩; obtain ⟨y0, y1, y2, y3⟩ := res_facts (h.row (heap_alloc_new w _) fun e => Nat.lt_irrefl _ (HO.out _ e)); have HK := Lib.hid h; (obtain ⟨F1, u1, u2, u3, q, _, _⟩ := h); (obtain ⟨a2, cap2, rfl, _⟩ := q.l2.form); have k3 : w1.cell? ⟨bc, 3, none⟩ = some (.slice a2 s.snds.length cap2) := q.cell 3; rw [HE.out] at k3; clear q)
  refine bodyPost_ret (v := Res.v ⟨1, 0, x⟩) (by simp [results, Try.results32, go_sem, Res.v, y0, y1, y2]) rfl ⟨rfl, HK.out.res HO.out ((Cha.refl _ w).alloc _) (by simp only [World.size_alloc]; omega) (set3 _ _ _ _ _)⟩
set_option maxHeartbeats 1000000 in
theorem place_hand (h : Ch w F bc v1 v2 v3 s) {x : Int} {l : List Int} (e : s.vals = x :: l) {a : Snd} {m : List Snd} (e2 : s.snds = a :: m) (hA : s.vals.length ≤ 8796093022208) :
    Calls Try.prog 32 #[.pointer (some ⟨bc, 0, none⟩)] w fun e w' => e = .returned (Res.v ⟨2, a.id, x⟩) ∧ Left w w' F bc { s with vals := l ++ [a.val], snds := m } := by
  have HW : Hid (Ch (w.alloc (.cells #[.int .i64 0, .int .i64 0, .int .u64 0] 37)) F bc v1 v2 v3 s) := Lib.hid (h.same ((Cha.refl _ w).alloc _))
  have C := Lib.hid (take1_any HW.out e)
  have HO := Lib.hid h.old
  have hb := h.old _ h.fc
  have hl : Hid (l.length + [a.val].length ≤ 8796093022208) := Lib.hid (by rw [e] at hA; exact hA)
  have HE := Lib.hid e2
  have C2 : Hid (∀ W F v1 v2 v3, Ch W F bc v1 v2 v3 { s with vals := l } → Calls Try.prog 33 #[.pointer (some ⟨bc, 3, none⟩)] W fun e w' => e = .returned (.agg #[.int .i64 a.id, .int .u64 a.val]) ∧ Left W w' F bc { s with vals := l, snds := m }) := Lib.hid fun W F v1 v2 v3 h => take2_any h e2
  clear h e e2 hA
  go_enter Try.func32, Try.ntmps32
  go_wp2_with (first
    | (go_at_call 39; (with_reducible refine (C.out).mono ?_); rintro e w1 ⟨rfl, h⟩; have R1 := Lib.hid (h.row (heap_alloc_new w _) fun e => Nat.lt_irrefl _ (HO.out _ e)); have HK := Lib.hid h; (obtain ⟨F1, u1, u2, u3, q, c1, n1⟩ := h); have Q := Lib.hid q; have N1 := Lib.hid n1; have CC1 := Lib.hid c1; clear n1 c1; (obtain ⟨a2, cap2, rfl, _⟩ := q.l2.form); have k3 : w1.cell? ⟨bc, 3, none⟩ = some (.slice a2 s.snds.length cap2) := q.cell 3; rw [HE.out] at k3; clear q)
    | (go_at_call 33; (with_reducible refine (C2.out _ _ _ _ _ Q.out).mono ?_); rintro e w2 ⟨rfl, h⟩; have HK2 := Lib.hid h; have R2 := Lib.hid (h.row R1.out fun e => by rcases N1.out _ e with e | e; exact Nat.lt_irrefl _ (HO.out _ e); rw [World.size_alloc] at e; omega); clear h))
  obtain ⟨F2, t1, t2, t3, q2, c2, n2⟩ := HK2.out
  obtain ⟨b1, cap1, rfl, _, _⟩ := q2.l1.form
  dsimp only at *
  have k2 : w2.cell? ⟨bc, 2, none⟩ = some (.slice b1 l.length cap1) := q2.cell 2
  have hb2 : bc < w2.heap.size := q2.old _ q2.fc
  have KX : Hid (∀ W', Cha (fun i => i ≠ bc) w2 W' → W'.cell? ⟨bc, 2, none⟩ = some (.slice b1 l.length cap1) ∧ W'.frozen? ⟨bc, 2, none⟩ = false) := Lib.hid fun W' c => q2.keeps c 2
  have HL : Hid (∀ W', Cha (fun _ => False) w2 W' → Lies u64E W' (.slice b1 l.length cap1) l) := Lib.hid fun W' c => q2.l1.same c
  have Q2 := Lib.hid q2
  have N2 := Lib.hid n2
  have CC2 := Lib.hid c2
  have hm2 : Hid (w.heap.size < w2.heap.size) := Lib.hid (Array.getElem?_eq_some_iff.1 R2.out).1
  have HN : Hid (¬ F2 w.heap.size) := Lib.hid fun e => by
    rcases n2 _ e with e | e
    · rcases N1.out _ e with e | e
      · exact Nat.lt_irrefl _ (HO.out _ e)
      · rw [World.size_alloc] at e; omega
    · have := (Array.getElem?_eq_some_iff.1 R1.out).1; omega
  clear q2 n2 c2 k3
  go_region_law (refine step_app u64E_ok rfl (.tmp 25) (.tmp 28) rfl (v := .slice b1 l.length cap1) (A := l) rfl (HL.out _ ((((Cha.refl _ w2).alloc _).drew).alloc _)) ⟨w2.heap.size + 1, 0, none⟩ 1 1 [a.val] rfl rfl (by have := just_new u64E (w2.alloc (.cells #[.int .i64 a.id, .int .u64 a.val] 73)).drew a.val 31; rw [World.size_drew, World.size_alloc] at this; exact this) Nat.zero_lt_one (Nat.le_trans hl.out (by decide)) (Nat.le_trans (Nat.mul_le_mul_right 8 hl.out) (by decide)) ?_; intro g3 o3 cap3 w3 hA3; obtain ⟨k5, k6⟩ := KX.out w3 (((((Cha.refl _ w2).alloc _).drew).alloc _).trans (hA3.cha.mono fun i _ e => (Q2.out.f1 i e).2)); have A3 := Lib.hid hA3; clear hA3)
  all_goals
    have hm := hm2.out
    have r3 : w3.heap[w.heap.size]? = some (.cells #[.int .i64 0, .int .i64 0, .int .u64 0] 37 (0, 0)) := (A3.out.cha.old _ (by simp only [World.size_drew, World.size_alloc]; omega) (fun e => HN.out (Q2.out.f1 _ e).1)).trans (((heap_alloc_old _ _ (by rw [World.size_alloc]; omega)).trans (heap_alloc_old _ _ hm)).trans R2.out)
    have r4 : w3.heap[w2.heap.size]? = some (.cells #[.int .i64 a.id, .int .u64 a.val] 73 (0, 0)) := (A3.out.cha.old _ (by simp only [World.size_drew, World.size_alloc]; omega) (fun e => Nat.lt_irrefl _ (Q2.out.old _ (Q2.out.f1 _ e).1))).trans ((heap_alloc_old _ _ (by rw [World.size_alloc]; omega)).trans (heap_alloc_new w2 _))
    obtain ⟨y0, y1, y2, y3⟩ := res_facts r3
    obtain ⟨p0, p1⟩ := snd_facts r4
    clear r3 r4
    go_wp2
    refine bodyPost_ret (v := Res.v ⟨2, a.id, x⟩) (by simp [results, Try.results32, go_sem, Res.v, y0, y1, y2]) rfl ⟨rfl, ?_⟩
    obtain ⟨e1, e2, e3, e4⟩ := Q2.out.app_at (i := 2) (u := .slice (some ⟨g3, o3, none⟩) (l.length + 1) cap3) ((((Cha.refl _ w2).alloc _).alloc _).drew) (fun e => (Q2.out.f1 _ e).2 rfl) A3.out
    have L3 := Q2.out.put1 e1 e2 (A3.out.lies.cha ((Cha.refl (· = bc) w3).setCell (p := ⟨bc, 2, none⟩) (fun _ => rfl) _) (fun g hg => by cases hg; exact e3)) (fun g hg => by cases hg; exact e4)
    exact (Left.cons CC1.out N1.out (Left.cons CC2.out N2.out L3)).res HO.out ((Cha.refl _ w).alloc _) (by simp only [World.size_alloc]; omega) (set3 _ _ _ _ _)
theorem recv_none (id : Int) (b : Bool) (w : World) : Calls Try.prog 15 #[.pointer none, .int .i64 id, .bool b] w fun e w' => e = .returned (Res.v ⟨0, 0, 0⟩) ∧ Cha (fun _ => False) w w' := by
  go_enter Try.func15, Try.ntmps15
  go_wp2
  exact bodyPost_ret (v := Res.v ⟨0, 0, 0⟩) (by simp [results, Try.results15, go_sem, Res.v]) rfl ⟨rfl, (Cha.refl _ _).alloc _⟩
/-- What a channel's length fields say. -/
theorem Ch.len1 (h : Ch w F bc v1 v2 v3 s) : ∃ a cap, w.cell? ⟨bc, 2, none⟩ = some (.slice a s.vals.length cap) := by
  obtain ⟨a, cap, hv, _⟩ := h.l1.form
  exact ⟨a, cap, (h.cell 2).trans (by rw [hv]; rfl)⟩
theorem Ch.len2 (h : Ch w F bc v1 v2 v3 s) : ∃ a cap, w.cell? ⟨bc, 3, none⟩ = some (.slice a s.snds.length cap) := by
  obtain ⟨a, cap, hv, _⟩ := h.l2.form
  exact ⟨a, cap, (h.cell 3).trans (by rw [hv]; rfl)⟩
theorem Ch.len3 (h : Ch w F bc v1 v2 v3 s) : ∃ a cap, w.cell? ⟨bc, 4, none⟩ = some (.slice a s.rcvs.length cap) := by
  obtain ⟨a, cap, hv, _⟩ := h.l3.form
  exact ⟨a, cap, (h.cell 4).trans (by rw [hv]; rfl)⟩
/-- The first ways out of Recv: a value stands in a place. -/
theorem recv_place (h : Ch w F bc v1 v2 v3 s) (id : Int) (b : Bool) (hp : 0 < s.vals.length) (r : Res) (s' : St)
    (C : ∀ W F v1 v2 v3, Ch W F bc v1 v2 v3 s → Calls Try.prog 32 #[.pointer (some ⟨bc, 0, none⟩)] W fun e w' => e = .returned (Res.v r) ∧ Left W w' F bc s') :
    Calls Try.prog 15 #[.pointer (some ⟨bc, 0, none⟩), .int .i64 id, .bool b] w fun e w' => e = .returned (Res.v r) ∧ Left w w' F bc s' := by
  obtain ⟨a1, cap1, k2⟩ := h.len1
  have D : Hid (Calls Try.prog 32 #[.pointer (some ⟨bc, 0, none⟩)] (w.alloc (.cells #[.int .i64 0, .int .i64 0, .int .u64 0] 37)) fun e w' => e = .returned (.agg #[.int .i64 r.what, .int .i64 r.who, .int .u64 r.val]) ∧ Left (w.alloc (.cells #[.int .i64 0, .int .i64 0, .int .u64 0] 37)) w' F bc s') := Lib.hid (C _ _ _ _ _ (h.same ((Cha.refl _ w).alloc (.cells #[.int .i64 0, .int .i64 0, .int .u64 0] 37))))
  have HO := Lib.hid h.old
  have hb := h.old _ h.fc
  have hp2 : (0 : Int) < (s.vals.length : Nat) := by omega
  clear h C
  go_enter Try.func15, Try.ntmps15
  go_wp2_with (go_at_call 32; (with_reducible refine (D.out).mono ?_); rintro e w1 ⟨rfl, h⟩; obtain ⟨y0, y1, y2, y3⟩ := res_facts (h.row (heap_alloc_new w _) fun e => Nat.lt_irrefl _ (HO.out _ e)); have HK := Lib.hid h; clear h)
  refine bodyPost_ret (v := Res.v r) (by simp [results, Try.results15, go_sem, Res.v, y0, y1, y2]) rfl ⟨rfl, HK.out.res HO.out ((Cha.refl _ w).alloc _) (by simp only [World.size_alloc]; omega) (set3 _ _ _ _ _)⟩
theorem recv_hand (h : Ch w F bc v1 v2 v3 s) (id : Int) (b : Bool) (e : s.vals = []) {a : Snd} {m : List Snd} (e2 : s.snds = a :: m) :
    Calls Try.prog 15 #[.pointer (some ⟨bc, 0, none⟩), .int .i64 id, .bool b] w fun e w' => e = .returned (Res.v ⟨2, a.id, a.val⟩) ∧ Left w w' F bc { s with snds := m } := by
  obtain ⟨a1, cap1, k2⟩ := h.len1
  obtain ⟨a2, cap2, k3⟩ := h.len2
  rw [e] at k2
  rw [e2] at k3
  have D := Lib.hid (take2_any (h.same ((Cha.refl _ w).alloc (.cells #[.int .i64 0, .int .i64 0, .int .u64 0] 37))) e2)
  have HO := Lib.hid h.old
  have hb := h.old _ h.fc
  clear h e e2
  go_enter Try.func15, Try.ntmps15
  go_wp2_with (go_at_call 33; (with_reducible refine (D.out).mono ?_); rintro e w1 ⟨rfl, h⟩; have r1 := h.row (heap_alloc_new w _) (fun e => Nat.lt_irrefl _ (HO.out _ e)); have hm := (Array.getElem?_eq_some_iff.1 r1).1; obtain ⟨y0, y1, y2, y3⟩ := res_facts r1; have HK := Lib.hid h; clear h r1)
  refine bodyPost_ret (v := Res.v ⟨2, a.id, a.val⟩) (by simp [results, Try.results15, go_sem, Res.v, y0, y1, y2, hm]) rfl ⟨rfl, (HK.out.res HO.out ((Cha.refl _ w).alloc _) (by simp only [World.size_alloc]; omega) (set3 _ _ _ _ _)).same ((Cha.refl _ _).alloc _)⟩
theorem recv_end (h : Ch w F bc v1 v2 v3 s) (id : Int) (b : Bool) (e : s.vals = []) (e2 : s.snds = []) (hA : s.size < 8796093022208) :
    Calls Try.prog 15 #[.pointer (some ⟨bc, 0, none⟩), .int .i64 id, .bool b] w fun e w' => e = .returned (Res.v (if s.shut = true then ⟨4, 0, 0⟩ else ⟨3, 0, 0⟩)) ∧ Left w w' F bc (if s.shut = true then s else if b = true then s.queue id 0 false else s) := by
  obtain ⟨a1, cap1, k2⟩ := h.len1
  obtain ⟨a2, cap2, k3⟩ := h.len2
  have k1 : w.cell? ⟨bc, 1, none⟩ = some (.bool s.shut) := h.cell 1
  rw [e] at k2
  rw [e2] at k3
  have D := Lib.hid (queue_any (h.same ((Cha.refl _ w).alloc (.cells #[.int .i64 0, .int .i64 0, .int .u64 0] 37))) id 0 false hA)
  have HO := Lib.hid h.old
  have hb := h.old _ h.fc
  have H := Lib.hid h
  clear h e e2
  by_cases hs : s.shut = true
  · rw [if_pos hs, if_pos hs]
    rw [hs] at k1
    go_enter Try.func15, Try.ntmps15
    go_wp2
    exact bodyPost_ret (v := Res.v ⟨4, 0, 0⟩) (by simp [results, Try.results15, go_sem, Res.v]) rfl ⟨rfl, H.out.left ((Cha.refl _ _).alloc _)⟩
  · rw [if_neg hs, if_neg hs]
    have hs2 : s.shut = false := by simpa using hs
    rw [hs2] at k1
    clear hs hs2
    cases b
    · go_enter Try.func15, Try.ntmps15
      go_wp2
      exact bodyPost_ret (v := Res.v ⟨3, 0, 0⟩) (by simp [results, Try.results15, go_sem, Res.v]) rfl ⟨rfl, H.out.left ((Cha.refl _ _).alloc _)⟩
    · go_enter Try.func15, Try.ntmps15
      go_wp2_with (go_at_call 16; (with_reducible refine (D.out).mono ?_); rintro e w1 ⟨rfl, h⟩; obtain ⟨y0, y1, y2, y3⟩ := res_facts (h.row (heap_alloc_new w _) fun e => Nat.lt_irrefl _ (HO.out _ e)); have HK := Lib.hid h; clear h)
      exact bodyPost_ret (v := Res.v ⟨3, 0, 0⟩) (by simp [results, Try.results15, go_sem, Res.v, y0, y1, y2]) rfl ⟨rfl, HK.out.res HO.out ((Cha.refl _ w).alloc _) (by simp only [World.size_alloc]; omega) (set3 _ _ _ _ _)⟩
theorem recv_any (h : Ch w F bc v1 v2 v3 s) (id : Int) (b : Bool) (hA : s.size < 8796093022208) :
    Calls Try.prog 15 #[.pointer (some ⟨bc, 0, none⟩), .int .i64 id, .bool b] w fun e w' => e = .returned (s.recv id b).1.v ∧ Left w w' F bc (s.recv id b).2 := by
  unfold St.recv
  have hA2 : s.vals.length ≤ 8796093022208 := by unfold St.size at hA; omega
  split
  · rename_i x l e e2
    exact recv_place h id b (by rw [e]; simp) ⟨1, 0, x⟩ _ fun W F v1 v2 v3 h => place_done h e e2
  · rename_i x l a m e e2
    exact recv_place h id b (by rw [e]; simp) ⟨2, a.id, x⟩ _ fun W F v1 v2 v3 h => place_hand h e e2 hA2
  · rename_i a m e e2
    exact recv_hand h id b e e2
  · rename_i e e2
    have := recv_end h id b e e2 hA
    by_cases hs : s.shut = true
    · rw [if_pos hs] at this ⊢
      rw [if_pos hs] at this
      exact this
    · rw [if_neg hs] at this ⊢
      rw [if_neg hs] at this
      exact this
end Go.Proofs.Ytnhjkmkocpjkmaa
