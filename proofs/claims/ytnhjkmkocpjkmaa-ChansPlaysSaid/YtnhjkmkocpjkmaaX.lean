/- The document's channels: Recv. -/
import Derived.Test.YtnhjkmkocpjkmaaV
namespace Go.Proofs.Ytnhjkmkocpjkmaa
open Go.ChangeShapes Go.WideShapes Go.ChangeAt Go.RowKit
variable {w w' W : World} {F : Nat → Prop} {bc g o n cap : Nat} {v1 v2 v3 v : Value} {s : St}

def hd (cap o k : Nat) : Nat := if cap = 1 then o else o + k
theorem tailV_hd (g o n cap k : Nat) : tailV g o n cap k = .slice (some ⟨g, hd cap o k, none⟩) (n - 1) (cap - 1) := rfl
theorem sliced_hd (g o n cap k : Nat) : sliced (some ⟨g, o, none⟩) 1 n cap k = .slice (some ⟨g, hd cap o k, none⟩) (n - 1) (cap - 1) := by
  unfold sliced hd
  by_cases h : cap = 1
  · rw [if_pos h, if_pos h]
  · rw [if_neg h, if_neg h]; simp [Addr.add_lit]
theorem tl50 (g o n cap : Nat) (hn : 1 ≤ n) (W : World) : (Instr.slice 50 (.slice (some ⟨g, o, none⟩) n cap) (some (.int .i64 1)) none none).run Try.prog W = .ok (.slice (some ⟨g, hd cap o 1, none⟩) (n - 1) (cap - 1)) W := by
  rw [run_slice_l (P := Try.prog) W 50 (some ⟨g, o, none⟩) n cap Try.underlying50 .i64 1 (by omega) (by omega), ← sliced_hd]
  rfl
theorem tl51 (g o n cap : Nat) (hn : 1 ≤ n) (W : World) : (Instr.slice 51 (.slice (some ⟨g, o, none⟩) n cap) (some (.int .i64 1)) none none).run Try.prog W = .ok (.slice (some ⟨g, hd cap o 2, none⟩) (n - 1) (cap - 1)) W := by
  rw [run_slice_l (P := Try.prog) W 51 (some ⟨g, o, none⟩) n cap Try.underlying51 .i64 1 (by omega) (by omega), ← sliced_hd]
  rfl
theorem Dc.lay1 {w1 : World} {A : List Int} (h : Dc w F bc v1 v2 v3 s) (m : Made u64E w w1 v A) : DLeft w (w1.setCell ⟨bc, 0, none⟩ v) F bc { s with vals := A } := by
  have hb := h.old _ h.fc
  have hh := (m.cha.old bc hb (fun f => f)).trans h.head
  refine h.put1 (heap_at h.head hh) (m.cha.wide.setCell (p := ⟨bc, 0, none⟩) (fun _ => .inl rfl) _) (m.lies.cha ((Cha.refl (· = bc) w1).setCell (p := ⟨bc, 0, none⟩) (fun _ => rfl) _) fun g hg e => ?_) (fun g hg => .inr (m.own g hg))
  have := m.own g hg
  omega
def Fits {α : Type} (E : Enc α) (A : List α) : Prop := A.length ≤ maxLen ∧ A.length * E.b ≤ 140737488355328
theorem drecv_place (h : Dc w F bc v1 v2 v3 s) (id : Int) (b : Bool) {x : Int} {l : List Int} (e : s.vals = x :: l) (e2 : s.snds = []) (hA : s.size < 8796093022208) :
    Calls Try.prog 14 #[.pointer (some ⟨bc, 0, none⟩), .int .i64 id, .bool b] w fun e w' => e = .returned (.tuple #[.int .i64 1, .int .i64 0, .int .u64 x]) ∧ DLeft w w' F bc { s with vals := l } := by
  obtain ⟨a1, cap1, rfl, hc1, hm1⟩ := h.l1.form
  have k1 : w.cell? ⟨bc, 0, none⟩ = some (.slice a1 s.vals.length cap1) := h.cell 0
  obtain ⟨g, o, rfl, hz⟩ := word_at h.l1 (by rw [e]; simp)
  have z0 := hz w (Cha.refl _ _) 0 (by rw [e]; simp)
  have e0 : s.vals.getD 0 0 = x := by rw [e]; rfl
  rw [e0, Nat.add_zero] at z0
  obtain ⟨a2, cap2, k3⟩ := h.len2
  rw [e2] at k3
  have hlen : s.vals.length = l.length + 1 := by rw [e]; rfl
  have H := Lib.hid h
  have HT : Hid (Lies u64E w (tailV g o (l.length + 1) cap1 1) l) := Lib.hid (by
    have h1 := h.l1
    rw [hlen, e] at h1
    exact h1.tail u64E_ok)
  rw [tailV_hd, Nat.add_sub_cancel] at HT
  have hb := h.old _ h.fc
  have KX : Hid (∀ W', Cha (fun _ => False) w W' → ∀ i, W'.cell? ⟨bc, i, none⟩ = w.cell? ⟨bc, i, none⟩ ∧ W'.frozen? ⟨bc, i, none⟩ = false) := Lib.hid fun W' c i => by
    obtain ⟨q1, q2⟩ := H.out.keeps (c.mono fun _ _ f => f.elim) i
    exact ⟨q1.trans (H.out.cell i).symm, q2⟩
  have B1 : Hid (Fits u64E l) := Lib.hid (by unfold St.size at hA; exact ⟨by unfold maxLen; omega, by show _ * 8 ≤ _; omega⟩)
  have sl := tl50 g o (l.length + 1) cap1 (by omega)
  rw [Nat.add_sub_cancel] at sl
  rw [hlen] at k1 hc1
  unfold maxLen at hm1
  clear h e e2 e0 hz hlen hA
  generalize hd cap1 o 1 = o1 at *
  generalize hll : l.length = m at *
  clear hll
  go_enter Try.func14, Try.ntmps14
  go_wp2_with (at_builtin; (refine wpList_app_nil u64E_ok rfl (.tmp 26) (.tmp 31) rfl rfl rfl HT.out B1.out.1 B1.out.2 ?_; intro u w1 hM; (obtain ⟨y3, _⟩ := KX.out w1 hM.cha 3); (obtain ⟨y0, t0⟩ := KX.out w1 hM.cha 0); rw [k3] at y3; rw [k1] at y0; (obtain ⟨au, cu, rfl, _, _⟩ := hM.lies.form); have HM := Lib.hid hM; clear hM))
  go_returns
  exact ⟨rfl, H.out.lay1 HM.out⟩
theorem Dc.recv_end {w3 : World} {r : Value} {A : List Int} {a : Snd} {m : List Snd} (h : Dc w F bc v1 (.slice (some ⟨g, o, none⟩) n cap) v3 s) (e2 : s.snds = a :: m) (M : Made u64E w w3 r A) :
    DLeft w ((w3.setCell ⟨bc, 3, none⟩ (tailV g o n cap 2)).setCell ⟨bc, 0, none⟩ r) F bc { s with vals := A, snds := m } := by
  have hb := h.old _ h.fc
  have hh := (M.cha.old bc hb (fun f => f)).trans h.head
  have h3 := heap_setCell_same w3 bc 3 _ 53 (tailV g o n cap 2) hh
  have h4 := heap_setCell_same _ bc 0 _ 53 r h3
  have k : Cha (fun i => i = bc) w3 ((w3.setCell ⟨bc, 3, none⟩ (tailV g o n cap 2)).setCell ⟨bc, 0, none⟩ r) := ((Cha.refl (· = bc) w3).setCell (p := ⟨bc, 3, none⟩) (fun _ => rfl) _).setCell (p := ⟨bc, 0, none⟩) (fun _ => rfl) _
  have hr : ∀ q, r.ownBlock = some q → w.heap.size ≤ q := M.own
  have l2 := h.l2
  rw [e2] at l2
  have o2 : ∀ q, (Value.slice (some ⟨g, o, none⟩) n cap).ownBlock = some q → q < w.heap.size := fun q e => h.old _ (h.f2 q e).1
  have o3 : ∀ q, v3.ownBlock = some q → q < w.heap.size := fun q e => h.old _ (h.f3 q e).1
  refine h.upd (u1 := r) (u2 := tailV g o n cap 2) (u3 := v3) h4 ((M.cha.wide (S := fun i => i = bc)).trans k |>.mono fun i _ e => e ▸ h.fc) (M.lies.cha k fun q hq e => by have := hr q hq; omega) ((l2.tail wtE_ok).same M.cha |>.cha k fun q hq => (h.f2 q hq).2) (h.l3.same M.cha |>.cha k fun q hq => (h.f3 q hq).2)
    (fun q hq => .inr (hr q hq)) (fun q hq => .inl hq) (fun q hq => .inl hq) (fun q hq e => ?_) (fun q hq e => ?_) h.d23 h.c16
  · have := hr q hq; have := o2 q e; omega
  · have := hr q hq; have := o3 q e; omega
theorem drecv_both (h : Dc w F bc v1 v2 v3 s) (id : Int) (b : Bool) {x : Int} {l : List Int} (e : s.vals = x :: l) {a : Snd} {m : List Snd} (e2 : s.snds = a :: m) (hA : s.size < 8796093022208) :
    Calls Try.prog 14 #[.pointer (some ⟨bc, 0, none⟩), .int .i64 id, .bool b] w fun e w' => e = .returned (.tuple #[.int .i64 2, .int .i64 a.id, .int .u64 x]) ∧ DLeft w w' F bc { s with vals := l ++ [a.val], snds := m } := by
  obtain ⟨a1, cap1, rfl, hc1, hm1⟩ := h.l1.form
  have k1 : w.cell? ⟨bc, 0, none⟩ = some (.slice a1 s.vals.length cap1) := h.cell 0
  obtain ⟨g, o, rfl, hz⟩ := word_at h.l1 (by rw [e]; simp)
  have z0 := hz w (Cha.refl _ _) 0 (by rw [e]; simp)
  have e0 : s.vals.getD 0 0 = x := by rw [e]; rfl
  rw [e0, Nat.add_zero] at z0
  obtain ⟨a2, cap2, rfl, hc2, hm2⟩ := h.l2.form
  have k3 : w.cell? ⟨bc, 3, none⟩ = some (.slice a2 s.snds.length cap2) := h.cell 3
  have hlen2 : s.snds.length = m.length + 1 := by rw [e2]; rfl
  obtain ⟨g2, o2, rfl, hgl2, hy⟩ := wt_at h.l2 (by omega)
  have ea : s.snds.getD 0 ⟨0, 0⟩ = a := by rw [e2]; rfl
  have hbg : ∀ W, Cha (fun _ => False) w W → W.cell? ⟨g2, o2, none⟩ = some (.int .i64 a.id) ∧ W.cell? ⟨g2, o2 + 1, none⟩ = some (.int .u64 a.val) := fun W c => by
    have := hy W (c.mono fun _ _ f => f.elim) 0 (by omega)
    rw [ea, Nat.zero_mul, Nat.add_zero] at this
    exact this
  have HG := Lib.hid hbg
  have hlen : s.vals.length = l.length + 1 := by rw [e]; rfl
  have hb := h.old _ h.fc
  have HT : Hid (Lies u64E w (tailV g o (l.length + 1) cap1 1) l) := Lib.hid (by
    have h1 := h.l1
    rw [hlen, e] at h1
    exact h1.tail u64E_ok)
  rw [tailV_hd, Nat.add_sub_cancel] at HT
  have H := Lib.hid h
  have HE := Lib.hid e2
  have KX : Hid (∀ W', Cha (fun _ => False) w W' → ∀ i, W'.cell? ⟨bc, i, none⟩ = w.cell? ⟨bc, i, none⟩ ∧ W'.frozen? ⟨bc, i, none⟩ = false) := Lib.hid fun W' c i => by
    obtain ⟨q1, q2⟩ := H.out.keeps (c.mono fun _ _ f => f.elim) i
    exact ⟨q1.trans (H.out.cell i).symm, q2⟩
  have B1 : Hid (Fits u64E l) := Lib.hid (by unfold St.size at hA; exact ⟨by unfold maxLen; omega, by show _ * 8 ≤ _; omega⟩)
  have B2 : Hid (Fits u64E (l ++ [a.val])) := Lib.hid (by unfold St.size at hA; refine ⟨?_, ?_⟩; · simp only [List.length_append, List.length_singleton, maxLen]; omega
                                                          · show _ * 8 ≤ _; simp only [List.length_append, List.length_singleton]; omega)
  have sl := tl50 g o (l.length + 1) cap1 (by omega)
  have sl2 := tl51 g2 o2 (m.length + 1) cap2 (by omega)
  rw [Nat.add_sub_cancel] at sl sl2
  rw [hlen] at k1 hc1
  rw [hlen2] at k3 hc2
  have HD : Hid (∀ w3 r, Made u64E w w3 r (l ++ [a.val]) → DLeft w ((w3.setCell ⟨bc, 3, none⟩ (.slice (some ⟨g2, hd cap2 o2 2, none⟩) m.length (cap2 - 1))).setCell ⟨bc, 0, none⟩ r) F bc { s with vals := l ++ [a.val], snds := m }) := Lib.hid fun w3 r M => by
    have := H.out.recv_end HE.out M
    rw [tailV_hd, hlen2, Nat.add_sub_cancel] at this
    exact this
  unfold maxLen at hm1 hm2
  clear h e e2 e0 hz hlen hA hy hlen2 ea hbg
  generalize hd cap1 o 1 = o1 at *
  generalize hd cap2 o2 2 = o3 at *
  generalize hmm : m.length = k at *
  clear hmm
  go_enter Try.func14, Try.ntmps14
  go_wp2_with (first
    | (at_builtin; (refine wpList_app_nil u64E_ok rfl (.tmp 26) (.tmp 31) rfl rfl rfl HT.out B1.out.1 B1.out.2 ?_; intro u w1 hM; (obtain ⟨y3, s3⟩ := KX.out w1 hM.cha 3); (obtain ⟨y0, s0⟩ := KX.out w1 hM.cha 0); rw [k3] at y3; rw [k1] at y0; (obtain ⟨p0, p1⟩ := HG.out w1 hM.cha); (obtain ⟨au, cu, rfl, _, _⟩ := hM.lies.form); have HM := Lib.hid hM; clear hM))
    | (at_builtin; (refine wpList_app u64E_ok rfl (.tmp 39) (.tmp 47) rfl rfl (HM.out.lies.same ((Cha.refl _ w1).alloc _)) ⟨w1.heap.size, 0, none⟩ 1 1 [a.val] rfl rfl (just_new u64E w1 a.val 31) Nat.zero_lt_one (by have := B2.out.1; rw [List.length_append] at this; exact this) (by have := B2.out.2; rw [List.length_append] at this; exact this) ?_; intro g3 o4 cap3 w3 hA3; have hM3 := (HM.out.same ((Cha.refl _ w1).alloc _)).app hA3; (obtain ⟨r3, t3⟩ := KX.out w3 hM3.cha 3); (obtain ⟨r0, t0⟩ := KX.out w3 hM3.cha 0); rw [k3] at r3; rw [k1] at r0; (obtain ⟨j0, j1⟩ := HG.out w3 hM3.cha); have A3 := Lib.hid hM3; clear hA3 hM3)))
  go_returns
  exact ⟨rfl, HD.out _ _ A3.out⟩
end Go.Proofs.Ytnhjkmkocpjkmaa
