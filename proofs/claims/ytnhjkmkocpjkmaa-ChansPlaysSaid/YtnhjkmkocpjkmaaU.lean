/- The document's channels: with, New, Queue, Send. -/
import Derived.Test.YtnhjkmkocpjkmaaT
namespace Go.Proofs.Ytnhjkmkocpjkmaa
open Go.ChangeShapes Go.WideShapes Go.ChangeAt Go.RowKit
variable {w w' W : World} {F : Nat → Prop} {bc g o n cap : Nat} {v1 v2 v3 v : Value} {s : St}

theorem with_any {a : Option Addr} {L : List Snd} (h : Lies wtE w (.slice a n cap) L) (id x : Int) (hA : L.length < 8796093022208) :
    Calls Try.prog 30 #[.slice a n cap, .agg #[.int .i64 id, .int .u64 x]] w fun e w' => ∃ g o c, e = .returned (.slice (some ⟨g, o, none⟩) (L.length + 1) c) ∧ Made wtE w w' (.slice (some ⟨g, o, none⟩) (L.length + 1) c) (L ++ [⟨id, x⟩]) := by
  have H := Lib.hid h
  have B1 : Hid (L.length ≤ maxLen ∧ L.length * wtE.b ≤ 140737488355328) := Lib.hid ⟨by unfold maxLen; omega, by show _ * 16 ≤ _; omega⟩
  have B2 : Hid (L.length + [(⟨id, x⟩ : Snd)].length ≤ 8796093022208) := Lib.hid (by simp only [List.length_singleton]; omega)
  have HR : Hid (∀ W, Cha (fun _ => False) (w.alloc (.cells #[.int .i64 id, .int .u64 x] 67)) W → W.cell? ⟨w.heap.size, 0, none⟩ = some (.int .i64 id) ∧ W.cell? ⟨w.heap.size, 1, none⟩ = some (.int .u64 x)) := Lib.hid fun W c => by
    have e := (c.old w.heap.size (by rw [World.size_alloc]; omega) (fun f => f)).trans (heap_alloc_new w _)
    exact ⟨cell_of_row W _ 0 _ 67 (0, 0) e, cell_of_row W _ 1 _ 67 (0, 0) e⟩
  have hl : n = L.length := by obtain ⟨a', cap', e, _⟩ := h.form; cases e; rfl
  clear h hA
  go_enter Try.func30, Try.ntmps30
  go_wp2_with (first
    | (at_builtin; refine wpList_app_nil wtE_ok rfl (.tmp 6) (.tmp 7) rfl rfl rfl (H.out.same ((Cha.refl _ w).alloc _)) B1.out.1 B1.out.2 ?_; intro u w1 hM; (obtain ⟨y0, y1⟩ := HR.out w1 hM.cha); have HM := Lib.hid hM; clear hM)
    | (at_builtin; refine wpList_app wtE_ok rfl (.tmp 9) (.tmp 11) rfl rfl (HM.out.lies.same ((Cha.refl _ w1).alloc _)) ⟨w1.heap.size, 0, none⟩ 1 1 [⟨id, x⟩] rfl rfl (just_new wtE w1 ⟨id, x⟩ 67) Nat.zero_lt_one (Nat.le_trans B2.out (by decide)) (Nat.le_trans (Nat.mul_le_mul_right 16 B2.out) (by decide)) ?_; intro g3 o3 cap3 w3 hA3; have A3 := Lib.hid ((HM.out.same ((Cha.refl _ w1).alloc _)).app hA3); clear hA3))
  go_ret
  have hM := A3.out
  exact ⟨_, _, _, rfl, hM.lies, fun g hg => Nat.le_trans (by rw [World.size_alloc]; omega) (hM.own g hg), ((Cha.refl _ w).alloc _).trans hM.cha⟩
theorem dnew_bad (p : Int) (w : World) (hp : p < 0 ∨ 16 < p) : Calls Try.prog 10 #[.int .i64 p] w fun e w' => e = .returned (.tuple #[.pointer none, .int .i64 1]) ∧ Cha (fun _ => False) w w' := by
  by_cases h0 : p < 0
  · go_enter Try.func10, Try.ntmps10
    go_wp2
    go_returns
    exact ⟨rfl, Cha.refl _ _⟩
  · have h2 : 16 < p := by omega
    have h1 : 0 ≤ p := by omega
    clear hp h0
    go_enter Try.func10, Try.ntmps10
    go_wp2
    go_returns
    exact ⟨rfl, Cha.refl _ _⟩
theorem dc_new (n : Nat) (w : World) (hn : n ≤ 16) : Dc (w.alloc (.cells #[.slice none 0 0, .int .i64 (n : Int), .bool false, .slice none 0 0, .slice none 0 0] 53)) (fun i => i = w.heap.size) w.heap.size (.slice none 0 0) (.slice none 0 0) (.slice none 0 0) (St.new n) :=
  ⟨heap_alloc_new w _, Lies.nil _ _, Lies.nil _ _, Lies.nil _ _, rfl, (fun g e => by cases e), (fun g e => by cases e), (fun g e => by cases e), (fun g e => by cases e), (fun g e => by cases e), (fun g e => by cases e), (fun i (e : i = _) => by rw [World.size_alloc]; omega), hn⟩
theorem dnew_ok (n : Nat) (w : World) (hn : n ≤ 16) : Calls Try.prog 10 #[.int .i64 (n : Int)] w fun e w' => e = .returned (.tuple #[.pointer (some ⟨w.heap.size, 0, none⟩), .int .i64 0]) ∧ w' = w.alloc (.cells #[.slice none 0 0, .int .i64 (n : Int), .bool false, .slice none 0 0, .slice none 0 0] 53) := by
  have h0 : ¬ ((n : Int) < 0) := by omega
  have h1 : ¬ ((16 : Int) < (n : Int)) := by omega
  go_enter Try.func10, Try.ntmps10
  go_wp2
  go_returns
  exact ⟨rfl, rfl⟩
/-- The field of those who wait to send is loaded, one more is laid behind them, the new list is stored. -/
theorem dqueue_snd (h : Dc w F bc v1 v2 v3 s) (id x : Int) (hA : s.size < 8796093022208) :
    Calls Try.prog 17 #[.pointer (some ⟨bc, 0, none⟩), .int .i64 id, .int .u64 x, .bool true] w fun e w' => e = .returned (.tuple #[]) ∧ DLeft w w' F bc (s.queue id x true) := by
  obtain ⟨a, cap, rfl, _, _⟩ := h.l2.form
  have k3 : w.cell? ⟨bc, 3, none⟩ = some (.slice a s.snds.length cap) := h.cell 3
  have C := Lib.hid (with_any h.l2 id x (by unfold St.size at hA; omega))
  have H := Lib.hid h
  have KX : Hid (∀ W', Cha (fun _ => False) w W' → W'.cell? ⟨bc, 3, none⟩ = some (.slice a s.snds.length cap) ∧ W'.frozen? ⟨bc, 3, none⟩ = false) := Lib.hid fun W' c => H.out.keeps (c.mono fun _ _ f => f.elim) 3
  clear h
  go_enter Try.func17, Try.ntmps17
  go_wp2_with (go_at_call 30; (with_reducible refine (C.out).mono ?_); rintro e w1 ⟨g3, o3, c3, rfl, hM⟩; (obtain ⟨q3, z3⟩ := KX.out w1 hM.cha); have HM := Lib.hid hM; clear hM)
  go_returns
  exact ⟨rfl, H.out.lay2 HM.out⟩
theorem dqueue_rcv (h : Dc w F bc v1 v2 v3 s) (id x : Int) (hA : s.size < 8796093022208) :
    Calls Try.prog 17 #[.pointer (some ⟨bc, 0, none⟩), .int .i64 id, .int .u64 x, .bool false] w fun e w' => e = .returned (.tuple #[]) ∧ DLeft w w' F bc (s.queue id x false) := by
  obtain ⟨a, cap, rfl, _, _⟩ := h.l3.form
  have k3 : w.cell? ⟨bc, 4, none⟩ = some (.slice a (gts s.rcvs).length cap) := h.cell 4
  have C := Lib.hid (with_any h.l3 id 0 (by rw [gts_len]; unfold St.size at hA; omega))
  have H := Lib.hid h
  have KX : Hid (∀ W', Cha (fun _ => False) w W' → W'.cell? ⟨bc, 4, none⟩ = some (.slice a (gts s.rcvs).length cap) ∧ W'.frozen? ⟨bc, 4, none⟩ = false) := Lib.hid fun W' c => H.out.keeps (c.mono fun _ _ f => f.elim) 4
  have HG : Hid ((gts s.rcvs) ++ [⟨id, 0⟩] = gts (s.rcvs ++ [id])) := Lib.hid (gts_app _ _).symm
  rw [HG.out] at C
  clear h
  generalize (gts s.rcvs).length = m at *
  go_enter Try.func17, Try.ntmps17
  go_wp2_with (go_at_call 30; (with_reducible refine (C.out).mono ?_); rintro e w1 ⟨g3, o3, c3, rfl, hM⟩; (obtain ⟨q3, z3⟩ := KX.out w1 hM.cha); have HM := Lib.hid hM; clear hM)
  go_returns
  exact ⟨rfl, H.out.lay3 HM.out⟩
end Go.Proofs.Ytnhjkmkocpjkmaa
