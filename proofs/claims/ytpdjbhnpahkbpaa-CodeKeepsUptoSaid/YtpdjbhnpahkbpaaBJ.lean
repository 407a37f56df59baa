/- CodeEncodes: the walk. -/
import Derived.Test.YtpdjbhnpahkbpaaBH
namespace Go.Proofs.Ytpdjbhnpahkbpaa
set_option linter.unusedVariables false
open Go.ChangeShapes Go.WideShapes Go.ChangeAt Go.RowKit
theorem docenc_c {W : World} {v : Value} {p : PZ} (h : HasP W v p) (hs : szP p ≤ 1000000000) : Calls Try.prog 16 #[v] W (Enc1 W (enc8 p)) := by
  have hd := docenc_any h hs
  rw [denc_enc h.fit] at hd
  exact hd.mono fun e w' ⟨a, c, h1, h2, h3⟩ => by
    have hb := enc8_bytes h.ok
    obtain ⟨k1, k2⟩ := own_bytes h2 hb.1 (by omega)
    exact ⟨a, c, h1, ⟨k1.bytes (Cha.refl (fun _ => False) _) (fun _ f => f.elim) (fun _ hi => hi.2), rfl, k2⟩, h3⟩
set_option maxRecDepth 100000 in
set_option maxHeartbeats 4000000 in
theorem encodes_walk {W : World} {v0 v1 v2 : Value} {p : PZ} (hp : HasP W (.agg #[v0, v1, v2]) p) (hs : szP p ≤ 1000000000) :
    Calls Try.prog 3 #[.agg #[v0, v1, v2]] W fun e w' => e = .returned (.bool true) ∧ Cha (fun _ => False) W w' := by
  obtain ⟨⟨a0, n0, c0, rfl⟩, ⟨a1, n1, c1, rfl⟩, ⟨a2, n2, c2, rfl⟩⟩ := rdp_shape hp
  have HP := Lib.hid hp
  have C0 : Hid (Cha (fun _ => False) W (W.alloc (.cells #[.slice a0 n0 c0, .slice a1 n1 c1, .slice a2 n2 c2] 26))) := Lib.hid ((Cha.refl _ W).alloc _)
  have X0 := Lib.hid (heap_alloc_new W (.cells #[.slice a0 n0 c0, .slice a1 n1 c1, .slice a2 n2 c2] 26))
  have CE : Hid (∀ w, Cha (fun _ => False) W w → Calls Try.prog 15 #[.agg #[.slice a0 n0 c0, .slice a1 n1 c1, .slice a2 n2 c2]] w (Enc1 w (enc8 p))) := Lib.hid fun w h => encode_c (HP.out.cha h)
  have CD : Hid (∀ w, Cha (fun _ => False) W w → Calls Try.prog 16 #[.agg #[.slice a0 n0 c0, .slice a1 n1 c1, .slice a2 n2 c2]] w (Enc1 w (enc8 p))) := Lib.hid fun w h => docenc_c (HP.out.cha h) hs
  obtain ⟨s, hs'⟩ : ∃ s, s = enc8 p := ⟨_, rfl⟩
  rw [← hs'] at CE CD
  clear hp hs' hs
  obtain ⟨T1, E1⟩ := s
  have hee : (E1 == E1) = true := by simp
  go_enter Try.func3, Try.ntmps3
  go_wp2_with (first
    | (go_at_call 15; ((with_reducible refine (CE.out _ C0.out).mono ?_); rintro e w1 ⟨x1, y1, rfl, k1, k2⟩; have K1 := Lib.hid k1; have C1 := Lib.hid (C0.out.trans k2); have X1 := Lib.hid ((k2.old _ (Array.getElem?_eq_some_iff.1 X0.out).1 (fun f => f)).trans X0.out); clear k1 k2; have b0 := cell_of_row w1 W.heap.size 0 _ 26 (0, 0) X1.out; have b1 := cell_of_row w1 W.heap.size 1 _ 26 (0, 0) X1.out; have b2 := cell_of_row w1 W.heap.size 2 _ 26 (0, 0) X1.out))
    | (go_at_call 16; ((with_reducible refine (CD.out _ C1.out).mono ?_); rintro e w2 ⟨x2, y2, rfl, k1, k2⟩; have K2 := Lib.hid k1; have L1 := Lib.hid (K1.out.cha k2); have C2 := Lib.hid (C1.out.trans k2); clear k1 k2 b0 b1 b2))
    | (go_at_call 17; ((with_reducible refine (awake_any _).mono ?_); rintro e w3 ⟨rfl, k3⟩; have C3 := Lib.hid (C2.out.trans k3); have M1 := Lib.hid (L1.out.cha k3); have M2 := Lib.hid (K2.out.cha k3); clear k3))
    | (go_at_call 18; ((with_reducible refine ((same_c M1.out M2.out)).mono ?_); rintro e w4 ⟨rfl, rfl⟩)))
  go_ret
  exact ⟨rfl, C3.out⟩
end Go.Proofs.Ytpdjbhnpahkbpaa
