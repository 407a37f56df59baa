/- CodeDecodes: the walk. -/
import Derived.Test.YtpdjbhnpahkbpaaAH
import Derived.Test.YtpdjbhnpahkbpaaX
namespace Go.Proofs.Ytpdjbhnpahkbpaa
open Go.ChangeShapes Go.WideShapes Go.ChangeAt Go.RowKit
theorem ddec_any {a : Option Addr} {n c : Nat} {T : List Nat} {W : World} (h : HasT W a n c T) : Calls Try.prog 20 #[.slice a n c] W (DDec W (dec8 T)) := by
  by_cases hl : 16384 < n
  · exact ddec_long h.2.1 hl
  · exact ddec_short h.1 h.2.1 h.2.2 hl
def DDec1 (W : World) (r : PZ × FT) (e : Ending) (w' : World) : Prop := ∃ a0 n0 c0 a1 n1 c1 a2 n2 c2, e = .returned (.tuple #[.agg #[.slice a0 n0 c0, .slice a1 n1 c1, .slice a2 n2 c2], .int .i64 r.2.e, .int .i64 r.2.at_]) ∧ HasP w' (.agg #[.slice a0 n0 c0, .slice a1 n1 c1, .slice a2 n2 c2]) r.1 ∧ Cha (fun _ => False) W w'
theorem ddec_c {a : Option Addr} {n c : Nat} {T : List Nat} {W : World} (h : HasT W a n c T) : Calls Try.prog 20 #[.slice a n c] W (DDec1 W (dec8 T)) :=
  (ddec_any h).mono fun e w' ⟨v0, v1, v2, h1, h2, h3⟩ => by
    obtain ⟨⟨a0, n0, c0, rfl⟩, ⟨a1, n1, c1, rfl⟩, ⟨a2, n2, c2, rfl⟩⟩ := rdp_shape h2
    exact ⟨a0, n0, c0, a1, n1, c1, a2, n2, c2, h1, RdP.cha h2.bound (Cha.refl (fun _ => False) _) (fun _ f => f.elim) (fun _ hi => hi.2), h3⟩
theorem dec8_f (T : List Nat) : (dec8 T).2.f = if (dec8 T).2.e = 0 then 0 else -1 := by
  unfold dec8
  split
  · rfl
  · simp only
    split
    · simp
    · split
      · rfl
      · rfl
set_option maxRecDepth 100000 in
set_option maxHeartbeats 4000000 in
theorem decodes_walk {W : World} {a : Option Addr} {n c : Nat} {T : List Nat} (ht : HasT W a n c T) :
    Calls Try.prog 4 #[.slice a n c] W fun e w' => e = .returned (.bool true) ∧ Cha (fun _ => False) W w' := by
  have HT := Lib.hid ht
  have hf := dec8_f T
  have CD := Lib.hid (decode_c ht)
  have CDD : Hid (∀ w, Cha (fun _ => False) W w → Calls Try.prog 20 #[.slice a n c] w (DDec1 w (dec8 T))) := Lib.hid fun w h => ddec_c (HT.out.cha h)
  obtain ⟨r, hr⟩ : ∃ r, r = dec8 T := ⟨_, rfl⟩
  rw [← hr] at CD CDD hf
  clear hr ht
  obtain ⟨p, E, F, A⟩ := r
  have hf2 : F = if E = 0 then 0 else -1 := hf
  clear hf
  by_cases hE : E = 0
  · subst hE
    rw [if_pos rfl] at hf2
    subst hf2
    go_enter Try.func4, Try.ntmps4
    go_wp2_with (first
      | (go_at_call 19; ((with_reducible refine (CD.out).mono ?_); rintro e w1 ⟨a0, n0, c0, a1, n1, c1, a2, n2, c2, rfl, k1, k2⟩; have K1 := Lib.hid k1; have C1 := Lib.hid ((k2.alloc (.cells #[.slice a0 n0 c0, .slice a1 n1 c1, .slice a2 n2 c2] 26)).alloc (.cells #[.int .i64 0, .int .i64 0, .int .i64 A] 37)); have A1 := Lib.hid (alloc2 w1 (.cells #[.slice a0 n0 c0, .slice a1 n1 c1, .slice a2 n2 c2] 26) (.cells #[.int .i64 0, .int .i64 0, .int .i64 A] 37)); clear k1 k2))
      | (go_at_call 20; ((with_reducible refine (CDD.out _ C1.out).mono ?_); rintro e w2 ⟨d0, m0, q0, d1, m1, q1, d2, m2, q2, rfl, k1, k2⟩; have K2 := Lib.hid k1; have C2 := Lib.hid ((C1.out.trans k2).alloc (.cells #[.slice d0 m0 q0, .slice d1 m1 q1, .slice d2 m2 q2] 26)); have A2 := Lib.hid (heap_alloc_new w2 (.cells #[.slice d0 m0 q0, .slice d1 m1 q1, .slice d2 m2 q2] 26)); have CK := Lib.hid (k2.alloc (.cells #[.slice d0 m0 q0, .slice d1 m1 q1, .slice d2 m2 q2] 26)); clear k1 k2))
      | (go_at_call 17; ((with_reducible refine (awake_any _).mono ?_); rintro e w3 ⟨rfl, k3⟩; have C3 := Lib.hid (C2.out.trans k3); have CK3 := CK.out.trans k3; have x1 := (CK3.old _ (Array.getElem?_eq_some_iff.1 A1.out.1).1 (fun f => f)).trans A1.out.1; have x2 := (CK3.old _ (Array.getElem?_eq_some_iff.1 A1.out.2).1 (fun f => f)).trans A1.out.2; have x3 := (k3.old _ (Array.getElem?_eq_some_iff.1 A2.out).1 (fun f => f)).trans A2.out; have P1 := Lib.hid (K1.out.cha ((((Cha.refl (fun _ => False) w1).alloc _).alloc _).trans CK3)); have P2 := Lib.hid (K2.out.cha ((((Cha.refl (fun _ => False) w2).alloc _).trans k3))); have b0 := cell_of_row w3 w1.heap.size 0 _ 26 (0, 0) x1; have b1 := cell_of_row w3 w1.heap.size 1 _ 26 (0, 0) x1; have b2 := cell_of_row w3 w1.heap.size 2 _ 26 (0, 0) x1; have g0 := cell_of_row w3 (w1.heap.size + 1) 0 _ 37 (0, 0) x2; have g1 := cell_of_row w3 (w1.heap.size + 1) 1 _ 37 (0, 0) x2; have g2 := cell_of_row w3 (w1.heap.size + 1) 2 _ 37 (0, 0) x2; have h0 := cell_of_row w3 w2.heap.size 0 _ 26 (0, 0) x3; have h1 := cell_of_row w3 w2.heap.size 1 _ 26 (0, 0) x3; have h2 := cell_of_row w3 w2.heap.size 2 _ 26 (0, 0) x3; have X2 := Lib.hid x2; clear k3 CK3 x1 x3 x2))
      | (go_at_call 21; ((with_reducible refine ((samep_c P1.out P2.out)).mono ?_); rintro e w4 ⟨rfl, k4⟩; have C4 := Lib.hid (C3.out.trans k4); have x2 := (k4.old _ (Array.getElem?_eq_some_iff.1 X2.out).1 (fun f => f)).trans X2.out; have j0 := cell_of_row w4 (w1.heap.size + 1) 0 _ 37 (0, 0) x2; have j1 := cell_of_row w4 (w1.heap.size + 1) 1 _ 37 (0, 0) x2; have j2 := cell_of_row w4 (w1.heap.size + 1) 2 _ 37 (0, 0) x2; clear k4 x2)))
    go_ret
    exact ⟨rfl, C4.out⟩
  · rw [if_neg hE] at hf2
    subst hf2
    have he1 : (E != 0) = true := by simpa using hE
    clear hE
    go_enter Try.func4, Try.ntmps4
    go_wp2_with (first
      | (go_at_call 19; ((with_reducible refine (CD.out).mono ?_); rintro e w1 ⟨a0, n0, c0, a1, n1, c1, a2, n2, c2, rfl, k1, k2⟩; have K1 := Lib.hid k1; have C1 := Lib.hid ((k2.alloc (.cells #[.slice a0 n0 c0, .slice a1 n1 c1, .slice a2 n2 c2] 26)).alloc (.cells #[.int .i64 E, .int .i64 (-1), .int .i64 A] 37)); have A1 := Lib.hid (alloc2 w1 (.cells #[.slice a0 n0 c0, .slice a1 n1 c1, .slice a2 n2 c2] 26) (.cells #[.int .i64 E, .int .i64 (-1), .int .i64 A] 37)); clear k1 k2))
      | (go_at_call 20; ((with_reducible refine (CDD.out _ C1.out).mono ?_); rintro e w2 ⟨d0, m0, q0, d1, m1, q1, d2, m2, q2, rfl, k1, k2⟩; have K2 := Lib.hid k1; have C2 := Lib.hid ((C1.out.trans k2).alloc (.cells #[.slice d0 m0 q0, .slice d1 m1 q1, .slice d2 m2 q2] 26)); have A2 := Lib.hid (heap_alloc_new w2 (.cells #[.slice d0 m0 q0, .slice d1 m1 q1, .slice d2 m2 q2] 26)); have CK := Lib.hid (k2.alloc (.cells #[.slice d0 m0 q0, .slice d1 m1 q1, .slice d2 m2 q2] 26)); clear k1 k2))
      | (go_at_call 17; ((with_reducible refine (awake_any _).mono ?_); rintro e w3 ⟨rfl, k3⟩; have C3 := Lib.hid (C2.out.trans k3); have CK3 := CK.out.trans k3; have x1 := (CK3.old _ (Array.getElem?_eq_some_iff.1 A1.out.1).1 (fun f => f)).trans A1.out.1; have x2 := (CK3.old _ (Array.getElem?_eq_some_iff.1 A1.out.2).1 (fun f => f)).trans A1.out.2; have x3 := (k3.old _ (Array.getElem?_eq_some_iff.1 A2.out).1 (fun f => f)).trans A2.out; have P1 := Lib.hid (K1.out.cha ((((Cha.refl (fun _ => False) w1).alloc _).alloc _).trans CK3)); have P2 := Lib.hid (K2.out.cha ((((Cha.refl (fun _ => False) w2).alloc _).trans k3))); have b0 := cell_of_row w3 w1.heap.size 0 _ 26 (0, 0) x1; have b1 := cell_of_row w3 w1.heap.size 1 _ 26 (0, 0) x1; have b2 := cell_of_row w3 w1.heap.size 2 _ 26 (0, 0) x1; have g0 := cell_of_row w3 (w1.heap.size + 1) 0 _ 37 (0, 0) x2; have g1 := cell_of_row w3 (w1.heap.size + 1) 1 _ 37 (0, 0) x2; have g2 := cell_of_row w3 (w1.heap.size + 1) 2 _ 37 (0, 0) x2; have h0 := cell_of_row w3 w2.heap.size 0 _ 26 (0, 0) x3; have h1 := cell_of_row w3 w2.heap.size 1 _ 26 (0, 0) x3; have h2 := cell_of_row w3 w2.heap.size 2 _ 26 (0, 0) x3; have X2 := Lib.hid x2; clear k3 CK3 x1 x3 x2))
      | (go_at_call 21; ((with_reducible refine ((samep_c P1.out P2.out)).mono ?_); rintro e w4 ⟨rfl, k4⟩; have C4 := Lib.hid (C3.out.trans k4); have x2 := (k4.old _ (Array.getElem?_eq_some_iff.1 X2.out).1 (fun f => f)).trans X2.out; have j0 := cell_of_row w4 (w1.heap.size + 1) 0 _ 37 (0, 0) x2; have j1 := cell_of_row w4 (w1.heap.size + 1) 1 _ 37 (0, 0) x2; have j2 := cell_of_row w4 (w1.heap.size + 1) 2 _ 37 (0, 0) x2; clear k4 x2)))
    go_ret
    exact ⟨rfl, C4.out⟩
end Go.Proofs.Ytpdjbhnpahkbpaa
