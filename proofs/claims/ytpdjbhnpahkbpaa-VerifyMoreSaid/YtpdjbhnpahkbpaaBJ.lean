/- The document's Encode and the program's are one, plainly. -/
import Derived.Test.YtpdjbhnpahkbpaaBG
import Derived.Test.YtpdjbhnpahkbpaaAB
namespace Go.Proofs.Ytpdjbhnpahkbpaa
/-- g writes as f does, up to the first fault; behind it the fault stays. -/
structure Ln (f g : St → St) : Prop where
  ok : ∀ s, s.e = 0 → (g s).e = (f s).e ∧ ((f s).e = 0 → g s = f s)
  stop : ∀ s, s.e ≠ 0 → (f s).e = s.e ∧ (g s).e = s.e
theorem Ln.comp {f g f' g' : St → St} (h : Ln f g) (h' : Ln f' g') : Ln (fun s => f' (f s)) (fun s => g' (g s)) := by
  refine ⟨fun s hs => ?_, fun s hs => ?_⟩
  · obtain ⟨a1, a2⟩ := h.ok s hs
    by_cases c : (f s).e = 0
    · have e := a2 c
      show (g' (g s)).e = (f' (f s)).e ∧ ((f' (f s)).e = 0 → g' (g s) = f' (f s))
      rw [e]
      exact h'.ok _ c
    · have h1 := h'.stop (f s) c
      have h2 := h'.stop (g s) (by rw [a1]; exact c)
      exact ⟨by rw [h2.2, h1.1, a1], fun d => absurd d (by show (f' (f s)).e ≠ 0; rw [h1.1]; exact c)⟩
  · have h1 := h.stop s hs
    have h2 := h'.stop (f s) (by rw [h1.1]; exact hs)
    have h3 := h'.stop (g s) (by rw [h1.2]; exact hs)
    exact ⟨by rw [h2.1, h1.1], by rw [h3.2, h1.2]⟩
theorem ln_fold {α : Type} {f g : α → St → St} : ∀ (xs : List α), (∀ x ∈ xs, Ln (f x) (g x)) → Ln (fun s => xs.foldl (fun s x => f x s) s) (fun s => xs.foldl (fun s x => g x s) s)
  | [], _ => ⟨fun _ _ => ⟨rfl, fun _ => rfl⟩, fun _ _ => ⟨rfl, rfl⟩⟩
  | x :: xs, h => (h x (List.mem_cons_self ..)).comp (ln_fold xs fun y hy => h y (List.mem_cons_of_mem _ hy))
theorem ln_num {z : Int} (h : I64 z) : Ln (wNum z) (dNum z) := by
  refine ⟨fun s hs => ?_, fun s hs => ⟨by unfold wNum wWord; rw [if_pos hs], by unfold dNum; simp only; rw [if_neg (fun c => hs c.1)]⟩⟩
  have hw : wNum z s = if 65535 < uz z then ⟨s.t, 1⟩ else ⟨s.t ++ digs (uz z), 0⟩ := by
    unfold wNum wWord
    rw [if_neg (show ¬ s.e ≠ 0 from fun c => c hs)]
  by_cases c : 0 ≤ z
  · have e := uz_pos h c
    by_cases d : 65535 < uz z
    · have h1 : wNum z s = ⟨s.t, 1⟩ := by rw [hw, if_pos d]
      have h2 : (dNum z s).e = 1 := by unfold dNum; exact if_pos ⟨hs, .inr (by omega)⟩
      rw [h1, h2]
      exact ⟨rfl, fun k => absurd (show (1 : Int) = 0 from k) (by decide)⟩
    · have h1 : wNum z s = ⟨s.t ++ digs (uz z), 0⟩ := by rw [hw, if_neg d]
      have h2 : dNum z s = ⟨s.t ++ digs z.toNat, s.e⟩ := by unfold dNum; rw [if_pos c, if_neg (fun k => by have := k.2; omega)]
      rw [h1, h2, e, hs]
      exact ⟨rfl, fun _ => rfl⟩
  · have e := uz_neg h (by omega)
    have h1 : wNum z s = ⟨s.t, 1⟩ := by rw [hw, if_pos (by omega)]
    have h2 : (dNum z s).e = 1 := by unfold dNum; exact if_pos ⟨hs, .inl (by omega)⟩
    rw [h1, h2]
    exact ⟨rfl, fun k => absurd (show (1 : Int) = 0 from k) (by decide)⟩
theorem ln_count {n lim : Nat} (h : n ≤ 9223372036854775807) (hl : lim ≤ 65535) : Ln (wWord n lim 16) (dCount n lim) := by
  refine ⟨fun s hs => ?_, fun s hs => ⟨by unfold wWord; rw [if_pos hs], ?_⟩⟩
  · have hw : wWord n lim 16 s = if lim < n then ⟨s.t, 16⟩ else ⟨s.t ++ digs n, 0⟩ := by
      unfold wWord
      rw [if_neg (show ¬ s.e ≠ 0 from fun c => c hs)]
    by_cases d : lim < n
    · have h1 : wWord n lim 16 s = ⟨s.t, 16⟩ := by rw [hw, if_pos d]
      have h2 : (dCount n lim s).e = 16 := by
        unfold dCount
        rw [if_pos ⟨hs, d⟩, dNum_nat]
        show (if (16 : Int) = 0 ∧ (65535 : Int) < (n : Int) then (1 : Int) else 16) = 16
        exact if_neg (fun k => absurd k.1 (by decide))
      rw [h1, h2]
      exact ⟨rfl, fun k => absurd (show (16 : Int) = 0 from k) (by decide)⟩
    · have h1 : wWord n lim 16 s = ⟨s.t ++ digs n, 0⟩ := by rw [hw, if_neg d]
      have h2 : dCount n lim s = ⟨s.t ++ digs n, s.e⟩ := by
        unfold dCount
        rw [if_neg (fun k => d k.2), dNum_nat]
        show (⟨s.t ++ digs n, if s.e = 0 ∧ (65535 : Int) < (n : Int) then 1 else s.e⟩ : St) = _
        rw [if_neg (fun k => by have := k.2; omega)]
      rw [h1, h2, hs]
      exact ⟨rfl, fun _ => rfl⟩
  · unfold dCount
    rw [dNum_nat]
    show (if (if s.e = 0 ∧ lim < n then (16 : Int) else s.e) = 0 ∧ (65535 : Int) < (n : Int) then (1 : Int) else (if s.e = 0 ∧ lim < n then (16 : Int) else s.e)) = s.e
    rw [if_neg (show ¬ (s.e = 0 ∧ lim < n) from fun k => hs k.1), if_neg (fun k => hs k.1)]
theorem ln_imm {n : Nat} (h : n < 18446744073709551616) : Ln (wWord n 18446744073709551615 1) (dImm n) := by
  refine ⟨fun s hs => ?_, fun s hs => ⟨by unfold wWord; rw [if_pos hs], rfl⟩⟩
  have h1 : wWord n 18446744073709551615 1 s = ⟨s.t ++ digs n, 0⟩ := by
    unfold wWord
    rw [if_neg (show ¬ s.e ≠ 0 from fun c => c hs), if_neg (by omega)]
  rw [h1]
  unfold dImm
  rw [hs]
  exact ⟨rfl, fun _ => rfl⟩
theorem ln_list {α : Type} {f g : α → St → St} {lim : Nat} {xs : List α} (hx : xs.length ≤ 9223372036854775807) (hl : lim ≤ 65535) (h : ∀ x ∈ xs, Ln (f x) (g x)) : Ln (wList f lim xs) (dList g lim xs) := (ln_count hx hl).comp (ln_fold xs h)
theorem ln_ints {lim : Nat} {xs : List Int} (hx : xs.length ≤ 9223372036854775807) (hl : lim ≤ 65535) (h : ∀ z ∈ xs, I64 z) : Ln (wList wNum lim xs) (dList dNum lim xs) := ln_list hx hl fun z hz => ln_num (h z hz)
theorem ln_ins {x : IZ} (h : IFit x) : Ln (wIns x) (dIns x) := (((((ln_num h.2.1).comp (ln_num h.2.2.1)).comp (ln_num h.2.2.2.1)).comp (ln_num h.2.2.2.2.1)).comp (ln_imm h.1.1)).comp (ln_ints h.1.2 (by decide) h.2.2.2.2.2)
theorem ln_fn {x : FZ} (h : FFit x) : Ln (wFn x) (dFn x) := (((ln_num h.2.1).comp (ln_ints h.1.1 (by decide) h.2.2.1)).comp (ln_ints h.1.2.1 (by decide) h.2.2.2.1)).comp (ln_list h.1.2.2.1 (by decide) fun i hi => ln_ins (h.2.2.2.2 i hi))
theorem ln_ty {x : TZ} (h : TFit x) : Ln (wTy x) (dTy x) := (ln_num (by cases x.ar <;> exact ⟨by decide, by decide⟩)).comp (ln_ints h.1 (by decide) h.2)
theorem ln_prog {p : PZ} (h : PFit p) : Ln (wProg p) (dProg p) := ((ln_list h.1.1 (by decide) fun t ht => ln_ty (h.2.1 t ht)).comp (ln_ints h.1.2.1 (by decide) h.2.2.1)).comp (ln_list h.1.2.2.1 (by decide) fun f hf => ln_fn (h.2.2.2 f hf))
theorem denc_enc {p : PZ} (h : PFit p) : denc8 p = enc8 p := by
  obtain ⟨a, b⟩ := (ln_prog h).ok ⟨[], 0⟩ rfl
  by_cases c : (wProg p ⟨[], 0⟩).e = 0
  · have e := b c
    unfold denc8 enc8
    rw [e]
  · rw [denc8_bad (by rw [a]; exact c), enc8_bad c, a]
end Go.Proofs.Ytpdjbhnpahkbpaa

namespace Go.Proofs.Ytpdjbhnpahkbpaa
set_option linter.unusedVariables false
open Go.ChangeShapes Go.WideShapes Go.ChangeAt Go.RowKit
theorem docenc_c {W : World} {v : Value} {p : PZ} (h : HasP W v p) (hs : szP p ≤ 1000000000) : Calls Try.prog 16 #[v] W (Enc1 W (enc8 p)) := by
  have hd := docenc_any h hs
  rw [denc_enc h.fit] at hd
  exact hd.mono fun e w' ⟨a, c, h1, h2, h3⟩ => by
    have hb := enc8_bytes h.ok
    obtain ⟨k1, k2⟩ := own_bytes h2 hb.1 (by omega)
    exact ⟨a, c, h1, ⟨k1.bytes (Cha.refl (fun _ => False) _) (fun _ f => f.elim) (fun _ hi => hi.2), rfl, k2⟩, h3⟩
set_option maxRecDepth 100000 in
set_option maxHeartbeats 4000000 in
theorem encodes_walk {W : World} {v0 v1 v2 : Value} {p : PZ} (hp : HasP W (.agg #[v0, v1, v2]) p) (hs : szP p ≤ 1000000000) :
    Calls Try.prog 3 #[.agg #[v0, v1, v2]] W fun e w' => e = .returned (.bool true) ∧ Cha (fun _ => False) W w' := by
  obtain ⟨⟨a0, n0, c0, rfl⟩, ⟨a1, n1, c1, rfl⟩, ⟨a2, n2, c2, rfl⟩⟩ := rdp_shape hp
  have HP := Lib.hid hp
  have C0 : Hid (Cha (fun _ => False) W (W.alloc (.cells #[.slice a0 n0 c0, .slice a1 n1 c1, .slice a2 n2 c2] 26))) := Lib.hid ((Cha.refl _ W).alloc _)
  have X0 := Lib.hid (heap_alloc_new W (.cells #[.slice a0 n0 c0, .slice a1 n1 c1, .slice a2 n2 c2] 26))
  have CE : Hid (∀ w, Cha (fun _ => False) W w → Calls Try.prog 15 #[.agg #[.slice a0 n0 c0, .slice a1 n1 c1, .slice a2 n2 c2]] w (Enc1 w (enc8 p))) := Lib.hid fun w h => encode_c (HP.out.cha h)
  have CD : Hid (∀ w, Cha (fun _ => False) W w → Calls Try.prog 16 #[.agg #[.slice a0 n0 c0, .slice a1 n1 c1, .slice a2 n2 c2]] w (Enc1 w (enc8 p))) := Lib.hid fun w h => docenc_c (HP.out.cha h) hs
  obtain ⟨s, hs'⟩ : ∃ s, s = enc8 p := ⟨_, rfl⟩
  rw [← hs'] at CE CD
  clear hp hs' hs
  obtain ⟨T1, E1⟩ := s
  have hee : (E1 == E1) = true := by simp
  go_enter Try.func3, Try.ntmps3
  go_wp2_with (first
    | (go_at_call 15; ((with_reducible refine (CE.out _ C0.out).mono ?_); rintro e w1 ⟨x1, y1, rfl, k1, k2⟩; have K1 := Lib.hid k1; have C1 := Lib.hid (C0.out.trans k2); have X1 := Lib.hid ((k2.old _ (Array.getElem?_eq_some_iff.1 X0.out).1 (fun f => f)).trans X0.out); clear k1 k2; have b0 := cell_of_row w1 W.heap.size 0 _ 26 (0, 0) X1.out; have b1 := cell_of_row w1 W.heap.size 1 _ 26 (0, 0) X1.out; have b2 := cell_of_row w1 W.heap.size 2 _ 26 (0, 0) X1.out))
    | (go_at_call 16; ((with_reducible refine (CD.out _ C1.out).mono ?_); rintro e w2 ⟨x2, y2, rfl, k1, k2⟩; have K2 := Lib.hid k1; have L1 := Lib.hid (K1.out.cha k2); have C2 := Lib.hid (C1.out.trans k2); clear k1 k2 b0 b1 b2))
    | (go_at_call 17; ((with_reducible refine (awake_any _).mono ?_); rintro e w3 ⟨rfl, k3⟩; have C3 := Lib.hid (C2.out.trans k3); have M1 := Lib.hid (L1.out.cha k3); have M2 := Lib.hid (K2.out.cha k3); clear k3))
    | (go_at_call 18; ((with_reducible refine ((same_c M1.out M2.out)).mono ?_); rintro e w4 ⟨rfl, rfl⟩)))
  go_ret
  exact ⟨rfl, C3.out⟩
end Go.Proofs.Ytpdjbhnpahkbpaa
