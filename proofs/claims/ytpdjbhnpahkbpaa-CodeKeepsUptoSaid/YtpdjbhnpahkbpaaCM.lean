/- The reader: a word, a number. -/
import Derived.Test.YtpdjbhnpahkbpaaCA
namespace Go.Proofs.Ytpdjbhnpahkbpaa.Z
open Go.ChangeShapes Go.WideShapes Go.ChangeAt Go.RowKit

/-- The reader at block br over the text T, which lies in blocks of B. -/
structure Rd (B : Nat → Prop) (W : World) (br : Nat) (T : List Nat) (s : RSt) : Prop where
  head : ∃ a c, W.heap[br]? = some (.cells #[.slice a T.length c, .int .i64 (s.at_ : Int), .int .i64 s.e, .int .i64 s.fn, .int .i64 (s.fa : Int)] 81 (0, 0)) ∧ RdS 1 RdU8 B W (.slice a T.length c) T ∧ T.length ≤ c
  low : ∀ i, B i → i < br
  ok : s.ok T
section
variable {B : Nat → Prop} {br : Nat} {S : Nat → Prop} {W W' : World} {T : List Nat} {s : RSt}
theorem Rd.far (h : Rd B W br T s) : ¬ B br := fun c => by have := h.low br c; omega
theorem Rd.lt (h : Rd B W br T s) : br < W.heap.size := by
  obtain ⟨a, c, h1, _⟩ := h.head
  exact (Array.getElem?_eq_some_iff.1 h1).1
theorem Rd.chaZ (h : Rd B W br T s) (c : Cha S W W') (hs : ¬ S br) (hB : ∀ i, S i → ¬ B i) : Rd B W' br T s := by
  obtain ⟨a, k, h1, h2, h3⟩ := h.head
  exact ⟨⟨a, k, (c.old br h.lt hs).trans h1, h2.bytesZ c hB (fun _ h => h), h3⟩, h.low, h.ok⟩
theorem Rd.alloc (h : Rd B W br T s) (o : Obj) (hf : Fre o := by first | exact rfl | exact trivial) : Rd B (W.alloc o) br T s := h.chaZ ((Cha.refl (fun _ => False) W).alloc o hf) (fun f => f) (fun _ f => f.elim)
theorem Rd.err (h : Rd B W br T s) : W.cell? ⟨br, 2, none⟩ = some (.int .i64 s.e) := by
  obtain ⟨a, c, h1, _⟩ := h.head
  exact cell_of_row W br 2 _ 81 (0, 0) h1
theorem Rd.pos (h : Rd B W br T s) : W.cell? ⟨br, 1, none⟩ = some (.int .i64 (s.at_ : Int)) := by
  obtain ⟨a, c, h1, _⟩ := h.head
  exact cell_of_row W br 1 _ 81 (0, 0) h1
theorem Rd.cell3 (h : Rd B W br T s) : W.cell? ⟨br, 3, none⟩ = some (.int .i64 s.fn) := by
  obtain ⟨a, c, h1, _⟩ := h.head
  exact cell_of_row W br 3 _ 81 (0, 0) h1
theorem Rd.cell4 (h : Rd B W br T s) : W.cell? ⟨br, 4, none⟩ = some (.int .i64 (s.fa : Int)) := by
  obtain ⟨a, c, h1, _⟩ := h.head
  exact cell_of_row W br 4 _ 81 (0, 0) h1
theorem Rd.free (h : Rd B W br T s) (i : Nat) : W.frozen? ⟨br, i, none⟩ = false := by
  obtain ⟨a, c, h1, _⟩ := h.head
  exact frozen_of_row W br i _ 81 h1
theorem Rd.move (h : Rd B W br T s) (n : Nat) (s' : RSt) (hs : s' = ⟨n, s.e, s.fa⟩) (ho : s'.ok T) : Rd B (W.setCell ⟨br, 1, none⟩ (.int .i64 (n : Int))) br T s' ∧ Cha (fun i => i = br) W (W.setCell ⟨br, 1, none⟩ (.int .i64 (n : Int))) := by
  obtain ⟨a, c, h1, h2, h3⟩ := h.head
  have k : Cha (fun i => i = br) W (W.setCell ⟨br, 1, none⟩ (.int .i64 (n : Int))) := (Cha.refl (fun i => i = br) W).setCell (p := ⟨br, 1, none⟩) (fun _ => rfl) _
  subst hs
  exact ⟨⟨⟨a, c, heap_setCell_same W br 1 _ 81 _ h1, h2.bytesZ k (fun i e hb => by have e : i = br := e; subst e; exact h.far hb) (fun _ h => h), h3⟩, h.low, ho⟩, k⟩
theorem Rd.fail (h : Rd B W br T s) (e : Int) (f : Nat) (s' : RSt) (hs : s' = ⟨s.at_, e, f⟩) (he : e ≠ 0) (ho : s'.ok T) :
    Rd B (((W.setCell ⟨br, 2, none⟩ (.int .i64 e)).setCell ⟨br, 3, none⟩ (.int .i64 (-1))).setCell ⟨br, 4, none⟩ (.int .i64 (f : Int))) br T s' ∧ Cha (fun i => i = br) W (((W.setCell ⟨br, 2, none⟩ (.int .i64 e)).setCell ⟨br, 3, none⟩ (.int .i64 (-1))).setCell ⟨br, 4, none⟩ (.int .i64 (f : Int))) := by
  obtain ⟨a, c, h1, h2, h3⟩ := h.head
  have k : Cha (fun i => i = br) W (((W.setCell ⟨br, 2, none⟩ (.int .i64 e)).setCell ⟨br, 3, none⟩ (.int .i64 (-1))).setCell ⟨br, 4, none⟩ (.int .i64 (f : Int))) :=
    (((Cha.refl (fun i => i = br) W).setCell (p := ⟨br, 2, none⟩) (fun _ => rfl) _).setCell (p := ⟨br, 3, none⟩) (fun _ => rfl) _).setCell (p := ⟨br, 4, none⟩) (fun _ => rfl) _
  have e1 := heap_setCell_same W br 2 _ 81 (.int .i64 e) h1
  have e2 := heap_setCell_same _ br 3 _ 81 (.int .i64 (-1)) e1
  have e3 := heap_setCell_same _ br 4 _ 81 (.int .i64 (f : Int)) e2
  subst hs
  refine ⟨⟨⟨a, c, ?_, h2.bytesZ k (fun i e hb => by have e : i = br := e; subst e; exact h.far hb) (fun _ h => h), h3⟩, h.low, ho⟩, k⟩
  rw [e3]
  have hf : RSt.fn ⟨s.at_, e, f⟩ = -1 := by unfold RSt.fn; rw [if_neg he]
  rw [hf]
  rfl
/-- What a call of the reader's leaves. -/
def Read (B : Nat → Prop) (br : Nat) (T : List Nat) (v : Value) (s : RSt) (W : World) : Ending → World → Prop := fun e w' => e = .returned v ∧ Rd B w' br T s ∧ Cha (fun i => i = br) W w'
theorem Read.of {v v' : Value} {s s' : RSt} {e : Ending} {w' : World} (h : Read B br T v s W e w') (hv : v = v') (hs : s = s') : Read B br T v' s' W e w' := hv ▸ hs ▸ h
theorem rword_stopped (lim : Nat) (ab : Int) (h : Rd B W br T s) (he : s.e ≠ 0) :
    Calls Try.prog 77 #[.pointer (some ⟨br, 0, none⟩), .int .u64 (lim : Int), .int .i64 ab] W (Read B br T (.int .u64 0) s W) := by
  have h1 := h.err
  have H := Lib.hid h
  have he1 : (s.e == 0) = false := by simpa using he
  have he2 : (s.e != 0) = true := by simpa using he
  clear h
  obtain ⟨E, hE⟩ : ∃ E, E = s.e := ⟨_, rfl⟩
  rw [← hE] at h1 he1 he2
  clear hE he
  go_enter Try.func77, Try.ntmps77
  go_wp2
  go_ret
  exact ⟨rfl, H.out, Cha.refl _ _⟩
theorem fault_any (e : Int) (at_ : Int) (W : World) : Calls Try.prog 33 #[.int .i64 e, .int .i64 at_] W fun o w' => o = .returned (.agg #[.int .i64 e, .int .i64 (-1), .int .i64 at_]) ∧ Cha (fun _ => False) W w' := by
  go_enter Try.func33, Try.ntmps33
  go_wp2
  exact bodyPost_ret (v := .agg #[.int .i64 e, .int .i64 (-1), .int .i64 at_]) (by simp [results, Try.results33, go_sem]) rfl ⟨rfl, (Cha.refl _ _).alloc _⟩
set_option maxRecDepth 100000 in
set_option maxHeartbeats 1000000 in
theorem rword_goes (lim : Nat) (ab : Int) (h : Rd B W br T s) (he : s.e = 0) (hab : ab ≠ 0) :
    Calls Try.prog 77 #[.pointer (some ⟨br, 0, none⟩), .int .u64 (lim : Int), .int .i64 ab] W (Read B br T (.int .u64 ((rWord T lim ab s).1 : Int)) (rWord T lim ab s).2 W) := by
  have hT : ∀ x ∈ T, x < 256 := by obtain ⟨_, _, _, h, _⟩ := h.head; exact h.small
  have HO := Lib.hid (rWord_ok (lim := lim) hT h.ok hab)
  have HW : Hid (rWord T lim ab s = if rErr lim ab (fw (T.drop s.at_) 0 0) ≠ 0 then (0, ⟨s.at_, rErr lim ab (fw (T.drop s.at_) 0 0), s.at_⟩) else ((fw (T.drop s.at_) 0 0).1, ⟨s.at_ + (fw (T.drop s.at_) 0 0).2.1, 0, 0⟩)) := Lib.hid (by
    conv => lhs; unfold rWord
    rw [if_neg (fun c => c he)])
  have c2 := h.err
  rw [he] at c2
  have c1 := h.pos
  have hat := h.ok.le
  have hfb := fw_bound (T.drop s.at_) 0 0 (by omega) (by simp) fun x hx => hT x (List.mem_of_mem_drop hx)
  have f1 := h.free 1
  have f2 := h.free 2
  have f3 := h.free 3
  have f4 := h.free 4
  have hbr := h.lt
  obtain ⟨a, c, h1, h2, h3⟩ := h.head
  have c0 : W.cell? ⟨br, 0, none⟩ = some (.slice a T.length c) := cell_of_row W br 0 _ 81 (0, 0) h1
  have hl := h2.len
  have hsub := sub_text h2 h3 hat
  have hsl : ∀ w, (Instr.slice 27 (.slice a T.length c) (some (.int .i64 (s.at_ : Int))) none none).run Try.prog w = .ok (sliced a s.at_ T.length c 1) w := by
    intro w
    have := run_slice_l (P := Try.prog) w 27 a T.length c Try.underlying27 .i64 (s.at_ : Int) (by omega) (by omega)
    rw [this]
    rfl
  have HF := Lib.hid h
  have CF := Lib.hid (fun N => (first_any (hsub.bytesZ ((Cha.refl (fun _ => False) W).drewN N) (fun _ f => f.elim) (fun _ h => h))).mono fun e w' (k : _ ∧ W.drewN N = w') => (⟨k.1, k.2.symm⟩ : _ ∧ w' = W.drewN N))
  obtain ⟨at_, hat0⟩ : ∃ x, x = s.at_ := ⟨_, rfl⟩
  rw [← hat0] at c1 hsl CF HW hfb hat
  obtain ⟨V, hV⟩ : ∃ V, V = sliced a at_ T.length c 1 := ⟨_, rfl⟩
  rw [← hV] at hsl CF
  obtain ⟨m, hm⟩ : ∃ m, m = T.length := ⟨_, rfl⟩
  rw [← hm] at hsl c0 hl hat
  obtain ⟨r, hr⟩ : ∃ r, r = fw (T.drop at_) 0 0 := ⟨_, rfl⟩
  rw [← hr] at CF HW hfb
  obtain ⟨n, sz, e⟩ := r
  have HA := Lib.hid hat0
  have HM := Lib.hid hm
  have hszb : e = 0 → at_ + sz ≤ m := fun ce => by
    have := hfb.2.1 ce
    simp only [List.length_drop] at this
    omega
  clear hat0 hV hm hr h hT hfb h1 h2 h3 hsub
  by_cases ce : e = 0
  · subst ce
    have he1 : ((0 : Int) == 0) = true := rfl
    by_cases cl : lim < n
    · have HE : Hid (rWord T lim ab s = (0, ⟨at_, ab, at_⟩)) := Lib.hid (by
        have e1 : rErr lim ab (n, sz, 0) = ab := by unfold rErr; rw [if_pos ⟨rfl, cl⟩]
        rw [HW.out, e1, if_pos hab])
      have HL := Lib.hid (fun W2 (h2 : Rd B W2 br T s) => h2.fail ab at_ ⟨at_, ab, at_⟩ (by rw [HA.out]) hab (by have := HO.out.1; rw [HE.out] at this; exact this))
      have hab1 : (ab != 0) = true := by simpa using hab
      have hab2 : (ab == 0) = false := by simpa using hab
      clear HW hab
      go_enter Try.func77, Try.ntmps77
      go_wp2
      go_quiet ((go_at_call 112; exact Calls.quiet_of_same (CF.out _)))
      have HC1 : Hid (Cha (fun i => i = br) W (W.drewN nq)) := Lib.hid ((Cha.refl _ W).drewN nq)
      have HF1 := Lib.hid (HF.out.chaZ ((Cha.refl (fun _ => False) W).drewN nq) (fun f => f) (fun _ f => f.elim))
      generalize W.drewN nq = W1 at *
      have c1 := HF1.out.pos
      rw [← HA.out] at c1
      have f1 := HF1.out.free 1
      clear CF HF hsl
      go_wp2_with (go_at_call 33; ((with_reducible refine (fault_any _ _ _).mono ?_); rintro e w2 ⟨rfl, kc⟩; have HC2 : Hid (Cha (fun i => i = br) W w2) := Lib.hid (HC1.out.trans (Cha.wide kc)); have HF2 := Lib.hid (HF1.out.chaZ kc (fun f => f) (fun _ f => f.elim)); clear kc; have f2 := HF2.out.free 2; have f3 := HF2.out.free 3; have f4 := HF2.out.free 4; have g2 := HF2.out.err; have g3 := HF2.out.cell3; have g4 := HF2.out.cell4))
      go_ret
      exact Read.of ⟨rfl, (HL.out _ HF2.out).1, HC2.out.trans (HL.out _ HF2.out).2⟩ (by rw [HE.out]; rfl) (by rw [HE.out])
    · have HE : Hid (rWord T lim ab s = (n, ⟨at_ + sz, 0, 0⟩)) := Lib.hid (by
        have e1 : rErr lim ab (n, sz, 0) = 0 := by unfold rErr; rw [if_neg (fun c => cl c.2)]
        rw [HW.out, e1, if_neg (fun c => c rfl)])
      have HL := Lib.hid (fun W2 (h2 : Rd B W2 br T s) => h2.move (at_ + sz) ⟨at_ + sz, 0, 0⟩ (by rw [he, h2.ok.z he]) (by have := HO.out.1; rw [HE.out] at this; exact this))
      have hsz := hszb rfl
      clear HW hab hszb
      go_enter Try.func77, Try.ntmps77
      go_wp2
      go_quiet ((go_at_call 112; exact Calls.quiet_of_same (CF.out _)))
      have HC1 : Hid (Cha (fun i => i = br) W (W.drewN nq)) := Lib.hid ((Cha.refl _ W).drewN nq)
      have HF1 := Lib.hid (HF.out.chaZ ((Cha.refl (fun _ => False) W).drewN nq) (fun f => f) (fun _ f => f.elim))
      generalize W.drewN nq = W1 at *
      have c1 := HF1.out.pos
      rw [← HA.out] at c1
      have f1 := HF1.out.free 1
      clear CF HF hsl
      go_wp2
      go_ret
      exact Read.of ⟨rfl, (HL.out _ HF1.out).1, HC1.out.trans (HL.out _ HF1.out).2⟩ (by rw [HE.out]; rfl) (by rw [HE.out])
  · have HE : Hid (rWord T lim ab s = (0, ⟨at_, e, at_⟩)) := Lib.hid (by
      have e1 : rErr lim ab (n, sz, e) = e := by unfold rErr; rw [if_neg (fun c => ce c.1)]
      rw [HW.out, e1, if_pos ce])
    have HL := Lib.hid (fun W2 (h2 : Rd B W2 br T s) => h2.fail e at_ ⟨at_, e, at_⟩ (by rw [HA.out]) ce (by have := HO.out.1; rw [HE.out] at this; exact this))
    have he1 : (e != 0) = true := by simpa using ce
    have he2 : (e == 0) = false := by simpa using ce
    clear HW hab ce hszb
    go_enter Try.func77, Try.ntmps77
    go_wp2
    go_quiet ((go_at_call 112; exact Calls.quiet_of_same (CF.out _)))
    have HC1 : Hid (Cha (fun i => i = br) W (W.drewN nq)) := Lib.hid ((Cha.refl _ W).drewN nq)
    have HF1 := Lib.hid (HF.out.chaZ ((Cha.refl (fun _ => False) W).drewN nq) (fun f => f) (fun _ f => f.elim))
    generalize W.drewN nq = W1 at *
    have c1 := HF1.out.pos
    rw [← HA.out] at c1
    have f1 := HF1.out.free 1
    clear CF HF hsl
    go_wp2_with (go_at_call 33; ((with_reducible refine (fault_any _ _ _).mono ?_); rintro e w2 ⟨rfl, kc⟩; have HC2 : Hid (Cha (fun i => i = br) W w2) := Lib.hid (HC1.out.trans (Cha.wide kc)); have HF2 := Lib.hid (HF1.out.chaZ kc (fun f => f) (fun _ f => f.elim)); clear kc; have f2 := HF2.out.free 2; have f3 := HF2.out.free 3; have f4 := HF2.out.free 4; have g2 := HF2.out.err; have g3 := HF2.out.cell3; have g4 := HF2.out.cell4))
    go_ret
    exact Read.of ⟨rfl, (HL.out _ HF2.out).1, HC2.out.trans (HL.out _ HF2.out).2⟩ (by rw [HE.out]; rfl) (by rw [HE.out])
theorem rword_any (lim : Nat) (ab : Int) (h : Rd B W br T s) (hab : ab ≠ 0) :
    Calls Try.prog 77 #[.pointer (some ⟨br, 0, none⟩), .int .u64 (lim : Int), .int .i64 ab] W (Read B br T (.int .u64 ((rWord T lim ab s).1 : Int)) (rWord T lim ab s).2 W) := by
  by_cases he : s.e = 0
  · exact rword_goes lim ab h he hab
  · have e : rWord T lim ab s = (0, s) := by unfold rWord; rw [if_pos he]
    rw [e]
    exact rword_stopped lim ab h he
theorem rnum_any (h : Rd B W br T s) : Calls Try.prog 78 #[.pointer (some ⟨br, 0, none⟩)] W (Read B br T (.int .i64 (rNum T s).1) (rNum T s).2 W) := by
  have C : Hid (Calls Try.prog 77 #[.pointer (some ⟨br, 0, none⟩), .int .u64 65535, .int .i64 1] W (Read B br T (.int .u64 ((rWord T 65535 1 s).1 : Int)) (rWord T 65535 1 s).2 W)) := Lib.hid (rword_any 65535 1 h (by decide))
  have hT : ∀ x ∈ T, x < 256 := by obtain ⟨_, _, _, h, _⟩ := h.head; exact h.small
  have hO := (rWord_ok (lim := 65535) (ab := 1) hT h.ok (by decide)).2.1
  unfold rNum
  generalize rWord T 65535 1 s = r at *
  obtain ⟨n, s'⟩ := r
  simp only at hO C ⊢
  have hw : IntKind.i64.wrap (n : Int) = (n : Int) := by rw [IntKind.wrap_i64]; omega
  clear h hT
  go_enter Try.func78, Try.ntmps78
  go_wp2_with (go_at_call 77; ((with_reducible refine (C.out).mono ?_); rintro e w1 ⟨rfl, k1, k2⟩; have K1 := Lib.hid k1; have K2 := Lib.hid k2; clear k1 k2))
  go_ret
  exact ⟨rfl, K1.out, K2.out⟩
theorem rkind_any (h : Rd B W br T s) : Calls Try.prog 57 #[.pointer (some ⟨br, 0, none⟩)] W (Read B br T (.int .i64 (rNum T s).1) (rNum T s).2 W) := by
  have C := Lib.hid (rnum_any h)
  clear h
  go_enter Try.func57, Try.ntmps57
  go_wp2_with (go_at_call 78; ((with_reducible refine (C.out).mono ?_); rintro e w1 ⟨rfl, k1, k2⟩; have K1 := Lib.hid k1; have K2 := Lib.hid k2; clear k1 k2))
  go_ret
  exact ⟨rfl, K1.out, K2.out⟩
end
end Go.Proofs.Ytpdjbhnpahkbpaa.Z
