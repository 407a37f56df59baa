/- The document's writer: a number. -/
import Derived.Test.YtpdjbhnpahkbpaaBB
namespace Go.Proofs.Ytpdjbhnpahkbpaa
set_option linter.unusedVariables false
open Go.ChangeShapes Go.WideShapes Go.ChangeAt Go.RowKit
section
variable {B bw : Nat} {F : Nat → Prop} {W : World} {A : List Nat} {e : Int}
theorem dNum_nat (k : Nat) (s : St) : dNum (k : Int) s = ⟨s.t ++ digs k, if s.e = 0 ∧ (65535 : Int) < (k : Int) then 1 else s.e⟩ := by
  have e : (s.e = 0 ∧ ((k : Int) < 0 ∨ (65535 : Int) < (k : Int))) ↔ (s.e = 0 ∧ (65535 : Int) < (k : Int)) := ⟨fun c => ⟨c.1, by have := c.2; omega⟩, fun c => ⟨c.1, .inr c.2⟩⟩
  unfold dNum
  rw [if_pos (by omega), Int.toNat_natCast]
  by_cases c : s.e = 0 ∧ (65535 : Int) < (k : Int)
  · rw [if_pos c, if_pos (e.2 c)]
  · rw [if_neg c, if_neg (fun d => c (e.1 d))]
set_option maxRecDepth 100000 in
set_option maxHeartbeats 1000000 in
theorem dnumber_any (z : Int) (hz : I64 z) (h : Wd B F W bw A e) (hA : A.length ≤ 70000000000000) (h0 : B ≤ W.heap.size) :
    Calls Try.prog 30 #[.pointer (some ⟨bw, 0, none⟩), .int .i64 z] W (DWrote B bw F W (dNum z ⟨A, e⟩)) := by
  have c1 := h.err
  have f1 := h.free 1
  have H := Lib.hid h
  clear h
  obtain ⟨i0, hi, hz0, hz1, hz2⟩ := info_parts info5
  by_cases hn : z < 0
  · by_cases he : e = 0
    · subst he
      go_enter Try.func30, Try.ntmps30
      go_wp2
      go_end0
      exact DWrote.of (s := ⟨A, 1⟩) ⟨rfl, F, (H.out.fail 1).1, (H.out.fail 1).2⟩ (by unfold dNum; rw [if_neg (by omega), if_pos ⟨rfl, .inl hn⟩])
    · have he1 : (e == 0) = false := by simpa using he
      have HE := Lib.hid he
      clear he
      go_enter Try.func30, Try.ntmps30
      go_wp2
      go_end0
      exact DWrote.of (s := ⟨A, e⟩) ⟨rfl, F, H.out, Mv.refl _ _⟩ (by unfold dNum; rw [if_neg (by omega), if_neg (fun c => HE.out c.1)])
  · obtain ⟨k, rfl⟩ : ∃ k : Nat, z = (k : Int) := ⟨z.toNat, by omega⟩
    have hk : k < 9223372036854775808 := by have := hz.2; omega
    have CW : Hid (∀ w, Calls Try.prog 53 #[.int .u64 (k : Int)] w (fun e w' => ∃ v, e = .returned v ∧ w'.ownsRow w.heap.size 5 1 v (digs k).length (bz (digs k)) ∧ Cha (fun _ => False) w w')) := Lib.hid (fun w => docword_any (W := w) k (by omega))
    have hx : IntKind.u64.wrap (k : Int) = (k : Int) := by rw [IntKind.wrap_u64]; omega
    have hdl := digs_len10 (n := k) (by omega)
    by_cases hb : (65535 : Int) < (k : Int)
    · by_cases he : e = 0
      · subst he
        go_enter Try.func30, Try.ntmps30
        go_wp2
        have HH : Hid (Wd B F (W.setCell ⟨bw, 1, none⟩ (.int .i64 1)).drew bw A 1) := Lib.hid ((H.out.fail 1).1.cha ((Cha.refl (fun _ => False) _).drew) (fun _ _ f => f))
        have M0 : Hid (Mv F W F (W.setCell ⟨bw, 1, none⟩ (.int .i64 1)).drew) := Lib.hid (Mv.drew (H.out.fail 1).2)
        obtain ⟨v, q1, q2, q3⟩ := HH.out.head
        have Q1 := Lib.hid q1
        have Q2 := Lib.hid q2
        have Q3 := Lib.hid q3
        clear q1 q2 q3
        obtain ⟨va, vc, rfl⟩ := own_shape Q2.out
        have KX : Hid (∀ W', Cha (fun _ => False) (W.setCell ⟨bw, 1, none⟩ (.int .i64 1)).drew W' → W'.heap[bw]? = some (.cells #[.slice va A.length vc, .int .i64 1] 74 (0, 0)) ∧ W'.cell? ⟨bw, 0, none⟩ = some (.slice va A.length vc) ∧ W'.frozen? ⟨bw, 0, none⟩ = false) := Lib.hid fun W' hc => by
          have q := (hc.old bw (HH.out.lt bw HH.out.fb) (fun f => f)).trans Q1.out
          exact ⟨q, cell_of_row W' bw 0 _ 74 (0, 0) q, frozen_of_row W' bw 0 _ 74 q⟩
        have HBB : Hid (B ≤ (W.setCell ⟨bw, 1, none⟩ (.int .i64 1)).drew.heap.size) := Lib.hid (Nat.le_trans h0 M0.out.cha.size)
        obtain ⟨_, k1, k2⟩ := KX.out (W.setCell ⟨bw, 1, none⟩ (.int .i64 1)).drew (Cha.refl _ _)
        go_region_law
          (first
            | (go_simp; go_at_call 53; refine (CW.out (W.setCell ⟨bw, 1, none⟩ (.int .i64 1)).drew).mono ?_; rintro e w2 ⟨dv, rfl, j1, j2⟩; obtain ⟨dg, dc, rfl, jl⟩ := own_lie j1 (digs_pos k); obtain ⟨p0, p1, p2⟩ := KX.out w2 j2)
            | (refine step_append_lies _ (by rfl) _ _ 27 (by rfl) B 5 i0 (.int .u8 0) 1 1 Try.underlying27 hi hz0 hz1 hz2 rfl (by decide) (.slice va A.length vc) A.length (bz A) (by rfl) (own_but Q2.out j2 (fun _ _ f => f)) ⟨dg, 0, none⟩ (digs k).length dc (bz (digs k)) (by rfl) (by unfold bz; simp) jl (bz_one _) (digs_pos k) (by unfold maxLen; omega) (by omega) (by have := HBB.out; have := j2.size; omega) w2.heap.size rfl ?_; intro g3 cap w3 hown hg hat hlt3; have p5 := ((Cha.of_grownBy hg fun j e => e).old (S := fun i => (Value.slice va A.length vc).ownBlock = some i) bw (Array.getElem?_eq_some_iff.1 p0).1 (fun e => (Q3.out bw e).2 rfl)).trans p0; have p3 := cell_of_row w3 bw 0 _ 74 (0, 0) p5; have p4 := frozen_of_row w3 bw 0 _ 74 p5))
        all_goals
          obtain ⟨F6, r1, r2⟩ := Wd.puts (ds := digs k) (HH.out.cha j2 (fun _ _ f => f)) p0 Q3.out hown hg (fun g hg' => by
            have e3 : g3 = g := by injection hg'
            rcases hat with e | e
            · exact .inl (e3 ▸ e)
            · exact .inr (by omega))
          have R1 := Lib.hid r1
          have R2 := Lib.hid (M0.out.trans (Mv.of j2 r2))
          clear r1 r2 hown hg hat j1 j2 jl p0 p5
          go_wp2
          go_end0
          refine DWrote.of (s := ⟨A ++ digs k, 1⟩) ⟨rfl, F6, R1.out, R2.out⟩ (by rw [dNum_nat]; rw [if_pos ⟨rfl, hb⟩])
      · have he1 : (e == 0) = false := by simpa using he
        have HE := Lib.hid he
        clear he
        go_enter Try.func30, Try.ntmps30
        go_wp2
        have HH : Hid (Wd B F (W).drew bw A e) := Lib.hid (H.out.cha ((Cha.refl (fun _ => False) _).drew) (fun _ _ f => f))
        have M0 : Hid (Mv F W F (W).drew) := Lib.hid (Mv.drew (Mv.refl F W))
        obtain ⟨v, q1, q2, q3⟩ := HH.out.head
        have Q1 := Lib.hid q1
        have Q2 := Lib.hid q2
        have Q3 := Lib.hid q3
        clear q1 q2 q3
        obtain ⟨va, vc, rfl⟩ := own_shape Q2.out
        have KX : Hid (∀ W', Cha (fun _ => False) (W).drew W' → W'.heap[bw]? = some (.cells #[.slice va A.length vc, .int .i64 e] 74 (0, 0)) ∧ W'.cell? ⟨bw, 0, none⟩ = some (.slice va A.length vc) ∧ W'.frozen? ⟨bw, 0, none⟩ = false) := Lib.hid fun W' hc => by
          have q := (hc.old bw (HH.out.lt bw HH.out.fb) (fun f => f)).trans Q1.out
          exact ⟨q, cell_of_row W' bw 0 _ 74 (0, 0) q, frozen_of_row W' bw 0 _ 74 q⟩
        have HBB : Hid (B ≤ (W).drew.heap.size) := Lib.hid (Nat.le_trans h0 M0.out.cha.size)
        obtain ⟨_, k1, k2⟩ := KX.out (W).drew (Cha.refl _ _)
        go_region_law
          (first
            | (go_simp; go_at_call 53; refine (CW.out (W).drew).mono ?_; rintro e w2 ⟨dv, rfl, j1, j2⟩; obtain ⟨dg, dc, rfl, jl⟩ := own_lie j1 (digs_pos k); obtain ⟨p0, p1, p2⟩ := KX.out w2 j2)
            | (refine step_append_lies _ (by rfl) _ _ 27 (by rfl) B 5 i0 (.int .u8 0) 1 1 Try.underlying27 hi hz0 hz1 hz2 rfl (by decide) (.slice va A.length vc) A.length (bz A) (by rfl) (own_but Q2.out j2 (fun _ _ f => f)) ⟨dg, 0, none⟩ (digs k).length dc (bz (digs k)) (by rfl) (by unfold bz; simp) jl (bz_one _) (digs_pos k) (by unfold maxLen; omega) (by omega) (by have := HBB.out; have := j2.size; omega) w2.heap.size rfl ?_; intro g3 cap w3 hown hg hat hlt3; have p5 := ((Cha.of_grownBy hg fun j e => e).old (S := fun i => (Value.slice va A.length vc).ownBlock = some i) bw (Array.getElem?_eq_some_iff.1 p0).1 (fun e => (Q3.out bw e).2 rfl)).trans p0; have p3 := cell_of_row w3 bw 0 _ 74 (0, 0) p5; have p4 := frozen_of_row w3 bw 0 _ 74 p5))
        all_goals
          obtain ⟨F6, r1, r2⟩ := Wd.puts (ds := digs k) (HH.out.cha j2 (fun _ _ f => f)) p0 Q3.out hown hg (fun g hg' => by
            have e3 : g3 = g := by injection hg'
            rcases hat with e | e
            · exact .inl (e3 ▸ e)
            · exact .inr (by omega))
          have R1 := Lib.hid r1
          have R2 := Lib.hid (M0.out.trans (Mv.of j2 r2))
          clear r1 r2 hown hg hat j1 j2 jl p0 p5
          go_wp2
          go_end0
          refine DWrote.of (s := ⟨A ++ digs k, e⟩) ⟨rfl, F6, R1.out, R2.out⟩ (by rw [dNum_nat]; rw [if_neg (fun c => HE.out c.1)])
    · have hb2 : ¬ (65535 : Int) < (k : Int) := hb
      go_enter Try.func30, Try.ntmps30
      go_wp2
      have HH : Hid (Wd B F (W).drew bw A e) := Lib.hid (H.out.cha ((Cha.refl (fun _ => False) _).drew) (fun _ _ f => f))
      have M0 : Hid (Mv F W F (W).drew) := Lib.hid (Mv.drew (Mv.refl F W))
      obtain ⟨v, q1, q2, q3⟩ := HH.out.head
      have Q1 := Lib.hid q1
      have Q2 := Lib.hid q2
      have Q3 := Lib.hid q3
      clear q1 q2 q3
      obtain ⟨va, vc, rfl⟩ := own_shape Q2.out
      have KX : Hid (∀ W', Cha (fun _ => False) (W).drew W' → W'.heap[bw]? = some (.cells #[.slice va A.length vc, .int .i64 e] 74 (0, 0)) ∧ W'.cell? ⟨bw, 0, none⟩ = some (.slice va A.length vc) ∧ W'.frozen? ⟨bw, 0, none⟩ = false) := Lib.hid fun W' hc => by
        have q := (hc.old bw (HH.out.lt bw HH.out.fb) (fun f => f)).trans Q1.out
        exact ⟨q, cell_of_row W' bw 0 _ 74 (0, 0) q, frozen_of_row W' bw 0 _ 74 q⟩
      have HBB : Hid (B ≤ (W).drew.heap.size) := Lib.hid (Nat.le_trans h0 M0.out.cha.size)
      obtain ⟨_, k1, k2⟩ := KX.out (W).drew (Cha.refl _ _)
      go_region_law
        (first
          | (go_simp; go_at_call 53; refine (CW.out (W).drew).mono ?_; rintro e w2 ⟨dv, rfl, j1, j2⟩; obtain ⟨dg, dc, rfl, jl⟩ := own_lie j1 (digs_pos k); obtain ⟨p0, p1, p2⟩ := KX.out w2 j2)
          | (refine step_append_lies _ (by rfl) _ _ 27 (by rfl) B 5 i0 (.int .u8 0) 1 1 Try.underlying27 hi hz0 hz1 hz2 rfl (by decide) (.slice va A.length vc) A.length (bz A) (by rfl) (own_but Q2.out j2 (fun _ _ f => f)) ⟨dg, 0, none⟩ (digs k).length dc (bz (digs k)) (by rfl) (by unfold bz; simp) jl (bz_one _) (digs_pos k) (by unfold maxLen; omega) (by omega) (by have := HBB.out; have := j2.size; omega) w2.heap.size rfl ?_; intro g3 cap w3 hown hg hat hlt3; have p5 := ((Cha.of_grownBy hg fun j e => e).old (S := fun i => (Value.slice va A.length vc).ownBlock = some i) bw (Array.getElem?_eq_some_iff.1 p0).1 (fun e => (Q3.out bw e).2 rfl)).trans p0; have p3 := cell_of_row w3 bw 0 _ 74 (0, 0) p5; have p4 := frozen_of_row w3 bw 0 _ 74 p5))
      all_goals
        obtain ⟨F6, r1, r2⟩ := Wd.puts (ds := digs k) (HH.out.cha j2 (fun _ _ f => f)) p0 Q3.out hown hg (fun g hg' => by
          have e3 : g3 = g := by injection hg'
          rcases hat with e | e
          · exact .inl (e3 ▸ e)
          · exact .inr (by omega))
        have R1 := Lib.hid r1
        have R2 := Lib.hid (M0.out.trans (Mv.of j2 r2))
        clear r1 r2 hown hg hat j1 j2 jl p0 p5
        go_wp2
        go_end0
        refine DWrote.of (s := ⟨A ++ digs k, e⟩) ⟨rfl, F6, R1.out, R2.out⟩ (by rw [dNum_nat]; rw [if_neg (fun c => absurd c.2 (by omega))])
end
end Go.Proofs.Ytpdjbhnpahkbpaa
