/- The document's writer: a number. -/
import Derived.Test.YtpdjbhnpahkbpaaBB
import Derived.Test.YtpdjbhnpahkbpaaI
namespace Go.Proofs.Ytpdjbhnpahkbpaa
set_option linter.unusedVariables false
open Go.ChangeShapes Go.WideShapes Go.ChangeAt Go.RowKit
section
variable {B bw : Nat} {F : Nat → Prop} {W : World} {A : List Nat} {e : Int}
theorem dNum_nat (k : Nat) (s : St) : dNum (k : Int) s = ⟨s.t ++ digs k, if s.e = 0 ∧ (65535 : Int) < (k : Int) then 1 else s.e⟩ := by
  have e : (s.e = 0 ∧ ((k : Int) < 0 ∨ (65535 : Int) < (k : Int))) ↔ (s.e = 0 ∧ (65535 : Int) < (k : Int)) := ⟨fun c => ⟨c.1, by have := c.2; omega⟩, fun c => ⟨c.1, .inr c.2⟩⟩
  unfold dNum
  rw [if_pos (by omega), Int.toNat_natCast]
  by_cases c : s.e = 0 ∧ (65535 : Int) < (k : Int)
  · rw [if_pos c, if_pos (e.2 c)]
  · rw [if_neg c, if_neg (fun d => c (e.1 d))]
set_option maxRecDepth 100000 in
set_option maxHeartbeats 1000000 in
theorem dnumber_any (z : Int) (hz : I64 z) (h : Wd B F W bw A e) (hA : A.length ≤ 70000000000000) (h0 : B ≤ W.heap.size) :
    Calls Try.prog 30 #[.pointer (some ⟨bw, 0, none⟩), .int .i64 z] W (DWrote B bw F W (dNum z ⟨A, e⟩)) := by
  have c1 := h.err
  have f1 := h.free 1
  have H := Lib.hid h
  clear h
  obtain ⟨i0, hi, hz0, hz1, hz2⟩ := info_parts info5
  by_cases hn : z < 0
  · by_cases he : e = 0
    · subst he
      go_enter Try.func30, Try.ntmps30
      go_wp2
      go_end0
      exact DWrote.of (s := ⟨A, 1⟩) ⟨rfl, F, (H.out.fail 1).1, (H.out.fail 1).2⟩ (by unfold dNum; rw [if_neg (by omega), if_pos ⟨rfl, .inl hn⟩])
    · have he1 : (e == 0) = false := by simpa using he
      have HE := Lib.hid he
      clear he
      go_enter Try.func30, Try.ntmps30
      go_wp2
      go_end0
      exact DWrote.of (s := ⟨A, e⟩) ⟨rfl, F, H.out, Mv.refl _ _⟩ (by unfold dNum; rw [if_neg (by omega), if_neg (fun c => HE.out c.1)])
  · obtain ⟨k, rfl⟩ : ∃ k : Nat, z = (k : Int) := ⟨z.toNat, by omega⟩
    have hk : k < 9223372036854775808 := by have := hz.2; omega
    have CW : Hid (∀ w, Calls Try.prog 53 #[.int .u64 (k : Int)] w (fun e w' => ∃ v, e = .returned v ∧ w'.ownsRow w.heap.size 5 1 v (digs k).length (bz (digs k)) ∧ Cha (fun _ => False) w w')) := Lib.hid (fun w => docword_any (W := w) k (by omega))
    have hx : IntKind.u64.wrap (k : Int) = (k : Int) := by rw [IntKind.wrap_u64]; omega
    have hdl := digs_len10 (n := k) (by omega)
    by_cases hb : (65535 : Int) < (k : Int)
    · by_cases he : e = 0
      · subst he
        go_enter Try.func30, Try.ntmps30
        go_wp2
        have HH : Hid (Wd B F (W.setCell ⟨bw, 1, none⟩ (.int .i64 1)).drew bw A 1) := Lib.hid ((H.out.fail 1).1.cha ((Cha.refl (fun _ => False) _).drew) (fun _ _ f => f))
        have M0 : Hid (Mv F W F (W.setCell ⟨bw, 1, none⟩ (.int .i64 1)).drew) := Lib.hid (Mv.drew (H.out.fail 1).2)
        obtain ⟨v, q1, q2, q3⟩ := HH.out.head
        have Q1 := Lib.hid q1
        have Q2 := Lib.hid q2
        have Q3 := Lib.hid q3
        clear q1 q2 q3
        obtain ⟨va, vc, rfl⟩ := own_shape Q2.out
        have KX : Hid (∀ W', Cha (fun _ => False) (W.setCell ⟨bw, 1, none⟩ (.int .i64 1)).drew W' → W'.heap[bw]? = some (.cells #[.slice va A.length vc, .int .i64 1] 74 (0, 0)) ∧ W'.cell? ⟨bw, 0, none⟩ = some (.slice va A.length vc) ∧ W'.frozen? ⟨bw, 0, none⟩ = false) := Lib.hid fun W' hc => by
          have q := (hc.old bw (HH.out.lt bw HH.out.fb) (fun f => f)).trans Q1.out
          exact ⟨q, cell_of_row W' bw 0 _ 74 (0, 0) q, frozen_of_row W' bw 0 _ 74 q⟩
        have HBB : Hid (B ≤ (W.setCell ⟨bw, 1, none⟩ (.int .i64 1)).drew.heap.size) := Lib.hid (Nat.le_trans h0 M0.out.cha.size)
        obtain ⟨_, k1, k2⟩ := KX.out (W.setCell ⟨bw, 1, none⟩ (.int .i64 1)).drew (Cha.refl _ _)
        go_region_law
          (first
            | (go_simp; go_at_call 53; refine (CW.out (W.setCell ⟨bw, 1, none⟩ (.int .i64 1)).drew).mono ?_; rintro e w2 ⟨dv, rfl, j1, j2⟩; obtain ⟨dg, dc, rfl, jl⟩ := own_lie j1 (digs_pos k); obtain ⟨p0, p1, p2⟩ := KX.out w2 j2)
            | (refine step_append_lies _ (by rfl) _ _ 27 (by rfl) B 5 i0 (.int .u8 0) 1 1 Try.underlying27 hi hz0 hz1 hz2 rfl (by decide) (.slice va A.length vc) A.length (bz A) (by rfl) (own_but Q2.out j2 (fun _ _ f => f)) ⟨dg, 0, none⟩ (digs k).length dc (bz (digs k)) (by rfl) (by unfold bz; simp) jl (bz_one _) (digs_pos k) (by unfold maxLen; omega) (by omega) (by have := HBB.out; have := j2.size; omega) w2.heap.size rfl ?_; intro g3 cap w3 hown hg hat hlt3; have p5 := ((Cha.of_grownBy hg fun j e => e).old (S := fun i => (Value.slice va A.length vc).ownBlock = some i) bw (Array.getElem?_eq_some_iff.1 p0).1 (fun e => (Q3.out bw e).2 rfl)).trans p0; have p3 := cell_of_row w3 bw 0 _ 74 (0, 0) p5; have p4 := frozen_of_row w3 bw 0 _ 74 p5))
        all_goals
          obtain ⟨F6, r1, r2⟩ := Wd.puts (ds := digs k) (HH.out.cha j2 (fun _ _ f => f)) p0 Q3.out hown hg (fun g hg' => by
            have e3 : g3 = g := by injection hg'
            rcases hat with e | e
            · exact .inl (e3 ▸ e)
            · exact .inr (by omega))
          have R1 := Lib.hid r1
          have R2 := Lib.hid (M0.out.trans (Mv.of j2 r2))
          clear r1 r2 hown hg hat j1 j2 jl p0 p5
          go_wp2
          go_end0
          refine DWrote.of (s := ⟨A ++ digs k, 1⟩) ⟨rfl, F6, R1.out, R2.out⟩ (by rw [dNum_nat]; rw [if_pos ⟨rfl, hb⟩])
      · have he1 : (e == 0) = false := by simpa using he
        have HE := Lib.hid he
        clear he
        go_enter Try.func30, Try.ntmps30
        go_wp2
        have HH : Hid (Wd B F (W).drew bw A e) := Lib.hid (H.out.cha ((Cha.refl (fun _ => False) _).drew) (fun _ _ f => f))
        have M0 : Hid (Mv F W F (W).drew) := Lib.hid (Mv.drew (Mv.refl F W))
        obtain ⟨v, q1, q2, q3⟩ := HH.out.head
        have Q1 := Lib.hid q1
        have Q2 := Lib.hid q2
        have Q3 := Lib.hid q3
        clear q1 q2 q3
        obtain ⟨va, vc, rfl⟩ := own_shape Q2.out
        have KX : Hid (∀ W', Cha (fun _ => False) (W).drew W' → W'.heap[bw]? = some (.cells #[.slice va A.length vc, .int .i64 e] 74 (0, 0)) ∧ W'.cell? ⟨bw, 0, none⟩ = some (.slice va A.length vc) ∧ W'.frozen? ⟨bw, 0, none⟩ = false) := Lib.hid fun W' hc => by
          have q := (hc.old bw (HH.out.lt bw HH.out.fb) (fun f => f)).trans Q1.out
          exact ⟨q, cell_of_row W' bw 0 _ 74 (0, 0) q, frozen_of_row W' bw 0 _ 74 q⟩
        have HBB : Hid (B ≤ (W).drew.heap.size) := Lib.hid (Nat.le_trans h0 M0.out.cha.size)
        obtain ⟨_, k1, k2⟩ := KX.out (W).drew (Cha.refl _ _)
        go_region_law
          (first
            | (go_simp; go_at_call 53; refine (CW.out (W).drew).mono ?_; rintro e w2 ⟨dv, rfl, j1, j2⟩; obtain ⟨dg, dc, rfl, jl⟩ := own_lie j1 (digs_pos k); obtain ⟨p0, p1, p2⟩ := KX.out w2 j2)
            | (refine step_append_lies _ (by rfl) _ _ 27 (by rfl) B 5 i0 (.int .u8 0) 1 1 Try.underlying27 hi hz0 hz1 hz2 rfl (by decide) (.slice va A.length vc) A.length (bz A) (by rfl) (own_but Q2.out j2 (fun _ _ f => f)) ⟨dg, 0, none⟩ (digs k).length dc (bz (digs k)) (by rfl) (by unfold bz; simp) jl (bz_one _) (digs_pos k) (by unfold maxLen; omega) (by omega) (by have := HBB.out; have := j2.size; omega) w2.heap.size rfl ?_; intro g3 cap w3 hown hg hat hlt3; have p5 := ((Cha.of_grownBy hg fun j e => e).old (S := fun i => (Value.slice va A.length vc).ownBlock = some i) bw (Array.getElem?_eq_some_iff.1 p0).1 (fun e => (Q3.out bw e).2 rfl)).trans p0; have p3 := cell_of_row w3 bw 0 _ 74 (0, 0) p5; have p4 := frozen_of_row w3 bw 0 _ 74 p5))
        all_goals
          obtain ⟨F6, r1, r2⟩ := Wd.puts (ds := digs k) (HH.out.cha j2 (fun _ _ f => f)) p0 Q3.out hown hg (fun g hg' => by
            have e3 : g3 = g := by injection hg'
            rcases hat with e | e
            · exact .inl (e3 ▸ e)
            · exact .inr (by omega))
          have R1 := Lib.hid r1
          have R2 := Lib.hid (M0.out.trans (Mv.of j2 r2))
          clear r1 r2 hown hg hat j1 j2 jl p0 p5
          go_wp2
          go_end0
          refine DWrote.of (s := ⟨A ++ digs k, e⟩) ⟨rfl, F6, R1.out, R2.out⟩ (by rw [dNum_nat]; rw [if_neg (fun c => HE.out c.1)])
    · have hb2 : ¬ (65535 : Int) < (k : Int) := hb
      go_enter Try.func30, Try.ntmps30
      go_wp2
      have HH : Hid (Wd B F (W).drew bw A e) := Lib.hid (H.out.cha ((Cha.refl (fun _ => False) _).drew) (fun _ _ f => f))
      have M0 : Hid (Mv F W F (W).drew) := Lib.hid (Mv.drew (Mv.refl F W))
      obtain ⟨v, q1, q2, q3⟩ := HH.out.head
      have Q1 := Lib.hid q1
      have Q2 := Lib.hid q2
      have Q3 := Lib.hid q3
      clear q1 q2 q3
      obtain ⟨va, vc, rfl⟩ := own_shape Q2.out
      have KX : Hid (∀ W', Cha (fun _ => False) (W).drew W' → W'.heap[bw]? = some (.cells #[.slice va A.length vc, .int .i64 e] 74 (0, 0)) ∧ W'.cell? ⟨bw, 0, none⟩ = some (.slice va A.length vc) ∧ W'.frozen? ⟨bw, 0, none⟩ = false) := Lib.hid fun W' hc => by
        have q := (hc.old bw (HH.out.lt bw HH.out.fb) (fun f => f)).trans Q1.out
        exact ⟨q, cell_of_row W' bw 0 _ 74 (0, 0) q, frozen_of_row W' bw 0 _ 74 q⟩
      have HBB : Hid (B ≤ (W).drew.heap.size) := Lib.hid (Nat.le_trans h0 M0.out.cha.size)
      obtain ⟨_, k1, k2⟩ := KX.out (W).drew (Cha.refl _ _)
      go_region_law
        (first
          | (go_simp; go_at_call 53; refine (CW.out (W).drew).mono ?_; rintro e w2 ⟨dv, rfl, j1, j2⟩; obtain ⟨dg, dc, rfl, jl⟩ := own_lie j1 (digs_pos k); obtain ⟨p0, p1, p2⟩ := KX.out w2 j2)
          | (refine step_append_lies _ (by rfl) _ _ 27 (by rfl) B 5 i0 (.int .u8 0) 1 1 Try.underlying27 hi hz0 hz1 hz2 rfl (by decide) (.slice va A.length vc) A.length (bz A) (by rfl) (own_but Q2.out j2 (fun _ _ f => f)) ⟨dg, 0, none⟩ (digs k).length dc (bz (digs k)) (by rfl) (by unfold bz; simp) jl (bz_one _) (digs_pos k) (by unfold maxLen; omega) (by omega) (by have := HBB.out; have := j2.size; omega) w2.heap.size rfl ?_; intro g3 cap w3 hown hg hat hlt3; have p5 := ((Cha.of_grownBy hg fun j e => e).old (S := fun i => (Value.slice va A.length vc).ownBlock = some i) bw (Array.getElem?_eq_some_iff.1 p0).1 (fun e => (Q3.out bw e).2 rfl)).trans p0; have p3 := cell_of_row w3 bw 0 _ 74 (0, 0) p5; have p4 := frozen_of_row w3 bw 0 _ 74 p5))
      all_goals
        obtain ⟨F6, r1, r2⟩ := Wd.puts (ds := digs k) (HH.out.cha j2 (fun _ _ f => f)) p0 Q3.out hown hg (fun g hg' => by
          have e3 : g3 = g := by injection hg'
          rcases hat with e | e
          · exact .inl (e3 ▸ e)
          · exact .inr (by omega))
        have R1 := Lib.hid r1
        have R2 := Lib.hid (M0.out.trans (Mv.of j2 r2))
        clear r1 r2 hown hg hat j1 j2 jl p0 p5
        go_wp2
        go_end0
        refine DWrote.of (s := ⟨A ++ digs k, e⟩) ⟨rfl, F6, R1.out, R2.out⟩ (by rw [dNum_nat]; rw [if_neg (fun c => absurd c.2 (by omega))])
end
end Go.Proofs.Ytpdjbhnpahkbpaa

namespace Go.Proofs.Ytpdjbhnpahkbpaa
set_option linter.unusedVariables false
open Go.ChangeShapes Go.WideShapes Go.ChangeAt Go.RowKit
section
variable {B bw : Nat} {F : Nat → Prop} {W : World} {A : List Nat} {e : Int}
/-- A count, as the document writes it. -/
def dCount (n lim : Nat) (s : St) : St := dNum (n : Int) ⟨s.t, if s.e = 0 ∧ lim < n then 16 else s.e⟩
set_option maxRecDepth 100000 in
theorem dcount_any (n lim : Nat) (hn : n ≤ 1000000000000) (hl : lim ≤ 1000000) (h : Wd B F W bw A e) (hA : A.length ≤ 70000000000000) (h0 : B ≤ W.heap.size) :
    Calls Try.prog 29 #[.pointer (some ⟨bw, 0, none⟩), .int .i64 (n : Int), .int .i64 (lim : Int)] W (DWrote B bw F W (dCount n lim ⟨A, e⟩)) := by
  have c1 := h.err
  have f1 := h.free 1
  have hI : I64 (n : Int) := ⟨by omega, by omega⟩
  by_cases hb : lim < n
  · have hb' : (lim : Int) < (n : Int) := by omega
    by_cases he : e = 0
    · subst he
      have E1 : Hid (dCount n lim ⟨A, 0⟩ = dNum (n : Int) ⟨A, 16⟩) := Lib.hid (by unfold dCount; rw [if_pos ⟨rfl, hb⟩])
      have H2 := Lib.hid (h.fail 16)
      have C : Hid (Calls Try.prog 30 #[.pointer (some ⟨bw, 0, none⟩), .int .i64 (n : Int)] (W.setCell ⟨bw, 1, none⟩ (.int .i64 16)) (DWrote B bw F (W.setCell ⟨bw, 1, none⟩ (.int .i64 16)) (dNum (n : Int) ⟨A, 16⟩))) := Lib.hid (dnumber_any (n : Int) hI H2.out.1 hA (Nat.le_trans h0 H2.out.2.cha.size))
      clear h hI hb
      go_enter Try.func29, Try.ntmps29
      go_wp2_with (go_at_call 30; ((with_reducible refine (C.out).mono ?_); rintro e w1 ⟨rfl, F1, k1, k2⟩; have K1 := Lib.hid k1; have K2 := Lib.hid k2; clear k1 k2))
      go_end0
      exact DWrote.of ⟨rfl, F1, K1.out, H2.out.2.trans K2.out⟩ E1.out
    · have he1 : (e == 0) = false := by simpa using he
      have E1 : Hid (dCount n lim ⟨A, e⟩ = dNum (n : Int) ⟨A, e⟩) := Lib.hid (by unfold dCount; rw [if_neg (fun c => he c.1)])
      have C : Hid (Calls Try.prog 30 #[.pointer (some ⟨bw, 0, none⟩), .int .i64 (n : Int)] W (DWrote B bw F W (dNum (n : Int) ⟨A, e⟩))) := Lib.hid (dnumber_any (n : Int) hI h hA h0)
      clear h hI hb he
      go_enter Try.func29, Try.ntmps29
      go_wp2_with (go_at_call 30; ((with_reducible refine (C.out).mono ?_); rintro e w1 ⟨rfl, F1, k1, k2⟩; have K1 := Lib.hid k1; have K2 := Lib.hid k2; clear k1 k2))
      go_end0
      exact DWrote.of ⟨rfl, F1, K1.out, K2.out⟩ E1.out
  · have hb' : ¬ (lim : Int) < (n : Int) := by omega
    have E1 : Hid (dCount n lim ⟨A, e⟩ = dNum (n : Int) ⟨A, e⟩) := Lib.hid (by unfold dCount; rw [if_neg (fun c => hb c.2)])
    have C : Hid (Calls Try.prog 30 #[.pointer (some ⟨bw, 0, none⟩), .int .i64 (n : Int)] W (DWrote B bw F W (dNum (n : Int) ⟨A, e⟩))) := Lib.hid (dnumber_any (n : Int) hI h hA h0)
    clear h hI hb
    go_enter Try.func29, Try.ntmps29
    go_wp2_with (go_at_call 30; ((with_reducible refine (C.out).mono ?_); rintro e w1 ⟨rfl, F1, k1, k2⟩; have K1 := Lib.hid k1; have K2 := Lib.hid k2; clear k1 k2))
    go_end0
    exact DWrote.of ⟨rfl, F1, K1.out, K2.out⟩ E1.out
end
end Go.Proofs.Ytpdjbhnpahkbpaa

namespace Go.Proofs.Ytpdjbhnpahkbpaa
set_option linter.unusedVariables false
open Go.ChangeShapes Go.WideShapes Go.ChangeAt Go.RowKit
/-- A list, as the document writes it: it writes on behind a fault. -/
def dList {α : Type} (f : α → St → St) (lim : Nat) (xs : List α) (s : St) : St := xs.foldl (fun s x => f x s) (dCount xs.length lim s)
/-- Behind k of its items. -/
def dstK {α : Type} (f : α → St → St) (lim : Nat) (xs : List α) (s : St) (k : Nat) : St := (xs.take k).foldl (fun s x => f x s) (dCount xs.length lim s)
/-- f writes at most 10 n bytes. -/
def Dl (n : Nat) (f : St → St) : Prop := ∀ s, (f s).t.length ≤ s.t.length + 10 * n
theorem dNum_dl {z : Int} (h : I64 z) : Dl 1 (dNum z) := fun s => by
  have := digs_len10 (n := z.toNat) (by have := h.2; omega)
  unfold dNum
  by_cases c : 0 ≤ z
  · rw [if_pos c]; simp only [List.length_append]; omega
  · rw [if_neg c]; simp only; omega
theorem dCount_dl {n lim : Nat} (h : n ≤ 9223372036854775807) : Dl 1 (dCount n lim) := fun s => by
  have := dNum_dl (z := (n : Int)) ⟨by omega, by omega⟩ ⟨s.t, if s.e = 0 ∧ lim < n then 16 else s.e⟩
  exact this
theorem Dl.comp {n m : Nat} {f g : St → St} (hf : Dl n f) (hg : Dl m g) : Dl (n + m) fun s => g (f s) := fun s => by
  have h1 := hf s
  have h2 := hg (f s)
  have : 10 * (n + m) = 10 * n + 10 * m := Nat.mul_add _ _ _
  show (g (f s)).t.length ≤ _
  omega
theorem fold_dl {α : Type} {f : α → St → St} {sz : α → Nat} : ∀ (xs : List α), (∀ x ∈ xs, Dl (sz x) (f x)) → Dl (xs.map sz).sum fun s => xs.foldl (fun s x => f x s) s
  | [], _ => fun s => by simp
  | x :: xs, hf => by
    have h := (hf x (List.mem_cons_self ..)).comp (fold_dl xs fun y hy => hf y (List.mem_cons_of_mem _ hy))
    rw [List.map_cons, List.sum_cons]
    exact h
theorem sum_take {α : Type} (sz : α → Nat) : ∀ (xs : List α) (k : Nat), ((xs.take k).map sz).sum ≤ (xs.map sz).sum
  | [], k => by simp
  | x :: xs, 0 => by simp
  | x :: xs, k + 1 => by
    have := sum_take sz xs k
    rw [List.take_succ_cons, List.map_cons, List.map_cons, List.sum_cons, List.sum_cons]
    omega
section
variable {α : Type} {f : α → St → St} {lim k : Nat} {xs : List α} {s : St} {x : α} {sz : α → Nat}
theorem dstK_succ (h : xs[k]? = some x) : dstK f lim xs s (k + 1) = f x (dstK f lim xs s k) := by
  unfold dstK
  rw [List.take_add_one, h, List.foldl_append]
  rfl
theorem dstK_all (h : xs.length ≤ k) : dstK f lim xs s k = dList f lim xs s := by unfold dstK dList; rw [List.take_of_length_le h]
theorem dList_dl (hf : ∀ x ∈ xs, Dl (sz x) (f x)) (hx : xs.length ≤ 9223372036854775807) : Dl (1 + (xs.map sz).sum) (dList f lim xs) := (dCount_dl hx).comp (fold_dl xs hf)
theorem dstK_len (hf : ∀ x ∈ xs, Dl (sz x) (f x)) (hx : xs.length ≤ 9223372036854775807) : (dstK f lim xs s k).t.length ≤ s.t.length + 10 * (1 + (xs.map sz).sum) := by
  have h1 := ((dCount_dl (lim := lim) hx).comp (fold_dl (xs.take k) fun y hy => hf y (List.mem_of_mem_take hy))) s
  have h2 := sum_take sz xs k
  have h3 : 10 * (1 + ((xs.take k).map sz).sum) ≤ 10 * (1 + (xs.map sz).sum) := Nat.mul_le_mul_left _ (by omega)
  exact Nat.le_trans h1 (by omega)
end
theorem sum_ones : ∀ xs : List Int, (xs.map fun _ => 1).sum = xs.length
  | [] => rfl
  | x :: xs => by
    rw [List.map_cons, List.sum_cons, sum_ones xs, List.length_cons]; omega
section
variable {B bw : Nat} {F F' : Nat → Prop} {W W' : World} {s : St}
theorem ints_dl {v : Value} {b : Nat → Prop} {lim : Nat} {xs : List Int} (hv : RdS 1 RdI b W v xs) : Dl (1 + xs.length) (dList dNum lim xs) := by
  have := dList_dl (f := dNum) (lim := lim) (xs := xs) (sz := fun _ => 1) (fun x hx => by obtain ⟨_, _, _, q⟩ := hv.all hx; exact dNum_dl q.2) hv.len
  rw [sum_ones] at this
  exact this
set_option maxRecDepth 100000 in
set_option maxHeartbeats 2000000 in
theorem wkinds_any (lim : Nat) {v : Value} {xs : List Int} (hv : RdS 1 RdI (· < B) W v xs) (h : Wd B F W bw s.t s.e) (hlim : lim ≤ 1000000) (hx : xs.length ≤ 1000000000000) (hT : s.t.length ≤ 1000000000000) (h0 : B ≤ W.heap.size) :
    Calls Try.prog 31 #[.pointer (some ⟨bw, 0, none⟩), v, .int .i64 (lim : Int)] W (DWrote B bw F W (dList dNum lim xs s)) := by
  have hlen := hv.len
  have CW := Lib.hid (dcount_any xs.length lim hx hlim h (by omega) h0)
  have HS : Hid (∀ k, (dstK dNum lim xs s k).t.length ≤ 70000000000000) := Lib.hid fun k => by
    have := dstK_len (f := dNum) (lim := lim) (k := k) (s := s) (xs := xs) (sz := fun _ => 1) (fun x hx => by obtain ⟨_, _, _, q⟩ := hv.all hx; exact dNum_dl q.2) hlen
    rw [sum_ones] at this
    omega
  have HV := Lib.hid hv
  have HG : Hid (∀ i, F i → ¬ i < B) := Lib.hid fun i hi => Nat.not_lt.2 (h.ge i hi)
  obtain ⟨a, c, rfl, _, _⟩ := hv
  have HB := Lib.hid h0
  obtain ⟨n, hn⟩ : ∃ n, n = xs.length := ⟨_, rfl⟩
  rw [← hn] at hlen CW hx ⊢
  have HN := Lib.hid hn
  have E0 : Hid (dstK dNum lim xs s 0 = dCount n lim s) := Lib.hid (by rw [hn]; rfl)
  clear h hT h0 hn
  go_enter Try.func31, Try.ntmps31
  go_wp2_with (go_at_call 29; ((with_reducible refine (CW.out).mono ?_); rintro e w1 ⟨rfl, F1, k1, k2⟩; have O1 := Lib.hid k1; have M1 := Lib.hid k2; clear k1 k2))
  go_loopw [6] (fun i wr => ∃ (k : Nat) (F' : Nat → Prop), k ≤ n ∧ i = .int .i64 (k : Int) ∧ Wd B F' wr bw (dstK dNum lim xs s k).t (dstK dNum lim xs s k).e ∧ Mv F W F' wr) (fun i _ => n - (intOf i).toNat)
  case atStart => exact ⟨0, F1, Nat.zero_le _, rfl, by rw [E0.out]; exact O1.out, M1.out⟩
  case round =>
    clear CW O1 M1
    obtain ⟨k, F', hk, rfl, hO, hM⟩ := hrel
    have O := Lib.hid hO
    have M := Lib.hid hM
    clear hO hM
    by_cases hlt : k < n
    · obtain ⟨z, hz⟩ : ∃ z, xs[k]? = some z := ⟨_, List.getElem?_eq_getElem (by have := HN.out; omega)⟩
      obtain ⟨b, o, _, he, hb, hbs, hx'⟩ := (HV.out.ints M.out.cha HG.out (fun _ h => h)).at hz
      obtain rfl : a = some ⟨b, o, none⟩ := by injection he
      have hc2 := hx'.1
      have hI := Lib.hid hx'.2
      rw [Nat.mul_one] at hc2
      have HK := Lib.hid hz
      clear he hx' hz hb
      have C := Lib.hid (dnumber_any z hI.out O.out (HS.out k) (Nat.le_trans HB.out M.out.cha.size))
      go_wp2_with (go_at_call 30; ((with_reducible refine (C.out).mono ?_); rintro e w2 ⟨rfl, F2, k1, k2⟩; have O2 := Lib.hid k1; have M2 := Lib.hid k2; clear k1 k2))
      go_roundw
      case rel => exact ⟨k + 1, F2, by omega, by go_num, by rw [dstK_succ HK.out]; exact O2.out, M.out.trans M2.out⟩
      case measure => simp [intOf]; omega
    · go_wp2
      go_end0
      exact DWrote.of ⟨rfl, F', O.out, M.out⟩ (dstK_all (by have := HN.out; omega)).symm
end
end Go.Proofs.Ytpdjbhnpahkbpaa
