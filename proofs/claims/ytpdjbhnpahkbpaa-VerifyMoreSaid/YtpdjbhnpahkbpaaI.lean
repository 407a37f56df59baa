/- The writer: numbers, lists of them. -/
import Derived.Test.YtpdjbhnpahkbpaaF
namespace Go.Proofs.Ytpdjbhnpahkbpaa
open Go.ChangeShapes Go.WideShapes Go.ChangeAt Go.RowKit

/-! ### A list, plainly: behind k of its items -/
def stK {α : Type} (f : α → St → St) (lim : Nat) (xs : List α) (s : St) (k : Nat) : St := (xs.take k).foldl (fun s x => f x s) (wWord xs.length lim 16 s)
section
variable {α : Type} {f : α → St → St} {lim c k : Nat} {xs : List α} {s : St} {x : α}
theorem stK_zero : stK f lim xs s 0 = wWord xs.length lim 16 s := rfl
theorem stK_succ (h : xs[k]? = some x) : stK f lim xs s (k + 1) = f x (stK f lim xs s k) := by
  unfold stK
  rw [List.take_add_one, h, List.foldl_append]
  rfl
theorem stK_all (h : xs.length ≤ k) : stK f lim xs s k = wList f lim xs s := by unfold stK wList; rw [List.take_of_length_le h]
theorem stK_len (hf : ∀ x ∈ xs, Wf c (f x)) (hx : xs.length < 18446744073709551616) : (stK f lim xs s k).t.length ≤ s.t.length + 10 + lim * c := by
  have hw := wWord_wf (n := xs.length) (lim := lim) (ab := 16) hx
  have hfo := fold_wf (f := f) (c := c) (xs.take k) fun x h => hf x (List.mem_of_mem_take h)
  have h0 := hw.len s
  unfold stK
  by_cases hl : xs.length ≤ lim
  · have h1 := hfo.len (wWord xs.length lim 16 s)
    have e : (xs.take k).length * c ≤ lim * c := Nat.mul_le_mul_right _ (by simp; omega)
    exact Nat.le_trans h1 (by omega)
  · have h1 : (wWord xs.length lim 16 s).e ≠ 0 := by
      unfold wWord
      split
      · assumption
      · rw [if_pos (by omega)]; show (16 : Int) ≠ 0; omega
    rw [hfo.stop _ h1]
    omega
theorem stK_stop (hf : ∀ x ∈ xs, Wf c (f x)) (h : (stK f lim xs s k).e ≠ 0) : stK f lim xs s k = wList f lim xs s := by
  have hfo := fold_wf (f := f) (c := c) (xs.drop k) fun x h => hf x (List.mem_of_mem_drop h)
  unfold wList
  conv => rhs; rw [← List.take_append_drop k xs, List.foldl_append]
  have e : (wWord (xs.take k ++ xs.drop k).length lim 16 s) = wWord xs.length lim 16 s := by rw [List.take_append_drop]
  rw [e]
  exact (hfo.stop _ h).symm
end

variable {B bw : Nat} {F F' : Nat → Prop} {W W' : World} {s : St}
theorem Wrote.of {e : Ending} {w' : World} {s s' : St} (h : Wrote B bw F W s e w') (he : s = s') : Wrote B bw F W s' e w' := he ▸ h
theorem word_any (n lim : Nat) (ab : Int) (h : Wr B F W bw s.t s.e) (hn : n < 18446744073709551616) (hT : s.t.length ≤ 1000000000) (h0 : B ≤ W.heap.size) :
    Calls Try.prog 73 #[.pointer (some ⟨bw, 0, none⟩), .int .u64 (n : Int), .int .u64 (lim : Int), .int .i64 ab] W (Wrote B bw F W (wWord n lim ab s)) := by
  obtain ⟨T, e⟩ := s
  unfold wWord
  by_cases he : e ≠ 0
  · rw [if_pos he]; exact word_stop n lim ab h he
  · obtain rfl : e = 0 := by omega
    rw [if_neg (fun c => c rfl)]
    by_cases hl : lim < n
    · rw [if_pos hl]; exact word_over n lim ab h hl
    · rw [if_neg hl]; exact word_fits n lim ab h (by omega) hn hT h0
theorem Wrote.none_ (e : Ending) (w' : World) (h : Wrote B bw F W s e w') : e = .returned (.tuple #[]) := h.1
theorem num_any (z : Int) (h : Wr B F W bw s.t s.e) (hT : s.t.length ≤ 1000000000) (h0 : B ≤ W.heap.size) :
    Calls Try.prog 74 #[.pointer (some ⟨bw, 0, none⟩), .int .i64 z] W (Wrote B bw F W (wNum z s)) := by
  have C : Hid (Calls Try.prog 73 #[.pointer (some ⟨bw, 0, none⟩), .int .u64 (uz z : Int), .int .u64 65535, .int .i64 1] W (Wrote B bw F W (wNum z s))) := Lib.hid (word_any (uz z) 65535 1 h (uz_lt z) hT h0)
  have hz : IntKind.u64.wrap z = (uz z : Int) := by rw [IntKind.wrap_u64]; unfold uz; omega
  clear h hT h0
  go_enter Try.func74, Try.ntmps74
  go_wp2_with (go_at_call 73; ((with_reducible refine (C.out).mono ?_); rintro e w1 ⟨rfl, k⟩; have K := Lib.hid k; clear k))
  go_end0
  exact ⟨rfl, K.out⟩
theorem kind_any (z : Int) (h : Wr B F W bw s.t s.e) (hT : s.t.length ≤ 1000000000) (h0 : B ≤ W.heap.size) :
    Calls Try.prog 50 #[.pointer (some ⟨bw, 0, none⟩), .int .i64 z] W (Wrote B bw F W (wNum z s)) := by
  have C := Lib.hid (num_any z h hT h0)
  clear h hT h0
  go_enter Try.func50, Try.ntmps50
  go_wp2_with (go_at_call 74; ((with_reducible refine (C.out).mono ?_); rintro e w1 ⟨rfl, k⟩; have K := Lib.hid k; clear k))
  go_end0
  exact ⟨rfl, K.out⟩

set_option maxRecDepth 100000 in
set_option maxHeartbeats 2000000 in
theorem kinds_any (lim : Nat) {v : Value} {xs : List Int} (hv : RdS 1 RdI (· < B) W v xs) (h : Wr B F W bw s.t s.e) (hlim : lim ≤ 1000) (hT : s.t.length ≤ 900000000) (h0 : B ≤ W.heap.size) :
    Calls Try.prog 49 #[.pointer (some ⟨bw, 0, none⟩), v, .int .u64 (lim : Int), .func (.func 50) #[.pointer (some ⟨bw, 0, none⟩)] #[]] W (Wrote B bw F W (wList wNum lim xs s)) := by
  have hlen := hv.len
  have WF : Hid (∀ x ∈ xs, Wf 10 (wNum x)) := Lib.hid (fun x _ => wNum_wf x)
  have CW := Lib.hid (word_any xs.length lim 16 h (by omega) (by omega) h0)
  have HS : Hid (∀ k, (stK wNum lim xs s k).t.length ≤ 900000000 + 10 + 1000 * 10) := Lib.hid fun k => by
    have := stK_len (f := wNum) (lim := lim) (k := k) (s := s) (xs := xs) WF.out (by omega)
    have : lim * 10 ≤ 1000 * 10 := Nat.mul_le_mul_right _ hlim
    omega
  have HV := Lib.hid hv
  have HG : Hid (∀ i, F i → ¬ i < B) := Lib.hid fun i hi => Nat.not_lt.2 (h.ge i hi)
  obtain ⟨a, c, rfl, _, _⟩ := hv
  have hconv : IntKind.u64.wrap (xs.length : Int) = (xs.length : Int) := by rw [IntKind.wrap_u64]; omega
  have HB := Lib.hid h0
  obtain ⟨n, hn⟩ : ∃ n, n = xs.length := ⟨_, rfl⟩
  rw [← hn] at hconv hlen CW ⊢
  have HN := Lib.hid hn
  clear h hT h0 hn
  go_enter Try.func49, Try.ntmps49
  go_wp2_with (go_at_call 73; ((with_reducible refine (CW.out).mono ?_); rintro e w1 ⟨rfl, F1, k1, k2⟩; have O1 := Lib.hid k1; have M1 := Lib.hid k2; clear k1 k2))
  go_loopw [18] (fun i wr => ∃ (k : Nat) (F' : Nat → Prop), k ≤ n ∧ i = .int .i64 (k : Int) ∧ Wr B F' wr bw (stK wNum lim xs s k).t (stK wNum lim xs s k).e ∧ Mv F W F' wr) (fun i _ => n - (intOf i).toNat)
  case atStart => exact ⟨0, F1, Nat.zero_le _, rfl, by have := O1.out; rw [HN.out] at this; exact this, M1.out⟩
  case round =>
    clear CW O1 M1
    obtain ⟨k, F', hk, rfl, hO, hM⟩ := hrel
    have c1 := hO.err
    have O := Lib.hid hO
    have M := Lib.hid hM
    have hbw : bw < wr.heap.size := hO.lt bw hO.fb
    clear hO hM
    by_cases hlt : k < n
    · obtain ⟨z, hz⟩ : ∃ z, xs[k]? = some z := ⟨_, List.getElem?_eq_getElem (by have := HN.out; omega)⟩
      obtain ⟨b, o, _, he, hb, hbs, hx⟩ := (HV.out.ints M.out.cha HG.out (fun _ h => h)).at hz
      obtain rfl : a = some ⟨b, o, none⟩ := by injection he
      have hc2 := hx.1
      rw [Nat.mul_one] at hc2
      have HK := Lib.hid hz
      clear he hx hz hb
      by_cases he : (stK wNum lim xs s k).e = 0
      · rw [he] at c1
        have C := Lib.hid (kind_any z O.out (by have := HS.out k; omega) (Nat.le_trans HB.out M.out.cha.size))
        go_wp2_with (go_at_call 50; ((with_reducible refine (C.out).mono ?_); rintro e w2 ⟨rfl, F2, k1, k2⟩; have O2 := Lib.hid k1; have M2 := Lib.hid k2; clear k1 k2))
        go_roundw
        case rel => exact ⟨k + 1, F2, by omega, by go_num, by rw [stK_succ HK.out]; exact O2.out, M.out.trans M2.out⟩
        case measure => simp [intOf]; omega
      · obtain ⟨E, hE⟩ : ∃ E, E = (stK wNum lim xs s k).e := ⟨_, rfl⟩
        rw [← hE] at c1 he
        have HE := Lib.hid hE
        clear hE

        go_wp2
        go_end0
        exact Wrote.of ⟨rfl, F', O.out, M.out⟩ (stK_stop WF.out (by rw [← HE.out]; exact he))
    · go_wp2
      go_end0
      exact Wrote.of ⟨rfl, F', O.out, M.out⟩ (stK_all (by have := HN.out; omega))

set_option maxRecDepth 100000 in
set_option maxHeartbeats 2000000 in
theorem ints_any (lim : Nat) {v : Value} {xs : List Int} (hv : RdS 1 RdI (· < B) W v xs) (h : Wr B F W bw s.t s.e) (hlim : lim ≤ 1000) (hT : s.t.length ≤ 900000000) (h0 : B ≤ W.heap.size) :
    Calls Try.prog 111 #[.pointer (some ⟨bw, 0, none⟩), v, .int .u64 (lim : Int), .func (.func 74) #[.pointer (some ⟨bw, 0, none⟩)] #[]] W (Wrote B bw F W (wList wNum lim xs s)) := by
  have hlen := hv.len
  have WF : Hid (∀ x ∈ xs, Wf 10 (wNum x)) := Lib.hid (fun x _ => wNum_wf x)
  have CW := Lib.hid (word_any xs.length lim 16 h (by omega) (by omega) h0)
  have HS : Hid (∀ k, (stK wNum lim xs s k).t.length ≤ 900000000 + 10 + 1000 * 10) := Lib.hid fun k => by
    have := stK_len (f := wNum) (lim := lim) (k := k) (s := s) (xs := xs) WF.out (by omega)
    have : lim * 10 ≤ 1000 * 10 := Nat.mul_le_mul_right _ hlim
    omega
  have HV := Lib.hid hv
  have HG : Hid (∀ i, F i → ¬ i < B) := Lib.hid fun i hi => Nat.not_lt.2 (h.ge i hi)
  obtain ⟨a, c, rfl, _, _⟩ := hv
  have hconv : IntKind.u64.wrap (xs.length : Int) = (xs.length : Int) := by rw [IntKind.wrap_u64]; omega
  have HB := Lib.hid h0
  obtain ⟨n, hn⟩ : ∃ n, n = xs.length := ⟨_, rfl⟩
  rw [← hn] at hconv hlen CW ⊢
  have HN := Lib.hid hn
  clear h hT h0 hn
  go_enter Try.func111, Try.ntmps111
  go_wp2_with (go_at_call 73; ((with_reducible refine (CW.out).mono ?_); rintro e w1 ⟨rfl, F1, k1, k2⟩; have O1 := Lib.hid k1; have M1 := Lib.hid k2; clear k1 k2))
  go_loopw [18] (fun i wr => ∃ (k : Nat) (F' : Nat → Prop), k ≤ n ∧ i = .int .i64 (k : Int) ∧ Wr B F' wr bw (stK wNum lim xs s k).t (stK wNum lim xs s k).e ∧ Mv F W F' wr) (fun i _ => n - (intOf i).toNat)
  case atStart => exact ⟨0, F1, Nat.zero_le _, rfl, by have := O1.out; rw [HN.out] at this; exact this, M1.out⟩
  case round =>
    clear CW O1 M1
    obtain ⟨k, F', hk, rfl, hO, hM⟩ := hrel
    have c1 := hO.err
    have O := Lib.hid hO
    have M := Lib.hid hM
    have hbw : bw < wr.heap.size := hO.lt bw hO.fb
    clear hO hM
    by_cases hlt : k < n
    · obtain ⟨z, hz⟩ : ∃ z, xs[k]? = some z := ⟨_, List.getElem?_eq_getElem (by have := HN.out; omega)⟩
      obtain ⟨b, o, _, he, hb, hbs, hx⟩ := (HV.out.ints M.out.cha HG.out (fun _ h => h)).at hz
      obtain rfl : a = some ⟨b, o, none⟩ := by injection he
      have hc2 := hx.1
      rw [Nat.mul_one] at hc2
      have HK := Lib.hid hz
      clear he hx hz hb
      by_cases he : (stK wNum lim xs s k).e = 0
      · rw [he] at c1
        have C := Lib.hid (num_any z O.out (by have := HS.out k; omega) (Nat.le_trans HB.out M.out.cha.size))
        go_wp2_with (go_at_call 74; ((with_reducible refine (C.out).mono ?_); rintro e w2 ⟨rfl, F2, k1, k2⟩; have O2 := Lib.hid k1; have M2 := Lib.hid k2; clear k1 k2))
        go_roundw
        case rel => exact ⟨k + 1, F2, by omega, by go_num, by rw [stK_succ HK.out]; exact O2.out, M.out.trans M2.out⟩
        case measure => simp [intOf]; omega
      · obtain ⟨E, hE⟩ : ∃ E, E = (stK wNum lim xs s k).e := ⟨_, rfl⟩
        rw [← hE] at c1 he
        have HE := Lib.hid hE
        clear hE

        go_wp2
        go_end0
        exact Wrote.of ⟨rfl, F', O.out, M.out⟩ (stK_stop WF.out (by rw [← HE.out]; exact he))
    · go_wp2
      go_end0
      exact Wrote.of ⟨rfl, F', O.out, M.out⟩ (stK_all (by have := HN.out; omega))
end Go.Proofs.Ytpdjbhnpahkbpaa

namespace Go.Proofs.Ytpdjbhnpahkbpaa
open Go.ChangeShapes Go.WideShapes Go.ChangeAt Go.RowKit
theorem Mv.box {F F' : Nat → Prop} {W W' : World} {k : Nat} {o : Obj} (h : Mv F W F' W') (hb : W.heap[k]? = some o ∧ ¬ F k) : W'.heap[k]? = some o ∧ ¬ F' k := by
  have hl : k < W.heap.size := (Array.getElem?_eq_some_iff.1 hb.1).1
  refine ⟨(h.cha.old k hl hb.2).trans hb.1, fun e => ?_⟩
  rcases h.new k e with e | e
  · exact hb.2 e
  · omega
theorem new_box {B bw : Nat} {F : Nat → Prop} {W : World} {T : List Nat} {e : Int} (h : Wr B F W bw T e) (o : Obj) : (W.alloc o).heap[W.heap.size]? = some o ∧ ¬ F W.heap.size :=
  ⟨heap_alloc_new W o, fun c => by have := h.lt _ c; omega⟩
/-- An instruction, a function, a type by value. -/
def VIns (B : Nat) (W : World) (v : Value) (x : IZ) : Prop := ∃ l, v = .agg #[.int .i64 x.op, .int .i64 x.a, .int .i64 x.b, .int .i64 x.c, .int .u64 (x.imm : Int), l] ∧ RdS 1 RdI (· < B) W l x.l ∧ IOk x
def VFn (B : Nat) (W : World) (v : Value) (x : FZ) : Prop := ∃ l1 l2 l3, v = .agg #[.int .i64 x.pa, l1, l2, l3] ∧ RdS 1 RdI (· < B) W l1 x.sl ∧ RdS 1 RdI (· < B) W l2 x.re ∧ RdS 6 RdIns (· < B) W l3 x.co ∧ FOk x
def VTy (B : Nat) (W : World) (v : Value) (x : TZ) : Prop := ∃ l, v = .agg #[.bool x.ar, l] ∧ RdS 1 RdI (· < B) W l x.fi ∧ TOk x
variable {B bw : Nat} {F F' : Nat → Prop} {W W' : World} {s : St}

set_option maxRecDepth 100000 in
set_option maxHeartbeats 2000000 in
theorem ins_walk (op a b c : Int) (imm : Nat) {lv : Value} {l : List Int} (hm : imm < 18446744073709551616) (hv : RdS 1 RdI (· < B) W lv l) (h : Wr B F W bw s.t s.e) (hT : s.t.length ≤ 800000000) (h0 : B ≤ W.heap.size) :
    Calls Try.prog 76 #[.pointer (some ⟨bw, 0, none⟩), .agg #[.int .i64 op, .int .i64 a, .int .i64 b, .int .i64 c, .int .u64 (imm : Int), lv]] W (Wrote B bw F W (wList wNum 24 l (wWord imm 18446744073709551615 1 (wNum c (wNum b (wNum a (wNum op s))))))) := by
  have HG : Hid (∀ i, F i → ¬ i < B) := Lib.hid fun i hi => Nat.not_lt.2 (h.ge i hi)
  have HL : Hid ((wNum op s).t.length ≤ s.t.length + 10 ∧ (wNum a (wNum op s)).t.length ≤ s.t.length + 20 ∧ (wNum b (wNum a (wNum op s))).t.length ≤ s.t.length + 30 ∧ (wNum c (wNum b (wNum a (wNum op s)))).t.length ≤ s.t.length + 40 ∧ (wWord imm 18446744073709551615 1 (wNum c (wNum b (wNum a (wNum op s))))).t.length ≤ s.t.length + 50) := Lib.hid (by
    have h1 := (wNum_wf op).len s
    have h2 := (wNum_wf a).len (wNum op s)
    have h3 := (wNum_wf b).len (wNum a (wNum op s))
    have h4 := (wNum_wf c).len (wNum b (wNum a (wNum op s)))
    have h5 := (wWord_wf (n := imm) (lim := 18446744073709551615) (ab := 1) hm).len (wNum c (wNum b (wNum a (wNum op s))))
    omega)
  have HM := Lib.hid hm
  have CW : Hid (∀ W F s, Wr B F W bw s.t s.e → s.t.length ≤ 1000000000 → B ≤ W.heap.size → Calls Try.prog 73 #[.pointer (some ⟨bw, 0, none⟩), .int .u64 (imm : Int), .int .u64 18446744073709551615, .int .i64 1] W (Wrote B bw F W (wWord imm 18446744073709551615 1 s))) := Lib.hid fun W F s h hT h0 => word_any imm 18446744073709551615 1 h HM.out hT h0
  have HV := Lib.hid hv
  have CL : Hid (∀ W F s, Wr B F W bw s.t s.e → RdS 1 RdI (· < B) W lv l → s.t.length ≤ 900000000 → B ≤ W.heap.size → Calls Try.prog 111 #[.pointer (some ⟨bw, 0, none⟩), lv, .int .u64 24, .func (.func 74) #[.pointer (some ⟨bw, 0, none⟩)] #[]] W (Wrote B bw F W (wList wNum 24 l s))) := Lib.hid fun W F s h hv hT h0 => ints_any 24 hv h (by omega) hT h0
  clear hv hm
  have X0 : Hid ((W.alloc (.cells #[.int .i64 op, .int .i64 a, .int .i64 b, .int .i64 c, .int .u64 (imm : Int), lv] 52)).heap[W.heap.size]? = some (.cells #[.int .i64 op, .int .i64 a, .int .i64 b, .int .i64 c, .int .u64 (imm : Int), lv] 52 (0, 0)) ∧ ¬ F W.heap.size) := Lib.hid (new_box h _)
  have O0 : Hid (Wr B F (W.alloc (.cells #[.int .i64 op, .int .i64 a, .int .i64 b, .int .i64 c, .int .u64 (imm : Int), lv] 52)) bw s.t s.e) := Lib.hid (h.alloc _)
  have M0 : Hid (Mv F W F (W.alloc (.cells #[.int .i64 op, .int .i64 a, .int .i64 b, .int .i64 c, .int .u64 (imm : Int), lv] 52))) := Lib.hid ((Mv.refl F W).alloc _)
  have HB := Lib.hid h0
  have HT := Lib.hid hT
  have hmf : ∀ (fn : Fn) (first cap : Array Value) (w : World), (Instr.makeFunc fn first cap).run Try.prog w = .ok (.func fn first cap) w := fun _ _ _ _ => rfl

  clear h hT h0
  go_enter Try.func76, Try.ntmps76
  go_wp2_with (first
    | (go_at_call 74; ((with_reducible refine ((Lib.hid (num_any op O0.out (by have := HL.out; have := HT.out; omega) (Nat.le_trans HB.out M0.out.cha.size))).out).mono ?_); rintro e w1 ⟨rfl, F1, k1, k2⟩; have O1 := Lib.hid k1; have M1 := Lib.hid (M0.out.trans k2); have X1 := Lib.hid (k2.box X0.out); clear k1 k2; have c1 := cell_of_row w1 W.heap.size 1 _ 52 (0, 0) X1.out.1))
    | (go_at_call 74; ((with_reducible refine ((Lib.hid (num_any a O1.out (by have := HL.out; have := HT.out; omega) (Nat.le_trans HB.out M1.out.cha.size))).out).mono ?_); rintro e w2 ⟨rfl, F2, k1, k2⟩; have O2 := Lib.hid k1; have M2 := Lib.hid (M1.out.trans k2); have X2 := Lib.hid (k2.box X1.out); clear k1 k2; have c2 := cell_of_row w2 W.heap.size 2 _ 52 (0, 0) X2.out.1))
    | (go_at_call 74; ((with_reducible refine ((Lib.hid (num_any b O2.out (by have := HL.out; have := HT.out; omega) (Nat.le_trans HB.out M2.out.cha.size))).out).mono ?_); rintro e w3 ⟨rfl, F3, k1, k2⟩; have O3 := Lib.hid k1; have M3 := Lib.hid (M2.out.trans k2); have X3 := Lib.hid (k2.box X2.out); clear k1 k2; have c3 := cell_of_row w3 W.heap.size 3 _ 52 (0, 0) X3.out.1))
    | (go_at_call 74; ((with_reducible refine ((Lib.hid (num_any c O3.out (by have := HL.out; have := HT.out; omega) (Nat.le_trans HB.out M3.out.cha.size))).out).mono ?_); rintro e w4 ⟨rfl, F4, k1, k2⟩; have O4 := Lib.hid k1; have M4 := Lib.hid (M3.out.trans k2); have X4 := Lib.hid (k2.box X3.out); clear k1 k2; have c4 := cell_of_row w4 W.heap.size 4 _ 52 (0, 0) X4.out.1))
    | (go_at_call 73; ((with_reducible refine ((Lib.hid (CW.out _ _ _ O4.out (by have := HL.out; have := HT.out; omega) (Nat.le_trans HB.out M4.out.cha.size))).out).mono ?_); rintro e w5 ⟨rfl, F5, k1, k2⟩; have O5 := Lib.hid k1; have M5 := Lib.hid (M4.out.trans k2); have X5 := Lib.hid (k2.box X4.out); clear k1 k2; have c5 := cell_of_row w5 W.heap.size 5 _ 52 (0, 0) X5.out.1))
    | (go_at_call 111; ((with_reducible refine ((Lib.hid (CL.out _ _ _ O5.out (HV.out.ints M5.out.cha HG.out (fun _ h => h)) (by have := HL.out; have := HT.out; omega) (Nat.le_trans HB.out M5.out.cha.size))).out).mono ?_); rintro e w6 ⟨rfl, F6, k1, k2⟩; have O6 := Lib.hid k1; have M6 := Lib.hid (M5.out.trans k2); have X6 := Lib.hid (k2.box X5.out); clear k1 k2)))
  go_end0
  exact ⟨rfl, F6, O6.out, M6.out⟩

set_option maxRecDepth 100000 in
set_option maxHeartbeats 2000000 in
theorem inss_any (lim : Nat) {v : Value} {xs : List IZ} (hv : RdS 6 RdIns (· < B) W v xs) (h : Wr B F W bw s.t s.e) (hlim : lim ≤ 1000) (hT : s.t.length ≤ 500000000) (h0 : B ≤ W.heap.size) :
    Calls Try.prog 75 #[.pointer (some ⟨bw, 0, none⟩), v, .int .u64 (lim : Int), .func (.func 76) #[.pointer (some ⟨bw, 0, none⟩)] #[]] W (Wrote B bw F W (wList wIns lim xs s)) := by
  have hlen := hv.len
  have WF : Hid (∀ x ∈ xs, Wf 300 (wIns x)) := Lib.hid (fun x hx => by obtain ⟨_, _, _, q⟩ := hv.all hx; exact wIns_wf q.ok)
  have CW := Lib.hid (word_any xs.length lim 16 h (by omega) (by omega) h0)
  have HS : Hid (∀ k, (stK wIns lim xs s k).t.length ≤ 500000000 + 10 + 1000 * 300) := Lib.hid fun k => by
    have := stK_len (f := wIns) (lim := lim) (k := k) (s := s) (xs := xs) WF.out (by omega)
    have : lim * 300 ≤ 1000 * 300 := Nat.mul_le_mul_right _ hlim
    omega
  have HV := Lib.hid hv
  have HG : Hid (∀ i, F i → ¬ i < B) := Lib.hid fun i hi => Nat.not_lt.2 (h.ge i hi)
  obtain ⟨a, c, rfl, _, _⟩ := hv
  have hconv : IntKind.u64.wrap (xs.length : Int) = (xs.length : Int) := by rw [IntKind.wrap_u64]; omega
  have HB := Lib.hid h0
  obtain ⟨n, hn⟩ : ∃ n, n = xs.length := ⟨_, rfl⟩
  rw [← hn] at hconv hlen CW ⊢
  have HN := Lib.hid hn
  clear h hT h0 hn
  go_enter Try.func75, Try.ntmps75
  go_wp2_with (go_at_call 73; ((with_reducible refine (CW.out).mono ?_); rintro e w1 ⟨rfl, F1, k1, k2⟩; have O1 := Lib.hid k1; have M1 := Lib.hid k2; clear k1 k2))
  go_loopw [18] (fun i wr => ∃ (k : Nat) (F' : Nat → Prop), k ≤ n ∧ i = .int .i64 (k : Int) ∧ Wr B F' wr bw (stK wIns lim xs s k).t (stK wIns lim xs s k).e ∧ Mv F W F' wr) (fun i _ => n - (intOf i).toNat)
  case atStart => exact ⟨0, F1, Nat.zero_le _, rfl, by have := O1.out; rw [HN.out] at this; exact this, M1.out⟩
  case round =>
    clear CW O1 M1
    obtain ⟨k, F', hk, rfl, hO, hM⟩ := hrel
    have c1 := hO.err
    have O := Lib.hid hO
    have M := Lib.hid hM
    have hbw : bw < wr.heap.size := hO.lt bw hO.fb
    clear hO hM
    by_cases hlt : k < n
    · obtain ⟨z, hz⟩ : ∃ z, xs[k]? = some z := ⟨_, List.getElem?_eq_getElem (by have := HN.out; omega)⟩
      obtain ⟨b, o, _, he, hb, hbs, hx⟩ := (HV.out.inss M.out.cha HG.out (fun _ h => h)).at hz
      obtain rfl : a = some ⟨b, o, none⟩ := by injection he
      obtain ⟨lv, hlv, hlr⟩ := hx.c5
      have q0 := hx.c0
      have q1 := hx.c1
      have q2 := hx.c2
      have q3 := hx.c3
      have q4 := hx.c4
      have HOK := Lib.hid hx.ok
      have HLR := Lib.hid hlr
      obtain ⟨la, lc, rfl, _⟩ := hlr
      have HK := Lib.hid hz
      clear he hx hz hb
      by_cases he : (stK wIns lim xs s k).e = 0
      · rw [he] at c1
        have C : Hid (∀ ob, Calls Try.prog 76 #[.pointer (some ⟨bw, 0, none⟩), .agg #[.int .i64 z.op, .int .i64 z.a, .int .i64 z.b, .int .i64 z.c, .int .u64 (z.imm : Int), .slice la z.l.length lc]] (wr.alloc ob) (Wrote B bw F' (wr.alloc ob) (wIns z (stK wIns lim xs s k)))) := Lib.hid fun ob => ins_walk z.op z.a z.b z.c z.imm HOK.out.1 (HLR.out.ints ((Cha.refl (fun _ => False) wr).alloc ob) (fun _ f => f.elim) (fun _ h => h)) (O.out.alloc ob) (by have := HS.out k; omega) (by rw [World.size_alloc]; have := HB.out; have := M.out.cha.size; omega)
        go_wp2_with (go_at_call 76; ((with_reducible refine ((C.out _)).mono ?_); rintro e w2 ⟨rfl, F2, k1, k2⟩; have O2 := Lib.hid k1; have M2 := Lib.hid ((M.out.alloc _).trans k2); clear k1 k2))
        go_roundw
        case rel => exact ⟨k + 1, F2, by omega, by go_num, by rw [stK_succ HK.out]; exact O2.out, M2.out⟩
        case measure => simp [intOf]; omega
      · obtain ⟨E, hE⟩ : ∃ E, E = (stK wIns lim xs s k).e := ⟨_, rfl⟩
        rw [← hE] at c1 he
        have HE := Lib.hid hE
        clear hE

        go_wp2
        go_end0
        exact Wrote.of ⟨rfl, F', O.out.alloc _, M.out.alloc _⟩ (stK_stop WF.out (by rw [← HE.out]; exact he))
    · go_wp2
      go_end0
      exact Wrote.of ⟨rfl, F', O.out, M.out⟩ (stK_all (by have := HN.out; omega))

set_option maxRecDepth 100000 in
set_option maxHeartbeats 2000000 in
theorem fn_walk (pa : Int) {l1 l2 l3 : Value} {sl re : List Int} {co : List IZ} (h1v : RdS 1 RdI (· < B) W l1 sl) (h2v : RdS 1 RdI (· < B) W l2 re) (h3v : RdS 6 RdIns (· < B) W l3 co) (h : Wr B F W bw s.t s.e) (hT : s.t.length ≤ 400000000) (h0 : B ≤ W.heap.size) :
    Calls Try.prog 52 #[.pointer (some ⟨bw, 0, none⟩), .agg #[.int .i64 pa, l1, l2, l3]] W (Wrote B bw F W (wList wIns 256 co (wList wNum 32 re (wList wNum 32 sl (wNum pa s))))) := by
  have HG : Hid (∀ i, F i → ¬ i < B) := Lib.hid fun i hi => Nat.not_lt.2 (h.ge i hi)
  have LN : Hid ((wNum pa s).t.length ≤ s.t.length + 10 ∧ (wList wNum 32 sl (wNum pa s)).t.length ≤ s.t.length + 340 ∧ (wList wNum 32 re (wList wNum 32 sl (wNum pa s))).t.length ≤ s.t.length + 670) := Lib.hid (by
    have h1 := (wNum_wf pa).len s
    have h2 := (nums_wf 32 sl h1v.len).len (wNum pa s)
    have h3 := (nums_wf 32 re h2v.len).len (wList wNum 32 sl (wNum pa s))
    omega)
  have HV1 := Lib.hid h1v
  have HV2 := Lib.hid h2v
  have HV3 := Lib.hid h3v
  have CK : Hid (∀ W F s lv l, Wr B F W bw s.t s.e → RdS 1 RdI (· < B) W lv l → s.t.length ≤ 900000000 → B ≤ W.heap.size → Calls Try.prog 49 #[.pointer (some ⟨bw, 0, none⟩), lv, .int .u64 32, .func (.func 50) #[.pointer (some ⟨bw, 0, none⟩)] #[]] W (Wrote B bw F W (wList wNum 32 l s))) := Lib.hid fun W F s lv l h hv hT h0 => kinds_any 32 hv h (by omega) hT h0
  have CI : Hid (∀ W F s lv l, Wr B F W bw s.t s.e → RdS 6 RdIns (· < B) W lv l → s.t.length ≤ 500000000 → B ≤ W.heap.size → Calls Try.prog 75 #[.pointer (some ⟨bw, 0, none⟩), lv, .int .u64 256, .func (.func 76) #[.pointer (some ⟨bw, 0, none⟩)] #[]] W (Wrote B bw F W (wList wIns 256 l s))) := Lib.hid fun W F s lv l h hv hT h0 => inss_any 256 hv h (by omega) hT h0
  clear h1v h2v h3v
  have X0 : Hid ((W.alloc (.cells #[.int .i64 pa, l1, l2, l3] 55)).heap[W.heap.size]? = some (.cells #[.int .i64 pa, l1, l2, l3] 55 (0, 0)) ∧ ¬ F W.heap.size) := Lib.hid (new_box h _)
  have O0 : Hid (Wr B F (W.alloc (.cells #[.int .i64 pa, l1, l2, l3] 55)) bw s.t s.e) := Lib.hid (h.alloc _)
  have M0 : Hid (Mv F W F (W.alloc (.cells #[.int .i64 pa, l1, l2, l3] 55))) := Lib.hid ((Mv.refl F W).alloc _)
  have HB := Lib.hid h0
  have HT := Lib.hid hT
  have hmf : ∀ (fn : Fn) (first cap : Array Value) (w : World), (Instr.makeFunc fn first cap).run Try.prog w = .ok (.func fn first cap) w := fun _ _ _ _ => rfl

  clear h hT h0
  go_enter Try.func52, Try.ntmps52
  go_wp2_with (first
    | (go_at_call 74; ((with_reducible refine ((Lib.hid (num_any pa O0.out (by have := LN.out; have := HT.out; omega) (Nat.le_trans HB.out M0.out.cha.size))).out).mono ?_); rintro e w1 ⟨rfl, F1, k1, k2⟩; have O1 := Lib.hid k1; have M1 := Lib.hid (M0.out.trans k2); have X1 := Lib.hid (k2.box X0.out); clear k1 k2; have c1 := cell_of_row w1 W.heap.size 1 _ 55 (0, 0) X1.out.1))
    | (go_at_call 49; ((with_reducible refine ((Lib.hid (CK.out _ _ _ _ _ O1.out (HV1.out.ints M1.out.cha HG.out (fun _ h => h)) (by have := LN.out; have := HT.out; omega) (Nat.le_trans HB.out M1.out.cha.size))).out).mono ?_); rintro e w2 ⟨rfl, F2, k1, k2⟩; have O2 := Lib.hid k1; have M2 := Lib.hid (M1.out.trans k2); have X2 := Lib.hid (k2.box X1.out); clear k1 k2; have c2 := cell_of_row w2 W.heap.size 2 _ 55 (0, 0) X2.out.1))
    | (go_at_call 49; ((with_reducible refine ((Lib.hid (CK.out _ _ _ _ _ O2.out (HV2.out.ints M2.out.cha HG.out (fun _ h => h)) (by have := LN.out; have := HT.out; omega) (Nat.le_trans HB.out M2.out.cha.size))).out).mono ?_); rintro e w3 ⟨rfl, F3, k1, k2⟩; have O3 := Lib.hid k1; have M3 := Lib.hid (M2.out.trans k2); have X3 := Lib.hid (k2.box X2.out); clear k1 k2; have c3 := cell_of_row w3 W.heap.size 3 _ 55 (0, 0) X3.out.1))
    | (go_at_call 75; ((with_reducible refine ((Lib.hid (CI.out _ _ _ _ _ O3.out (HV3.out.inss M3.out.cha HG.out (fun _ h => h)) (by have := LN.out; have := HT.out; omega) (Nat.le_trans HB.out M3.out.cha.size))).out).mono ?_); rintro e w4 ⟨rfl, F4, k1, k2⟩; have O4 := Lib.hid k1; have M4 := Lib.hid (M3.out.trans k2); have X4 := Lib.hid (k2.box X3.out); clear k1 k2)))
  go_end0
  exact ⟨rfl, F4, O4.out, M4.out⟩

set_option maxRecDepth 100000 in
set_option maxHeartbeats 2000000 in
theorem fns_any (lim : Nat) {v : Value} {xs : List FZ} (hv : RdS 4 RdFn (· < B) W v xs) (h : Wr B F W bw s.t s.e) (hlim : lim ≤ 1000) (hT : s.t.length ≤ 300000000) (h0 : B ≤ W.heap.size) :
    Calls Try.prog 51 #[.pointer (some ⟨bw, 0, none⟩), v, .int .u64 (lim : Int), .func (.func 52) #[.pointer (some ⟨bw, 0, none⟩)] #[]] W (Wrote B bw F W (wList wFn lim xs s)) := by
  have hlen := hv.len
  have WF : Hid (∀ x ∈ xs, Wf 77500 (wFn x)) := Lib.hid (fun x hx => by obtain ⟨_, _, _, q⟩ := hv.all hx; exact wFn_wf q.ok)
  have CW := Lib.hid (word_any xs.length lim 16 h (by omega) (by omega) h0)
  have HS : Hid (∀ k, (stK wFn lim xs s k).t.length ≤ 300000000 + 10 + 1000 * 77500) := Lib.hid fun k => by
    have := stK_len (f := wFn) (lim := lim) (k := k) (s := s) (xs := xs) WF.out (by omega)
    have : lim * 77500 ≤ 1000 * 77500 := Nat.mul_le_mul_right _ hlim
    omega
  have HV := Lib.hid hv
  have HG : Hid (∀ i, F i → ¬ i < B) := Lib.hid fun i hi => Nat.not_lt.2 (h.ge i hi)
  obtain ⟨a, c, rfl, _, _⟩ := hv
  have hconv : IntKind.u64.wrap (xs.length : Int) = (xs.length : Int) := by rw [IntKind.wrap_u64]; omega
  have HB := Lib.hid h0
  obtain ⟨n, hn⟩ : ∃ n, n = xs.length := ⟨_, rfl⟩
  rw [← hn] at hconv hlen CW ⊢
  have HN := Lib.hid hn
  clear h hT h0 hn
  go_enter Try.func51, Try.ntmps51
  go_wp2_with (go_at_call 73; ((with_reducible refine (CW.out).mono ?_); rintro e w1 ⟨rfl, F1, k1, k2⟩; have O1 := Lib.hid k1; have M1 := Lib.hid k2; clear k1 k2))
  go_loopw [18] (fun i wr => ∃ (k : Nat) (F' : Nat → Prop), k ≤ n ∧ i = .int .i64 (k : Int) ∧ Wr B F' wr bw (stK wFn lim xs s k).t (stK wFn lim xs s k).e ∧ Mv F W F' wr) (fun i _ => n - (intOf i).toNat)
  case atStart => exact ⟨0, F1, Nat.zero_le _, rfl, by have := O1.out; rw [HN.out] at this; exact this, M1.out⟩
  case round =>
    clear CW O1 M1
    obtain ⟨k, F', hk, rfl, hO, hM⟩ := hrel
    have c1 := hO.err
    have O := Lib.hid hO
    have M := Lib.hid hM
    have hbw : bw < wr.heap.size := hO.lt bw hO.fb
    clear hO hM
    by_cases hlt : k < n
    · obtain ⟨z, hz⟩ : ∃ z, xs[k]? = some z := ⟨_, List.getElem?_eq_getElem (by have := HN.out; omega)⟩
      obtain ⟨b, o, _, he, hb, hbs, hx⟩ := (HV.out.fns M.out.cha HG.out (fun _ h => h)).at hz
      obtain rfl : a = some ⟨b, o, none⟩ := by injection he
      obtain ⟨v1, q1, r1⟩ := hx.c1
      obtain ⟨v2, q2, r2⟩ := hx.c2
      obtain ⟨v3, q3, r3⟩ := hx.c3
      have q0 := hx.c0
      have R1 := Lib.hid r1
      have R2 := Lib.hid r2
      have R3 := Lib.hid r3
      obtain ⟨a1, k1, rfl, _⟩ := r1
      obtain ⟨a2, k2, rfl, _⟩ := r2
      obtain ⟨a3, k3, rfl, _⟩ := r3
      have HK := Lib.hid hz
      clear he hx hz hb
      by_cases he : (stK wFn lim xs s k).e = 0
      · rw [he] at c1
        have C : Hid (∀ ob, Calls Try.prog 52 #[.pointer (some ⟨bw, 0, none⟩), .agg #[.int .i64 z.pa, .slice a1 z.sl.length k1, .slice a2 z.re.length k2, .slice a3 z.co.length k3]] (wr.alloc ob) (Wrote B bw F' (wr.alloc ob) (wFn z (stK wFn lim xs s k)))) := Lib.hid fun ob => fn_walk z.pa (R1.out.ints ((Cha.refl (fun _ => False) wr).alloc ob) (fun _ f => f.elim) (fun _ h => h)) (R2.out.ints ((Cha.refl (fun _ => False) wr).alloc ob) (fun _ f => f.elim) (fun _ h => h)) (R3.out.inss ((Cha.refl (fun _ => False) wr).alloc ob) (fun _ f => f.elim) (fun _ h => h)) (O.out.alloc ob) (by have := HS.out k; omega) (by rw [World.size_alloc]; have := HB.out; have := M.out.cha.size; omega)
        go_wp2_with (go_at_call 52; ((with_reducible refine ((C.out _)).mono ?_); rintro e w2 ⟨rfl, F2, k1, k2⟩; have O2 := Lib.hid k1; have M2 := Lib.hid ((M.out.alloc _).trans k2); clear k1 k2))
        go_roundw
        case rel => exact ⟨k + 1, F2, by omega, by go_num, by rw [stK_succ HK.out]; exact O2.out, M2.out⟩
        case measure => simp [intOf]; omega
      · obtain ⟨E, hE⟩ : ∃ E, E = (stK wFn lim xs s k).e := ⟨_, rfl⟩
        rw [← hE] at c1 he
        have HE := Lib.hid hE
        clear hE

        go_wp2
        go_end0
        exact Wrote.of ⟨rfl, F', O.out.alloc _, M.out.alloc _⟩ (stK_stop WF.out (by rw [← HE.out]; exact he))
    · go_wp2
      go_end0
      exact Wrote.of ⟨rfl, F', O.out, M.out⟩ (stK_all (by have := HN.out; omega))

set_option maxRecDepth 100000 in
set_option maxHeartbeats 2000000 in
theorem ty_yes {l1 : Value} {fi : List Int} (h1v : RdS 1 RdI (· < B) W l1 fi) (h : Wr B F W bw s.t s.e) (hT : s.t.length ≤ 800000000) (h0 : B ≤ W.heap.size) :
    Calls Try.prog 48 #[.pointer (some ⟨bw, 0, none⟩), .agg #[.bool true, l1]] W (Wrote B bw F W (wList wNum 16 fi (wNum 1 s))) := by
  have HG : Hid (∀ i, F i → ¬ i < B) := Lib.hid fun i hi => Nat.not_lt.2 (h.ge i hi)
  have LN : Hid ((wNum 1 s).t.length ≤ s.t.length + 10) := Lib.hid ((wNum_wf 1).len s)
  have HV1 := Lib.hid h1v
  have CK : Hid (∀ W F s lv l, Wr B F W bw s.t s.e → RdS 1 RdI (· < B) W lv l → s.t.length ≤ 900000000 → B ≤ W.heap.size → Calls Try.prog 49 #[.pointer (some ⟨bw, 0, none⟩), lv, .int .u64 16, .func (.func 50) #[.pointer (some ⟨bw, 0, none⟩)] #[]] W (Wrote B bw F W (wList wNum 16 l s))) := Lib.hid fun W F s lv l h hv hT h0 => kinds_any 16 hv h (by omega) hT h0
  clear h1v
  have X0 : Hid ((W.alloc (.cells #[.bool true, l1] 69)).heap[W.heap.size]? = some (.cells #[.bool true, l1] 69 (0, 0)) ∧ ¬ F W.heap.size) := Lib.hid (new_box h _)
  have O0 : Hid (Wr B F (W.alloc (.cells #[.bool true, l1] 69)) bw s.t s.e) := Lib.hid (h.alloc _)
  have M0 : Hid (Mv F W F (W.alloc (.cells #[.bool true, l1] 69))) := Lib.hid ((Mv.refl F W).alloc _)
  have HB := Lib.hid h0
  have HT := Lib.hid hT
  have hmf : ∀ (fn : Fn) (first cap : Array Value) (w : World), (Instr.makeFunc fn first cap).run Try.prog w = .ok (.func fn first cap) w := fun _ _ _ _ => rfl

  clear h hT h0
  go_enter Try.func48, Try.ntmps48
  go_wp2_with (first
    | (go_at_call 74; ((with_reducible refine ((Lib.hid (num_any 1 O0.out (by have := LN.out; have := HT.out; omega) (Nat.le_trans HB.out M0.out.cha.size))).out).mono ?_); rintro e w1 ⟨rfl, F1, k1, k2⟩; have O1 := Lib.hid k1; have M1 := Lib.hid (M0.out.trans k2); have X1 := Lib.hid (k2.box X0.out); clear k1 k2; have c1 := cell_of_row w1 W.heap.size 1 _ 69 (0, 0) X1.out.1))
    | (go_at_call 49; ((with_reducible refine ((Lib.hid (CK.out _ _ _ _ _ O1.out (HV1.out.ints M1.out.cha HG.out (fun _ h => h)) (by have := LN.out; have := HT.out; omega) (Nat.le_trans HB.out M1.out.cha.size))).out).mono ?_); rintro e w2 ⟨rfl, F2, k1, k2⟩; have O2 := Lib.hid k1; have M2 := Lib.hid (M1.out.trans k2); have X2 := Lib.hid (k2.box X1.out); clear k1 k2)))
  go_end0
  exact ⟨rfl, F2, O2.out, M2.out⟩

set_option maxRecDepth 100000 in
set_option maxHeartbeats 2000000 in
theorem ty_no {l1 : Value} {fi : List Int} (h1v : RdS 1 RdI (· < B) W l1 fi) (h : Wr B F W bw s.t s.e) (hT : s.t.length ≤ 800000000) (h0 : B ≤ W.heap.size) :
    Calls Try.prog 48 #[.pointer (some ⟨bw, 0, none⟩), .agg #[.bool false, l1]] W (Wrote B bw F W (wList wNum 16 fi (wNum 0 s))) := by
  have HG : Hid (∀ i, F i → ¬ i < B) := Lib.hid fun i hi => Nat.not_lt.2 (h.ge i hi)
  have LN : Hid ((wNum 0 s).t.length ≤ s.t.length + 10) := Lib.hid ((wNum_wf 0).len s)
  have HV1 := Lib.hid h1v
  have CK : Hid (∀ W F s lv l, Wr B F W bw s.t s.e → RdS 1 RdI (· < B) W lv l → s.t.length ≤ 900000000 → B ≤ W.heap.size → Calls Try.prog 49 #[.pointer (some ⟨bw, 0, none⟩), lv, .int .u64 16, .func (.func 50) #[.pointer (some ⟨bw, 0, none⟩)] #[]] W (Wrote B bw F W (wList wNum 16 l s))) := Lib.hid fun W F s lv l h hv hT h0 => kinds_any 16 hv h (by omega) hT h0
  clear h1v
  have X0 : Hid ((W.alloc (.cells #[.bool false, l1] 69)).heap[W.heap.size]? = some (.cells #[.bool false, l1] 69 (0, 0)) ∧ ¬ F W.heap.size) := Lib.hid (new_box h _)
  have O0 : Hid (Wr B F (W.alloc (.cells #[.bool false, l1] 69)) bw s.t s.e) := Lib.hid (h.alloc _)
  have M0 : Hid (Mv F W F (W.alloc (.cells #[.bool false, l1] 69))) := Lib.hid ((Mv.refl F W).alloc _)
  have HB := Lib.hid h0
  have HT := Lib.hid hT
  have hmf : ∀ (fn : Fn) (first cap : Array Value) (w : World), (Instr.makeFunc fn first cap).run Try.prog w = .ok (.func fn first cap) w := fun _ _ _ _ => rfl

  clear h hT h0
  go_enter Try.func48, Try.ntmps48
  go_wp2_with (first
    | (go_at_call 74; ((with_reducible refine ((Lib.hid (num_any 0 O0.out (by have := LN.out; have := HT.out; omega) (Nat.le_trans HB.out M0.out.cha.size))).out).mono ?_); rintro e w1 ⟨rfl, F1, k1, k2⟩; have O1 := Lib.hid k1; have M1 := Lib.hid (M0.out.trans k2); have X1 := Lib.hid (k2.box X0.out); clear k1 k2; have c1 := cell_of_row w1 W.heap.size 1 _ 69 (0, 0) X1.out.1))
    | (go_at_call 49; ((with_reducible refine ((Lib.hid (CK.out _ _ _ _ _ O1.out (HV1.out.ints M1.out.cha HG.out (fun _ h => h)) (by have := LN.out; have := HT.out; omega) (Nat.le_trans HB.out M1.out.cha.size))).out).mono ?_); rintro e w2 ⟨rfl, F2, k1, k2⟩; have O2 := Lib.hid k1; have M2 := Lib.hid (M1.out.trans k2); have X2 := Lib.hid (k2.box X1.out); clear k1 k2)))
  go_end0
  exact ⟨rfl, F2, O2.out, M2.out⟩

theorem ty_walk (ar : Bool) {l1 : Value} {fi : List Int} (h1v : RdS 1 RdI (· < B) W l1 fi) (h : Wr B F W bw s.t s.e) (hT : s.t.length ≤ 800000000) (h0 : B ≤ W.heap.size) :
    Calls Try.prog 48 #[.pointer (some ⟨bw, 0, none⟩), .agg #[.bool ar, l1]] W (Wrote B bw F W (wList wNum 16 fi (wNum (if ar then 1 else 0) s))) := by
  cases ar
  · exact ty_no h1v h hT h0
  · exact ty_yes h1v h hT h0

set_option maxRecDepth 100000 in
set_option maxHeartbeats 2000000 in
theorem tys_any (lim : Nat) {v : Value} {xs : List TZ} (hv : RdS 2 RdTy (· < B) W v xs) (h : Wr B F W bw s.t s.e) (hlim : lim ≤ 1000) (hT : s.t.length ≤ 500000000) (h0 : B ≤ W.heap.size) :
    Calls Try.prog 47 #[.pointer (some ⟨bw, 0, none⟩), v, .int .u64 (lim : Int), .func (.func 48) #[.pointer (some ⟨bw, 0, none⟩)] #[]] W (Wrote B bw F W (wList wTy lim xs s)) := by
  have hlen := hv.len
  have WF : Hid (∀ x ∈ xs, Wf 180 (wTy x)) := Lib.hid (fun x hx => by obtain ⟨_, _, _, q⟩ := hv.all hx; exact wTy_wf q.ok)
  have CW := Lib.hid (word_any xs.length lim 16 h (by omega) (by omega) h0)
  have HS : Hid (∀ k, (stK wTy lim xs s k).t.length ≤ 500000000 + 10 + 1000 * 180) := Lib.hid fun k => by
    have := stK_len (f := wTy) (lim := lim) (k := k) (s := s) (xs := xs) WF.out (by omega)
    have : lim * 180 ≤ 1000 * 180 := Nat.mul_le_mul_right _ hlim
    omega
  have HV := Lib.hid hv
  have HG : Hid (∀ i, F i → ¬ i < B) := Lib.hid fun i hi => Nat.not_lt.2 (h.ge i hi)
  obtain ⟨a, c, rfl, _, _⟩ := hv
  have hconv : IntKind.u64.wrap (xs.length : Int) = (xs.length : Int) := by rw [IntKind.wrap_u64]; omega
  have HB := Lib.hid h0
  obtain ⟨n, hn⟩ : ∃ n, n = xs.length := ⟨_, rfl⟩
  rw [← hn] at hconv hlen CW ⊢
  have HN := Lib.hid hn
  clear h hT h0 hn
  go_enter Try.func47, Try.ntmps47
  go_wp2_with (go_at_call 73; ((with_reducible refine (CW.out).mono ?_); rintro e w1 ⟨rfl, F1, k1, k2⟩; have O1 := Lib.hid k1; have M1 := Lib.hid k2; clear k1 k2))
  go_loopw [18] (fun i wr => ∃ (k : Nat) (F' : Nat → Prop), k ≤ n ∧ i = .int .i64 (k : Int) ∧ Wr B F' wr bw (stK wTy lim xs s k).t (stK wTy lim xs s k).e ∧ Mv F W F' wr) (fun i _ => n - (intOf i).toNat)
  case atStart => exact ⟨0, F1, Nat.zero_le _, rfl, by have := O1.out; rw [HN.out] at this; exact this, M1.out⟩
  case round =>
    clear CW O1 M1
    obtain ⟨k, F', hk, rfl, hO, hM⟩ := hrel
    have c1 := hO.err
    have O := Lib.hid hO
    have M := Lib.hid hM
    have hbw : bw < wr.heap.size := hO.lt bw hO.fb
    clear hO hM
    by_cases hlt : k < n
    · obtain ⟨z, hz⟩ : ∃ z, xs[k]? = some z := ⟨_, List.getElem?_eq_getElem (by have := HN.out; omega)⟩
      obtain ⟨b, o, _, he, hb, hbs, hx⟩ := (HV.out.tys M.out.cha HG.out (fun _ h => h)).at hz
      obtain rfl : a = some ⟨b, o, none⟩ := by injection he
      obtain ⟨v1, q1, r1⟩ := hx.c1
      have q0 := hx.c0
      have R1 := Lib.hid r1
      obtain ⟨a1, k1, rfl, _⟩ := r1
      have HK := Lib.hid hz
      clear he hx hz hb
      by_cases he : (stK wTy lim xs s k).e = 0
      · rw [he] at c1
        have C : Hid (∀ ob, Calls Try.prog 48 #[.pointer (some ⟨bw, 0, none⟩), .agg #[.bool z.ar, .slice a1 z.fi.length k1]] (wr.alloc ob) (Wrote B bw F' (wr.alloc ob) (wTy z (stK wTy lim xs s k)))) := Lib.hid fun ob => ty_walk z.ar (R1.out.ints ((Cha.refl (fun _ => False) wr).alloc ob) (fun _ f => f.elim) (fun _ h => h)) (O.out.alloc ob) (by have := HS.out k; omega) (by rw [World.size_alloc]; have := HB.out; have := M.out.cha.size; omega)
        go_wp2_with (go_at_call 48; ((with_reducible refine ((C.out _)).mono ?_); rintro e w2 ⟨rfl, F2, k1, k2⟩; have O2 := Lib.hid k1; have M2 := Lib.hid ((M.out.alloc _).trans k2); clear k1 k2))
        go_roundw
        case rel => exact ⟨k + 1, F2, by omega, by go_num, by rw [stK_succ HK.out]; exact O2.out, M2.out⟩
        case measure => simp [intOf]; omega
      · obtain ⟨E, hE⟩ : ∃ E, E = (stK wTy lim xs s k).e := ⟨_, rfl⟩
        rw [← hE] at c1 he
        have HE := Lib.hid hE
        clear hE

        go_wp2
        go_end0
        exact Wrote.of ⟨rfl, F', O.out.alloc _, M.out.alloc _⟩ (stK_stop WF.out (by rw [← HE.out]; exact he))
    · go_wp2
      go_end0
      exact Wrote.of ⟨rfl, F', O.out, M.out⟩ (stK_all (by have := HN.out; omega))

set_option maxRecDepth 100000 in
set_option maxHeartbeats 2000000 in
theorem prog_walk {v0 v1 v2 : Value} {ty : List TZ} {gl : List Int} {fu : List FZ} (h0v : RdS 2 RdTy (· < B) W v0 ty) (h1v : RdS 1 RdI (· < B) W v1 gl) (h2v : RdS 4 RdFn (· < B) W v2 fu) (h : Wr B F W bw s.t s.e) (hT : s.t.length ≤ 200000000) (h0 : B ≤ W.heap.size) :
    Calls Try.prog 28 #[.pointer (some ⟨bw, 0, none⟩), .agg #[v0, v1, v2]] W (Wrote B bw F W (wList wFn 32 fu (wList wNum 32 gl (wList wTy 32 ty s)))) := by
  have HG : Hid (∀ i, F i → ¬ i < B) := Lib.hid fun i hi => Nat.not_lt.2 (h.ge i hi)
  have LN : Hid ((wList wTy 32 ty s).t.length ≤ s.t.length + 6000 ∧ (wList wNum 32 gl (wList wTy 32 ty s)).t.length ≤ s.t.length + 7000) := Lib.hid (by
    have h1 := (wList_wf (f := wTy) (lim := 32) ty (fun t ht => by obtain ⟨_, _, _, q⟩ := h0v.all ht; exact wTy_wf q.ok) (by have := h0v.len; omega)).len s
    have h2 := (nums_wf 32 gl h1v.len).len (wList wTy 32 ty s)
    omega)
  have HV0 := Lib.hid h0v
  have HV1 := Lib.hid h1v
  have HV2 := Lib.hid h2v
  have CT : Hid (∀ W F s lv l, Wr B F W bw s.t s.e → RdS 2 RdTy (· < B) W lv l → s.t.length ≤ 500000000 → B ≤ W.heap.size → Calls Try.prog 47 #[.pointer (some ⟨bw, 0, none⟩), lv, .int .u64 32, .func (.func 48) #[.pointer (some ⟨bw, 0, none⟩)] #[]] W (Wrote B bw F W (wList wTy 32 l s))) := Lib.hid fun W F s lv l h hv hT h0 => tys_any 32 hv h (by omega) hT h0
  have CK : Hid (∀ W F s lv l, Wr B F W bw s.t s.e → RdS 1 RdI (· < B) W lv l → s.t.length ≤ 900000000 → B ≤ W.heap.size → Calls Try.prog 49 #[.pointer (some ⟨bw, 0, none⟩), lv, .int .u64 32, .func (.func 50) #[.pointer (some ⟨bw, 0, none⟩)] #[]] W (Wrote B bw F W (wList wNum 32 l s))) := Lib.hid fun W F s lv l h hv hT h0 => kinds_any 32 hv h (by omega) hT h0
  have CF : Hid (∀ W F s lv l, Wr B F W bw s.t s.e → RdS 4 RdFn (· < B) W lv l → s.t.length ≤ 300000000 → B ≤ W.heap.size → Calls Try.prog 51 #[.pointer (some ⟨bw, 0, none⟩), lv, .int .u64 32, .func (.func 52) #[.pointer (some ⟨bw, 0, none⟩)] #[]] W (Wrote B bw F W (wList wFn 32 l s))) := Lib.hid fun W F s lv l h hv hT h0 => fns_any 32 hv h (by omega) hT h0
  clear h0v h1v h2v
  have X0 : Hid ((W.alloc (.cells #[v0, v1, v2] 26)).heap[W.heap.size]? = some (.cells #[v0, v1, v2] 26 (0, 0)) ∧ ¬ F W.heap.size) := Lib.hid (new_box h _)
  have O0 : Hid (Wr B F (W.alloc (.cells #[v0, v1, v2] 26)) bw s.t s.e) := Lib.hid (h.alloc _)
  have M0 : Hid (Mv F W F (W.alloc (.cells #[v0, v1, v2] 26))) := Lib.hid ((Mv.refl F W).alloc _)
  have HB := Lib.hid h0
  have HT := Lib.hid hT
  have hmf : ∀ (fn : Fn) (first cap : Array Value) (w : World), (Instr.makeFunc fn first cap).run Try.prog w = .ok (.func fn first cap) w := fun _ _ _ _ => rfl

  clear h hT h0
  go_enter Try.func28, Try.ntmps28
  go_wp2_with (first
    | (go_at_call 47; ((with_reducible refine ((Lib.hid (CT.out _ _ _ _ _ O0.out (HV0.out.tys M0.out.cha HG.out (fun _ h => h)) (by have := LN.out; have := HT.out; omega) (Nat.le_trans HB.out M0.out.cha.size))).out).mono ?_); rintro e w1 ⟨rfl, F1, k1, k2⟩; have O1 := Lib.hid k1; have M1 := Lib.hid (M0.out.trans k2); have X1 := Lib.hid (k2.box X0.out); clear k1 k2; have c1 := cell_of_row w1 W.heap.size 1 _ 26 (0, 0) X1.out.1))
    | (go_at_call 49; ((with_reducible refine ((Lib.hid (CK.out _ _ _ _ _ O1.out (HV1.out.ints M1.out.cha HG.out (fun _ h => h)) (by have := LN.out; have := HT.out; omega) (Nat.le_trans HB.out M1.out.cha.size))).out).mono ?_); rintro e w2 ⟨rfl, F2, k1, k2⟩; have O2 := Lib.hid k1; have M2 := Lib.hid (M1.out.trans k2); have X2 := Lib.hid (k2.box X1.out); clear k1 k2; have c2 := cell_of_row w2 W.heap.size 2 _ 26 (0, 0) X2.out.1))
    | (go_at_call 51; ((with_reducible refine ((Lib.hid (CF.out _ _ _ _ _ O2.out (HV2.out.fns M2.out.cha HG.out (fun _ h => h)) (by have := LN.out; have := HT.out; omega) (Nat.le_trans HB.out M2.out.cha.size))).out).mono ?_); rintro e w3 ⟨rfl, F3, k1, k2⟩; have O3 := Lib.hid k1; have M3 := Lib.hid (M2.out.trans k2); have X3 := Lib.hid (k2.box X2.out); clear k1 k2)))
  go_end0
  exact ⟨rfl, F3, O3.out, M3.out⟩
end Go.Proofs.Ytpdjbhnpahkbpaa

namespace Go.Proofs.Ytpdjbhnpahkbpaa
open Go.ChangeShapes Go.WideShapes Go.ChangeAt Go.RowKit

theorem own_shape {w : World} {B : Nat} {t : TypeId} {size n : Nat} {v : Value} {xs : List Value} (h : w.ownsRow B t size v n xs) : ∃ a c, v = .slice a n c := by
  rcases h.2 with ⟨rfl, rfl⟩ | ⟨g, cap, cur, rfl, _⟩
  · exact ⟨none, 0, rfl⟩
  · exact ⟨_, _, rfl⟩
/-- What Encode leaves: bytes in new memory, an error. -/
def Encd (W : World) (s : St) (e : Ending) (w' : World) : Prop := ∃ a c, e = .returned (.tuple #[.slice a s.t.length c, .int .i64 s.e]) ∧ w'.ownsRow W.heap.size 5 1 (.slice a s.t.length c) s.t.length (bz s.t) ∧ Cha (fun _ => False) W w'
theorem enc8_bad {p : PZ} (h : (wProg p ⟨[], 0⟩).e ≠ 0) : enc8 p = ⟨[], (wProg p ⟨[], 0⟩).e⟩ := by unfold enc8; exact if_pos h
theorem enc8_long {p : PZ} (h : (wProg p ⟨[], 0⟩).e = 0) (hl : 16384 < (wProg p ⟨[], 0⟩).t.length) : enc8 p = ⟨[], 2⟩ := by unfold enc8; simp only; rw [if_neg (fun c => c h), if_pos hl]
theorem enc8_ok {p : PZ} (h : (wProg p ⟨[], 0⟩).e = 0) (hl : ¬ 16384 < (wProg p ⟨[], 0⟩).t.length) : enc8 p = wProg p ⟨[], 0⟩ := by unfold enc8; simp only; rw [if_neg (fun c => c h), if_neg hl]
theorem Encd.of {W w' : World} {e : Ending} {s s' : St} (h : Encd W s e w') (he : s = s') : Encd W s' e w' := he ▸ h
set_option maxRecDepth 100000 in
set_option maxHeartbeats 2000000 in
theorem encode_any {B : Nat → Prop} {W : World} {v : Value} {p : PZ} (hp : RdP B W v p) (hB : ∀ i, B i → i < W.heap.size) : Calls Try.prog 15 #[v] W (Encd W (enc8 p)) := by
  obtain ⟨v0, v1, v2, rfl, h0, h1, h2⟩ := hp.cha (B' := (· < W.heap.size)) (Cha.refl (fun _ => False) W) (fun _ f => f.elim) hB
  clear hp
  have HP : Hid (∀ o o', ∀ W1, W1 = (W.alloc o).alloc o' → RdS 2 RdTy (· < W.heap.size) W1 v0 p.ty ∧ RdS 1 RdI (· < W.heap.size) W1 v1 p.gl ∧ RdS 4 RdFn (· < W.heap.size) W1 v2 p.fu) := Lib.hid fun o o' W1 e => by
    have c := ((Cha.refl (fun _ => False) W).alloc o).alloc o'
    rw [← e] at c
    exact ⟨h0.tys c (fun _ f => f.elim) (fun _ h => h), h1.ints c (fun _ f => f.elim) (fun _ h => h), h2.fns c (fun _ f => f.elim) (fun _ h => h)⟩
  have CP : Hid (∀ o, Calls Try.prog 28 #[.pointer (some ⟨W.heap.size + 1, 0, none⟩), .agg #[v0, v1, v2]] ((W.alloc o).alloc (.cells #[.slice none 0 0, .int .i64 0] 71)) (Wrote W.heap.size (W.heap.size + 1) (fun i => i = W.heap.size + 1) ((W.alloc o).alloc (.cells #[.slice none 0 0, .int .i64 0] 71)) (wProg p ⟨[], 0⟩))) := Lib.hid fun o => by
    have hs1 : (W.alloc o).heap.size = W.heap.size + 1 := World.size_alloc _ _
    have hn := heap_alloc_new (W.alloc o) (.cells #[.slice none 0 0, .int .i64 0] 71)
    rw [hs1] at hn
    obtain ⟨g0, g1, g2⟩ := HP.out o (.cells #[.slice none 0 0, .int .i64 0] 71) _ rfl
    refine prog_walk (s := ⟨[], 0⟩) g0 g1 g2 ⟨⟨_, hn, World.ownsRow_nil _ _ _ _, fun g hg => by simp [Value.ownBlock] at hg⟩, rfl, fun i hi => ?_, fun i hi => ?_⟩ (by simp) ?_
    · have hi : i = W.heap.size + 1 := hi
      rw [World.size_alloc, hs1]; omega
    · have hi : i = W.heap.size + 1 := hi
      omega
    · rw [World.size_alloc, hs1]; omega
  clear h0 h1 h2 HP hB B
  obtain ⟨s, hs⟩ : ∃ s, s = wProg p ⟨[], 0⟩ := ⟨_, rfl⟩
  have EB := Lib.hid (enc8_bad (p := p))
  have EL := Lib.hid (enc8_long (p := p))
  have EO := Lib.hid (enc8_ok (p := p))
  rw [← hs] at CP EB EL EO
  have HW8 := Lib.hid hs
  clear hs
  obtain ⟨T, E⟩ := s
  have HF : Hid (∀ (F' : Nat → Prop) (o : Obj) (w1 : World), Mv (fun i => i = W.heap.size + 1) ((W.alloc o).alloc (.cells #[.slice none 0 0, .int .i64 0] 71)) F' w1 → Cha (fun _ => False) W w1) := Lib.hid fun F' o w1 m =>
    (((Cha.refl (fun _ => False) W).alloc o).alloc _).over m.cha fun i hi => .inr (by have hi : i = W.heap.size + 1 := hi; omega)
  by_cases hE : E = 0
  · subst hE
    by_cases hl : 16384 < T.length
    · have hl' : ((16384 : Int) < (T.length : Int)) := by omega
      go_enter Try.func15, Try.ntmps15
      go_wp2_with (go_at_call 28; ((with_reducible refine ((CP.out _)).mono ?_); rintro e w1 ⟨rfl, F1, k1, k2⟩; have c1 := k1.err; have f1 := k1.free 1; obtain ⟨vt, q1, q2, _⟩ := k1.head; obtain ⟨at1, ct1, rfl⟩ := own_shape q2; have c0 := cell_of_row w1 (W.heap.size + 1) 0 _ 71 (0, 0) q1; have K1 := Lib.hid k1; have K2 := Lib.hid (HF.out _ _ _ k2); have Q2 := Lib.hid q2; clear k1 k2 q1 q2))
      go_quiet (fail)
      go_wp2
      go_ret2
      exact Encd.of (s := ⟨[], 2⟩) ⟨none, 0, rfl, World.ownsRow_nil _ _ _ _, ((K2.out.setCell (p := ⟨W.heap.size + 1, 1, none⟩) (fun h => by have h : W.heap.size + 1 < W.heap.size := h; omega) _).drewN _)⟩ (EL.out (by first | rfl | trivial) hl).symm
    · have hl' : ¬ ((16384 : Int) < (T.length : Int)) := by omega
      go_enter Try.func15, Try.ntmps15
      go_wp2_with (go_at_call 28; ((with_reducible refine ((CP.out _)).mono ?_); rintro e w1 ⟨rfl, F1, k1, k2⟩; have c1 := k1.err; have f1 := k1.free 1; obtain ⟨vt, q1, q2, _⟩ := k1.head; obtain ⟨at1, ct1, rfl⟩ := own_shape q2; have c0 := cell_of_row w1 (W.heap.size + 1) 0 _ 71 (0, 0) q1; have K1 := Lib.hid k1; have K2 := Lib.hid (HF.out _ _ _ k2); have Q2 := Lib.hid q2; clear k1 k2 q1 q2))
      go_ret2
      exact Encd.of ⟨_, _, rfl, Q2.out, K2.out⟩ (EO.out (by first | rfl | trivial) hl).symm
  · have hE1 : (E == 0) = false := by simpa using hE
    have hE2 : (E != 0) = true := by simpa using hE
    have EB2 := Lib.hid (EB.out hE)
    clear EB EL EO
    go_enter Try.func15, Try.ntmps15
    go_wp2_with (go_at_call 28; ((with_reducible refine ((CP.out _)).mono ?_); rintro e w1 ⟨rfl, F1, k1, k2⟩; have c1 := k1.err; have f1 := k1.free 1; obtain ⟨vt, q1, q2, _⟩ := k1.head; obtain ⟨at1, ct1, rfl⟩ := own_shape q2; have c0 := cell_of_row w1 (W.heap.size + 1) 0 _ 71 (0, 0) q1; have K1 := Lib.hid k1; have K2 := Lib.hid (HF.out _ _ _ k2); have Q2 := Lib.hid q2; clear k1 k2 q1 q2))
    go_quiet (fail)
    go_wp2
    go_ret2
    exact Encd.of (s := ⟨[], E⟩) ⟨none, 0, rfl, World.ownsRow_nil _ _ _ _, K2.out.drewN _⟩ EB2.out.symm
end Go.Proofs.Ytpdjbhnpahkbpaa
