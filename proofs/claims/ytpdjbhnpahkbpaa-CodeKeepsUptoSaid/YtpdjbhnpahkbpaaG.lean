/- The writer: numbers, lists of them. -/
import Derived.Test.YtpdjbhnpahkbpaaF
namespace Go.Proofs.Ytpdjbhnpahkbpaa
open Go.ChangeShapes Go.WideShapes Go.ChangeAt Go.RowKit

/-! ### A list, plainly: behind k of its items -/
def stK {α : Type} (f : α → St → St) (lim : Nat) (xs : List α) (s : St) (k : Nat) : St := (xs.take k).foldl (fun s x => f x s) (wWord xs.length lim 16 s)
section
variable {α : Type} {f : α → St → St} {lim c k : Nat} {xs : List α} {s : St} {x : α}
theorem stK_zero : stK f lim xs s 0 = wWord xs.length lim 16 s := rfl
theorem stK_succ (h : xs[k]? = some x) : stK f lim xs s (k + 1) = f x (stK f lim xs s k) := by
  unfold stK
  rw [List.take_add_one, h, List.foldl_append]
  rfl
theorem stK_all (h : xs.length ≤ k) : stK f lim xs s k = wList f lim xs s := by unfold stK wList; rw [List.take_of_length_le h]
theorem stK_len (hf : ∀ x ∈ xs, Wf c (f x)) (hx : xs.length < 18446744073709551616) : (stK f lim xs s k).t.length ≤ s.t.length + 10 + lim * c := by
  have hw := wWord_wf (n := xs.length) (lim := lim) (ab := 16) hx
  have hfo := fold_wf (f := f) (c := c) (xs.take k) fun x h => hf x (List.mem_of_mem_take h)
  have h0 := hw.len s
  unfold stK
  by_cases hl : xs.length ≤ lim
  · have h1 := hfo.len (wWord xs.length lim 16 s)
    have e : (xs.take k).length * c ≤ lim * c := Nat.mul_le_mul_right _ (by simp; omega)
    exact Nat.le_trans h1 (by omega)
  · have h1 : (wWord xs.length lim 16 s).e ≠ 0 := by
      unfold wWord
      split
      · assumption
      · rw [if_pos (by omega)]; show (16 : Int) ≠ 0; omega
    rw [hfo.stop _ h1]
    omega
theorem stK_stop (hf : ∀ x ∈ xs, Wf c (f x)) (h : (stK f lim xs s k).e ≠ 0) : stK f lim xs s k = wList f lim xs s := by
  have hfo := fold_wf (f := f) (c := c) (xs.drop k) fun x h => hf x (List.mem_of_mem_drop h)
  unfold wList
  conv => rhs; rw [← List.take_append_drop k xs, List.foldl_append]
  have e : (wWord (xs.take k ++ xs.drop k).length lim 16 s) = wWord xs.length lim 16 s := by rw [List.take_append_drop]
  rw [e]
  exact (hfo.stop _ h).symm
end

variable {B bw : Nat} {F F' : Nat → Prop} {W W' : World} {s : St}
theorem Wrote.of {e : Ending} {w' : World} {s s' : St} (h : Wrote B bw F W s e w') (he : s = s') : Wrote B bw F W s' e w' := he ▸ h
theorem word_any (n lim : Nat) (ab : Int) (h : Wr B F W bw s.t s.e) (hn : n < 18446744073709551616) (hT : s.t.length ≤ 1000000000) (h0 : B ≤ W.heap.size) :
    Calls Try.prog 73 #[.pointer (some ⟨bw, 0, none⟩), .int .u64 (n : Int), .int .u64 (lim : Int), .int .i64 ab] W (Wrote B bw F W (wWord n lim ab s)) := by
  obtain ⟨T, e⟩ := s
  unfold wWord
  by_cases he : e ≠ 0
  · rw [if_pos he]; exact word_stop n lim ab h he
  · obtain rfl : e = 0 := by omega
    rw [if_neg (fun c => c rfl)]
    by_cases hl : lim < n
    · rw [if_pos hl]; exact word_over n lim ab h hl
    · rw [if_neg hl]; exact word_fits n lim ab h (by omega) hn hT h0
theorem Wrote.none_ (e : Ending) (w' : World) (h : Wrote B bw F W s e w') : e = .returned (.tuple #[]) := h.1
theorem num_any (z : Int) (h : Wr B F W bw s.t s.e) (hT : s.t.length ≤ 1000000000) (h0 : B ≤ W.heap.size) :
    Calls Try.prog 74 #[.pointer (some ⟨bw, 0, none⟩), .int .i64 z] W (Wrote B bw F W (wNum z s)) := by
  have C : Hid (Calls Try.prog 73 #[.pointer (some ⟨bw, 0, none⟩), .int .u64 (uz z : Int), .int .u64 65535, .int .i64 1] W (Wrote B bw F W (wNum z s))) := Lib.hid (word_any (uz z) 65535 1 h (uz_lt z) hT h0)
  have hz : IntKind.u64.wrap z = (uz z : Int) := by rw [IntKind.wrap_u64]; unfold uz; omega
  clear h hT h0
  go_enter Try.func74, Try.ntmps74
  go_wp2_with (go_at_call 73; ((with_reducible refine (C.out).mono ?_); rintro e w1 ⟨rfl, k⟩; have K := Lib.hid k; clear k))
  go_end0
  exact ⟨rfl, K.out⟩
theorem kind_any (z : Int) (h : Wr B F W bw s.t s.e) (hT : s.t.length ≤ 1000000000) (h0 : B ≤ W.heap.size) :
    Calls Try.prog 50 #[.pointer (some ⟨bw, 0, none⟩), .int .i64 z] W (Wrote B bw F W (wNum z s)) := by
  have C := Lib.hid (num_any z h hT h0)
  clear h hT h0
  go_enter Try.func50, Try.ntmps50
  go_wp2_with (go_at_call 74; ((with_reducible refine (C.out).mono ?_); rintro e w1 ⟨rfl, k⟩; have K := Lib.hid k; clear k))
  go_end0
  exact ⟨rfl, K.out⟩

set_option maxRecDepth 100000 in
set_option maxHeartbeats 2000000 in
theorem kinds_any (lim : Nat) {v : Value} {xs : List Int} (hv : RdS 1 RdI (· < B) W v xs) (h : Wr B F W bw s.t s.e) (hlim : lim ≤ 1000) (hT : s.t.length ≤ 900000000) (h0 : B ≤ W.heap.size) :
    Calls Try.prog 49 #[.pointer (some ⟨bw, 0, none⟩), v, .int .u64 (lim : Int), .func (.func 50) #[.pointer (some ⟨bw, 0, none⟩)] #[]] W (Wrote B bw F W (wList wNum lim xs s)) := by
  have hlen := hv.len
  have WF : Hid (∀ x ∈ xs, Wf 10 (wNum x)) := Lib.hid (fun x _ => wNum_wf x)
  have CW := Lib.hid (word_any xs.length lim 16 h (by omega) (by omega) h0)
  have HS : Hid (∀ k, (stK wNum lim xs s k).t.length ≤ 900000000 + 10 + 1000 * 10) := Lib.hid fun k => by
    have := stK_len (f := wNum) (lim := lim) (k := k) (s := s) (xs := xs) WF.out (by omega)
    have : lim * 10 ≤ 1000 * 10 := Nat.mul_le_mul_right _ hlim
    omega
  have HV := Lib.hid hv
  have HG : Hid (∀ i, F i → ¬ i < B) := Lib.hid fun i hi => Nat.not_lt.2 (h.ge i hi)
  obtain ⟨a, c, rfl, _, _⟩ := hv
  have hconv : IntKind.u64.wrap (xs.length : Int) = (xs.length : Int) := by rw [IntKind.wrap_u64]; omega
  have HB := Lib.hid h0
  obtain ⟨n, hn⟩ : ∃ n, n = xs.length := ⟨_, rfl⟩
  rw [← hn] at hconv hlen CW ⊢
  have HN := Lib.hid hn
  clear h hT h0 hn
  go_enter Try.func49, Try.ntmps49
  go_wp2_with (go_at_call 73; ((with_reducible refine (CW.out).mono ?_); rintro e w1 ⟨rfl, F1, k1, k2⟩; have O1 := Lib.hid k1; have M1 := Lib.hid k2; clear k1 k2))
  go_loopw [18] (fun i wr => ∃ (k : Nat) (F' : Nat → Prop), k ≤ n ∧ i = .int .i64 (k : Int) ∧ Wr B F' wr bw (stK wNum lim xs s k).t (stK wNum lim xs s k).e ∧ Mv F W F' wr) (fun i _ => n - (intOf i).toNat)
  case atStart => exact ⟨0, F1, Nat.zero_le _, rfl, by have := O1.out; rw [HN.out] at this; exact this, M1.out⟩
  case round =>
    clear CW O1 M1
    obtain ⟨k, F', hk, rfl, hO, hM⟩ := hrel
    have c1 := hO.err
    have O := Lib.hid hO
    have M := Lib.hid hM
    have hbw : bw < wr.heap.size := hO.lt bw hO.fb
    clear hO hM
    by_cases hlt : k < n
    · obtain ⟨z, hz⟩ : ∃ z, xs[k]? = some z := ⟨_, List.getElem?_eq_getElem (by have := HN.out; omega)⟩
      obtain ⟨b, o, _, he, hb, hbs, hx⟩ := (HV.out.ints M.out.cha HG.out (fun _ h => h)).at hz
      obtain rfl : a = some ⟨b, o, none⟩ := by injection he
      have hc2 := hx.1
      rw [Nat.mul_one] at hc2
      have HK := Lib.hid hz
      clear he hx hz hb
      by_cases he : (stK wNum lim xs s k).e = 0
      · rw [he] at c1
        have C := Lib.hid (kind_any z O.out (by have := HS.out k; omega) (Nat.le_trans HB.out M.out.cha.size))
        go_wp2_with (go_at_call 50; ((with_reducible refine (C.out).mono ?_); rintro e w2 ⟨rfl, F2, k1, k2⟩; have O2 := Lib.hid k1; have M2 := Lib.hid k2; clear k1 k2))
        go_roundw
        case rel => exact ⟨k + 1, F2, by omega, by go_num, by rw [stK_succ HK.out]; exact O2.out, M.out.trans M2.out⟩
        case measure => simp [intOf]; omega
      · obtain ⟨E, hE⟩ : ∃ E, E = (stK wNum lim xs s k).e := ⟨_, rfl⟩
        rw [← hE] at c1 he
        have HE := Lib.hid hE
        clear hE

        go_wp2
        go_end0
        exact Wrote.of ⟨rfl, F', O.out, M.out⟩ (stK_stop WF.out (by rw [← HE.out]; exact he))
    · go_wp2
      go_end0
      exact Wrote.of ⟨rfl, F', O.out, M.out⟩ (stK_all (by have := HN.out; omega))

set_option maxRecDepth 100000 in
set_option maxHeartbeats 2000000 in
theorem ints_any (lim : Nat) {v : Value} {xs : List Int} (hv : RdS 1 RdI (· < B) W v xs) (h : Wr B F W bw s.t s.e) (hlim : lim ≤ 1000) (hT : s.t.length ≤ 900000000) (h0 : B ≤ W.heap.size) :
    Calls Try.prog 111 #[.pointer (some ⟨bw, 0, none⟩), v, .int .u64 (lim : Int), .func (.func 74) #[.pointer (some ⟨bw, 0, none⟩)] #[]] W (Wrote B bw F W (wList wNum lim xs s)) := by
  have hlen := hv.len
  have WF : Hid (∀ x ∈ xs, Wf 10 (wNum x)) := Lib.hid (fun x _ => wNum_wf x)
  have CW := Lib.hid (word_any xs.length lim 16 h (by omega) (by omega) h0)
  have HS : Hid (∀ k, (stK wNum lim xs s k).t.length ≤ 900000000 + 10 + 1000 * 10) := Lib.hid fun k => by
    have := stK_len (f := wNum) (lim := lim) (k := k) (s := s) (xs := xs) WF.out (by omega)
    have : lim * 10 ≤ 1000 * 10 := Nat.mul_le_mul_right _ hlim
    omega
  have HV := Lib.hid hv
  have HG : Hid (∀ i, F i → ¬ i < B) := Lib.hid fun i hi => Nat.not_lt.2 (h.ge i hi)
  obtain ⟨a, c, rfl, _, _⟩ := hv
  have hconv : IntKind.u64.wrap (xs.length : Int) = (xs.length : Int) := by rw [IntKind.wrap_u64]; omega
  have HB := Lib.hid h0
  obtain ⟨n, hn⟩ : ∃ n, n = xs.length := ⟨_, rfl⟩
  rw [← hn] at hconv hlen CW ⊢
  have HN := Lib.hid hn
  clear h hT h0 hn
  go_enter Try.func111, Try.ntmps111
  go_wp2_with (go_at_call 73; ((with_reducible refine (CW.out).mono ?_); rintro e w1 ⟨rfl, F1, k1, k2⟩; have O1 := Lib.hid k1; have M1 := Lib.hid k2; clear k1 k2))
  go_loopw [18] (fun i wr => ∃ (k : Nat) (F' : Nat → Prop), k ≤ n ∧ i = .int .i64 (k : Int) ∧ Wr B F' wr bw (stK wNum lim xs s k).t (stK wNum lim xs s k).e ∧ Mv F W F' wr) (fun i _ => n - (intOf i).toNat)
  case atStart => exact ⟨0, F1, Nat.zero_le _, rfl, by have := O1.out; rw [HN.out] at this; exact this, M1.out⟩
  case round =>
    clear CW O1 M1
    obtain ⟨k, F', hk, rfl, hO, hM⟩ := hrel
    have c1 := hO.err
    have O := Lib.hid hO
    have M := Lib.hid hM
    have hbw : bw < wr.heap.size := hO.lt bw hO.fb
    clear hO hM
    by_cases hlt : k < n
    · obtain ⟨z, hz⟩ : ∃ z, xs[k]? = some z := ⟨_, List.getElem?_eq_getElem (by have := HN.out; omega)⟩
      obtain ⟨b, o, _, he, hb, hbs, hx⟩ := (HV.out.ints M.out.cha HG.out (fun _ h => h)).at hz
      obtain rfl : a = some ⟨b, o, none⟩ := by injection he
      have hc2 := hx.1
      rw [Nat.mul_one] at hc2
      have HK := Lib.hid hz
      clear he hx hz hb
      by_cases he : (stK wNum lim xs s k).e = 0
      · rw [he] at c1
        have C := Lib.hid (num_any z O.out (by have := HS.out k; omega) (Nat.le_trans HB.out M.out.cha.size))
        go_wp2_with (go_at_call 74; ((with_reducible refine (C.out).mono ?_); rintro e w2 ⟨rfl, F2, k1, k2⟩; have O2 := Lib.hid k1; have M2 := Lib.hid k2; clear k1 k2))
        go_roundw
        case rel => exact ⟨k + 1, F2, by omega, by go_num, by rw [stK_succ HK.out]; exact O2.out, M.out.trans M2.out⟩
        case measure => simp [intOf]; omega
      · obtain ⟨E, hE⟩ : ∃ E, E = (stK wNum lim xs s k).e := ⟨_, rfl⟩
        rw [← hE] at c1 he
        have HE := Lib.hid hE
        clear hE

        go_wp2
        go_end0
        exact Wrote.of ⟨rfl, F', O.out, M.out⟩ (stK_stop WF.out (by rw [← HE.out]; exact he))
    · go_wp2
      go_end0
      exact Wrote.of ⟨rfl, F', O.out, M.out⟩ (stK_all (by have := HN.out; omega))
end Go.Proofs.Ytpdjbhnpahkbpaa
