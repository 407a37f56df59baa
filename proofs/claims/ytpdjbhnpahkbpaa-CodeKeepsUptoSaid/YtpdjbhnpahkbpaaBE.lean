/- The document's writer: lists of numbers. -/
import Derived.Test.YtpdjbhnpahkbpaaBD
import Derived.Test.YtpdjbhnpahkbpaaG
namespace Go.Proofs.Ytpdjbhnpahkbpaa
set_option linter.unusedVariables false
open Go.ChangeShapes Go.WideShapes Go.ChangeAt Go.RowKit
/-- A list, as the document writes it: it writes on behind a fault. -/
def dList {α : Type} (f : α → St → St) (lim : Nat) (xs : List α) (s : St) : St := xs.foldl (fun s x => f x s) (dCount xs.length lim s)
/-- Behind k of its items. -/
def dstK {α : Type} (f : α → St → St) (lim : Nat) (xs : List α) (s : St) (k : Nat) : St := (xs.take k).foldl (fun s x => f x s) (dCount xs.length lim s)
/-- f writes at most 10 n bytes. -/
def Dl (n : Nat) (f : St → St) : Prop := ∀ s, (f s).t.length ≤ s.t.length + 10 * n
theorem dNum_dl {z : Int} (h : I64 z) : Dl 1 (dNum z) := fun s => by
  have := digs_len10 (n := z.toNat) (by have := h.2; omega)
  unfold dNum
  by_cases c : 0 ≤ z
  · rw [if_pos c]; simp only [List.length_append]; omega
  · rw [if_neg c]; simp only; omega
theorem dCount_dl {n lim : Nat} (h : n ≤ 9223372036854775807) : Dl 1 (dCount n lim) := fun s => by
  have := dNum_dl (z := (n : Int)) ⟨by omega, by omega⟩ ⟨s.t, if s.e = 0 ∧ lim < n then 16 else s.e⟩
  exact this
theorem Dl.comp {n m : Nat} {f g : St → St} (hf : Dl n f) (hg : Dl m g) : Dl (n + m) fun s => g (f s) := fun s => by
  have h1 := hf s
  have h2 := hg (f s)
  have : 10 * (n + m) = 10 * n + 10 * m := Nat.mul_add _ _ _
  show (g (f s)).t.length ≤ _
  omega
theorem fold_dl {α : Type} {f : α → St → St} {sz : α → Nat} : ∀ (xs : List α), (∀ x ∈ xs, Dl (sz x) (f x)) → Dl (xs.map sz).sum fun s => xs.foldl (fun s x => f x s) s
  | [], _ => fun s => by simp
  | x :: xs, hf => by
    have h := (hf x (List.mem_cons_self ..)).comp (fold_dl xs fun y hy => hf y (List.mem_cons_of_mem _ hy))
    rw [List.map_cons, List.sum_cons]
    exact h
theorem sum_take {α : Type} (sz : α → Nat) : ∀ (xs : List α) (k : Nat), ((xs.take k).map sz).sum ≤ (xs.map sz).sum
  | [], k => by simp
  | x :: xs, 0 => by simp
  | x :: xs, k + 1 => by
    have := sum_take sz xs k
    rw [List.take_succ_cons, List.map_cons, List.map_cons, List.sum_cons, List.sum_cons]
    omega
section
variable {α : Type} {f : α → St → St} {lim k : Nat} {xs : List α} {s : St} {x : α} {sz : α → Nat}
theorem dstK_succ (h : xs[k]? = some x) : dstK f lim xs s (k + 1) = f x (dstK f lim xs s k) := by
  unfold dstK
  rw [List.take_add_one, h, List.foldl_append]
  rfl
theorem dstK_all (h : xs.length ≤ k) : dstK f lim xs s k = dList f lim xs s := by unfold dstK dList; rw [List.take_of_length_le h]
theorem dList_dl (hf : ∀ x ∈ xs, Dl (sz x) (f x)) (hx : xs.length ≤ 9223372036854775807) : Dl (1 + (xs.map sz).sum) (dList f lim xs) := (dCount_dl hx).comp (fold_dl xs hf)
theorem dstK_len (hf : ∀ x ∈ xs, Dl (sz x) (f x)) (hx : xs.length ≤ 9223372036854775807) : (dstK f lim xs s k).t.length ≤ s.t.length + 10 * (1 + (xs.map sz).sum) := by
  have h1 := ((dCount_dl (lim := lim) hx).comp (fold_dl (xs.take k) fun y hy => hf y (List.mem_of_mem_take hy))) s
  have h2 := sum_take sz xs k
  have h3 : 10 * (1 + ((xs.take k).map sz).sum) ≤ 10 * (1 + (xs.map sz).sum) := Nat.mul_le_mul_left _ (by omega)
  exact Nat.le_trans h1 (by omega)
end
theorem sum_ones : ∀ xs : List Int, (xs.map fun _ => 1).sum = xs.length
  | [] => rfl
  | x :: xs => by
    rw [List.map_cons, List.sum_cons, sum_ones xs, List.length_cons]; omega
section
variable {B bw : Nat} {F F' : Nat → Prop} {W W' : World} {s : St}
theorem ints_dl {v : Value} {b : Nat → Prop} {lim : Nat} {xs : List Int} (hv : RdS 1 RdI b W v xs) : Dl (1 + xs.length) (dList dNum lim xs) := by
  have := dList_dl (f := dNum) (lim := lim) (xs := xs) (sz := fun _ => 1) (fun x hx => by obtain ⟨_, _, _, q⟩ := hv.all hx; exact dNum_dl q.2) hv.len
  rw [sum_ones] at this
  exact this
set_option maxRecDepth 100000 in
set_option maxHeartbeats 2000000 in
theorem wkinds_any (lim : Nat) {v : Value} {xs : List Int} (hv : RdS 1 RdI (· < B) W v xs) (h : Wd B F W bw s.t s.e) (hlim : lim ≤ 1000000) (hx : xs.length ≤ 1000000000000) (hT : s.t.length ≤ 1000000000000) (h0 : B ≤ W.heap.size) :
    Calls Try.prog 31 #[.pointer (some ⟨bw, 0, none⟩), v, .int .i64 (lim : Int)] W (DWrote B bw F W (dList dNum lim xs s)) := by
  have hlen := hv.len
  have CW := Lib.hid (dcount_any xs.length lim hx hlim h (by omega) h0)
  have HS : Hid (∀ k, (dstK dNum lim xs s k).t.length ≤ 70000000000000) := Lib.hid fun k => by
    have := dstK_len (f := dNum) (lim := lim) (k := k) (s := s) (xs := xs) (sz := fun _ => 1) (fun x hx => by obtain ⟨_, _, _, q⟩ := hv.all hx; exact dNum_dl q.2) hlen
    rw [sum_ones] at this
    omega
  have HV := Lib.hid hv
  have HG : Hid (∀ i, F i → ¬ i < B) := Lib.hid fun i hi => Nat.not_lt.2 (h.ge i hi)
  obtain ⟨a, c, rfl, _, _⟩ := hv
  have HB := Lib.hid h0
  obtain ⟨n, hn⟩ : ∃ n, n = xs.length := ⟨_, rfl⟩
  rw [← hn] at hlen CW hx ⊢
  have HN := Lib.hid hn
  have E0 : Hid (dstK dNum lim xs s 0 = dCount n lim s) := Lib.hid (by rw [hn]; rfl)
  clear h hT h0 hn
  go_enter Try.func31, Try.ntmps31
  go_wp2_with (go_at_call 29; ((with_reducible refine (CW.out).mono ?_); rintro e w1 ⟨rfl, F1, k1, k2⟩; have O1 := Lib.hid k1; have M1 := Lib.hid k2; clear k1 k2))
  go_loopw [6] (fun i wr => ∃ (k : Nat) (F' : Nat → Prop), k ≤ n ∧ i = .int .i64 (k : Int) ∧ Wd B F' wr bw (dstK dNum lim xs s k).t (dstK dNum lim xs s k).e ∧ Mv F W F' wr) (fun i _ => n - (intOf i).toNat)
  case atStart => exact ⟨0, F1, Nat.zero_le _, rfl, by rw [E0.out]; exact O1.out, M1.out⟩
  case round =>
    clear CW O1 M1
    obtain ⟨k, F', hk, rfl, hO, hM⟩ := hrel
    have O := Lib.hid hO
    have M := Lib.hid hM
    clear hO hM
    by_cases hlt : k < n
    · obtain ⟨z, hz⟩ : ∃ z, xs[k]? = some z := ⟨_, List.getElem?_eq_getElem (by have := HN.out; omega)⟩
      obtain ⟨b, o, _, he, hb, hbs, hx'⟩ := (HV.out.ints M.out.cha HG.out (fun _ h => h)).at hz
      obtain rfl : a = some ⟨b, o, none⟩ := by injection he
      have hc2 := hx'.1
      have hI := Lib.hid hx'.2
      rw [Nat.mul_one] at hc2
      have HK := Lib.hid hz
      clear he hx' hz hb
      have C := Lib.hid (dnumber_any z hI.out O.out (HS.out k) (Nat.le_trans HB.out M.out.cha.size))
      go_wp2_with (go_at_call 30; ((with_reducible refine (C.out).mono ?_); rintro e w2 ⟨rfl, F2, k1, k2⟩; have O2 := Lib.hid k1; have M2 := Lib.hid k2; clear k1 k2))
      go_roundw
      case rel => exact ⟨k + 1, F2, by omega, by go_num, by rw [dstK_succ HK.out]; exact O2.out, M.out.trans M2.out⟩
      case measure => simp [intOf]; omega
    · go_wp2
      go_end0
      exact DWrote.of ⟨rfl, F', O.out, M.out⟩ (dstK_all (by have := HN.out; omega)).symm
end
end Go.Proofs.Ytpdjbhnpahkbpaa
