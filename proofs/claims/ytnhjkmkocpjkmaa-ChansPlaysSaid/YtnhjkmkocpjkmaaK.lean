/- Contracts of chans: slices.DeleteFunc, walked; Leave. -/
import Derived.Test.YtnhjkmkocpjkmaaJ
namespace Go.Proofs.Ytnhjkmkocpjkmaa
open Go.ChangeShapes Go.WideShapes Go.ChangeAt Go.RowKit
variable {w w' W : World} {ib : Nat} {id : Int}

/-- What a list is, of which some have left. -/
def Gone {α : Type} (E : Enc α) (w : World) (v : Value) (L : List α) (e : Ending) (w' : World) : Prop := ∃ v', e = .returned v' ∧ Lies E w' v' L ∧ Cha (fun i => v.ownBlock = some i) w w' ∧ ∀ g, v'.ownBlock = some g → v.ownBlock = some g
theorem filter_all {α : Type} {q : α → Bool} {L : List α} {d : α} {i : Nat} (f : First (fun x => !q x) L d i) (h : ¬ i < L.length) : L.filter q = L := by
  apply List.filter_eq_self.2
  intro x hx
  obtain ⟨k, hk, rfl⟩ := List.mem_iff_getElem.1 hx
  have hle := f.le
  have := f.lo k (by omega)
  simpa [List.getD, List.getElem?_eq_getElem hk] using this
theorem first_ex {α : Type} (q : α → Bool) (d : α) : ∀ L : List α, ∃ i, First q L d i
  | [] => ⟨0, Nat.le_refl _, fun j h => absurd h (Nat.not_lt_zero _), fun h => absurd h (Nat.not_lt_zero _)⟩
  | x :: l => by
    by_cases h : q x = true
    · exact ⟨0, Nat.zero_le _, fun j h => absurd h (Nat.not_lt_zero _), fun _ => h⟩
    · obtain ⟨i, a, b, c⟩ := first_ex q d l
      refine ⟨i + 1, Nat.succ_le_succ a, fun j hj => ?_, fun hi => c (Nat.lt_of_succ_lt_succ hi)⟩
      cases j with
      | zero => simpa using h
      | succ j => exact b j (Nat.lt_of_succ_lt_succ hj)
theorem First.uniq {α : Type} {q : α → Bool} {L : List α} {d : α} {i k : Nat} (f : First q L d i) (g : First q L d k) : i = k := by
  rcases Nat.lt_trichotomy i k with h | h | h
  · have := f.hi (Nat.lt_of_lt_of_le h g.le); rw [g.lo i h] at this; cases this
  · exact h
  · have := g.hi (Nat.lt_of_lt_of_le h f.le); rw [f.lo k h] at this; cases this
theorem Del.facts {g o cap i j : Nat} {L : List Snd} {q : Snd → Bool} (h : Del sndE w g o cap L q i j) (hj : j < L.length) (hc : L.length ≤ cap) (c : Cha (fun _ => False) w W) :
    (W.cell? ⟨g, o + j * 2, none⟩ = some (.int .i64 (L.getD j ⟨0, 0⟩).id) ∧ W.cell? ⟨g, o + j * 2 + 1, none⟩ = some (.int .u64 (L.getD j ⟨0, 0⟩).val)) ∧ (∃ u0 u1, W.cell? ⟨g, o + i * 2, none⟩ = some u0 ∧ W.cell? ⟨g, o + i * 2 + 1, none⟩ = some u1) ∧ ∀ k, W.frozen? ⟨g, k, none⟩ = false := by
  obtain ⟨cur, a, b, c1, d⟩ := h.row
  have hij := h.lt
  have a' := (c.old g (Array.getElem?_eq_some_iff.1 a).1 (fun f => f)).trans a
  have b : o + cap * 2 ≤ cur.size := b
  have d0 := d (j * 2) (Nat.le_refl _) (by show j * 2 < L.length * 2; omega)
  have d1 := d (j * 2 + 1) (by show j * 2 ≤ _; omega) (by show j * 2 + 1 < L.length * 2; omega)
  have g0 := sndE_ok.cs_get L (i := j) (j := 0) hj (by decide)
  have g1 := sndE_ok.cs_get L (i := j) (j := 1) hj (by decide)
  have e : L.getD j ⟨0, 0⟩ = L[j] := by simp [List.getD, List.getElem?_eq_getElem hj]
  refine ⟨⟨?_, ?_⟩, ⟨cur[o + i * 2], cur[o + i * 2 + 1], ?_, ?_⟩, fun k => frozen_of_row W g k _ _ a'⟩
  · rw [cell_of_row W g _ _ _ _ a', d0, e]; exact g0
  · rw [cell_of_row W g _ _ _ _ a', Nat.add_assoc, d1, e]; exact g1
  · rw [cell_of_row W g _ _ _ _ a', Array.getElem?_eq_getElem (by omega)]
  · rw [cell_of_row W g _ _ _ _ a', Array.getElem?_eq_getElem (by omega)]
theorem Del.factsI {g o cap i j : Nat} {L : List Int} {q : Int → Bool} (h : Del intE w g o cap L q i j) (hj : j < L.length) (hc : L.length ≤ cap) (c : Cha (fun _ => False) w W) :
    W.cell? ⟨g, o + j, none⟩ = some (.int .i64 (L.getD j 0)) ∧ (∃ u0, W.cell? ⟨g, o + i, none⟩ = some u0) ∧ ∀ k, W.frozen? ⟨g, k, none⟩ = false := by
  obtain ⟨cur, a, b, c1, d⟩ := h.row
  have hij := h.lt
  have a' := (c.old g (Array.getElem?_eq_some_iff.1 a).1 (fun f => f)).trans a
  have b : o + cap * 1 ≤ cur.size := b
  have d0 := d j (by show j * 1 ≤ j; omega) (by show j < L.length * 1; omega)
  have g0 := intE_ok.cs_get L (i := j) (j := 0) hj (by decide)
  have e1 : j * intE.k + 0 = j := Nat.mul_one j
  rw [e1] at g0
  have e : L.getD j 0 = L[j] := by simp [List.getD, List.getElem?_eq_getElem hj]
  refine ⟨?_, ⟨cur[o + i], ?_⟩, fun k => frozen_of_row W g k _ _ a'⟩
  · rw [cell_of_row W g _ _ _ _ a', d0, e]; exact g0
  · rw [cell_of_row W g _ _ _ _ a', Array.getElem?_eq_getElem (by omega)]
set_option maxHeartbeats 2000000 in
theorem delete_snd {a : Option Addr} {n cap : Nat} {L : List Snd} (h : Lies sndE w (.slice a n cap) L) (hI : IdAt w ib id) (hib : (Value.slice a n cap).ownBlock ≠ some ib) :
    Calls Try.prog 34 #[.slice a n cap, .func (.func 35) #[] #[.pointer (some ⟨ib, 0, none⟩)]] w (Gone sndE w (.slice a n cap) (L.filter fun x => !decide (x.id = id))) := by
  have hn : n = L.length := by obtain ⟨a', cap', e, _⟩ := h.form; cases e; rfl
  have hm : n ≤ cap ∧ cap ≤ maxLen := by obtain ⟨a', cap', e, h1, h2⟩ := h.form; cases e; exact ⟨h1, h2⟩
  obtain ⟨hm1, hm2⟩ := hm
  have HM2 := Lib.hid hm2
  unfold maxLen at hm2
  obtain ⟨i, hF⟩ := first_ex (fun x : Snd => decide (x.id = id)) ⟨0, 0⟩ L
  have C0 : Hid (Calls Try.prog 40 #[.slice a n cap, .func (.func 35) #[] #[.pointer (some ⟨ib, 0, none⟩)]] w fun e w' => e = .returned (fstV i n) ∧ Cha (fun _ => False) w w') := Lib.hid ((index_snd h hI).mono fun e w' ⟨k, f, e1, c⟩ => ⟨by rw [hF.uniq f]; exact e1, c⟩)
  have HF : Hid (First (fun x : Snd => !(!decide (x.id = id))) L ⟨0, 0⟩ i) := Lib.hid (by simpa using hF)
  have HN := Lib.hid hn
  have HI := Lib.hid hI
  have H := Lib.hid h
  clear h hI hn hF
  by_cases hi : i < n
  · rw [fstV, if_pos hi] at C0
    obtain ⟨g, o, cap', he, _, _, hc⟩ := H.out.cells sndE_ok (by rw [← HN.out]; omega)
    cases he
    have HD := Lib.hid fun W c => Del.start (W := W) sndE_ok (HN.out ▸ H.out) ⟨0, 0⟩ HF.out (by rw [← HN.out]; exact hi) c
    have k0 : ((i : Int) == -1) = false := by simp
    have hgi : ib ≠ g := fun e => hib (by rw [e]; rfl)
    have HW := Lib.hid (Cha.refl (fun b => b = g) w)
    have HGI := Lib.hid hgi
    clear hc hgi
    go_enter Try.func34, Try.ntmps34
    go_wp2_with (go_at_call 40; (with_reducible refine (C0.out).mono ?_); rintro e w1 ⟨rfl, hC⟩; have HC := Lib.hid hC; clear hC)
    go_loopw [5, 6, 7] (fun iv jv _ wr => ∃ i j : Nat, i < j ∧ j ≤ L.length ∧ iv = .int .i64 (i : Int) ∧ jv = .int .i64 (j : Int) ∧ Del sndE wr g o cap L (fun x => !decide (x.id = id)) i j ∧ Cha (fun b => b = g) w wr) (fun _ jv _ _ => L.length - (intOf jv).toNat)
    case atStart => exact ⟨i, i + 1, Nat.lt_succ_self _, hi, rfl, by go_num, HD.out _ HC.out, HC.out.wide⟩
    case round =>
      clear HC HD k0 C0 hi HF
      obtain ⟨i, j, hij, hj, rfl, rfl, hD, hC⟩ := hrel
      by_cases hlt : j < L.length
      · obtain ⟨⟨z0, z1⟩, _, _⟩ := hD.facts hlt hm1 (Cha.refl _ wr)
        have hx : L.getD j ⟨0, 0⟩ = L[j] := by simp [List.getD, List.getElem?_eq_getElem hlt]
        have HF := Lib.hid fun W c => (hD.facts (W := W) hlt hm1 c).2
        have D0 := Lib.hid fun hq => hD.drop hlt hq
        have D1 := Lib.hid fun W (c : Cha (fun _ => False) wr W) hq => (hD.same c).keep sndE_ok hlt hm1 hq
        rw [hx] at z0 z1
        have HC := Lib.hid hC
        have hgl : g < wr.heap.size := by obtain ⟨cur, a, _⟩ := hD.row; exact (Array.getElem?_eq_some_iff.1 a).1
        clear hx hD hC
        generalize L[j] = x at *
        have C := Lib.hid (is35 ((HI.out.cha HC.out HGI.out).cha ((Cha.refl (fun _ => False) wr).alloc (.cells #[.int .i64 x.id, .int .u64 x.val] 73)) (fun f => f)) x.id x.val)
        by_cases hq : x.id = id
        · rw [decide_eq_true hq] at C
          have HQ := Lib.hid (D0.out (by simp [hq]))
          clear hq D0 D1
          go_wp2_with (go_at_call 35; (with_reducible refine (C.out).mono ?_); rintro e w1 ⟨rfl, h⟩; have HK := Lib.hid h; clear h)
          go_roundw
          case rel => exact ⟨i, j + 1, by omega, by omega, rfl, by go_num, HQ.out.same (((Cha.refl _ wr).alloc _).trans HK.out), HC.out.trans (((Cha.refl (fun _ => False) wr).alloc _).trans HK.out).wide⟩
          case measure => simp [intOf]; omega
        · rw [decide_eq_false hq] at C
          have HQ := Lib.hid fun W c => D1.out W c (by simp [hq])
          clear hq D0 D1
          go_wp2_with (go_at_call 35; (with_reducible refine (C.out).mono ?_); rintro e w1 ⟨rfl, h⟩; have r1 := (h.old _ (by rw [World.size_alloc]; exact Nat.lt_succ_self _) (fun f => f)).trans (heap_alloc_new wr _); obtain ⟨p0, p1⟩ := snd_facts r1; obtain ⟨⟨u0, u1, t0, t1⟩, t2⟩ := HF.out _ (((Cha.refl _ wr).alloc _).trans h); have s1 := h.size; rw [World.size_alloc] at s1; have HK := Lib.hid h; clear h r1)
          go_roundw
          case rel => exact ⟨i + 1, j + 1, by omega, by omega, by go_num, by go_num, HQ.out _ (((Cha.refl _ wr).alloc _).trans HK.out), (HC.out.trans (((Cha.refl (fun _ => False) wr).alloc _).trans HK.out).wide).setCells (g := g) (fun _ => rfl) (o + i * 2) [.int .i64 x.id, .int .u64 x.val]⟩
          case measure => simp [intOf]; omega
      · obtain rfl : j = L.length := by omega
        have hil : i < cap := by omega
        have hz : 0 < L.length - i := by omega
        obtain ⟨cur, a1, a2, _, _⟩ := hD.row
        have a2 : o + cap * 2 ≤ cur.size := a2
        have HCL := Lib.hid (fun k (hk : k < (L.length - i) * sndE.k) => show (wr.cell? ⟨g, o + i * 2 + k, none⟩).isSome = true by
          have hk : k < (L.length - i) * 2 := hk
          rw [cell_of_row wr g _ _ _ _ a1, Array.getElem?_eq_getElem (by omega)]; rfl)
        have HFR := Lib.hid (fun k (_ : k < (L.length - i) * sndE.k) => show wr.frozen? ⟨g, o + i * 2 + k, none⟩ = false from frozen_of_row wr g _ _ _ a1)
        obtain ⟨Z, hZ⟩ : ∃ Z, Z = (Builtin.zeroCells sndE.z.cells (L.length - i)).toList := ⟨_, rfl⟩
        have HZ2 := Lib.hid hZ
        have HE := Lib.hid (hD.done hm1 HM2.out Z (by rw [hZ]; exact zero_len sndE_ok _))
        clear hZ
        have HC := Lib.hid hC
        have hi1 : i ≤ L.length := by omega
        clear hD hC a1 a2
        go_wp2_with (refine wpList_clear sndE_ok zero_one rfl (.tmp 38) rfl g (o + i * 2) (L.length - i) (cap - i) rfl hz HCL.out HFR.out HZ2.out ?_)
        go_ret
        exact ⟨_, rfl, HE.out, (HC.out.setCells (g := g) (fun _ => rfl) _ _).mono fun b _ e => by rw [e]; rfl, fun g' e => e⟩
  · rw [fstV, if_neg hi] at C0
    have e := filter_all HF.out (by rw [← HN.out]; exact hi)
    rw [e]
    go_enter Try.func34, Try.ntmps34
    go_wp2_with (go_at_call 40; (with_reducible refine (C0.out).mono ?_); rintro e w1 ⟨rfl, hC⟩; have HC := Lib.hid hC; clear hC)
    go_returns
    exact ⟨_, rfl, H.out.same HC.out, HC.out.wide, fun _ e => e⟩
set_option maxHeartbeats 2000000 in
theorem delete_int {a : Option Addr} {n cap : Nat} {L : List Int} (h : Lies intE w (.slice a n cap) L) (hI : IdAt w ib id) (hib : (Value.slice a n cap).ownBlock ≠ some ib) :
    Calls Try.prog 36 #[.slice a n cap, .func (.func 37) #[] #[.pointer (some ⟨ib, 0, none⟩)]] w (Gone intE w (.slice a n cap) (L.filter fun x => !decide (x = id))) := by
  have hn : n = L.length := by obtain ⟨a', cap', e, _⟩ := h.form; cases e; rfl
  have hm : n ≤ cap ∧ cap ≤ maxLen := by obtain ⟨a', cap', e, h1, h2⟩ := h.form; cases e; exact ⟨h1, h2⟩
  obtain ⟨hm1, hm2⟩ := hm
  have HM2 := Lib.hid hm2
  unfold maxLen at hm2
  obtain ⟨i, hF⟩ := first_ex (fun x : Int => decide (x = id)) 0 L
  have C0 : Hid (Calls Try.prog 41 #[.slice a n cap, .func (.func 37) #[] #[.pointer (some ⟨ib, 0, none⟩)]] w fun e w' => e = .returned (fstV i n) ∧ Cha (fun _ => False) w w') := Lib.hid ((index_int h hI).mono fun e w' ⟨k, f, e1, c⟩ => ⟨by rw [hF.uniq f]; exact e1, c⟩)
  have HF : Hid (First (fun x : Int => !(!decide (x = id))) L 0 i) := Lib.hid (by simpa using hF)
  have HN := Lib.hid hn
  have HI := Lib.hid hI
  have H := Lib.hid h
  clear h hI hn hF
  by_cases hi : i < n
  · rw [fstV, if_pos hi] at C0
    obtain ⟨g, o, cap', he, _, _, hc⟩ := H.out.cells intE_ok (by rw [← HN.out]; omega)
    cases he
    have HD := Lib.hid fun W c => Del.start (W := W) intE_ok (HN.out ▸ H.out) 0 HF.out (by rw [← HN.out]; exact hi) c
    have k0 : ((i : Int) == -1) = false := by simp
    have hgi : ib ≠ g := fun e => hib (by rw [e]; rfl)
    have HW := Lib.hid (Cha.refl (fun b => b = g) w)
    have HGI := Lib.hid hgi
    clear hc hgi
    go_enter Try.func36, Try.ntmps36
    go_wp2_with (go_at_call 41; (with_reducible refine (C0.out).mono ?_); rintro e w1 ⟨rfl, hC⟩; have HC := Lib.hid hC; clear hC)
    go_loopw [5, 6, 7] (fun iv jv _ wr => ∃ i j : Nat, i < j ∧ j ≤ L.length ∧ iv = .int .i64 (i : Int) ∧ jv = .int .i64 (j : Int) ∧ Del intE wr g o cap L (fun x => !decide (x = id)) i j ∧ Cha (fun b => b = g) w wr) (fun _ jv _ _ => L.length - (intOf jv).toNat)
    case atStart => exact ⟨i, i + 1, Nat.lt_succ_self _, hi, rfl, by go_num, HD.out _ HC.out, HC.out.wide⟩
    case round =>
      clear HC HD k0 C0 hi HF
      obtain ⟨i, j, hij, hj, rfl, rfl, hD, hC⟩ := hrel
      by_cases hlt : j < L.length
      · obtain ⟨z0, _, _⟩ := hD.factsI hlt hm1 (Cha.refl _ wr)
        have hx : L.getD j 0 = L[j] := by simp [List.getD, List.getElem?_eq_getElem hlt]
        have HF := Lib.hid fun W c => (hD.factsI (W := W) hlt hm1 c).2
        have D0 := Lib.hid fun hq => hD.drop hlt hq
        have D1 : Hid (∀ W, Cha (fun _ => False) wr W → (!decide (L[j] = id)) = true → Del intE (W.setCells g (o + i) [.int .i64 L[j]]) g o cap L (fun x => !decide (x = id)) (i + 1) (j + 1)) := Lib.hid fun W c hq => by
          have := (hD.same c).keep intE_ok hlt hm1 hq
          have e1 : i * intE.k = i := Nat.mul_one i
          rw [e1] at this
          exact this
        rw [hx] at z0
        have HC := Lib.hid hC
        have hgl : g < wr.heap.size := by obtain ⟨cur, a, _⟩ := hD.row; exact (Array.getElem?_eq_some_iff.1 a).1
        clear hx hD hC
        generalize L[j] = x at *
        have C := Lib.hid (is37 (HI.out.cha HC.out HGI.out) x)
        by_cases hq : x = id
        · rw [decide_eq_true hq] at C
          have HQ := Lib.hid (D0.out (by simp [hq]))
          clear hq D0 D1
          go_wp2_with (go_at_call 37; (with_reducible refine (C.out).mono ?_); rintro e w1 ⟨rfl, h⟩; have HK := Lib.hid h; clear h)
          go_roundw
          case rel => exact ⟨i, j + 1, by omega, by omega, rfl, by go_num, HQ.out.same HK.out, HC.out.trans HK.out.wide⟩
          case measure => simp [intOf]; omega
        · rw [decide_eq_false hq] at C
          have HQ := Lib.hid fun W c => D1.out W c (by simp [hq])
          clear hq D0 D1
          go_wp2_with (go_at_call 37; (with_reducible refine (C.out).mono ?_); rintro e w1 ⟨rfl, h⟩; obtain ⟨⟨u0, t0⟩, t2⟩ := HF.out _ h; have HK := Lib.hid h; clear h)
          go_roundw
          case rel => exact ⟨i + 1, j + 1, by omega, by omega, by go_num, by go_num, HQ.out _ HK.out, (HC.out.trans HK.out.wide).setCells (g := g) (fun _ => rfl) (o + i) [.int .i64 x]⟩
          case measure => simp [intOf]; omega
      · obtain rfl : j = L.length := by omega
        have hil : i < cap := by omega
        have hz : 0 < L.length - i := by omega
        obtain ⟨cur, a1, a2, _, _⟩ := hD.row
        have a2 : o + cap * 1 ≤ cur.size := a2
        have HCL := Lib.hid (fun k (hk : k < (L.length - i) * intE.k) => show (wr.cell? ⟨g, o + i + k, none⟩).isSome = true by
          have hk : k < (L.length - i) * 1 := hk
          rw [cell_of_row wr g _ _ _ _ a1, Array.getElem?_eq_getElem (by omega)]; rfl)
        have HFR := Lib.hid (fun k (_ : k < (L.length - i) * intE.k) => show wr.frozen? ⟨g, o + i + k, none⟩ = false from frozen_of_row wr g _ _ _ a1)
        obtain ⟨Z, hZ⟩ : ∃ Z, Z = (Builtin.zeroCells intE.z.cells (L.length - i)).toList := ⟨_, rfl⟩
        have HZ2 := Lib.hid hZ
        have HE := Lib.hid (hD.done hm1 HM2.out Z (by rw [hZ]; exact zero_len intE_ok _))
        clear hZ
        have HC := Lib.hid hC
        have hi1 : i ≤ L.length := by omega
        clear hD hC a1 a2
        go_wp2_with (refine wpList_clear intE_ok zero_one_i rfl (.tmp 38) rfl g (o + i) (L.length - i) (cap - i) rfl hz HCL.out HFR.out HZ2.out ?_)
        go_ret
        have hE := HE.out
        have e1 : i * intE.k = i := Nat.mul_one i
        rw [e1] at hE
        exact ⟨_, rfl, hE, (HC.out.setCells (g := g) (fun _ => rfl) _ _).mono fun b _ e => by rw [e]; rfl, fun g' e => e⟩
  · rw [fstV, if_neg hi] at C0
    have e := filter_all HF.out (by rw [← HN.out]; exact hi)
    rw [e]
    go_enter Try.func36, Try.ntmps36
    go_wp2_with (go_at_call 41; (with_reducible refine (C0.out).mono ?_); rintro e w1 ⟨rfl, hC⟩; have HC := Lib.hid hC; clear hC)
    go_returns
    exact ⟨_, rfl, H.out.same HC.out, HC.out.wide, fun _ e => e⟩
theorem leave_none (id : Int) (w : World) : Calls Try.prog 21 #[.pointer none, .int .i64 id] w fun e w' => e = .returned (.tuple #[]) ∧ Cha (fun _ => False) w w' := by
  go_enter Try.func21, Try.ntmps21
  go_wp2
  go_returns
  exact ⟨rfl, (Cha.refl _ _).alloc _⟩
theorem leave_cell {F : Nat → Prop} {bc : Nat} {v1 v2 v3 x : Value} {s : St} {w1 w2 : World} (h : Ch w F bc v1 v2 v3 s) (c1 : Cha (fun i => v2.ownBlock = some i) w w1) (c2 : Cha (fun i => v3.ownBlock = some i) (w1.setCell ⟨bc, 3, none⟩ x) w2) :
    w2.cell? ⟨bc, 4, none⟩ = some v3 ∧ w2.frozen? ⟨bc, 4, none⟩ = false := by
  have hb := h.old _ h.fc
  have h1 := (c1.old bc hb (fun e => (h.f2 _ e).2 rfl)).trans h.head
  have h2 := heap_setCell_same w1 bc 3 _ 65 x h1
  have h3 := (c2.old bc (Array.getElem?_eq_some_iff.1 h2).1 (fun e => (h.f3 _ e).2 rfl)).trans h2
  exact ⟨cell_of_row w2 bc 4 _ 65 (0, 0) h3, frozen_of_row w2 bc 4 _ 65 h3⟩
theorem leave_end {F : Nat → Prop} {bc : Nat} {v1 v2 v3 x y : Value} {s : St} {w1 w2 : World} {M2 : List Snd} {M3 : List Int} (h : Ch w F bc v1 v2 v3 s) (c1 : Cha (fun i => v2.ownBlock = some i) w w1) (c2 : Cha (fun i => v3.ownBlock = some i) (w1.setCell ⟨bc, 3, none⟩ x) w2)
    (l1 : Lies sndE w1 x M2) (l2 : Lies intE w2 y M3) (n1 : ∀ g, x.ownBlock = some g → v2.ownBlock = some g) (n2 : ∀ g, y.ownBlock = some g → v3.ownBlock = some g) : Left w (w2.setCell ⟨bc, 4, none⟩ y) F bc { s with snds := M2, rcvs := M3 } := by
  have hb := h.old _ h.fc
  have h1 := (c1.old bc hb (fun e => (h.f2 _ e).2 rfl)).trans h.head
  have h2 := heap_setCell_same w1 bc 3 _ 65 x h1
  have h3 := (c2.old bc (Array.getElem?_eq_some_iff.1 h2).1 (fun e => (h.f3 _ e).2 rfl)).trans h2
  have h4 := heap_setCell_same w2 bc 4 _ 65 y h3
  have k1 : Cha (fun i => i = bc) w1 (w1.setCell ⟨bc, 3, none⟩ x) := (Cha.refl (· = bc) w1).setCell (p := ⟨bc, 3, none⟩) (fun _ => rfl) _
  have k2 : Cha (fun i => i = bc) w2 (w2.setCell ⟨bc, 4, none⟩ y) := (Cha.refl (· = bc) w2).setCell (p := ⟨bc, 4, none⟩) (fun _ => rfl) _
  refine h.upd (u1 := v1) (u2 := x) (u3 := y) h4 ?_ ((((h.l1.cha c1 fun g hg e => h.d12 g hg e).cha k1 fun g hg => (h.f1 g hg).2).cha c2 fun g hg e => h.d13 g hg e).cha k2 fun g hg => (h.f1 g hg).2)
    (((l1.cha k1 fun g hg => (h.f2 g (n1 g hg)).2).cha c2 fun g hg e => h.d23 g (n1 g hg) e).cha k2 fun g hg => (h.f2 g (n1 g hg)).2) (l2.cha k2 fun g hg => (h.f3 g (n2 g hg)).2)
    (fun _ e => .inl e) (fun g e => .inl (n1 g e)) (fun g e => .inl (n2 g e)) (fun g e e2 => h.d12 g e (n1 g e2)) (fun g e e2 => h.d13 g e (n2 g e2)) (fun g e e2 => h.d23 g (n1 g e) (n2 g e2)) h.c16
  exact (((c1.mono fun i _ e => (h.f2 i e).1).trans (k1.mono fun i _ e => e ▸ h.fc)).trans (c2.mono fun i _ e => (h.f3 i e).1)).trans (k2.mono fun i _ e => e ▸ h.fc)
theorem leave_any {F : Nat → Prop} {bc : Nat} {v1 v2 v3 : Value} {s : St} (h : Ch w F bc v1 v2 v3 s) (id : Int) :
    Calls Try.prog 21 #[.pointer (some ⟨bc, 0, none⟩), .int .i64 id] w fun e w' => e = .returned (.tuple #[]) ∧ Left w w' F bc (s.leave id) := by
  obtain ⟨a2, cap2, rfl, _⟩ := h.l2.form
  obtain ⟨a3, cap3, rfl, _⟩ := h.l3.form
  have hb := h.old _ h.fc
  have h1 := h.same ((Cha.refl _ w).alloc (.cells #[.int .i64 id] 3))
  have k3 : w.cell? ⟨bc, 3, none⟩ = some (.slice a2 s.snds.length cap2) := h.cell 3
  have hI : IdAt (w.alloc (.cells #[.int .i64 id] 3)) w.heap.size id := heap_alloc_new w _
  have o2 : ∀ g, (Value.slice a2 s.snds.length cap2).ownBlock = some g → g < w.heap.size := fun g e => h.old _ (h.f2 g e).1
  have o3 : ∀ g, (Value.slice a3 s.rcvs.length cap3).ownBlock = some g → g < w.heap.size := fun g e => h.old _ (h.f3 g e).1
  obtain ⟨M2, hM2⟩ : ∃ M, M = s.snds.filter fun x => !decide (x.id = id) := ⟨_, rfl⟩
  obtain ⟨M3, hM3⟩ : ∃ M, M = s.rcvs.filter fun x => !decide (x = id) := ⟨_, rfl⟩
  have e0 : s.leave id = { s with snds := M2, rcvs := M3 } := by rw [hM2, hM3]; rfl
  rw [e0]
  have C1 : Hid (Calls Try.prog 34 _ _ (Gone sndE (w.alloc (.cells #[.int .i64 id] 3)) (.slice a2 s.snds.length cap2) M2)) := Lib.hid (hM2 ▸ delete_snd h1.l2 hI (fun e => Nat.lt_irrefl _ (o2 _ e)))
  have H := Lib.hid h
  have HI := Lib.hid hI
  have O2 := Lib.hid o2
  have O3 := Lib.hid o3
  have C2 : Hid (∀ W, Lies intE W (.slice a3 s.rcvs.length cap3) s.rcvs → IdAt W w.heap.size id → Calls Try.prog 36 #[.slice a3 s.rcvs.length cap3, .func (.func 37) #[] #[.pointer (some ⟨w.heap.size, 0, none⟩)]] W (Gone intE W (.slice a3 s.rcvs.length cap3) M3)) := Lib.hid fun W l i => hM3 ▸ delete_int l i (fun e => Nat.lt_irrefl _ (o3 _ e))
  have HB := Lib.hid (Nat.ne_of_gt hb)
  clear h h1 hI o2 o3 hM2 hM3 e0
  go_enter Try.func21, Try.ntmps21
  go_wp2_with (first
    | (go_at_call 34; (with_reducible refine (C1.out).mono ?_); rintro e w1 ⟨u2, rfl, h1, h2, h3⟩; (obtain ⟨b2, d2, rfl, _, _⟩ := h1.form); have c1 : Hid (Cha (fun i => (Value.slice a2 s.snds.length cap2).ownBlock = some i) w w1) := Lib.hid (((Cha.refl _ w).alloc _).trans h2); (obtain ⟨r3, z3⟩ := H.out.keeps (c1.out.mono fun i _ e => (H.out.f2 i e).2) 3); (obtain ⟨r4, z4⟩ := H.out.keeps (c1.out.mono fun i _ e => (H.out.f2 i e).2) 4); have q4 : w1.cell? ⟨bc, 4, none⟩ = some (.slice a3 s.rcvs.length cap3) := r4; have q3 : w1.cell? ⟨bc, 3, none⟩ = some (.slice a2 s.snds.length cap2) := r3; clear r3 r4; have D2 := Lib.hid (C2.out (w1.setCell ⟨bc, 3, none⟩ (.slice b2 M2.length d2)) ((H.out.l3.cha c1.out fun g hg e => H.out.d23 g e hg).cha ((Cha.refl (· = bc) w1).setCell (p := ⟨bc, 3, none⟩) (fun _ => rfl) _) fun g hg => (H.out.f3 g hg).2) ((HI.out.cha h2 fun e => Nat.lt_irrefl _ (O2.out _ e)).cha ((Cha.refl (· = bc) w1).setCell (p := ⟨bc, 3, none⟩) (fun _ => rfl) _) HB.out)); have L1 := Lib.hid h1; have N1 := Lib.hid h3; clear h1 h2 h3)
    | (go_at_call 36; (with_reducible refine (D2.out).mono ?_); rintro e w2 ⟨u3, rfl, h1, h2, h3⟩; (obtain ⟨b3, d3, rfl, _, _⟩ := h1.form); (obtain ⟨t4, y4⟩ := leave_cell H.out c1.out h2); have L2 := Lib.hid h1; have C3 := Lib.hid h2; have N2 := Lib.hid h3; clear h1 h2 h3))
  go_end0
  exact ⟨rfl, leave_end H.out c1.out C3.out L1.out L2.out N1.out N2.out⟩
end Go.Proofs.Ytnhjkmkocpjkmaa
