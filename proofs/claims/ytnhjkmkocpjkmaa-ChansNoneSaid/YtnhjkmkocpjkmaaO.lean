/- ChansLeave: the walk. -/
import Derived.Test.YtnhjkmkocpjkmaaN
import Derived.Test.YtnhjkmkocpjkmaaAB
namespace Go.Proofs.Ytnhjkmkocpjkmaa
open Go.ChangeShapes Go.WideShapes Go.ChangeAt Go.RowKit

/-- A channel and a list beside it, both made since. -/
structure Side {α : Type} (E : Enc α) (w0 w : World) (F : Nat → Prop) (bc : Nat) (s : St) (v : Value) (A : List α) : Prop where
  ch : ∃ v1 v2 v3, Ch w F bc v1 v2 v3 s
  cha : Cha (fun _ => False) w0 w
  n1 : ∀ i, F i → w0.heap.size ≤ i
  lies : Lies E w v A
  n2 : ∀ g, v.ownBlock = some g → w0.heap.size ≤ g ∧ ¬ F g
def Beside {α : Type} (E : Enc α) (w0 w : World) (bc : Nat) (s : St) (v : Value) (A : List α) : Prop := ∃ F, Side E w0 w F bc s v A
section
variable {α : Type} {E : Enc α} {w0 w w' : World} {F : Nat → Prop} {bc : Nat} {s s' : St} {v : Value} {A N : List α}
theorem Beside.live (h : Beside E w0 w bc s v A) : Live w0 w bc s := by
  obtain ⟨F, ⟨v1, v2, v3, q⟩, c, n1, l, n2⟩ := h
  exact ⟨F, v1, v2, v3, q, c, n1⟩
theorem Beside.lies (h : Beside E w0 w bc s v A) : Lies E w v A := by obtain ⟨F, h⟩ := h; exact h.lies
theorem Beside.cha (h : Beside E w0 w bc s v A) : Cha (fun _ => False) w0 w := by obtain ⟨F, h⟩ := h; exact h.cha
theorem Beside.same (h : Beside E w0 w bc s v A) (c : Cha (fun _ => False) w w') : Beside E w0 w' bc s v A := by
  obtain ⟨F, ⟨v1, v2, v3, q⟩, c0, n1, l, n2⟩ := h
  exact ⟨F, ⟨v1, v2, v3, q.same c⟩, c0.trans c, n1, l.same c, n2⟩
theorem Side.left (h : Side E w0 w F bc s v A) (k : Left w w' F bc s') : Beside E w0 w' bc s' v A := by
  obtain ⟨F', v1, v2, v3, q, c, n⟩ := k
  have ho := fun g (e : v.ownBlock = some g) => h.lies.lt e
  refine ⟨F', ⟨v1, v2, v3, q⟩, h.cha.over c (fun i hi => .inr (h.n1 i hi)), fun i hi => ?_, h.lies.cha c fun g hg => (h.n2 g hg).2, fun g hg => ⟨(h.n2 g hg).1, fun e => ?_⟩⟩
  · rcases n i hi with e | e
    · exact h.n1 i e
    · exact Nat.le_trans h.cha.size e
  · rcases n g e with e | e
    · exact (h.n2 g hg).2 e
    · have := ho g hg; omega
theorem Beside.app {W : World} {g o cap : Nat} (h : Beside E w0 w bc s v A) (c0 : Cha (fun _ => False) w W) (a : App E W w' v A N g o cap) : Beside E w0 w' bc s (.slice (some ⟨g, o, none⟩) (A.length + N.length) cap) (A ++ N) := by
  obtain ⟨F, ⟨v1, v2, v3, q⟩, c, n1, l, n2⟩ := h
  have q2 := q.same c0
  refine ⟨F, ⟨v1, v2, v3, q2.cha a.cha fun i hi e => (n2 i e).2 hi⟩, (c.trans c0).over a.cha fun i e => .inr (n2 i e).1, n1, a.lies, fun g' hg => ?_⟩
  cases hg
  rcases a.at' with e | e
  · exact n2 g e
  · exact ⟨Nat.le_trans (c.trans c0).size e, fun e2 => by have := q2.old g e2; omega⟩
theorem Live.side (h : Live w0 w bc s) (E : Enc α) : Beside E w0 w bc s (.slice none 0 0) [] := by
  obtain ⟨F, v1, v2, v3, q, c, n⟩ := h
  exact ⟨F, ⟨v1, v2, v3, q⟩, c, n, Lies.nil _ _, fun g e => by cases e⟩
/-- A list that was just made. -/
theorem Live.made (h : Live w0 w bc s) (m : Made E w w' v A) : Beside E w0 w' bc s v A := by
  obtain ⟨F, v1, v2, v3, q, c, n⟩ := h
  exact ⟨F, ⟨v1, v2, v3, q.same m.cha⟩, c.trans m.cha, n, m.lies, fun g e => ⟨Nat.le_trans c.size (m.own g e), fun e2 => by have := q.old g e2; have := m.own g e; omega⟩⟩
theorem side_send (h : Beside E w0 w bc s v A) (id x : Int) (b : Bool) (hA : s.size < 8796093022208) :
    Calls Try.prog 13 #[.pointer (some ⟨bc, 0, none⟩), .int .i64 id, .int .u64 x, .bool b] w fun e w' => e = .returned (s.send id x b).1.v ∧ Beside E w0 w' bc (s.send id x b).2 v A := by
  obtain ⟨F, h⟩ := h
  obtain ⟨v1, v2, v3, q⟩ := h.ch
  exact (send_any q id x b hA).mono fun e w' ⟨a, k⟩ => ⟨a, h.left k⟩
theorem side_queue (h : Beside E w0 w bc s v A) (id x : Int) (b : Bool) (hA : s.size < 8796093022208) :
    Calls Try.prog 16 #[.pointer (some ⟨bc, 0, none⟩), .int .i64 id, .int .u64 x, .bool b] w fun e w' => e = .returned (.tuple #[]) ∧ Beside E w0 w' bc (s.queue id x b) v A := by
  obtain ⟨F, h⟩ := h
  obtain ⟨v1, v2, v3, q⟩ := h.ch
  exact (queue_any q id x b hA).mono fun e w' ⟨a, k⟩ => ⟨a, h.left k⟩
theorem side_leave (h : Beside E w0 w bc s v A) (id : Int) :
    Calls Try.prog 21 #[.pointer (some ⟨bc, 0, none⟩), .int .i64 id] w fun e w' => e = .returned (.tuple #[]) ∧ Beside E w0 w' bc (s.leave id) v A := by
  obtain ⟨F, h⟩ := h
  obtain ⟨v1, v2, v3, q⟩ := h.ch
  exact (leave_any q id).mono fun e w' ⟨a, k⟩ => ⟨a, h.left k⟩
end
/-- Those who wait to receive. -/
def waits (L : List Int) : St := ⟨0, false, [], [], L⟩
theorem waits_queue (L : List Int) (x v : Int) : (waits L).queue x v false = waits (L ++ [x]) := rfl
theorem waits_leave (L : List Int) (x : Int) : (waits L).leave x = waits (L.filter fun r => !decide (r = x)) := rfl
theorem waits_send (L : List Int) (x v : Int) (b : Bool) : (waits (x :: L)).send 0 v b = (⟨2, x, 0⟩, waits L) := rfl
def zs (z : Nat → Int) (j : Nat) : List Int := (List.range j).map z
theorem zs_succ (z : Nat → Int) (j : Nat) : zs z (j + 1) = zs z j ++ [z j] := by simp [zs, List.range_succ]
theorem zs_len (z : Nat → Int) (j : Nat) : (zs z j).length = j := by simp [zs]
def keep (x : Int) (L : List Int) : List Int := L.filter fun r => !decide (r = x)
theorem keep_len (x : Int) (L : List Int) : (keep x L).length ≤ L.length := List.length_filter_le _ _
theorem keep_succ (z : Nat → Int) (x : Int) (j : Nat) : keep x (zs z (j + 1)) = if z j = x then keep x (zs z j) else keep x (zs z j) ++ [z j] := by
  unfold keep
  rw [zs_succ, List.filter_append]
  split <;> simp_all
set_option maxRecDepth 100000 in
set_option maxHeartbeats 4000000 in
theorem leave_walk (a : Option Addr) (n c : Nat) (x : Int) (w : World) (hnc : n ≤ c) (hc63 : c ≤ 9223372036854775807) (hx : 0 ≤ x ∧ x ≤ 255)
    (hs : 0 < n → ∃ (b o : Nat) (z : Nat → Int), a = some ⟨b, o, none⟩ ∧ ∀ i, i < n → w.cell? ⟨b, o + i, none⟩ = some (.int .u8 (z i)) ∧ 0 ≤ z i ∧ z i ≤ 255) :
    Calls Try.prog 6 #[.slice a n c, .int .u8 x] w fun e w' => e = .returned (.bool true) ∧ Cha (fun _ => False) w w' := by
  obtain ⟨k, hk⟩ : ∃ k, k = min n 60 := ⟨_, rfl⟩
  have hkn : k ≤ n := by omega
  have hk60 : k ≤ 60 := by omega
  have C0 : Calls Try.prog 9 #[.int .i64 0] w _ := live_new 0 (by decide) (Cha.refl _ w)
  have C0 := Lib.hid C0
  have AW := Lib.hid awake_any
  obtain ⟨z, hz⟩ : ∃ z : Nat → Int, 0 < n → ∃ b o, a = some ⟨b, o, none⟩ ∧ ∀ i, i < n → w.cell? ⟨b, o + i, none⟩ = some (.int .u8 (z i)) ∧ 0 ≤ z i ∧ z i ≤ 255 := by
    by_cases h : 0 < n
    · obtain ⟨b, o, z, h1, h2⟩ := hs h
      exact ⟨z, fun _ => ⟨b, o, h1, h2⟩⟩
    · exact ⟨fun _ => 0, fun h2 => absurd h2 h⟩
  have HS := Lib.hid hz
  clear hz
  have hx0 : IntKind.i64.wrap x = x := IntWalk.i64_in _ (by omega)
  have Q1 : Hid (∀ W v bc L y, L.length < 100 → Beside intE w W bc (waits L) v (keep x L) → Calls Try.prog 16 #[.pointer (some ⟨bc, 0, none⟩), .int .i64 y, .int .u64 0, .bool false] W fun e w' => e = .returned (.tuple #[]) ∧ Beside intE w w' bc (waits (L ++ [y])) v (keep x L)) := Lib.hid fun W v bc L y hl h => side_queue h y 0 false (by show 0 + 0 + L.length < _; omega)
  have Q2 : Hid (∀ W v bc L, Beside intE w W bc (waits L) v (keep x L) → Calls Try.prog 21 #[.pointer (some ⟨bc, 0, none⟩), .int .i64 x] W fun e w' => e = .returned (.tuple #[]) ∧ Beside intE w w' bc (waits (keep x L)) v (keep x L)) := Lib.hid fun W v bc L h => side_leave h x
  have mn1 : (if 60 < n then (60 : Int) else (n : Int)) = (k : Int) := by split <;> omega
  have mn2 : (if (60 : Int) < (n : Int) then (60 : Int) else (n : Int)) = (k : Int) := by split <;> omega
  have hk2 : (k : Int) ≤ (c : Int) := by omega
  clear hs hk
  go_enter Try.func6, Try.ntmps6
  go_wp2_with (first
    | (go_at_call 9; ((with_reducible refine (C0.out).mono ?_); rintro e w1 ⟨rfl, h⟩; have H1 := Lib.hid h; clear h))
    | (go_at_call 11; ((with_reducible refine (AW.out _).mono ?_); rintro e w2 ⟨rfl, h⟩; have H2 := Lib.hid (H1.out.same h); clear h)))
  have H3 := Lib.hid (H2.out.side intE)
  generalize w.heap.size = bc at *
  clear H1 H2 C0 mn1 mn2
  go_loopw [7, 9, 33] (fun v _ i wr => ∃ j : Nat, j ≤ k ∧ i = .int .i64 (j : Int) ∧ Beside intE w wr bc (waits (zs z j)) v (keep x (zs z j))) (fun _ _ i _ => k - (intOf i).toNat)
  case atStart => exact ⟨0, Nat.zero_le _, rfl, H3.out⟩
  case round =>
    clear H3
    obtain ⟨j, hj, rfl, hB⟩ := hrel
    by_cases hlt : j < k
    · obtain ⟨b, o, rfl, hz⟩ := HS.out (by omega)
      obtain ⟨hz1, hz2, hz3⟩ := hz j (by omega)
      have hb := block_lt_of_cell hz1
      have hz4 : wr.cell? ⟨b, o + j, none⟩ = some (.int .u8 (z j)) := (World.cell?_of_block (hB.cha.old b hb (fun f => f))).trans hz1
      have D := Lib.hid (Q1.out wr _ bc (zs z j) (z j) (by rw [zs_len]; omega) hB)
      have HK := Lib.hid (keep_succ z x j)
      have HL : Hid ((keep x (zs z j)).length + [z j].length ≤ 200) := Lib.hid (by have := keep_len x (zs z j); rw [zs_len] at this; simp only [List.length_singleton]; omega)
      rw [← zs_succ] at D
      have hy0 : IntKind.i64.wrap (z j) = z j := IntWalk.i64_in _ (by omega)
      clear hz hz1 hz2 hz3 hB
      generalize hKK : keep x (zs z j) = K at *
      generalize z j = y at *
      clear hKK
      by_cases hq : y = x
      · have hq2 : (y == x) = true := by simpa using hq
        have e := HK.out
        rw [if_pos hq] at e
        have HK2 := Lib.hid e
        clear HK hq e
        go_wp2_with (go_at_call 16; ((with_reducible refine (D.out).mono ?_); rintro e w3 ⟨rfl, h⟩; have H4 := Lib.hid h; clear h))
        go_roundw
        case rel => exact ⟨j + 1, by omega, by go_num, by rw [HK2.out]; exact H4.out⟩
        case measure => simp [intOf]; omega
      · have hq2 : (y == x) = false := by simpa using hq
        have e := HK.out
        rw [if_neg hq] at e
        have HK2 := Lib.hid e
        clear HK hq e
        go_wp2_with (first
          | (go_at_call 16; ((with_reducible refine (D.out).mono ?_); rintro e w3 ⟨rfl, h⟩; have H4 := Lib.hid h; clear h))
          | (at_builtin; refine wpList_app intE_ok rfl (.tmp 44) (.tmp 47) rfl rfl (H4.out.lies.same ((Cha.refl _ w3).alloc _)) ⟨w3.heap.size, 0, none⟩ 1 1 [y] rfl rfl (just_new intE w3 y 3) Nat.zero_lt_one (Nat.le_trans HL.out (by decide)) (Nat.le_trans (Nat.mul_le_mul_right 8 HL.out) (by decide)) ?_; intro g3 o3 cap3 w4 hA3; have A3 := Lib.hid (H4.out.app ((Cha.refl _ w3).alloc _) hA3); clear hA3))
        go_roundw
        case rel => exact ⟨j + 1, by omega, by go_num, by rw [HK2.out]; exact A3.out⟩
        case measure => simp [intOf]; omega
    · obtain rfl : j = k := by omega
      have D0 := Q2.out wr _ bc (zs z j) hB
      obtain ⟨a7, c7, rfl, h1, h2⟩ := hB.lies.form
      unfold maxLen at h2
      have hmm : (keep x (zs z j)).length < 100 := by have := keep_len x (zs z j); have e := zs_len z j; omega
      generalize keep x (zs z j) = K at *
      obtain ⟨m, hm⟩ : ∃ m, m = K.length := ⟨_, rfl⟩
      have HM := Lib.hid hm
      rw [← hm] at D0 h1 ⊢
      have D := Lib.hid D0
      have hmm2 : m < 100 := by omega
      clear hmm
      have S1 : Hid (∀ W L y (i : Nat), L.length < 100 → Beside intE w W bc (waits (y :: L)) (.slice a7 m c7) K → Calls Try.prog 13 #[.pointer (some ⟨bc, 0, none⟩), .int .i64 0, .int .u64 (i : Int), .bool true] W fun e w' => e = .returned (.agg #[.int .i64 2, .int .i64 y, .int .u64 0]) ∧ Beside intE w w' bc (waits L) (.slice a7 m c7) K) := Lib.hid fun W L y i hl h =>
        side_send h 0 i true (by show 0 + 0 + (L.length + 1) < _; omega)
      have Y1 : Hid (∀ W, Beside intE w W bc (waits []) (.slice a7 m c7) K → Calls Try.prog 28 #[.pointer (some ⟨bc, 0, none⟩), .bool true] W fun e w' => e = .returned (.bool false) ∧ Live w w' bc (waits [])) := Lib.hid fun W h => live_ready h.live true
      have S2 : Hid (∀ W, Live w W bc (waits []) → Calls Try.prog 13 #[.pointer (some ⟨bc, 0, none⟩), .int .i64 0, .int .u64 1, .bool false] W fun e w' => e = .returned (.agg #[.int .i64 3, .int .i64 0, .int .u64 0]) ∧ Live w w' bc (waits [])) := Lib.hid fun W h => live_send h 0 1 false (by decide)
      have F0 := field0
      clear hB D0 Q1 Q2 hm hx0
      go_wp2_with (go_at_call 21; ((with_reducible refine (D.out).mono ?_); rintro e w3 ⟨rfl, h⟩; have H4 := Lib.hid h; clear h))
      go_loopw [10, 11, 12, 56] (fun _ _ _ i wr => ∃ i' : Nat, i' ≤ m ∧ i = .int .i64 (i' : Int) ∧ Beside intE w wr bc (waits (K.drop i')) (.slice a7 m c7) K) (fun _ _ _ i _ => m - (intOf i).toNat)
      case atStart => exact ⟨0, Nat.zero_le _, rfl, by rw [List.drop_zero]; exact H4.out⟩
      case round =>
        clear H4 D
        obtain ⟨i, hi, rfl, hB⟩ := hrel
        by_cases hlt : i < m
        · have hi2 : i < K.length := by rw [← HM.out]; exact hlt
          obtain ⟨g, o, rfl, hz⟩ := int_at hB.lies (by omega)
          have z0 := hz _ (Cha.refl _ _) i hi2
          have e := List.drop_eq_getElem_cons hi2
          have e2 : K.getD i 0 = K[i] := by simp [List.getD, List.getElem?_eq_getElem hi2]
          rw [e2] at z0
          rw [e] at hB
          have D := Lib.hid (S1.out _ _ _ i (by rw [List.length_drop, ← HM.out]; omega) hB)
          generalize K[i] = y at *
          clear hz hB e e2 hi2
          go_wp2_with (go_at_call 13; ((with_reducible refine (D.out).mono ?_); rintro e w4 ⟨rfl, h⟩; have H5 := Lib.hid h; clear h))
          go_roundw
          case rel => exact ⟨i + 1, by omega, by go_num, H5.out.same ((Cha.refl _ w4).alloc _)⟩
          case measure => simp [intOf]; omega
        · obtain rfl : i = m := by omega
          rw [HM.out, List.drop_length, ← HM.out] at hB
          have D := Lib.hid (Y1.out _ hB)
          clear hB
          go_wp2_with (first
            | (go_at_call 28; ((with_reducible refine (D.out).mono ?_); rintro e w4 ⟨rfl, h⟩; have H5 := Lib.hid h; clear h))
            | (go_at_call 13; ((with_reducible refine (S2.out _ H5.out).mono ?_); rintro e w5 ⟨rfl, h⟩; have H6 := Lib.hid h.cha; clear h)))
          go_ret
          exact ⟨rfl, H6.out⟩
end Go.Proofs.Ytnhjkmkocpjkmaa
