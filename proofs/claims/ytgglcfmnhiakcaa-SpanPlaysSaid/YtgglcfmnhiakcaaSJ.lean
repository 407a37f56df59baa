/- SpanBack. -/
import Derived.Test.YtgglcfmnhiakcaaSI
import Derived.Test.YtgglcfmnhiakcaaT
namespace Go.Proofs.Ytgglcfmnhiakcaa
open Go.ChangeShapes Go.WideShapes Go.ChangeAt Go.RowKit

/-- The first j spans, one behind the other. -/
def spl (S : Nat → Nat) (T : Nat → Int) (j : Nat) : List Spn := (List.range j).map fun i => ⟨smu S i, S i, T i⟩
section
variable {S : Nat → Nat} {T : Nat → Int}
theorem spl_step (j : Nat) : spl S T (j + 1) = spl S T j ++ [⟨smu S j, S j, T j⟩] := by unfold spl; rw [List.range_succ, List.map_append]; rfl
theorem spl_length (j : Nat) : (spl S T j).length = j := by simp [spl]
theorem spl_mem {j : Nat} {s : Spn} : s ∈ spl S T j ↔ ∃ i, i < j ∧ s = ⟨smu S i, S i, T i⟩ := by
  unfold spl
  rw [List.mem_map]
  constructor
  · rintro ⟨i, hi, rfl⟩; exact ⟨i, List.mem_range.1 hi, rfl⟩
  · rintro ⟨i, hi, rfl⟩; exact ⟨i, List.mem_range.2 hi, rfl⟩
theorem spl_get {j i : Nat} (h : i < j) : (spl S T j)[i]? = some ⟨smu S i, S i, T i⟩ := by simp [spl, h]
theorem uOf_spl (j : Nat) : uOf (spl S T j) = pre (smu S j) := by
  funext x
  unfold pre
  rw [Bool.eq_iff_iff, decide_eq_true_iff, uOf_iff]
  constructor
  · rintro ⟨s, hs, hx⟩
    obtain ⟨i, hi, rfl⟩ := spl_mem.1 hs
    have h1 : smu S i ≤ x ∧ x < smu S i + S i := has_iff.1 hx
    have := smu_mono (S := S) j hi
    omega
  · intro h
    obtain ⟨i, hi, h1, h2⟩ := smu_find j h
    exact ⟨_, spl_mem.2 ⟨i, hi, rfl⟩, has_iff.2 ⟨h1, h2⟩⟩
theorem good_spl {n : Nat} : ∀ j, (∀ i, i < j → 1 ≤ S i) → smu S j ≤ n → Good n (spl S T j)
  | 0, _, _ => Good.nil n
  | j + 1, h1, h2 => by
    have h3 : smu S (j + 1) = smu S j + S j := rfl
    have ih := good_spl (n := n) j (fun i hi => h1 i (by omega)) (by omega)
    rw [spl_step]
    refine ⟨List.pairwise_append.2 ⟨ih.up, List.pairwise_singleton _ _, fun a ha b hb => ?_⟩, fun s hs => ?_⟩
    · obtain ⟨i, hi, rfl⟩ := spl_mem.1 ha
      obtain rfl : b = ⟨smu S j, S j, T j⟩ := by simpa using hb
      exact smu_mono j hi
    · rcases List.mem_append.1 hs with hs | hs
      · exact ih.rng s hs
      · obtain rfl : s = ⟨smu S j, S j, T j⟩ := by simpa using hs
        exact ⟨h1 j (by omega), by show smu S j + S j ≤ n; omega⟩
theorem ins_end {s : Spn} : ∀ {L : List Spn}, (∀ r ∈ L, r.b ≤ s.b) → ins s L = L ++ [s]
  | [], _ => rfl
  | r :: L, h => by
    unfold ins
    rw [if_neg (by have := h r (List.mem_cons_self ..); omega), ins_end fun x hx => h x (List.mem_cons_of_mem _ hx)]; rfl
theorem spl_alc {j : Nat} (h1 : ∀ i, i < j + 1 → 1 ≤ S i) (h2 : smu S (j + 1) ≤ 4096) : Alc5 4096 (spl S T j) (S j : Int) (T j) ⟨smu S j, S j, T j⟩ 0 (spl S T (j + 1)) := by
  have h3 : smu S (j + 1) = smu S j + S j := rfl
  have hi : ins ⟨smu S j, S j, T j⟩ (spl S T j) = spl S T (j + 1) := by
    rw [spl_step]
    refine ins_end fun r hr => ?_
    obtain ⟨i, hi, rfl⟩ := spl_mem.1 hr
    have := smu_mono (S := S) j hi
    show smu S i ≤ smu S j
    omega
  have := Alc5.ok (n := 4096) (L := spl S T j) (k := (S j : Int)) (tag := T j) (smu S j) (S j) rfl (by omega) (by rw [uOf_spl, pre_fil]; exact pre_alc (h1 j (by omega)) (by omega)) (by rw [hi]; exact good_spl (j + 1) h1 h2)
  rwa [hi] at this
theorem drop_cons {j t : Nat} (h : t < j) : (spl S T j).drop t = ⟨smu S t, S t, T t⟩ :: (spl S T j).drop (t + 1) := by
  rw [List.drop_eq_getElem_cons (by rw [spl_length]; exact h)]
  congr 1
  have := spl_get (S := S) (T := T) h
  rw [List.getElem?_eq_getElem (by rw [spl_length]; exact h)] at this
  exact Option.some.inj this
theorem good_drop {n j : Nat} (h : Good n (spl S T j)) (t : Nat) : Good n ((spl S T j).drop t) := ⟨h.up.drop, fun s hs => h.rng s (List.mem_of_mem_drop hs)⟩
theorem del_head {n : Nat} {s : Spn} {L : List Spn} (h : Good n (s :: L)) : del s.b (s :: L) = L := by
  have hk := h.rng s (List.mem_cons_self ..)
  unfold del
  rw [List.filter_cons_of_neg (by simp), List.filter_eq_self.2 fun r hr => by have := h.head r hr; simp; omega]
theorem gone {n : Nat} {s : Spn} {L : List Spn} (h : Good n (s :: L)) : uOf L s.b = false := by
  cases hu : uOf L s.b
  · rfl
  · obtain ⟨r, hr, hi⟩ := uOf_iff.1 hu
    have h1 := h.head r hr
    have h2 := has_iff.1 hi
    have h3 := h.rng s (List.mem_cons_self ..)
    omega
theorem gone_find {n : Nat} {s : Spn} {L : List Spn} (h : Good n (s :: L)) : atP L n (s.b : Int) = (noS, false) := by
  unfold atP; rw [Int.toNat_natCast, if_neg (fun c => by rw [gone h] at c; cases c.2.2)]
theorem gone_beg {n : Nat} {s : Spn} {L : List Spn} (h : Good n (s :: L)) : begP L n (s.b : Int) = (noS, false) := by
  unfold begP; rw [Int.toNat_natCast, if_neg (fun c => by rw [gone h] at c; cases c.2.2.1)]
theorem empty_counts : cntF (isU (uOf []) 4096) 4096 = 4096 ∧ mxL (rows (uOf []) 4096) = 4096 := by
  refine none_used (A := fun _ => 0) (S := fun _ => 0) ⟨fun x _ => ?_, fun i j hi => absurd hi (by omega), fun i hi => absurd hi (by omega)⟩
  constructor
  · intro h; obtain ⟨s, hs, _⟩ := uOf_iff.1 h; cases hs
  · rintro ⟨i, hi, _⟩; omega
end

set_option maxRecDepth 100000 in
set_option maxHeartbeats 8000000 in
theorem back5_walk (a1 : Option Addr) (n1 c1 : Nat) (a2 : Option Addr) (n2 c2 M : Nat) (w : World) (hM : M = min n1 150) (h1 : NumsC .u8 w a1 n1 c1) (h2 : NumsC .u8 w a2 n2 c2) :
    Calls Try.prog 8 #[.slice a1 n1 c1, .slice a2 n2 c2] w fun e w' => e = .returned (.bool true) ∧ Cha (fun _ => False) w w' := by
  have A25 : Hid (Calls Try.prog 25 #[.int .i64 4096] w fun e W' => ∃ bt bm bp bs, e = .returned (.tuple #[.pointer (some ⟨bt, 0, none⟩), .int .i64 0]) ∧ Os w W' bt bm bp bs 4096 []) := Lib.hid (os_new 4096 (Cha.refl _ w) (by omega) (by omega))
  have A27 := Lib.hid awake5_any
  have H1 := Lib.hid h1
  have H2 := Lib.hid h2
  have hM1 : M ≤ 150 := by omega
  have hM2 : M ≤ n1 := by omega
  have hcc := h1.1
  have hcd := h1.2.1
  have hn2 := h2.2.2.1
  have hn1 := h1.2.2.1
  clear h1 h2
  have hmin : (if (150 : Int) < (n1 : Int) then (150 : Int) else (n1 : Int)) = (M : Int) := by split <;> omega
  clear hM
  go_enter Try.func8, Try.ntmps8
  go_wp2_with (first
    | (go_at_call 25; ((with_reducible refine (A25.out).mono ?_); rintro e w1 ⟨bt, bm, bp, bs, rfl, h⟩; have H10 := Lib.hid h; clear h))
    | (go_at_call 27; ((with_reducible refine (A27.out _).mono ?_); rintro e w2 ⟨rfl, h⟩; have H12 := Lib.hid (H10.out.same h); clear h)))
  clear hmin A25 A27 H10
  obtain ⟨S, hS⟩ : ∃ S : Nat → Nat, 0 < M → ∃ (b o : Nat) (z : Nat → Int), a1 = some ⟨b, o, none⟩ ∧ ∀ i, i < M → w.cell? ⟨b, o + i, none⟩ = some (.int .u8 (z i)) ∧ 0 ≤ z i ∧ z i ≤ 255 ∧ z i % 20 + 1 = (S i : Int) := by
    by_cases h0 : 0 < M
    · obtain ⟨b, o, z, e, hz⟩ := H1.out.2.2.2 (by omega)
      refine ⟨fun i => (z i % 20 + 1).toNat, fun _ => ⟨b, o, z, e, fun i hi => ?_⟩⟩
      obtain ⟨k1, k2⟩ := hz i (by omega)
      have := u8_lo k2
      have := u8_hi k2
      exact ⟨k1, by omega, by omega, by show z i % 20 + 1 = (((z i % 20 + 1).toNat : Nat) : Int); omega⟩
    · exact ⟨fun _ => 1, fun h => absurd h h0⟩
  have HS := Lib.hid hS
  have HSR : Hid (∀ i, i < M → 1 ≤ S i ∧ S i ≤ 20) := Lib.hid fun i hi => by
    obtain ⟨_, _, z, _, hz⟩ := hS (by omega)
    have := hz i hi
    omega
  clear hS
  obtain ⟨T, hT⟩ : ∃ T : Nat → Int, (∀ i, n2 ≤ i → T i = 0) ∧ (0 < n2 → ∃ (b o : Nat), a2 = some ⟨b, o, none⟩ ∧ ∀ i, i < n2 → w.cell? ⟨b, o + i, none⟩ = some (.int .u8 (T i)) ∧ 0 ≤ T i ∧ T i ≤ 255) := by
    by_cases h0 : 0 < n2
    · obtain ⟨b, o, z, e, hz⟩ := H2.out.2.2.2 h0
      refine ⟨fun i => if i < n2 then z i else 0, fun i hi => if_neg (by omega), fun _ => ⟨b, o, e, fun i hi => ?_⟩⟩
      obtain ⟨k1, k2⟩ := hz i hi
      simp only [if_pos hi]
      exact ⟨k1, u8_lo k2, u8_hi k2⟩
    · exact ⟨fun _ => 0, fun _ _ => rfl, fun h => absurd h h0⟩
  have HTT := Lib.hid hT
  clear hT
  obtain ⟨B0, hB0⟩ : ∃ B0, B0 = w2.heap.size := ⟨_, rfl⟩
  have hl0 : bt < B0 ∧ bm < B0 ∧ bp < B0 ∧ bs < B0 := by
    have k1 := H12.out.tl.2.lt
    have k2 := H12.out.tl.2.pg.lt
    omega
  have hsz0 := H12.out.cha.size
  rw [← hB0] at hsz0
  have HB0 : Hid (B0 ≤ w2.heap.size) := Lib.hid (by omega)
  clear hB0
  obtain ⟨i0, hi, hz0, hz1, hz2⟩ := info_parts info66
  go_loopw [7, 8, 42] (fun nx v i wr => ∃ (q : Value) (j : Nat), q = v ∧ j ≤ M ∧ i = .int .i64 (j : Int) ∧ nx = .int .i64 (smu S j : Int) ∧ wr.ownsRow B0 66 3 q j (scs (spl S T j)) ∧ Os w wr bt bm bp bs 4096 (spl S T j) ∧ B0 ≤ wr.heap.size) (fun _ _ i _ => M - (intOf i).toNat)
  case atStart => exact ⟨_, 0, rfl, Nat.zero_le _, rfl, rfl, World.ownsRow_nil _ _ _ _, H12.out, HB0.out⟩
  case round =>
    clear H12 HB0
    obtain ⟨v, j, rfl, hj, rfl, rfl, hR, hO, hsz⟩ := hrel
    by_cases hlt : j < M
    · obtain ⟨b, o, z, rfl, hz⟩ := HS.out (by omega)
      obtain ⟨hz1', hz2', hz3', hz4'⟩ := hz j hlt
      have hc := (hO.cha.old b (block_lt_of_cell hz1') (fun x => x))
      have hcell : wr.cell? ⟨b, o + j, none⟩ = some (.int .u8 (z j)) := (World.cell?_of_block (a := ⟨b, o + j, none⟩) hc).trans hz1'
      obtain ⟨q1, q2⟩ := HSR.out j hlt
      have q3 := smu_le (S := S) (c := 20) (j + 1) (fun i hi => (HSR.out i (by omega)).2)
      have q4 : (j + 1) * 20 ≤ 150 * 20 := Nat.mul_le_mul (by omega) (by omega)
      have HAL := Lib.hid (spl_alc (T := T) (j := j) (fun i hi => (HSR.out i (by omega)).1) (by omega))
      have hst : smu S (j + 1) = smu S j + S j := rfl
      have HST := Lib.hid hst
      have HR := Lib.hid hR
      have HO := Lib.hid hO
      have q5 : smu S j ≤ 3000 := by omega
      have htg : j < n2 → ∃ b2 o2, a2 = some ⟨b2, o2, none⟩ ∧ wr.cell? ⟨b2, o2 + j, none⟩ = some (.int .u8 (T j)) ∧ 0 ≤ T j ∧ T j ≤ 255 := fun h => by
        obtain ⟨b2, o2, e2, hz2⟩ := HTT.out.2 (by omega)
        obtain ⟨k1, k2, k3⟩ := hz2 j h
        exact ⟨b2, o2, e2, (World.cell?_of_block (a := ⟨b2, o2 + j, none⟩) (hO.cha.old b2 (block_lt_of_cell k1) (fun x => x))).trans k1, k2, k3⟩
      have HTGF := Lib.hid htg
      clear hz hz1' hc hO hR hst q3 q4 htg
      generalize z j = x at *
      obtain ⟨k, hk⟩ : ∃ k, k = S j := ⟨_, rfl⟩
      obtain ⟨a, ha⟩ : ∃ a, a = smu S j := ⟨_, rfl⟩
      rw [← hk] at hz4' q1 q2
      rw [← ha] at q5 ⊢
      have HK := Lib.hid hk
      have HA := Lib.hid ha
      clear hk ha
      by_cases hto : j < n2
      · obtain ⟨b2, o2, rfl, tc, t1, t2⟩ := HTGF.out hto
        obtain ⟨y, hy⟩ : ∃ y, T j = y := ⟨_, rfl⟩
        rw [hy] at tc t1 t2
        have HTG := Lib.hid hy
        clear hy
        have C28 : Hid (∀ W, Os w W bt bm bp bs 4096 (spl S T j) → Calls Try.prog 28 #[.pointer (some ⟨bt, 0, none⟩), .int .i64 (k : Int), .int .i64 y] W fun e W' => e = .returned (.tuple #[.agg #[.int .i64 (a : Int), .int .i64 (k : Int), .int .i64 y], .int .i64 0]) ∧ Os w W' bt bm bp bs 4096 (spl S T (j + 1)) ∧ Bs bp bs W W') := Lib.hid fun W h => by
          have := os_alloc2 HAL.out (by have := HK.out; omega) h
          rw [← HK.out, ← HA.out, HTG.out] at this
          exact this
        go_wp2_with (first
          | (go_at_call 28; ((with_reducible refine (C28.out _ HO.out).mono ?_); rintro e w5 ⟨rfl, h, hc⟩; have H5 := Lib.hid (h.same ((Cha.refl _ _).alloc (.cells #[.int .i64 (a : Int), .int .i64 (k : Int), .int .i64 y] 66))); have HR5 := Lib.hid ((owns_cha HR.out hc (fun i hi c => by have hll := hl0; omega)).alloc (.cells #[.int .i64 (a : Int), .int .i64 (k : Int), .int .i64 y] 66)); have HZ5 : Hid (B0 ≤ w5.heap.size) := Lib.hid (by have hq := hc.size; omega); clear h hc))
          | (at_builtin; refine wpList_append_own _ rfl _ _ 75 rfl B0 66 i0 (.agg #[.int .i64 0, .int .i64 0, .int .i64 0]) 3 24 Try.underlying75 hi hz0 hz1 hz2 rfl (by decide) _ _ _ rfl (HR5.out.alloc _) ⟨w5.heap.size + 1, 0, none⟩ 1 1 [.int .i64 (a : Int), .int .i64 (k : Int), .int .i64 y] rfl rfl (by have hq := three_new (w5.alloc (.cells #[.int .i64 (a : Int), .int .i64 (k : Int), .int .i64 y] 66)) (.int .i64 (a : Int)) (.int .i64 (k : Int)) (.int .i64 y) 66; rw [World.size_alloc] at hq; exact hq) (three_cell _ _ _) (by unfold maxLen; omega) (by omega) (by rw [World.size_alloc, World.size_alloc]; have hq := HZ5.out; omega) ?_; intro v' w6 hown' hgrow hnil; clear hnil; have HR6 := Lib.hid hown'; have HG := Lib.hid (Cha.of_grownBy (S := fun i => B0 ≤ i) hgrow (own_base HR5.out)); clear hown' hgrow))
        go_roundw
        case rel =>
          refine ⟨_, j + 1, rfl, by omega, by go_num, ?_, ?_, ?_, ?_⟩
          · rw [HST.out, ← HK.out, ← HA.out]; go_num
          · have h := HR6.out
            rw [spl_step, scs_snoc, ← HK.out, ← HA.out, HTG.out]
            exact h
          · have h := H5.out.same ((Cha.refl _ _).alloc (.cells #[.int .i64 (a : Int), .int .i64 (k : Int), .int .i64 y] 66))
            exact ⟨⟨h.tl.1, h.tl.2.cha HG.out (by omega) (by omega) (by omega) (by omega)⟩, h.cha.over HG.out (fun i hi => .inr (by omega)), h.new⟩
          · have := HG.out.size
            rw [World.size_alloc, World.size_alloc] at this
            have := HZ5.out
            omega
        case measure => simp [intOf]; omega
      · have HTG := Lib.hid (HTT.out.1 j (by omega))
        have C28 : Hid (∀ W, Os w W bt bm bp bs 4096 (spl S T j) → Calls Try.prog 28 #[.pointer (some ⟨bt, 0, none⟩), .int .i64 (k : Int), .int .i64 0] W fun e W' => e = .returned (.tuple #[.agg #[.int .i64 (a : Int), .int .i64 (k : Int), .int .i64 0], .int .i64 0]) ∧ Os w W' bt bm bp bs 4096 (spl S T (j + 1)) ∧ Bs bp bs W W') := Lib.hid fun W h => by
          have := os_alloc2 HAL.out (by have := HK.out; omega) h
          rw [← HK.out, ← HA.out, HTG.out] at this
          exact this
        go_wp2_with (first
          | (go_at_call 28; ((with_reducible refine (C28.out _ HO.out).mono ?_); rintro e w5 ⟨rfl, h, hc⟩; have H5 := Lib.hid (h.same ((Cha.refl _ _).alloc (.cells #[.int .i64 (a : Int), .int .i64 (k : Int), .int .i64 0] 66))); have HR5 := Lib.hid ((owns_cha HR.out hc (fun i hi c => by have hll := hl0; omega)).alloc (.cells #[.int .i64 (a : Int), .int .i64 (k : Int), .int .i64 0] 66)); have HZ5 : Hid (B0 ≤ w5.heap.size) := Lib.hid (by have hq := hc.size; omega); clear h hc))
          | (at_builtin; refine wpList_append_own _ rfl _ _ 75 rfl B0 66 i0 (.agg #[.int .i64 0, .int .i64 0, .int .i64 0]) 3 24 Try.underlying75 hi hz0 hz1 hz2 rfl (by decide) _ _ _ rfl (HR5.out.alloc _) ⟨w5.heap.size + 1, 0, none⟩ 1 1 [.int .i64 (a : Int), .int .i64 (k : Int), .int .i64 0] rfl rfl (by have hq := three_new (w5.alloc (.cells #[.int .i64 (a : Int), .int .i64 (k : Int), .int .i64 0] 66)) (.int .i64 (a : Int)) (.int .i64 (k : Int)) (.int .i64 0) 66; rw [World.size_alloc] at hq; exact hq) (three_cell _ _ _) (by unfold maxLen; omega) (by omega) (by rw [World.size_alloc, World.size_alloc]; have hq := HZ5.out; omega) ?_; intro v' w6 hown' hgrow hnil; clear hnil; have HR6 := Lib.hid hown'; have HG := Lib.hid (Cha.of_grownBy (S := fun i => B0 ≤ i) hgrow (own_base HR5.out)); clear hown' hgrow))
        go_roundw
        case rel =>
          refine ⟨_, j + 1, rfl, by omega, by go_num, ?_, ?_, ?_, ?_⟩
          · rw [HST.out, ← HK.out, ← HA.out]; go_num
          · have h := HR6.out
            rw [spl_step, scs_snoc, ← HK.out, ← HA.out, HTG.out]
            exact h
          · have h := H5.out.same ((Cha.refl _ _).alloc (.cells #[.int .i64 (a : Int), .int .i64 (k : Int), .int .i64 0] 66))
            exact ⟨⟨h.tl.1, h.tl.2.cha HG.out (by omega) (by omega) (by omega) (by omega)⟩, h.cha.over HG.out (fun i hi => .inr (by omega)), h.new⟩
          · have := HG.out.size
            rw [World.size_alloc, World.size_alloc] at this
            have := HZ5.out
            omega
        case measure => simp [intOf]; omega
    · obtain rfl : j = M := by omega
      have hle := smu_le (S := S) (c := 20) j (fun i hi => (HSR.out i (by omega)).2)
      have hle2 : j * 20 ≤ 150 * 20 := Nat.mul_le_mul (by omega) (by omega)
      have HGD := Lib.hid (good_spl (S := S) (T := T) (n := 4096) j (fun i hi => (HSR.out i hi).1) (by omega))
      have HO := Lib.hid hO
      have hv : ∃ a c, v = .slice a j c := by
        rcases hR.2 with ⟨e, e0⟩ | ⟨g, cap, _, e, _⟩
        · exact ⟨none, 0, by rw [e, e0]⟩
        · exact ⟨_, _, e⟩
      obtain ⟨e1, cap1, rfl⟩ := hv
      have HR := Lib.hid hR
      clear hO hR HS HSR HTT hle hle2
      go_wp2
      go_loopw [90] (fun i wr => ∃ t : Nat, t ≤ j ∧ i = .int .i64 (t : Int) ∧ Os w wr bt bm bp bs 4096 ((spl S T j).drop t) ∧ wr.ownsRow B0 66 3 (.slice e1 j cap1) j (scs (spl S T j))) (fun i _ => j - (intOf i).toNat)
      case atStart => exact ⟨0, Nat.zero_le _, rfl, HO.out, HR.out⟩
      case round =>
        clear HO HR
        obtain ⟨t, ht, rfl, hO, hR⟩ := hrel
        by_cases hlt : t < j
        · have hdc := drop_cons (S := S) (T := T) hlt
          have hg := good_drop HGD.out t
          rw [hdc] at hg hO
          have hT := trips_of_own (l := spl S T j) (by rw [spl_length]; exact hR)
          obtain ⟨a', cap', ee, hcl⟩ := hT
          rw [spl_length] at ee hcl
          cases ee
          obtain ⟨g, rfl, hcl2⟩ := hcl (by omega)
          obtain ⟨p0, p1, p2⟩ := hcl2 t _ (spl_get hlt)
          have C30 := os_free_ok2 (w := w) (bt := bt) (bm := bm) (bp := bp) (bs := bs) ⟨smu S t, S t, T t⟩ (List.mem_cons_self ..) hO
          rw [del_head hg] at C30
          have D30 := fun (W : World) h => os_free_no2 (w := w) (W := W) (bt := bt) (bm := bm) (bp := bp) (bs := bs) _ (gone_beg hg) h
          have C32 := fun (W : World) h => os_find (w := w) (W := W) (bt := bt) (bm := bm) (bp := bp) (bs := bs) _ (gone_find hg) h
          have HR := Lib.hid hR
          have HT := Lib.hid (boxS_new wr ⟨smu S t, S t, T t⟩)
          have HNE := Lib.hid (os_ne hO)
          have HO := Lib.hid hO
          generalize hL' : (spl S T j).drop (t + 1) = L' at *
          have HLL := Lib.hid hL'
          clear hL'
          generalize smu S t = a at *
          generalize S t = k at *
          generalize T t = y at *
          have C30 : Hid (∀ W, Os w W bt bm bp bs 4096 (⟨a, k, y⟩ :: L') → Calls Try.prog 30 #[.pointer (some ⟨bt, 0, none⟩), .int .i64 (a : Int)] W fun e W' => e = .returned (.int .i64 0) ∧ Os w W' bt bm bp bs 4096 L' ∧ Bs bp bs W W') := Lib.hid fun W h => by
            have := os_free_ok2 (w := w) (bt := bt) (bm := bm) (bp := bp) (bs := bs) ⟨a, k, y⟩ (List.mem_cons_self ..) h
            rw [del_head hg] at this
            exact this
          have D30 : Hid (∀ W, Os w W bt bm bp bs 4096 L' → Calls Try.prog 30 #[.pointer (some ⟨bt, 0, none⟩), .int .i64 (a : Int)] W fun e W' => e = .returned (.int .i64 4) ∧ Os w W' bt bm bp bs 4096 L' ∧ Bs bp bs W W') := Lib.hid D30
          have C32 : Hid (∀ W, Os w W bt bm bp bs 4096 L' → Calls Try.prog 32 #[.pointer (some ⟨bt, 0, none⟩), .int .i64 (a : Int)] W fun e W' => e = .returned (.tuple #[.agg #[.int .i64 0, .int .i64 0, .int .i64 0], .bool false]) ∧ Cha (fun _ => False) W W') := Lib.hid C32
          clear hdc hg hcl hcl2 hR hO
          have c0 : Cha (fun _ => False) wr (wr.alloc (.cells #[.int .i64 (a : Int), .int .i64 (k : Int), .int .i64 y] 66)) := (Cha.refl _ _).alloc _
          have HA := Lib.hid (HO.out.same c0)
          have HRA := Lib.hid (owns_cha HR.out c0 (fun _ _ x => x))
          have far : ∀ i, B0 ≤ i → ¬ (i = bp ∨ i = bs) := fun i hi => by omega
          have FAR := Lib.hid far
          clear c0 far HR
          go_wp2_with (first
            | (go_at_call 30; ((with_reducible refine (C30.out _ HA.out).mono ?_); rintro e w5 ⟨rfl, h, hc⟩; have H5 := Lib.hid h; have X5 := Lib.hid (boxS_bs HT.out hc HNE.out); have R5 := Lib.hid (owns_cha HRA.out hc FAR.out); obtain ⟨x0, x1, x2⟩ := boxS_cells X5.out; clear h hc))
            | (go_at_call 30; ((with_reducible refine (D30.out _ H5.out).mono ?_); rintro e w6 ⟨rfl, h, hc⟩; have H6 := Lib.hid h; have X6 := Lib.hid (boxS_bs X5.out hc HNE.out); have R6 := Lib.hid (owns_cha R5.out hc FAR.out); obtain ⟨y0, y1, y2⟩ := boxS_cells X6.out; clear h hc))
            | (go_at_call 32; ((with_reducible refine (C32.out _ H6.out).mono ?_); rintro e w7 ⟨rfl, hc⟩; have hc2 := hc.alloc (.cells #[.int .i64 0, .int .i64 0, .int .i64 0] 66); have H7 := Lib.hid (H6.out.same hc2); have R7 := Lib.hid (owns_cha R6.out hc2 (fun _ _ x => x)); clear hc hc2)))
          go_roundw
          case rel => exact ⟨t + 1, by omega, by go_num, by rw [HLL.out]; exact H7.out, R7.out⟩
          case measure => simp [intOf]; omega
        · obtain rfl : t = j := by omega
          rw [List.drop_eq_nil_of_le (by rw [spl_length]; exact Nat.le_refl _)] at hO
          obtain ⟨q1, q2⟩ := empty_counts
          have C34 := counts5 hO.tl.2
          rw [q1, q2] at C34
          have C34 := Lib.hid C34
          have HO := Lib.hid hO
          have C35 : Hid (∀ W, Os w W bt bm bp bs 4096 [] → Calls Try.prog 35 #[.pointer (some ⟨bt, 0, none⟩), .int .i64 (-1)] W fun e W' => (∃ a c, e = .returned (.tuple #[.slice a 0 c, .bool true])) ∧ Cha (fun _ => False) W W') := Lib.hid fun W h => (all_any W h.tl).mono fun e W' ⟨v, he, ho, hc⟩ => ⟨by
            rcases ho.2 with ⟨e1, _⟩ | ⟨g, cap, _, e1, _⟩
            · exact ⟨none, 0, by rw [he, e1]⟩
            · exact ⟨_, _, by rw [he, e1]; rfl⟩, hc⟩
          clear hO hR q1 q2
          go_wp2_with (first
            | (go_at_call 34; ((with_reducible refine (C34.out).mono ?_); rintro e w5 ⟨rfl, hc⟩; have HE := Lib.hid (HO.out.same hc); clear hc))
            | (go_at_call 35; ((with_reducible refine (C35.out _ HE.out).mono ?_); rintro e w6 ⟨⟨a', c', rfl⟩, hc⟩; have HF := Lib.hid (HE.out.cha.trans hc); clear hc)))
          go_ret
          exact ⟨rfl, HF.out⟩
end Go.Proofs.Ytgglcfmnhiakcaa
