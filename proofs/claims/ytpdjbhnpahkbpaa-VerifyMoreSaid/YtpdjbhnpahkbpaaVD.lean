/- Check: the head of a function. -/
import Derived.Test.YtpdjbhnpahkbpaaVB
import Derived.Test.YtpdjbhnpahkbpaaAB
namespace Go.Proofs.Ytpdjbhnpahkbpaa
set_option linter.unusedVariables false
open Go.ChangeShapes Go.WideShapes Go.ChangeAt Go.RowKit
/-- The op of a code's last instruction. -/
def lastOp (l : List IZ) : Int := match l.getLast? with | some i => i.op | none => 0
/-- Is a list of kinds well, where there are n types? Of slots: references may be among them. -/
def kindsZ (l : List Int) (n : Int) : Prop := ∀ k ∈ l, kindZ k n = true
def slotsZ (l : List Int) (n : Int) : Prop := ∀ k ∈ l, k = 2 ∨ kindZ k n = true
instance (l : List Int) (n : Int) : Decidable (kindsZ l n) := by unfold kindsZ; infer_instance
instance (l : List Int) (n : Int) : Decidable (slotsZ l n) := by unfold slotsZ; infer_instance
/-- The error of all of a function but its instructions. -/
def headZ (f : FZ) (first : Bool) (n : Int) : Int :=
  if 32 < f.sl.length ∨ 32 < f.re.length ∨ 256 < f.co.length ∨ f.pa < 0 ∨ (f.sl.length : Int) < f.pa then 16
  else if first = true ∧ (0 < f.pa ∨ 0 < f.re.length) then 13
  else if slotsZ f.sl n ∧ kindsZ f.re n then (if f.co.length = 0 ∨ lastZ (lastOp f.co) = false then 7 else 0) else 10
variable {W : World}
set_option maxRecDepth 100000 in
set_option maxHeartbeats 4000000 in
theorem head_any (pa : Int) {v1 v2 v3 : Value} {sl re : List Int} {co : List IZ} (first : Bool) (n : Int) (h1 : RdS 1 RdI (· < W.heap.size) W v1 sl) (h2 : RdS 1 RdI (· < W.heap.size) W v2 re) (h3 : RdS 6 RdIns (· < W.heap.size) W v3 co) :
    Calls Try.prog 42 #[.agg #[.int .i64 pa, v1, v2, v3], .bool first, .int .i64 n] W (Says W (.int .i64 (headZ ⟨pa, sl, re, co⟩ first n))) := by
  have V1 := Lib.hid h1
  have V2 := Lib.hid h2
  have V3 := Lib.hid h3
  have l1 := h1.len
  have l2 := h2.len
  have l3 := h3.len
  obtain ⟨a1, c1, rfl, _, _⟩ := h1
  obtain ⟨a2, c2, rfl, _, _⟩ := h2
  obtain ⟨a3, c3, rfl, _, _⟩ := h3
  have HZ : Hid (headZ ⟨pa, sl, re, co⟩ first n = _) := Lib.hid rfl
  obtain ⟨z, hz⟩ : ∃ z, z = headZ ⟨pa, sl, re, co⟩ first n := ⟨_, rfl⟩
  rw [← hz]
  have E16 : Hid (32 < sl.length ∨ 32 < re.length ∨ 256 < co.length ∨ pa < 0 ∨ (sl.length : Int) < pa → z = 16) := Lib.hid fun h => by rw [hz]; unfold headZ; exact if_pos h
  have E13 : Hid (¬ (32 < sl.length ∨ 32 < re.length ∨ 256 < co.length ∨ pa < 0 ∨ (sl.length : Int) < pa) → first = true ∧ (0 < pa ∨ 0 < re.length) → z = 13) := Lib.hid fun h g => by rw [hz]; unfold headZ; rw [if_neg h]; exact if_pos g
  have E10 : Hid (¬ (32 < sl.length ∨ 32 < re.length ∨ 256 < co.length ∨ pa < 0 ∨ (sl.length : Int) < pa) → ¬ (first = true ∧ (0 < pa ∨ 0 < re.length)) → ¬ (slotsZ sl n ∧ kindsZ re n) → z = 10) := Lib.hid fun h g k => by rw [hz]; unfold headZ; rw [if_neg h, if_neg g]; exact if_neg k
  have E7 : Hid (¬ (32 < sl.length ∨ 32 < re.length ∨ 256 < co.length ∨ pa < 0 ∨ (sl.length : Int) < pa) → ¬ (first = true ∧ (0 < pa ∨ 0 < re.length)) → (slotsZ sl n ∧ kindsZ re n) → co.length = 0 ∨ lastZ (lastOp co) = false → z = 7) := Lib.hid fun h g k q => by rw [hz]; unfold headZ; rw [if_neg h, if_neg g, if_pos k]; exact if_pos q
  have E0 : Hid (¬ (32 < sl.length ∨ 32 < re.length ∨ 256 < co.length ∨ pa < 0 ∨ (sl.length : Int) < pa) → ¬ (first = true ∧ (0 < pa ∨ 0 < re.length)) → (slotsZ sl n ∧ kindsZ re n) → ¬ (co.length = 0 ∨ lastZ (lastOp co) = false) → z = 0) := Lib.hid fun h g k q => by rw [hz]; unfold headZ; rw [if_neg h, if_neg g, if_pos k]; exact if_neg q
  have LO : Hid (∀ q y, co.length = q + 1 → co[q]? = some y → lastOp co = y.op) := Lib.hid fun q y h1 h2 => by
    unfold lastOp
    rw [List.getLast?_eq_getElem?, h1, Nat.add_sub_cancel, h2]
  clear hz HZ
  obtain ⟨m1, e1⟩ : ∃ m, m = sl.length := ⟨_, rfl⟩
  obtain ⟨m2, e2⟩ : ∃ m, m = re.length := ⟨_, rfl⟩
  obtain ⟨m3, e3⟩ : ∃ m, m = co.length := ⟨_, rfl⟩
  rw [← e1] at l1
  rw [← e2] at l2
  rw [← e3] at l3
  rw [← e1, ← e2, ← e3]
  rw [← e1, ← e2, ← e3] at E16 E13 E10 E7 E0
  rw [← e3] at LO
  have N1 := Lib.hid e1
  have N2 := Lib.hid e2
  have N3 := Lib.hid e3
  clear e1 e2 e3
  have CK : Hid (∀ w k, I64 k → Calls Try.prog 63 #[.int .i64 k, .int .i64 n] w fun e w' => e = .returned (.bool (kindZ k n)) ∧ w' = w) := Lib.hid fun w k h => kind_is k n h
  have X0 : Hid ((W.alloc (.cells #[.int .i64 pa, .slice a1 m1 c1, .slice a2 m2 c2, .slice a3 m3 c3] 55)).heap[W.heap.size]? = some (.cells #[.int .i64 pa, .slice a1 m1 c1, .slice a2 m2 c2, .slice a3 m3 c3] 55 (0, 0))) := Lib.hid (heap_alloc_new W _)
  have CB : Hid (Cha (fun _ => False) W (W.alloc (.cells #[.int .i64 pa, .slice a1 m1 c1, .slice a2 m2 c2, .slice a3 m3 c3] 55))) := Lib.hid cha_box
  have KB : Hid (∀ w, Cha (fun _ => False) (W.alloc (.cells #[.int .i64 pa, .slice a1 m1 c1, .slice a2 m2 c2, .slice a3 m3 c3] 55)) w → w.cell? ⟨W.heap.size, 2, none⟩ = some (.slice a2 m2 c2) ∧ w.cell? ⟨W.heap.size, 3, none⟩ = some (.slice a3 m3 c3)) := Lib.hid fun w h => by
    have q := (h.old W.heap.size (Array.getElem?_eq_some_iff.1 X0.out).1 (fun f => f)).trans X0.out
    exact ⟨cell_of_row w W.heap.size 2 _ 55 (0, 0) q, cell_of_row w W.heap.size 3 _ 55 (0, 0) q⟩
  obtain ⟨W0, hW0⟩ : ∃ w, w = W.alloc (.cells #[.int .i64 pa, .slice a1 m1 c1, .slice a2 m2 c2, .slice a3 m3 c3] 55) := ⟨_, rfl⟩
  rw [← hW0] at KB CB
  have C00 : Hid (Cha (fun _ => False) W0 (W.alloc (.cells #[.int .i64 pa, .slice a1 m1 c1, .slice a2 m2 c2, .slice a3 m3 c3] 55))) := Lib.hid (by rw [hW0]; exact Cha.refl _ _)
  clear hW0 X0
  by_cases g0 : 32 < m1
  · have f0 : (32 : Int) < (m1 : Int) := by omega
    have e := Lib.hid (E16.out (by omega))
    clear E16 E13 E10 E7 E0
    go_enter Try.func42, Try.ntmps42
    go_wp2
    go_ret
    exact ⟨by first | (rw [e.out]; done) | (rw [e.out]; rfl), CB.out.trans C00.out⟩
  have f0 : ¬ (32 : Int) < (m1 : Int) := by omega
  by_cases g1 : 32 < m2
  · have f1 : (32 : Int) < (m2 : Int) := by omega
    have e := Lib.hid (E16.out (by omega))
    clear E16 E13 E10 E7 E0
    go_enter Try.func42, Try.ntmps42
    go_wp2
    go_ret
    exact ⟨by first | (rw [e.out]; done) | (rw [e.out]; rfl), CB.out.trans C00.out⟩
  have f1 : ¬ (32 : Int) < (m2 : Int) := by omega
  by_cases g2 : 256 < m3
  · have f2 : (256 : Int) < (m3 : Int) := by omega
    have e := Lib.hid (E16.out (by omega))
    clear E16 E13 E10 E7 E0
    go_enter Try.func42, Try.ntmps42
    go_wp2
    go_ret
    exact ⟨by first | (rw [e.out]; done) | (rw [e.out]; rfl), CB.out.trans C00.out⟩
  have f2 : ¬ (256 : Int) < (m3 : Int) := by omega
  by_cases g3 : pa < 0
  · have f3 : pa < 0 := by omega
    have e := Lib.hid (E16.out (by omega))
    clear E16 E13 E10 E7 E0
    go_enter Try.func42, Try.ntmps42
    go_wp2
    go_ret
    exact ⟨by first | (rw [e.out]; done) | (rw [e.out]; rfl), CB.out.trans C00.out⟩
  have f3 : ¬ pa < 0 := by omega
  by_cases g4 : (m1 : Int) < pa
  · have f4 : (m1 : Int) < pa := by omega
    have e := Lib.hid (E16.out (by omega))
    clear E16 E13 E10 E7 E0
    go_enter Try.func42, Try.ntmps42
    go_wp2
    go_ret
    exact ⟨by first | (rw [e.out]; done) | (rw [e.out]; rfl), CB.out.trans C00.out⟩
  have f4 : ¬ (m1 : Int) < pa := by omega
  have NO : Hid (¬ (32 < m1 ∨ 32 < m2 ∨ 256 < m3 ∨ pa < 0 ∨ (m1 : Int) < pa)) := Lib.hid (by omega)
  cases first
  · have dummy : True := trivial
    have E10' := Lib.hid (E10.out NO.out (fun c => by cases c.1))
    have E7' := Lib.hid (E7.out NO.out (fun c => by cases c.1))
    have E0' := Lib.hid (E0.out NO.out (fun c => by cases c.1))
    clear E16 E13 E10 E7 E0 g0 g1 g2 g3 g4
    go_enter Try.func42, Try.ntmps42
    go_wp2
    go_loopw [55] (fun i wr => ∃ k : Nat, k ≤ m1 ∧ i = .int .i64 (k : Int) ∧ Cha (fun _ => False) W0 wr ∧ ∀ j, j < k → ∀ z, sl[j]? = some z → (z = 2 ∨ kindZ z n = true)) (fun i _ => m1 - (intOf i).toNat)
    case atStart => exact ⟨0, Nat.zero_le _, rfl, C00.out, fun j hj => by omega⟩
    case round =>
      obtain ⟨k, hk, rfl, hC, hA⟩ := hrel
      have C := Lib.hid hC
      have A := Lib.hid hA
      obtain ⟨d2, d3⟩ := KB.out _ hC
      clear hC hA
      by_cases hlt : k < m1
      · obtain ⟨z, hz⟩ : ∃ z, sl[k]? = some z := ⟨_, List.getElem?_eq_getElem (by have := N1.out; omega)⟩
        obtain ⟨b, o, _, he, hb, hbs, hx⟩ := (V1.out.ints (CB.out.trans C.out) (fun _ f => f.elim) (fun _ h => h) (B' := (· < W.heap.size))).at hz
        obtain rfl : a1 = some ⟨b, o, none⟩ := by injection he
        have hc2 := hx.1
        rw [Nat.mul_one] at hc2
        have CZ : Hid (∀ w, Calls Try.prog 63 #[.int .i64 z, .int .i64 n] w fun e w' => e = .returned (.bool (kindZ z n)) ∧ w' = w) := Lib.hid fun w => CK.out w z hx.2
        have HK := Lib.hid hz
        clear he hx hz hb
        have HR : Hid ((z = 2 ∨ kindZ z n = true) → ∀ j, j < k + 1 → ∀ y, sl[j]? = some y → (y = 2 ∨ kindZ y n = true)) := Lib.hid fun hh j hj y hy => by
          by_cases c : j = k
          · subst c
            have e1 := HK.out
            rw [hy] at e1
            cases e1
            exact hh
          · exact A.out j (by omega) y hy
        by_cases hz2 : z = 2
        · have HH := Lib.hid (HR.out (.inl hz2))
          subst hz2
          go_wp2
          go_roundw
          case rel => exact ⟨k + 1, by omega, by go_num, C.out, HH.out⟩
          case measure => simp [intOf]; omega
        · have hz2' : (z != 2) = true := by simpa using hz2
          have hz2n : (z == 2) = false := by simpa using hz2
          have HN2 := Lib.hid hz2
          rcases Bool.eq_false_or_eq_true (kindZ z n) with hz1 | hz1
          · have HH := Lib.hid (HR.out (.inr hz1))
            rw [hz1] at CZ
            clear hz1
            go_wp2_with (go_at_call 63; ((with_reducible refine (CZ.out _).mono ?_); rintro e w2 ⟨rfl, rfl⟩))
            go_roundw
            case rel => exact ⟨k + 1, by omega, by go_num, C.out, HH.out⟩
            case measure => simp [intOf]; omega
          · rw [hz1] at CZ
            have e := Lib.hid (E10'.out (fun c => by
              rcases c.1 z (List.mem_of_getElem? HK.out) with c | c
              · exact HN2.out c
              · rw [hz1] at c; cases c))
            clear hz1
            go_wp2_with (go_at_call 63; ((with_reducible refine (CZ.out _).mono ?_); rintro e w2 ⟨rfl, rfl⟩))
            go_ret
            exact ⟨by first | (rw [e.out]; done) | (rw [e.out]; rfl), CB.out.trans C.out⟩
      · have K1 : Hid (slotsZ sl n) := Lib.hid (fun z hz => by
          obtain ⟨j, hj⟩ := List.getElem?_of_mem hz
          exact A.out j (by have := (List.getElem?_eq_some_iff.1 hj).1; have := N1.out; omega) z hj)
        have C0 := C
        clear A C
        go_wp2
        go_loopw [71] (fun i wr => ∃ k : Nat, k ≤ m2 ∧ i = .int .i64 (k : Int) ∧ Cha (fun _ => False) W0 wr ∧ ∀ j, j < k → ∀ z, re[j]? = some z → kindZ z n = true) (fun i _ => m2 - (intOf i).toNat)
        case atStart => exact ⟨0, Nat.zero_le _, rfl, C0.out, fun j hj => by omega⟩
        case round =>
          clear d2 d3
          obtain ⟨k, hk, rfl, hC, hA⟩ := hrel
          have C := Lib.hid hC
          have A := Lib.hid hA
          obtain ⟨d2, d3⟩ := KB.out _ hC
          clear hC hA
          by_cases hlt : k < m2
          · obtain ⟨z, hz⟩ : ∃ z, re[k]? = some z := ⟨_, List.getElem?_eq_getElem (by have := N2.out; omega)⟩
            obtain ⟨b, o, _, he, hb, hbs, hx⟩ := (V2.out.ints (CB.out.trans C.out) (fun _ f => f.elim) (fun _ h => h) (B' := (· < W.heap.size))).at hz
            obtain rfl : a2 = some ⟨b, o, none⟩ := by injection he
            have hc2 := hx.1
            rw [Nat.mul_one] at hc2
            have CZ : Hid (∀ w, Calls Try.prog 63 #[.int .i64 z, .int .i64 n] w fun e w' => e = .returned (.bool (kindZ z n)) ∧ w' = w) := Lib.hid fun w => CK.out w z hx.2
            have HK := Lib.hid hz
            clear he hx hz hb
            rcases Bool.eq_false_or_eq_true (kindZ z n) with hz1 | hz1
            · have HH : Hid (∀ j, j < k + 1 → ∀ y, re[j]? = some y → kindZ y n = true) := Lib.hid fun j hj y hy => by
                by_cases c : j = k
                · subst c
                  have e1 := HK.out
                  rw [hy] at e1
                  cases e1
                  exact hz1
                · exact A.out j (by omega) y hy
              rw [hz1] at CZ
              clear hz1
              go_wp2_with (go_at_call 63; ((with_reducible refine (CZ.out _).mono ?_); rintro e w2 ⟨rfl, rfl⟩))
              go_roundw
              case rel => exact ⟨k + 1, by omega, by go_num, C.out, HH.out⟩
              case measure => simp [intOf]; omega
            · rw [hz1] at CZ
              have e := Lib.hid (E10'.out (fun c => by
                have c := c.2 z (List.mem_of_getElem? HK.out)
                rw [hz1] at c; cases c))
              clear hz1
              go_wp2_with (go_at_call 63; ((with_reducible refine (CZ.out _).mono ?_); rintro e w2 ⟨rfl, rfl⟩))
              go_ret
              exact ⟨by first | (rw [e.out]; done) | (rw [e.out]; rfl), CB.out.trans C.out⟩
          · have K2 : Hid (kindsZ re n) := Lib.hid (fun z hz => by
              obtain ⟨j, hj⟩ := List.getElem?_of_mem hz
              exact A.out j (by have := (List.getElem?_eq_some_iff.1 hj).1; have := N2.out; omega) z hj)
            clear A
            by_cases h0 : m3 = 0
            · have e := Lib.hid (E7'.out ⟨K1.out, K2.out⟩ (.inl h0))
              subst h0
              go_wp2
              go_ret
              exact ⟨by first | (rw [e.out]; done) | (rw [e.out]; rfl), CB.out.trans C.out⟩
            · obtain ⟨q, rfl⟩ : ∃ q, m3 = q + 1 := ⟨m3 - 1, by omega⟩
              obtain ⟨y, hy⟩ : ∃ y, co[q]? = some y := ⟨_, List.getElem?_eq_getElem (by have := N3.out; omega)⟩
              obtain ⟨b, o, _, he, hb, hbs, hx⟩ := (V3.out.inss (CB.out.trans C.out) (fun _ f => f.elim) (fun _ h => h) (B' := (· < W.heap.size))).at hy
              obtain rfl : a3 = some ⟨b, o, none⟩ := by injection he
              have q0 := hx.c0
              have LQ := Lib.hid (LO.out q y rfl hy)
              have hw1 : IntKind.i64.wrap (q : Int) = (q : Int) := by rw [IntKind.wrap_i64]; omega
              have hw2 : IntKind.i64.wrap ((q : Int) + 1 - 1) = (q : Int) := by rw [IntKind.wrap_i64]; omega
              have hq0 : ¬ ((q : Int) + 1 = 0) := by omega
              have hq0' : ((q : Int) + 1 == 0) = false := by simpa using hq0
              have CL : Hid (∀ w, Calls Try.prog 64 #[.int .i64 y.op] w fun e w' => e = .returned (.bool (lastZ y.op)) ∧ w' = w) := Lib.hid fun w => last_is y.op
              clear he hx hy hb
              rcases Bool.eq_false_or_eq_true (lastZ y.op) with hz1 | hz1
              · have e := Lib.hid (E0'.out ⟨K1.out, K2.out⟩ (fun c => by
                  rcases c with c | c
                  · omega
                  · rw [LQ.out, hz1] at c; cases c))
                rw [hz1] at CL
                clear hz1
                go_wp2_with (go_at_call 64; ((with_reducible refine (CL.out _).mono ?_); rintro e w2 ⟨rfl, rfl⟩))
                go_ret
                exact ⟨by first | (rw [e.out]; done) | (rw [e.out]; rfl), CB.out.trans C.out⟩
              · have e := Lib.hid (E7'.out ⟨K1.out, K2.out⟩ (.inr (by rw [LQ.out]; exact hz1)))
                rw [hz1] at CL
                clear hz1
                go_wp2_with (go_at_call 64; ((with_reducible refine (CL.out _).mono ?_); rintro e w2 ⟨rfl, rfl⟩))
                go_ret
                exact ⟨by first | (rw [e.out]; done) | (rw [e.out]; rfl), CB.out.trans C.out⟩
  · by_cases p0 : 0 < pa
    · have p0' : True := trivial
      have e := Lib.hid (E13.out NO.out ⟨rfl, by omega⟩)
      clear E16 E13 E10 E7 E0
      go_enter Try.func42, Try.ntmps42
      go_wp2
      go_ret
      exact ⟨by first | (rw [e.out]; done) | (rw [e.out]; rfl), CB.out.trans C00.out⟩
    · by_cases p1 : 0 < m2
      · have p1' : (0 : Int) < (m2 : Int) := by omega
        have e := Lib.hid (E13.out NO.out ⟨rfl, by omega⟩)
        clear E16 E13 E10 E7 E0
        go_enter Try.func42, Try.ntmps42
        go_wp2
        go_ret
        exact ⟨by first | (rw [e.out]; done) | (rw [e.out]; rfl), CB.out.trans C00.out⟩
      · have p1' : ¬ (0 : Int) < (m2 : Int) := by omega
        have E10' := Lib.hid (E10.out NO.out (fun c => by omega))
        have E7' := Lib.hid (E7.out NO.out (fun c => by omega))
        have E0' := Lib.hid (E0.out NO.out (fun c => by omega))
        clear E16 E13 E10 E7 E0 g0 g1 g2 g3 g4
        go_enter Try.func42, Try.ntmps42
        go_wp2
        go_loopw [55] (fun i wr => ∃ k : Nat, k ≤ m1 ∧ i = .int .i64 (k : Int) ∧ Cha (fun _ => False) W0 wr ∧ ∀ j, j < k → ∀ z, sl[j]? = some z → (z = 2 ∨ kindZ z n = true)) (fun i _ => m1 - (intOf i).toNat)
        case atStart => exact ⟨0, Nat.zero_le _, rfl, C00.out, fun j hj => by omega⟩
        case round =>
          obtain ⟨k, hk, rfl, hC, hA⟩ := hrel
          have C := Lib.hid hC
          have A := Lib.hid hA
          obtain ⟨d2, d3⟩ := KB.out _ hC
          clear hC hA
          by_cases hlt : k < m1
          · obtain ⟨z, hz⟩ : ∃ z, sl[k]? = some z := ⟨_, List.getElem?_eq_getElem (by have := N1.out; omega)⟩
            obtain ⟨b, o, _, he, hb, hbs, hx⟩ := (V1.out.ints (CB.out.trans C.out) (fun _ f => f.elim) (fun _ h => h) (B' := (· < W.heap.size))).at hz
            obtain rfl : a1 = some ⟨b, o, none⟩ := by injection he
            have hc2 := hx.1
            rw [Nat.mul_one] at hc2
            have CZ : Hid (∀ w, Calls Try.prog 63 #[.int .i64 z, .int .i64 n] w fun e w' => e = .returned (.bool (kindZ z n)) ∧ w' = w) := Lib.hid fun w => CK.out w z hx.2
            have HK := Lib.hid hz
            clear he hx hz hb
            have HR : Hid ((z = 2 ∨ kindZ z n = true) → ∀ j, j < k + 1 → ∀ y, sl[j]? = some y → (y = 2 ∨ kindZ y n = true)) := Lib.hid fun hh j hj y hy => by
              by_cases c : j = k
              · subst c
                have e1 := HK.out
                rw [hy] at e1
                cases e1
                exact hh
              · exact A.out j (by omega) y hy
            by_cases hz2 : z = 2
            · have HH := Lib.hid (HR.out (.inl hz2))
              subst hz2
              go_wp2
              go_roundw
              case rel => exact ⟨k + 1, by omega, by go_num, C.out, HH.out⟩
              case measure => simp [intOf]; omega
            · have hz2' : (z != 2) = true := by simpa using hz2
              have hz2n : (z == 2) = false := by simpa using hz2
              have HN2 := Lib.hid hz2
              rcases Bool.eq_false_or_eq_true (kindZ z n) with hz1 | hz1
              · have HH := Lib.hid (HR.out (.inr hz1))
                rw [hz1] at CZ
                clear hz1
                go_wp2_with (go_at_call 63; ((with_reducible refine (CZ.out _).mono ?_); rintro e w2 ⟨rfl, rfl⟩))
                go_roundw
                case rel => exact ⟨k + 1, by omega, by go_num, C.out, HH.out⟩
                case measure => simp [intOf]; omega
              · rw [hz1] at CZ
                have e := Lib.hid (E10'.out (fun c => by
                  rcases c.1 z (List.mem_of_getElem? HK.out) with c | c
                  · exact HN2.out c
                  · rw [hz1] at c; cases c))
                clear hz1
                go_wp2_with (go_at_call 63; ((with_reducible refine (CZ.out _).mono ?_); rintro e w2 ⟨rfl, rfl⟩))
                go_ret
                exact ⟨by first | (rw [e.out]; done) | (rw [e.out]; rfl), CB.out.trans C.out⟩
          · have K1 : Hid (slotsZ sl n) := Lib.hid (fun z hz => by
              obtain ⟨j, hj⟩ := List.getElem?_of_mem hz
              exact A.out j (by have := (List.getElem?_eq_some_iff.1 hj).1; have := N1.out; omega) z hj)
            have C0 := C
            clear A C
            go_wp2
            go_loopw [71] (fun i wr => ∃ k : Nat, k ≤ m2 ∧ i = .int .i64 (k : Int) ∧ Cha (fun _ => False) W0 wr ∧ ∀ j, j < k → ∀ z, re[j]? = some z → kindZ z n = true) (fun i _ => m2 - (intOf i).toNat)
            case atStart => exact ⟨0, Nat.zero_le _, rfl, C0.out, fun j hj => by omega⟩
            case round =>
              clear d2 d3
              obtain ⟨k, hk, rfl, hC, hA⟩ := hrel
              have C := Lib.hid hC
              have A := Lib.hid hA
              obtain ⟨d2, d3⟩ := KB.out _ hC
              clear hC hA
              by_cases hlt : k < m2
              · obtain ⟨z, hz⟩ : ∃ z, re[k]? = some z := ⟨_, List.getElem?_eq_getElem (by have := N2.out; omega)⟩
                obtain ⟨b, o, _, he, hb, hbs, hx⟩ := (V2.out.ints (CB.out.trans C.out) (fun _ f => f.elim) (fun _ h => h) (B' := (· < W.heap.size))).at hz
                obtain rfl : a2 = some ⟨b, o, none⟩ := by injection he
                have hc2 := hx.1
                rw [Nat.mul_one] at hc2
                have CZ : Hid (∀ w, Calls Try.prog 63 #[.int .i64 z, .int .i64 n] w fun e w' => e = .returned (.bool (kindZ z n)) ∧ w' = w) := Lib.hid fun w => CK.out w z hx.2
                have HK := Lib.hid hz
                clear he hx hz hb
                rcases Bool.eq_false_or_eq_true (kindZ z n) with hz1 | hz1
                · have HH : Hid (∀ j, j < k + 1 → ∀ y, re[j]? = some y → kindZ y n = true) := Lib.hid fun j hj y hy => by
                    by_cases c : j = k
                    · subst c
                      have e1 := HK.out
                      rw [hy] at e1
                      cases e1
                      exact hz1
                    · exact A.out j (by omega) y hy
                  rw [hz1] at CZ
                  clear hz1
                  go_wp2_with (go_at_call 63; ((with_reducible refine (CZ.out _).mono ?_); rintro e w2 ⟨rfl, rfl⟩))
                  go_roundw
                  case rel => exact ⟨k + 1, by omega, by go_num, C.out, HH.out⟩
                  case measure => simp [intOf]; omega
                · rw [hz1] at CZ
                  have e := Lib.hid (E10'.out (fun c => by
                    have c := c.2 z (List.mem_of_getElem? HK.out)
                    rw [hz1] at c; cases c))
                  clear hz1
                  go_wp2_with (go_at_call 63; ((with_reducible refine (CZ.out _).mono ?_); rintro e w2 ⟨rfl, rfl⟩))
                  go_ret
                  exact ⟨by first | (rw [e.out]; done) | (rw [e.out]; rfl), CB.out.trans C.out⟩
              · have K2 : Hid (kindsZ re n) := Lib.hid (fun z hz => by
                  obtain ⟨j, hj⟩ := List.getElem?_of_mem hz
                  exact A.out j (by have := (List.getElem?_eq_some_iff.1 hj).1; have := N2.out; omega) z hj)
                clear A
                by_cases h0 : m3 = 0
                · have e := Lib.hid (E7'.out ⟨K1.out, K2.out⟩ (.inl h0))
                  subst h0
                  go_wp2
                  go_ret
                  exact ⟨by first | (rw [e.out]; done) | (rw [e.out]; rfl), CB.out.trans C.out⟩
                · obtain ⟨q, rfl⟩ : ∃ q, m3 = q + 1 := ⟨m3 - 1, by omega⟩
                  obtain ⟨y, hy⟩ : ∃ y, co[q]? = some y := ⟨_, List.getElem?_eq_getElem (by have := N3.out; omega)⟩
                  obtain ⟨b, o, _, he, hb, hbs, hx⟩ := (V3.out.inss (CB.out.trans C.out) (fun _ f => f.elim) (fun _ h => h) (B' := (· < W.heap.size))).at hy
                  obtain rfl : a3 = some ⟨b, o, none⟩ := by injection he
                  have q0 := hx.c0
                  have LQ := Lib.hid (LO.out q y rfl hy)
                  have hw1 : IntKind.i64.wrap (q : Int) = (q : Int) := by rw [IntKind.wrap_i64]; omega
                  have hw2 : IntKind.i64.wrap ((q : Int) + 1 - 1) = (q : Int) := by rw [IntKind.wrap_i64]; omega
                  have hq0 : ¬ ((q : Int) + 1 = 0) := by omega
                  have hq0' : ((q : Int) + 1 == 0) = false := by simpa using hq0
                  have CL : Hid (∀ w, Calls Try.prog 64 #[.int .i64 y.op] w fun e w' => e = .returned (.bool (lastZ y.op)) ∧ w' = w) := Lib.hid fun w => last_is y.op
                  clear he hx hy hb
                  rcases Bool.eq_false_or_eq_true (lastZ y.op) with hz1 | hz1
                  · have e := Lib.hid (E0'.out ⟨K1.out, K2.out⟩ (fun c => by
                      rcases c with c | c
                      · omega
                      · rw [LQ.out, hz1] at c; cases c))
                    rw [hz1] at CL
                    clear hz1
                    go_wp2_with (go_at_call 64; ((with_reducible refine (CL.out _).mono ?_); rintro e w2 ⟨rfl, rfl⟩))
                    go_ret
                    exact ⟨by first | (rw [e.out]; done) | (rw [e.out]; rfl), CB.out.trans C.out⟩
                  · have e := Lib.hid (E7'.out ⟨K1.out, K2.out⟩ (.inr (by rw [LQ.out]; exact hz1)))
                    rw [hz1] at CL
                    clear hz1
                    go_wp2_with (go_at_call 64; ((with_reducible refine (CL.out _).mono ?_); rintro e w2 ⟨rfl, rfl⟩))
                    go_ret
                    exact ⟨by first | (rw [e.out]; done) | (rw [e.out]; rfl), CB.out.trans C.out⟩
end Go.Proofs.Ytpdjbhnpahkbpaa

namespace Go.Proofs.Ytpdjbhnpahkbpaa
set_option linter.unusedVariables false
open Go.ChangeShapes Go.WideShapes Go.ChangeAt Go.RowKit
/-- The first of a list whose error is not 0, and its place. -/
def fstBad {α : Type} (f : α → Int) : List α → Nat → Option (Int × Nat)
  | [], _ => none
  | x :: xs, k => if f x = 0 then fstBad f xs (k + 1) else some (f x, k)
theorem fstBad_at {α : Type} {f : α → Int} : ∀ (xs : List α) (k i : Nat) (x : α), xs[i]? = some x → f x ≠ 0 → (∀ j, j < i → ∀ y, xs[j]? = some y → f y = 0) → fstBad f xs k = some (f x, k + i)
  | [], k, i, x, h, _, _ => by simp at h
  | y :: ys, k, 0, x, h, hx, _ => by
    obtain rfl : y = x := by simpa using h
    unfold fstBad
    rw [if_neg hx]; rfl
  | y :: ys, k, i + 1, x, h, hx, hf => by
    have h0 := hf 0 (by omega) y rfl
    have h1 := fstBad_at ys (k + 1) i x (by simpa using h) hx fun j hj z hz => hf (j + 1) (by omega) z (by simpa using hz)
    unfold fstBad
    rw [if_pos h0, h1, Nat.add_assoc, Nat.add_comm 1 i]
theorem fstBad_none {α : Type} {f : α → Int} : ∀ (xs : List α) (k : Nat), (∀ x ∈ xs, f x = 0) → fstBad f xs k = none
  | [], _, _ => rfl
  | y :: ys, k, h => by
    unfold fstBad
    rw [if_pos (h y (List.mem_cons_self ..))]
    exact fstBad_none ys (k + 1) fun x hx => h x (List.mem_cons_of_mem _ hx)
/-- The first fault that lies in no function. -/
def partsZ (p : PZ) : FT :=
  if 32 < p.ty.length ∨ 32 < p.gl.length ∨ 32 < p.fu.length ∨ p.fu.length = 0 then ⟨16, -1, 0⟩
  else match fstBad (fun t => tyZ t p.ty.length) p.ty 0 with
    | some (e, k) => ⟨e, -1, k⟩
    | none => match fstBad (fun k => if kindZ k p.ty.length then 0 else 15) p.gl 0 with
      | some (e, k) => ⟨e, -1, k⟩
      | none => ⟨0, 0, 0⟩
variable {W : World}
def SaysF (W : World) (r : FT) : Ending → World → Prop := fun e w' => e = .returned (.agg #[.int .i64 r.e, .int .i64 r.f, .int .i64 r.at_]) ∧ Cha (fun _ => False) W w'
set_option maxRecDepth 100000 in
set_option maxHeartbeats 4000000 in
theorem parts_bad {a0 a1 a2 : Option Addr} {n0 n1 n2 c0 c1 c2 : Nat} (hb : 32 < n0 ∨ 32 < n1 ∨ 32 < n2 ∨ n2 = 0) : Calls Try.prog 41 #[.agg #[.slice a0 n0 c0, .slice a1 n1 c1, .slice a2 n2 c2]] W (SaysF W ⟨16, -1, 0⟩) := by
  have A := alloc2 W (.cells #[.slice a0 n0 c0, .slice a1 n1 c1, .slice a2 n2 c2] 26) (.cells #[.int .i64 0, .int .i64 0, .int .i64 0] 37)
  have C : Hid (Cha (fun _ => False) W ((W.alloc (.cells #[.slice a0 n0 c0, .slice a1 n1 c1, .slice a2 n2 c2] 26)).alloc (.cells #[.int .i64 0, .int .i64 0, .int .i64 0] 37))) := Lib.hid (((Cha.refl _ W).alloc _).alloc _)
  have y0 := cell_of_row _ (W.heap.size + 1) 0 _ 37 (0, 0) A.2
  have y1 := cell_of_row _ (W.heap.size + 1) 1 _ 37 (0, 0) A.2
  have y2 := cell_of_row _ (W.heap.size + 1) 2 _ 37 (0, 0) A.2
  have z0 := frozen_of_row _ (W.heap.size + 1) 0 _ 37 A.2
  have z1 := frozen_of_row _ (W.heap.size + 1) 1 _ 37 A.2
  have z2 := frozen_of_row _ (W.heap.size + 1) 2 _ 37 A.2
  clear A
  by_cases g0 : 32 < n0
  · have f0 : (32 : Int) < (n0 : Int) := by omega
    clear hb
    go_enter Try.func41, Try.ntmps41
    go_wp2
    exact bodyPost_ret (v := .agg #[.int .i64 16, .int .i64 (-1), .int .i64 0]) (by simp [results, Try.results41, go_sem, y0, y1, y2, z0, z1, z2]) rfl ⟨rfl, ((Cha.refl _ W).alloc _).alloc _⟩
  have f0 : ¬ (32 : Int) < (n0 : Int) := by omega
  by_cases g1 : 32 < n1
  · have f1 : (32 : Int) < (n1 : Int) := by omega
    clear hb
    go_enter Try.func41, Try.ntmps41
    go_wp2
    exact bodyPost_ret (v := .agg #[.int .i64 16, .int .i64 (-1), .int .i64 0]) (by simp [results, Try.results41, go_sem, y0, y1, y2, z0, z1, z2]) rfl ⟨rfl, ((Cha.refl _ W).alloc _).alloc _⟩
  have f1 : ¬ (32 : Int) < (n1 : Int) := by omega
  by_cases g2 : 32 < n2
  · have f2 : (32 : Int) < (n2 : Int) := by omega
    clear hb
    go_enter Try.func41, Try.ntmps41
    go_wp2
    exact bodyPost_ret (v := .agg #[.int .i64 16, .int .i64 (-1), .int .i64 0]) (by simp [results, Try.results41, go_sem, y0, y1, y2, z0, z1, z2]) rfl ⟨rfl, ((Cha.refl _ W).alloc _).alloc _⟩
  have f2 : ¬ (32 : Int) < (n2 : Int) := by omega
  have g3 : n2 = 0 := by omega
  subst g3
  clear hb
  go_enter Try.func41, Try.ntmps41
  go_wp2
  exact bodyPost_ret (v := .agg #[.int .i64 16, .int .i64 (-1), .int .i64 0]) (by simp [results, Try.results41, go_sem, y0, y1, y2, z0, z1, z2]) rfl ⟨rfl, ((Cha.refl _ W).alloc _).alloc _⟩
set_option maxRecDepth 100000 in
set_option maxHeartbeats 4000000 in
theorem parts_good {v0 v1 v2 : Value} {ty : List TZ} {gl : List Int} {fu : List FZ} (h0 : RdS 2 RdTy (· < W.heap.size) W v0 ty) (h1 : RdS 1 RdI (· < W.heap.size) W v1 gl) (h2 : RdS 4 RdFn (· < W.heap.size) W v2 fu) (hb : ¬ (32 < ty.length ∨ 32 < gl.length ∨ 32 < fu.length ∨ fu.length = 0)) :
    Calls Try.prog 41 #[.agg #[v0, v1, v2]] W (SaysF W (partsZ ⟨ty, gl, fu⟩)) := by
  have V0 := Lib.hid h0
  have V1 := Lib.hid h1
  obtain ⟨a0, c0, rfl, _, _⟩ := h0
  obtain ⟨a1, c1, rfl, _, _⟩ := h1
  obtain ⟨a2, c2, rfl, _, _⟩ := h2
  obtain ⟨z, hz⟩ : ∃ z, z = partsZ ⟨ty, gl, fu⟩ := ⟨_, rfl⟩
  have ET : Hid (∀ e k, fstBad (fun t => tyZ t ty.length) ty 0 = some (e, k) → z = ⟨e, -1, k⟩) := Lib.hid fun e k h => by rw [hz]; unfold partsZ; rw [if_neg hb]; simp only [h]
  have EG : Hid (∀ e k, fstBad (fun t => tyZ t ty.length) ty 0 = none → fstBad (fun k => if kindZ k ty.length then 0 else 15) gl 0 = some (e, k) → z = ⟨e, -1, k⟩) := Lib.hid fun e k h g => by rw [hz]; unfold partsZ; rw [if_neg hb]; simp only [h, g]
  have EO : Hid (fstBad (fun t => tyZ t ty.length) ty 0 = none → fstBad (fun k => if kindZ k ty.length then 0 else 15) gl 0 = none → z = ⟨0, 0, 0⟩) := Lib.hid fun h g => by rw [hz]; unfold partsZ; rw [if_neg hb]; simp only [h, g]
  rw [← hz]
  clear hz
  obtain ⟨n0, e0⟩ : ∃ n, n = ty.length := ⟨_, rfl⟩
  obtain ⟨n1, e1⟩ : ∃ n, n = gl.length := ⟨_, rfl⟩
  obtain ⟨n2, e2⟩ : ∃ n, n = fu.length := ⟨_, rfl⟩
  rw [← e0, ← e1, ← e2] at hb
  rw [← e0] at ET EG EO
  rw [← e0, ← e1, ← e2]
  have N0 := Lib.hid e0
  have N1 := Lib.hid e1
  clear e0 e1 e2
  have f0 : ¬ (32 : Int) < (n0 : Int) := by omega
  have f1 : ¬ (32 : Int) < (n1 : Int) := by omega
  have f2 : ¬ (32 : Int) < (n2 : Int) := by omega
  have f3 : ¬ (n2 : Int) = 0 := by omega
  have f3' : ((n2 : Int) == 0) = false := by simpa using f3
  have A := Lib.hid (alloc2 W (.cells #[.slice a0 n0 c0, .slice a1 n1 c1, .slice a2 n2 c2] 26) (.cells #[.int .i64 0, .int .i64 0, .int .i64 0] 37))
  have C1 : Hid (Cha (fun _ => False) W ((W.alloc (.cells #[.slice a0 n0 c0, .slice a1 n1 c1, .slice a2 n2 c2] 26)).alloc (.cells #[.int .i64 0, .int .i64 0, .int .i64 0] 37))) := Lib.hid (((Cha.refl _ W).alloc _).alloc _)
  obtain ⟨W1, hW1⟩ : ∃ w, w = ((W.alloc (.cells #[.slice a0 n0 c0, .slice a1 n1 c1, .slice a2 n2 c2] 26)).alloc (.cells #[.int .i64 0, .int .i64 0, .int .i64 0] 37)) := ⟨_, rfl⟩
  have C00 : Hid (Cha (fun _ => False) W1 ((W.alloc (.cells #[.slice a0 n0 c0, .slice a1 n1 c1, .slice a2 n2 c2] 26)).alloc (.cells #[.int .i64 0, .int .i64 0, .int .i64 0] 37))) := Lib.hid (by rw [hW1]; exact Cha.refl _ _)
  rw [← hW1] at A C1
  clear hW1
  have KB : Hid (∀ w, Cha (fun _ => False) W1 w → (w.cell? ⟨W.heap.size, 0, none⟩ = some (.slice a0 n0 c0) ∧ w.cell? ⟨W.heap.size, 1, none⟩ = some (.slice a1 n1 c1)) ∧ (w.cell? ⟨W.heap.size + 1, 0, none⟩ = some (.int .i64 0) ∧ w.cell? ⟨W.heap.size + 1, 1, none⟩ = some (.int .i64 0) ∧ w.cell? ⟨W.heap.size + 1, 2, none⟩ = some (.int .i64 0)) ∧ w.frozen? ⟨W.heap.size + 1, 0, none⟩ = false ∧ w.frozen? ⟨W.heap.size + 1, 1, none⟩ = false ∧ w.frozen? ⟨W.heap.size + 1, 2, none⟩ = false) := Lib.hid fun w h => by
    have q := (h.old _ (Array.getElem?_eq_some_iff.1 A.out.1).1 (fun f => f)).trans A.out.1
    have r := (h.old _ (Array.getElem?_eq_some_iff.1 A.out.2).1 (fun f => f)).trans A.out.2
    exact ⟨⟨cell_of_row w _ 0 _ 26 (0, 0) q, cell_of_row w _ 1 _ 26 (0, 0) q⟩, ⟨cell_of_row w _ 0 _ 37 (0, 0) r, cell_of_row w _ 1 _ 37 (0, 0) r, cell_of_row w _ 2 _ 37 (0, 0) r⟩, frozen_of_row w _ 0 _ 37 r, frozen_of_row w _ 1 _ 37 r, frozen_of_row w _ 2 _ 37 r⟩
  clear A hb
  go_enter Try.func41, Try.ntmps41
  go_wp2
  go_loopw [34] (fun i wr => ∃ k : Nat, k ≤ n0 ∧ i = .int .i64 (k : Int) ∧ Cha (fun _ => False) W1 wr ∧ ∀ j, j < k → ∀ t, ty[j]? = some t → tyZ t n0 = 0) (fun i _ => n0 - (intOf i).toNat)
  case atStart => exact ⟨0, Nat.zero_le _, rfl, C00.out, fun j hj => by omega⟩
  case round =>
    obtain ⟨k, hk, rfl, hC, hA⟩ := hrel
    have C := Lib.hid hC
    have A := Lib.hid hA
    obtain ⟨⟨b0, b1⟩, ⟨y0, y1, y2⟩, z0, z1, z2⟩ := KB.out _ hC
    clear hC hA
    by_cases hlt : k < n0
    · obtain ⟨t, ht⟩ : ∃ t, ty[k]? = some t := ⟨_, List.getElem?_eq_getElem (by have := N0.out; omega)⟩
      obtain ⟨b, o, _, he, hb, hbs, hx⟩ := (V0.out.tys (C1.out.trans C.out) (fun _ f => f.elim) (fun _ h => h) (B' := (· < W.heap.size))).at ht
      obtain rfl : a0 = some ⟨b, o, none⟩ := by injection he
      obtain ⟨lv, q1, r1⟩ := hx.c1
      have q0 := hx.c0
      have R1 := Lib.hid r1
      obtain ⟨la, lc, rfl, _⟩ := r1
      have HK := Lib.hid ht
      have CT : Hid (∀ ob, Calls Try.prog 62 #[.agg #[.bool t.ar, .slice la t.fi.length lc], .int .i64 (n0 : Int)] (wr.alloc ob) (Says (wr.alloc ob) (.int .i64 (tyZ t n0)))) := Lib.hid fun ob => type_any t.ar n0 (R1.out.ints ((Cha.refl (fun _ => False) wr).alloc ob) (fun _ f => f.elim) (fun i hi => by have hi : i < W.heap.size := hi; have h1 := (C1.out.trans C.out).size; rw [World.size_alloc]; omega))
      clear he hx ht hb
      have s0 : W.heap.size < wr.heap.size := block_lt_of_cell b0
      have b0' : (wr.alloc (.cells #[.bool t.ar, .slice la t.fi.length lc] 69)).cell? ⟨W.heap.size, 0, none⟩ = some (.slice (some ⟨b, o, none⟩) n0 c0) := (KB.out _ (C.out.alloc _)).1.1
      obtain ⟨E, hE⟩ : ∃ E, E = tyZ t n0 := ⟨_, rfl⟩
      rw [← hE] at CT
      have HE := Lib.hid hE
      clear hE
      by_cases hz : E = 0
      · have HH : Hid (∀ j, j < k + 1 → ∀ y, ty[j]? = some y → tyZ y n0 = 0) := Lib.hid fun j hj y hy => by
          by_cases c : j = k
          · subst c
            have e1 := HK.out
            rw [hy] at e1
            cases e1
            rw [← HE.out]; exact hz
          · exact A.out j (by omega) y hy
        subst hz
        go_wp2_with (go_at_call 62; ((with_reducible refine (CT.out _).mono ?_); rintro e w2 ⟨rfl, k2⟩; have C2 := Lib.hid ((C.out.alloc _).trans k2); clear k2))
        go_roundw
        case rel => exact ⟨k + 1, by omega, by go_num, C2.out, HH.out⟩
        case measure => simp [intOf]; omega
      · have e := Lib.hid (ET.out _ _ (fstBad_at (f := fun t => tyZ t n0) ty 0 k t HK.out (by show tyZ t n0 ≠ 0; rw [← HE.out]; exact hz) A.out))
        have e : Hid (z = ⟨E, -1, (k : Int)⟩) := Lib.hid (by rw [e.out, Nat.zero_add, HE.out])
        have hz1 : (E != 0) = true := by simpa using hz
        have hz2 : (E == 0) = false := by simpa using hz
        go_wp2_with (go_at_call 62; ((with_reducible refine (CT.out _).mono ?_); rintro e w2 ⟨rfl, k2⟩; have C2 := Lib.hid ((C.out.alloc _).trans k2); clear k2 b0 b1 y0 y1 y2 z0 z1 z2; obtain ⟨⟨b0, b1⟩, ⟨y0, y1, y2⟩, z0, z1, z2⟩ := KB.out _ C2.out))
        refine bodyPost_ret (v := .agg #[.int .i64 E, .int .i64 (-1), .int .i64 (k : Int)]) (by simp [results, Try.results41, go_sem, y0, y1, y2, z0, z1, z2]) rfl ?_
        exact ⟨by rw [e.out], (C1.out.trans C2.out).over (puts_cha (W.heap.size + 1) [.int .i64 E, .int .i64 (-1), .int .i64 (k : Int)] _ 0) (fun i e => by have e : i = W.heap.size + 1 := e; exact .inr (by omega))⟩
    · have NT : Hid (fstBad (fun t => tyZ t n0) ty 0 = none) := Lib.hid (fstBad_none ty 0 fun t ht => by
        obtain ⟨j, hj⟩ := List.getElem?_of_mem ht
        exact A.out j (by have := (List.getElem?_eq_some_iff.1 hj).1; have := N0.out; omega) t hj)
      have C0 := C
      clear A C
      go_wp2
      go_loopw [53] (fun i wr => ∃ k : Nat, k ≤ n1 ∧ i = .int .i64 (k : Int) ∧ Cha (fun _ => False) W1 wr ∧ ∀ j, j < k → ∀ y, gl[j]? = some y → kindZ y n0 = true) (fun i _ => n1 - (intOf i).toNat)
      case atStart => exact ⟨0, Nat.zero_le _, rfl, C0.out, fun j hj => by omega⟩
      case round =>
        clear b0 b1 y0 y1 y2 z0 z1 z2
        obtain ⟨k, hk, rfl, hC, hA⟩ := hrel
        have C := Lib.hid hC
        have A := Lib.hid hA
        obtain ⟨⟨b0, b1⟩, ⟨y0, y1, y2⟩, z0, z1, z2⟩ := KB.out _ hC
        clear hC hA
        by_cases hlt : k < n1
        · obtain ⟨y, hy⟩ : ∃ y, gl[k]? = some y := ⟨_, List.getElem?_eq_getElem (by have := N1.out; omega)⟩
          obtain ⟨b, o, _, he, hb, hbs, hx⟩ := (V1.out.ints (C1.out.trans C.out) (fun _ f => f.elim) (fun _ h => h) (B' := (· < W.heap.size))).at hy
          obtain rfl : a1 = some ⟨b, o, none⟩ := by injection he
          have hc2 := hx.1
          rw [Nat.mul_one] at hc2
          have CZ : Hid (∀ w, Calls Try.prog 63 #[.int .i64 y, .int .i64 (n0 : Int)] w fun e w' => e = .returned (.bool (kindZ y n0)) ∧ w' = w) := Lib.hid fun w => kind_is y n0 hx.2
          have HK := Lib.hid hy
          clear he hx hy hb
          rcases Bool.eq_false_or_eq_true (kindZ y n0) with hz1 | hz1
          · have HH : Hid (∀ j, j < k + 1 → ∀ x, gl[j]? = some x → kindZ x n0 = true) := Lib.hid fun j hj x hx => by
              by_cases c : j = k
              · subst c
                have e1 := HK.out
                rw [hx] at e1
                cases e1
                exact hz1
              · exact A.out j (by omega) x hx
            rw [hz1] at CZ
            clear hz1
            go_wp2_with (go_at_call 63; ((with_reducible refine (CZ.out _).mono ?_); rintro e w2 ⟨rfl, rfl⟩))
            go_roundw
            case rel => exact ⟨k + 1, by omega, by go_num, C.out, HH.out⟩
            case measure => simp [intOf]; omega
          · have hq : (if kindZ y n0 then (0 : Int) else 15) = 15 := by rw [hz1]; rfl
            have e := Lib.hid (EG.out _ _ NT.out (fstBad_at (f := fun k => if kindZ k n0 then (0 : Int) else 15) gl 0 k y HK.out (by show (if kindZ y n0 then (0 : Int) else 15) ≠ 0; rw [hq]; decide) (fun j hj x hx => by show (if kindZ x n0 then (0 : Int) else 15) = 0; rw [A.out j hj x hx]; rfl)))
            have e : Hid (z = ⟨15, -1, (k : Int)⟩) := Lib.hid (by rw [e.out, Nat.zero_add]; show (⟨if kindZ y n0 then (0 : Int) else 15, -1, (k : Int)⟩ : FT) = _; rw [hq])
            rw [hz1] at CZ
            clear hz1 hq
            go_wp2_with (go_at_call 63; ((with_reducible refine (CZ.out _).mono ?_); rintro e w2 ⟨rfl, rfl⟩))
            refine bodyPost_ret (v := .agg #[.int .i64 15, .int .i64 (-1), .int .i64 (k : Int)]) (by simp [results, Try.results41, go_sem, y0, y1, y2, z0, z1, z2]) rfl ?_
            exact ⟨by rw [e.out], (C1.out.trans C.out).over (puts_cha (W.heap.size + 1) [.int .i64 15, .int .i64 (-1), .int .i64 (k : Int)] _ 0) (fun i e => by have e : i = W.heap.size + 1 := e; exact .inr (by omega))⟩
        · have e : Hid (z = ⟨0, 0, 0⟩) := Lib.hid (EO.out NT.out (fstBad_none gl 0 fun x hx => by
            obtain ⟨j, hj⟩ := List.getElem?_of_mem hx
            show (if kindZ x n0 then (0 : Int) else 15) = 0
            rw [A.out j (by have := (List.getElem?_eq_some_iff.1 hj).1; have := N1.out; omega) x hj]; rfl))
          go_wp2
          refine bodyPost_ret (v := .agg #[.int .i64 0, .int .i64 0, .int .i64 0]) (by simp [results, Try.results41, go_sem, y0, y1, y2, z0, z1, z2]) rfl ?_
          exact ⟨by rw [e.out], (C1.out.trans C.out).over (puts_cha (W.heap.size + 1) [.int .i64 0, .int .i64 0, .int .i64 0] _ 0) (fun i e => by have e : i = W.heap.size + 1 := e; exact .inr (by omega))⟩
end Go.Proofs.Ytpdjbhnpahkbpaa
