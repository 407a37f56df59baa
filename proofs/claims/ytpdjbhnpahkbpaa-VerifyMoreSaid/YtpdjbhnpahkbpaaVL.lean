/- Check: a list of slots against kinds; does a list of kinds hold one? -/
import Derived.Test.YtpdjbhnpahkbpaaVK
namespace Go.Proofs.Ytpdjbhnpahkbpaa
set_option linter.unusedVariables false
open Go.ChangeShapes Go.WideShapes Go.ChangeAt Go.RowKit
section
variable {W w w' : World} {x : SV} {p : PZ} {f : FZ} {i : IZ}
theorem index_any {a : Option Addr} {n c : Nat} {L : List Int} (h : RdS 1 RdI (· < W.heap.size) W (.slice a n c) L) (hn : n = L.length) (z : Int) : Calls Try.prog 125 #[.slice a n c, .int .i64 z] W fun e w' => ∃ r : Int, e = .returned (.int .i64 r) ∧ (0 ≤ r ↔ z ∈ L) ∧ W = w' := by
  have HL := Lib.hid h
  have HN := Lib.hid hn
  have hl := h.len
  rw [← hn] at hl
  clear h hn
  go_enter Try.func125, Try.ntmps125
  go_wp2
  go_loopw [8] (fun i wr => ∃ k : Nat, k ≤ n ∧ i = .int .i64 (k : Int) ∧ (∀ j, j < k → ∀ y, L[j]? = some y → y ≠ z) ∧ W = wr) (fun i _ => n - (intOf i).toNat)
  case atStart => exact ⟨0, Nat.zero_le _, rfl, fun j hj => by omega, rfl⟩
  case round =>
    obtain ⟨k, hk, rfl, hA, rfl⟩ := hrel
    have A := Lib.hid hA
    clear hA
    by_cases hlt : k < n
    · obtain ⟨y, hy⟩ : ∃ y, L[k]? = some y := ⟨_, List.getElem?_eq_getElem (by have := HN.out; omega)⟩
      obtain ⟨b, o, _, he, hb, hbs, hx⟩ := HL.out.at hy
      obtain rfl : a = some ⟨b, o, none⟩ := by injection he
      have hc2 := hx.1
      rw [Nat.mul_one] at hc2
      have HK := Lib.hid hy
      clear he hx hy hb
      by_cases hz : z = y
      · subst hz
        go_wp2
        go_ret
        exact ⟨_, rfl, ⟨fun _ => List.mem_of_getElem? HK.out, fun _ => by omega⟩, rfl⟩
      · have HH : Hid (∀ j, j < k + 1 → ∀ q, L[j]? = some q → q ≠ z) := Lib.hid fun j hj q hq => by
          by_cases c : j = k
          · rw [c, HK.out] at hq
            cases hq
            exact fun e => hz e.symm
          · exact A.out j (by omega) q hq
        have h1 : (z == y) = false := by simpa using hz
        clear hz
        go_wp2
        go_roundw
        case rel => exact ⟨k + 1, by omega, by go_num, HH.out, by first | rfl | trivial⟩
        case measure => simp [intOf]; omega
    · go_wp2
      go_ret
      refine ⟨_, rfl, ⟨fun e => by omega, fun e => ?_⟩, rfl⟩
      obtain ⟨j, hj⟩ := List.getElem?_of_mem e
      exact absurd rfl (A.out j (by have := (List.getElem?_eq_some_iff.1 hj).1; have := HN.out; omega) z hj)
theorem contains_any {a : Option Addr} {n c : Nat} {L : List Int} (h : RdS 1 RdI (· < W.heap.size) W (.slice a n c) L) (hn : n = L.length) (z : Int) : Calls Try.prog 117 #[.slice a n c, .int .i64 z] W fun e w' => e = .returned (.bool (decide (z ∈ L))) ∧ W = w' := by
  have C := Lib.hid (index_any h hn z)
  by_cases hz : z ∈ L
  · have hd : decide (z ∈ L) = true := decide_eq_true hz
    have HZ := Lib.hid hz
    rw [hd]
    clear h hn hz hd
    go_enter Try.func117, Try.ntmps117
    go_wp2_with (go_at_call 125; ((with_reducible refine (C.out).mono ?_); rintro e w1 ⟨r, rfl, k1, rfl⟩; have h0 : 0 ≤ r := k1.2 HZ.out; clear k1))
    go_ret
    exact ⟨by first | rfl | simp [h0], rfl⟩
  · have hd : decide (z ∈ L) = false := decide_eq_false hz
    have HZ := Lib.hid hz
    rw [hd]
    clear h hn hz hd
    go_enter Try.func117, Try.ntmps117
    go_wp2_with (go_at_call 125; ((with_reducible refine (C.out).mono ?_); rintro e w1 ⟨r, rfl, k1, rfl⟩; have h0 : ¬ 0 ≤ r := fun c => HZ.out (k1.1 c); clear k1))
    go_ret
    exact ⟨by first | rfl | simp [h0], rfl⟩
theorem keeps_w : Keeps 2 RdW := fun _ _ _ _ _ _ _ h hc _ _ => ⟨(hc 0 (by omega)).trans h.1, (hc 1 (by omega)).trans h.2⟩
theorem info_want : (Try.prog.info? 137).map (fun i => (i.zero, i.size, i.bytes)) = some (some (.agg #[.int .i64 0, .int .i64 0]), 2, 16) := by kernel_rfl
theorem mkslice_i (t e : TypeId) (m size bytes : Nat) (z : Value) (ht : Try.prog.underlying t = some (.slice e)) (hi : (Try.prog.info? e).map (fun i => (i.zero, i.size, i.bytes)) = some (some z, size, bytes)) (hm : m ≤ 1000) (hb : bytes ≤ 1000) (W : World) :
    (Instr.makeSlice t (.int .i64 (m : Int)) (.int .i64 (m : Int))).run Try.prog W = .ok (.slice (some ⟨W.heap.size, 0, none⟩) m m) (W.alloc (.cells (madeCells z.cells (m * size)) e)) := by
  obtain ⟨i, hi, hz, hs, hb2⟩ := info_parts hi
  have hmb : bytes * m ≤ 1000 * 1000 := Nat.mul_le_mul hb hm
  have hq : ((bytes : Int) * (m : Int)) = ((bytes * m : Nat) : Int) := by simp
  have h := run_make (P := Try.prog) W t e i _ ht hi hz .i64 .i64 (m : Int) (m : Int) (by omega) (by omega) (by rw [hb2]; omega) (by omega)
  rw [hs, Int.toNat_natCast] at h
  exact h
set_option maxRecDepth 100000 in
set_option maxHeartbeats 1000000 in
theorem list_any (h : Sit W x p f i) {aK : Option Addr} {nK cK : Nat} {ks : List Int} (hk : RdS 1 RdI (· < W.heap.size) W (.slice aK nK cK) ks) (hnK : nK = ks.length) (hm : nK ≤ 1000) : Calls Try.prog 96 #[x.v f i, .slice aK nK cK] W (Says W (.int .i64 (listZ f.sl i.l ks))) := by
  have CS : Hid (∀ w g ws, Cha (fun _ => False) W w → RdS 2 RdW (· < w.heap.size) w (.slice (some ⟨g, 0, none⟩) nK nK) ws → nK = ws.length → Calls Try.prog 89 #[x.v f i, .slice (some ⟨g, 0, none⟩) nK nK] w (Says w (.int .i64 (wantsZ f.sl ws)))) := Lib.hid fun w g ws c hw hn => slots_any (h.cha c) hw hn
  have HLI := Lib.hid h.li
  have HKS := Lib.hid hk
  have hnL := h.eL
  have HNK := Lib.hid hnK
  obtain ⟨R, hR⟩ : ∃ R, R = listZ f.sl i.l ks := ⟨_, rfl⟩
  have E1 : Hid (x.nL ≠ nK → R = 16) := Lib.hid fun e => by rw [hR]; exact if_neg (by rw [← hnL, ← hnK]; exact e)
  have E2 : Hid (x.nL = nK → R = wantsZ f.sl (i.l.zip ks)) := Lib.hid fun e => by rw [hR]; exact if_pos (by rw [← hnL, ← hnK]; exact e)
  have HNL := Lib.hid hnL
  have hlL := h.li.len
  rw [← hnL] at hlL
  rw [← hR]
  clear h hk hnK hR hnL
  obtain ⟨aT, nT, cT, aG, nG, cG, aF, nF, cF, aS, nS, cS, aR, nR, cR, aC, nC, cC, aL, nL, cL⟩ := x
  obtain ⟨pa, sl, re, co⟩ := f
  obtain ⟨op, a, b, c, im, li⟩ := i
  dsimp only [SV.v] at *
  by_cases h0 : nL = nK
  · subst h0
    have e := Lib.hid (E2.out rfl)
    have hmk := fun W => mkslice_i 143 137 nL 2 16 _ Try.underlying143 info_want hm (by decide) W
    have HZ : Hid ((li.zip ks).length = nL) := Lib.hid (by rw [List.length_zip, ← HNL.out, ← HNK.out, Nat.min_self])
    have C1 : Hid (Cha (fun _ => False) W (W.alloc (.cells #[.slice aT nT cT, .slice aG nG cG, .slice aF nF cF, .int .i64 pa, .slice aS nS cS, .slice aR nR cR, .slice aC nC cC, .int .i64 op, .int .i64 a, .int .i64 b, .int .i64 c, .int .u64 (im : Int), .slice aL nL cL] 92))) := Lib.hid cha_box
    have s1 : (W.alloc (.cells #[.slice aT nT cT, .slice aG nG cG, .slice aF nF cF, .int .i64 pa, .slice aS nS cS, .slice aR nR cR, .slice aC nC cC, .int .i64 op, .int .i64 a, .int .i64 b, .int .i64 c, .int .u64 (im : Int), .slice aL nL cL] 92)).heap.size = W.heap.size + 1 := World.size_alloc ..
    have HI0 : Hid (Items 2 RdW 137 ((W.alloc (.cells #[.slice aT nT cT, .slice aG nG cG, .slice aF nF cF, .int .i64 pa, .slice aS nS cS, .slice aR nR cR, .slice aC nC cC, .int .i64 op, .int .i64 a, .int .i64 b, .int .i64 c, .int .u64 (im : Int), .slice aL nL cL] 92)).alloc (.cells (madeCells #[.int .i64 0, .int .i64 0] (nL * 2)) 137)) (W.heap.size + 1) nL ((li.zip ks).take 0)) := Lib.hid (by
      have q := heap_alloc_new (W.alloc (.cells #[.slice aT nT cT, .slice aG nG cG, .slice aF nF cF, .int .i64 pa, .slice aS nS cS, .slice aR nR cR, .slice aC nC cC, .int .i64 op, .int .i64 a, .int .i64 b, .int .i64 c, .int .u64 (im : Int), .slice aL nL cL] 92)) (.cells (madeCells #[.int .i64 0, .int .i64 0] (nL * 2)) 137)
      rw [s1] at q
      exact ⟨⟨_, q, by rw [size_madeCells]⟩, fun i x hi => by simp at hi⟩)
    have HC0 : Hid (Cha (fun _ => False) (W.alloc (.cells #[.slice aT nT cT, .slice aG nG cG, .slice aF nF cF, .int .i64 pa, .slice aS nS cS, .slice aR nR cR, .slice aC nC cC, .int .i64 op, .int .i64 a, .int .i64 b, .int .i64 c, .int .u64 (im : Int), .slice aL nL cL] 92)) ((W.alloc (.cells #[.slice aT nT cT, .slice aG nG cG, .slice aF nF cF, .int .i64 pa, .slice aS nS cS, .slice aR nR cR, .slice aC nC cC, .int .i64 op, .int .i64 a, .int .i64 b, .int .i64 c, .int .u64 (im : Int), .slice aL nL cL] 92)).alloc (.cells (madeCells #[.int .i64 0, .int .i64 0] (nL * 2)) 137))) := Lib.hid cha_box
    have KB : Hid (∀ w', Cha (fun _ => False) (W.alloc (.cells #[.slice aT nT cT, .slice aG nG cG, .slice aF nF cF, .int .i64 pa, .slice aS nS cS, .slice aR nR cR, .slice aC nC cC, .int .i64 op, .int .i64 a, .int .i64 b, .int .i64 c, .int .u64 (im : Int), .slice aL nL cL] 92)) w' → w'.cell? ⟨W.heap.size, 0, none⟩ = some (.slice aT nT cT) ∧ w'.cell? ⟨W.heap.size, 1, none⟩ = some (.slice aG nG cG) ∧ w'.cell? ⟨W.heap.size, 2, none⟩ = some (.slice aF nF cF) ∧ w'.cell? ⟨W.heap.size, 3, none⟩ = some (.int .i64 pa) ∧ w'.cell? ⟨W.heap.size, 4, none⟩ = some (.slice aS nS cS) ∧ w'.cell? ⟨W.heap.size, 5, none⟩ = some (.slice aR nR cR) ∧ w'.cell? ⟨W.heap.size, 6, none⟩ = some (.slice aC nC cC) ∧ w'.cell? ⟨W.heap.size, 7, none⟩ = some (.int .i64 op) ∧ w'.cell? ⟨W.heap.size, 8, none⟩ = some (.int .i64 a) ∧ w'.cell? ⟨W.heap.size, 9, none⟩ = some (.int .i64 b) ∧ w'.cell? ⟨W.heap.size, 10, none⟩ = some (.int .i64 c) ∧ w'.cell? ⟨W.heap.size, 11, none⟩ = some (.int .u64 (im : Int)) ∧ w'.cell? ⟨W.heap.size, 12, none⟩ = some (.slice aL nL cL)) := Lib.hid fun w' h => site_keep h
    have S1 := Lib.hid s1
    clear E1 E2 s1
    go_enter Try.func96, Try.ntmps96
    go_wp2
    clear hmk
    obtain ⟨W0, hW0⟩ : ∃ w, w = (W.alloc (.cells #[.slice aT nT cT, .slice aG nG cG, .slice aF nF cF, .int .i64 pa, .slice aS nS cS, .slice aR nR cR, .slice aC nC cC, .int .i64 op, .int .i64 a, .int .i64 b, .int .i64 c, .int .u64 (im : Int), .slice aL nL cL] 92)) := ⟨_, rfl⟩
    rw [← hW0] at HC0 KB C1 S1 HI0 ⊢
    clear hW0
    obtain ⟨g, hg⟩ : ∃ g, g = W.heap.size + 1 := ⟨_, rfl⟩
    rw [← hg] at HI0 S1 ⊢
    have HG := Lib.hid hg
    clear hg
    go_loopw [20] (fun i wr => ∃ k : Nat, k ≤ nL ∧ i = .int .i64 (k : Int) ∧ Items 2 RdW 137 wr g nL ((li.zip ks).take k) ∧ Cha (fun _ => False) W0 wr) (fun i _ => nL - (intOf i).toNat)
    case atStart => exact ⟨0, Nat.zero_le _, rfl, HI0.out, HC0.out⟩
    case round =>
      obtain ⟨k, hk, rfl, hI, hC⟩ := hrel
      have HI := Lib.hid hI
      have C := Lib.hid hC
      obtain ⟨b0, b1, b2, b3, b4, b5, b6, b7, b8, b9, b10, b11, b12⟩ := KB.out _ hC
      have hgs : g < wr.heap.size := by
        obtain ⟨cs, h1, _⟩ := hI.row
        exact (Array.getElem?_eq_some_iff.1 h1).1
      clear HI0 HC0 hI hC
      by_cases hlt : k < nL
      · obtain ⟨y, hy⟩ : ∃ y, li[k]? = some y := ⟨_, List.getElem?_eq_getElem (by have := HNL.out; omega)⟩
        obtain ⟨z, hz⟩ : ∃ z, ks[k]? = some z := ⟨_, List.getElem?_eq_getElem (by have := HNK.out; omega)⟩
        obtain ⟨b1, o1, _, he, hb, hbs, hx⟩ := (HLI.out.ints (C1.out.trans C.out) (fun _ f => f.elim) (fun _ h => h) (B' := (· < W.heap.size))).at hy
        obtain rfl : aL = some ⟨b1, o1, none⟩ := by injection he
        obtain ⟨b2, o2, _, he2, hb2, hbs2, hx2⟩ := (HKS.out.ints (C1.out.trans C.out) (fun _ f => f.elim) (fun _ h => h) (B' := (· < W.heap.size))).at hz
        obtain rfl : aK = some ⟨b2, o2, none⟩ := by injection he2
        have q1 := hx.1
        have q2 := hx2.1
        rw [Nat.mul_one] at q1 q2
        obtain ⟨v0, u0⟩ := HI.out.cell (k * 2) (by omega)
        obtain ⟨v1, u1⟩ := HI.out.cell (k * 2 + 1) (by omega)
        have f0 := HI.out.free (k * 2)
        have f1 := HI.out.free (k * 2 + 1)
        have HTL : Hid (((li.zip ks).take k).length = k) := Lib.hid (by rw [List.length_take, HZ.out]; omega)
        have HPQ : Hid (Items 2 RdW 137 (puts wr g (k * 2) [.int .i64 y, .int .i64 z]) g nL ((li.zip ks).take (k + 1))) := Lib.hid (by
          have q := HI.out.put keeps_w (by rw [HTL.out]; exact hlt) [.int .i64 y, .int .i64 z] rfl (y, z) (fun W' _ hv => ⟨hv 0 _ rfl, hv 1 _ rfl⟩)
          rw [HTL.out] at q
          have ez : (li.zip ks)[k]? = some (y, z) := by rw [List.getElem?_zip_eq_some]; exact ⟨hy, hz⟩
          rw [List.take_add_one, ez]
          exact q)
        have HCP : Hid (Cha (fun _ => False) W0 (puts wr g (k * 2) [.int .i64 y, .int .i64 z])) := Lib.hid (C.out.over (puts_cha g _ _ _) fun i e => by have e : i = g := e; have := S1.out; exact .inr (by omega))
        clear he hx hy hb he2 hx2 hz hb2 hbs hbs2
        go_wp2
        go_roundw
        case rel => exact ⟨k + 1, by omega, by go_num, HPQ.out, HCP.out⟩
        case measure => simp [intOf]; omega
      · obtain rfl : k = nL := by omega
        have HQ : Hid (RdS 2 RdW (· < wr.heap.size) wr (.slice (some ⟨g, 0, none⟩) k k) (li.zip ks)) := Lib.hid (by
          have hI := HI.out
          rw [List.take_of_length_le (by rw [HZ.out]; omega)] at hI
          have q := hI.all HZ.out hm (B := fun i => g ≤ i) (fun i h => h) (fun b o x h => h)
          exact ⟨_, _, by rw [HZ.out], by rw [HZ.out]; omega, fun h0 => by
            obtain ⟨a', c', e1, _, r⟩ := q
            obtain ⟨b', o', rfl, _, r2, r3⟩ := r h0
            cases e1
            exact ⟨_, _, rfl, r2, r2, r3⟩⟩)
        have CC := Lib.hid (CS.out wr g (li.zip ks) (C1.out.trans C.out) HQ.out HZ.out.symm)
        go_wp2_with (go_at_call 89; ((with_reducible refine (CC.out).mono ?_); rintro e w2 ⟨rfl, k2⟩; have C2 := Lib.hid k2; clear k2))
        go_ret
        exact ⟨by first | (rw [e.out]; done) | (rw [e.out]; rfl), (C1.out.trans C.out).trans C2.out⟩
  · have e := Lib.hid (E1.out h0)
    have d1 : ((nL : Int) == (nK : Int)) = false := by simpa using fun c => h0 (by omega)
    have d2 : ((nL : Int) != (nK : Int)) = true := by simpa using fun c => h0 (by omega)
    clear E1 E2
    go_enter Try.func96, Try.ntmps96
    go_wp2
    go_ret
    exact ⟨by first | (rw [e.out]; done) | (rw [e.out]; rfl), cha_box⟩
end
end Go.Proofs.Ytpdjbhnpahkbpaa
