/- The document's stack: Push. -/
import Derived.Test.YteienclklmjhdaaYG
namespace Go.Proofs.Yteienclklmjhdaa
open Go.ChangeShapes Go.WideShapes Go.ChangeAt Go.RowKit
variable {w w' W W' : World} {G : Nat → Prop} {rs : Nat} {vf : Value} {A : List Fr} {sl : Nat → Nat → Sl} {s : St} {S : Nat → Prop}

def zsl : Nat → Sl := fun _ => ⟨0, none⟩
theorem info64 : (Try.prog.info? 64).map (fun i => (i.zero, i.size, i.bytes)) = some (some (.agg #[.int .u64 0, .bool false, .int .i64 0, .int .i64 0]), 4, 32) := by kernel_rfl
theorem made_slots (m : Nat) : madeCells (Value.agg #[.int .u64 0, .bool false, .int .i64 0, .int .i64 0]).cells (m * 4) = fcells (m * 4) (sr zsl) := by
  unfold madeCells fcells
  congr 1
  funext x
  show (#[Value.int .u64 0, .bool false, .int .i64 0, .int .i64 0])[x % 4]! = Sl.at ⟨0, none⟩ (x % 4)
  have h : x % 4 < 4 := Nat.mod_lt _ (by omega)
  generalize x % 4 = y at h
  match y, h with
  | 0, _ => rfl
  | 1, _ => rfl
  | 2, _ => rfl
  | 3, _ => rfl
theorem mkSlots (m : Nat) (hm : m ≤ 32) (W : World) : (Instr.makeSlice 60 (.int .i64 (m : Int)) (.int .i64 (m : Int))).run Try.prog W = .ok (.slice (some ⟨W.heap.size, 0, none⟩) m m) (W.alloc (.cells (fcells (m * 4) (sr zsl)) 64)) := by
  obtain ⟨i, hi, hz, hs, hb⟩ := info_parts info64
  have h := run_make (P := Try.prog) W 60 64 i _ Try.underlying60 hi hz .i64 .i64 (m : Int) (m : Int) (by omega) (by omega) (by rw [hb]; omega) (by omega)
  rw [hs, Int.toNat_natCast, made_slots] at h
  exact h
/-- A frame more. -/
theorem Dk.lay (h : Dk W G rs vf A sl s) {n : Nat} (hn : n ≤ 32) (hl : s.fs.length < 64) (hf : pos s.fs + (n + 1) ≤ s.n) {W2 w3 : World} (h2 : W2.heap = ((W.alloc (.cells (fcells (n * 4) (sr zsl)) 64)).alloc (.cells #[.slice (some ⟨W.heap.size, 0, none⟩) n n] 60)).heap) (ho : W2.os = W.os) (hout : W2.output = W.output)
    {g o cap : Nat} (hA : App frE W2 w3 vf A [⟨W.heap.size, n⟩] g o cap) : DLeft W (w3.setCell ⟨rs, 0, none⟩ (.slice (some ⟨g, o, none⟩) (A.length + 1) cap)) G rs (s.lay n) := by
  have hsz : W2.heap.size = W.heap.size + 2 := by rw [h2, World.size_alloc, World.size_alloc]
  have c2 : Cha (fun _ => False) W W2 := by
    have c := ((Cha.refl (fun _ => False) W).alloc (.cells (fcells (n * 4) (sr zsl)) 64)).alloc (.cells #[.slice (some ⟨W.heap.size, 0, none⟩) n n] 60)
    exact ⟨ho, hout, by rw [h2]; exact c.size, fun i hi hs => by rw [h2]; exact c.old i hi hs⟩
  have hb : ∀ i, vf.ownBlock = some i → i < W.heap.size := fun i hi => h.old _ (h.gv i hi).1
  have c3 : Cha (fun i => vf.ownBlock = some i) W w3 := c2.wide.trans hA.cha
  have cs : Cha (fun i => i = rs) w3 (w3.setCell ⟨rs, 0, none⟩ (.slice (some ⟨g, o, none⟩) (A.length + 1) cap)) := (Cha.refl (fun i => i = rs) w3).setCell (p := ⟨rs, 0, none⟩) (fun _ => rfl) _
  have c4 : Cha (fun i => i = rs ∨ vf.ownBlock = some i) W (w3.setCell ⟨rs, 0, none⟩ (.slice (some ⟨g, o, none⟩) (A.length + 1) cap)) := (c3.mono fun _ _ e => .inr e).trans (cs.mono fun _ _ e => .inl e)
  have hgr := h.old _ h.gr
  have hhd : w3.heap[rs]? = _ := (c3.old rs hgr (fun e => (h.gv rs e).2 rfl)).trans h.head
  have e1 := heap_setCell_same w3 rs 0 _ 48 (.slice (some ⟨g, o, none⟩) (A.length + 1) cap) hhd
  have hAl := h.len
  have hgb : g ≠ rs ∧ (vf.ownBlock = some g ∨ W.heap.size + 2 ≤ g) := by
    rcases hA.at' with e | e
    · exact ⟨(h.gv g e).2, .inl e⟩
    · exact ⟨by omega, .inr (by omega)⟩
  have hnew : ∀ f (hf : f < (A ++ [(⟨W.heap.size, n⟩ : Fr)]).length), (∃ hf' : f < A.length, (A ++ [(⟨W.heap.size, n⟩ : Fr)])[f] = A[f]) ∨ (f = A.length ∧ (A ++ [(⟨W.heap.size, n⟩ : Fr)])[f] = ⟨W.heap.size, n⟩) := fun f hf => by
    by_cases c : f < A.length
    · exact .inl ⟨c, by rw [List.getElem_append_left c]⟩
    · right
      have : f = A.length := by simp at hf; omega
      subst this
      exact ⟨rfl, by simp⟩
  have hAg : ∀ f (hf : f < A.length), A[f].g < W.heap.size := fun f hf => h.old _ (h.gf f hf).1
  refine ⟨fun i => G i ∨ i = g ∨ i = W.heap.size, .slice (some ⟨g, o, none⟩) (A.length + 1) cap, A ++ [⟨W.heap.size, n⟩], fun f k => if f = A.length then ⟨0, none⟩ else sl f k, ⟨e1, ?_, ?_, fun f hf => ?_, ?_, h.ok.lay hn hl hf, .inl h.gr, fun g' e => ?_, fun f hf => ?_, fun f f' hf hf' hne => ?_, fun i hi => ?_⟩, c4.mono fun i _ e => ?_, fun i hi => ?_⟩
  · exact hA.lies.cha cs fun g' e => by cases e; exact hgb.1
  · show (A ++ [(⟨W.heap.size, n⟩ : Fr)]).map Fr.n = (n :: s.fs).reverse
    rw [List.map_append, h.sz, List.reverse_cons]; rfl
  · rcases hnew f hf with ⟨hf', e⟩ | ⟨e0, e⟩
    · rw [e]
      refine (c4.row (h.rows f hf') (by rintro (q | q); exact (h.gf f hf').2.1 q; exact (h.gf f hf').2.2 q)).congr fun p _ => ?_
      show (sl f (p / 4)).at (p % 4) = (if f = A.length then (⟨0, none⟩ : Sl) else sl f (p / 4)).at (p % 4)
      rw [if_neg (by omega)]
    · rw [e]
      have r1 : FRow 64 W2 W.heap.size (n * 4) (sr zsl) := by
        have q : FRow 64 (W.alloc (.cells (fcells (n * 4) (sr zsl)) 64)) W.heap.size (n * 4) (sr zsl) := heap_alloc_new W _
        have q2 := ((Cha.refl (fun _ => False) (W.alloc (.cells (fcells (n * 4) (sr zsl)) 64))).alloc (.cells #[.slice (some ⟨W.heap.size, 0, none⟩) n n] 60)).row q id
        unfold FRow at q2 ⊢
        rw [h2]; exact q2
      have r2 := (hA.cha.row r1 (fun q => by have := hb _ q; omega))
      refine (cs.row r2 (by omega)).congr fun p _ => ?_
      show (Sl.mk 0 none).at (p % 4) = (if f = A.length then (⟨0, none⟩ : Sl) else sl f (p / 4)).at (p % 4)
      rw [if_pos e0]
  · intro j i hj hi
    cases j with
    | zero =>
      have hi : i < n := hi
      show SlOk (n :: s.fs) (if pos s.fs + (n + 1) - 1 - i ≤ pos s.fs then _ else if pos s.fs + (n + 1) - 1 - i = pos s.fs + (n + 1) then Wd.num (n : Int) else .num 0) (if s.fs.length + 1 - 1 - 0 = A.length then ⟨0, none⟩ else _)
      rw [if_neg (by omega), if_neg (by omega), if_pos (by omega)]
      rfl
    | succ j =>
      have hj : j < s.fs.length := Nat.lt_of_succ_lt_succ hj
      have hi : i < s.fs[j] := hi
      have hd := pos_le s.fs j
      have q := h.mat j i hj hi
      show SlOk (n :: s.fs) (if pos (s.fs.drop j) - 1 - i ≤ pos s.fs then s.ct (pos (s.fs.drop j) - 1 - i) else _) (if s.fs.length + 1 - 1 - (j + 1) = A.length then _ else sl (s.fs.length + 1 - 1 - (j + 1)) i)
      rw [if_pos (by omega), if_neg (by omega), show s.fs.length + 1 - 1 - (j + 1) = s.fs.length - 1 - j by omega]
      revert q
      cases s.ct (pos (s.fs.drop j) - 1 - i) with
      | num v => exact fun q => q
      | ref d =>
        rintro ⟨j2, i2, hj2, hi2, hd2, hx⟩
        refine ⟨j2 + 1, i2, Nat.succ_lt_succ hj2, hi2, hd2, ?_⟩
        rw [hx]
        have e2 : (n :: s.fs).length - 1 - (j2 + 1) = s.fs.length - 1 - j2 := by simp; omega
        rw [e2]
  · cases e
    exact ⟨.inr (.inl rfl), hgb.1⟩
  · rcases hnew f hf with ⟨hf', e⟩ | ⟨e0, e⟩
    · rw [e]
      refine ⟨.inl (h.gf f hf').1, (h.gf f hf').2.1, fun q => ?_⟩
      injection q with q
      have := hAg f hf'
      rcases hgb.2 with k | k
      · exact (h.gf f hf').2.2 (by rw [← q]; exact k)
      · have : g = A[f].g := q
        omega
    · rw [e]
      refine ⟨.inr (.inr rfl), by show W.heap.size ≠ rs; omega, fun q => ?_⟩
      injection q with q
      have q : g = W.heap.size := q
      rcases hgb.2 with k | k
      · have := hb g k; omega
      · omega
  · rcases hnew f hf with ⟨h1, e⟩ | ⟨e0, e⟩
    · rcases hnew f' hf' with ⟨h2', e'⟩ | ⟨e0', e'⟩
      · rw [e, e']; exact h.apart f f' h1 h2' hne
      · rw [e, e']; have := hAg f h1; show A[f].g ≠ W.heap.size; omega
    · rcases hnew f' hf' with ⟨h2', e'⟩ | ⟨e0', e'⟩
      · rw [e, e']; have := hAg f' h2'; show W.heap.size ≠ A[f'].g; omega
      · omega
  · have k1 := c4.size
    have k2 := hA.cha.size
    have k3 : (w3.setCell ⟨rs, 0, none⟩ (.slice (some ⟨g, o, none⟩) (A.length + 1) cap)).heap.size = w3.heap.size := by simp [World.setCell]
    have k4 := hA.lt
    rcases hi with hi | rfl | rfl
    · exact Nat.lt_of_lt_of_le (h.old i hi) k1
    · omega
    · omega
  · rcases e with e | e
    · rw [e]; exact h.gr
    · exact (h.gv i e).1
  · rcases hi with hi | rfl | rfl
    · exact .inl hi
    · rcases hgb.2 with k | k
      · exact .inl (h.gv _ k).1
      · exact .inr (by omega)
    · exact .inr (Nat.le_refl _)
theorem dpush_none (h : Dk W G rs vf A sl s) (a : Int) (hc : a < 0 ∨ 32 < a ∨ s.fs.length = 64) : Calls Try.prog 12 #[.pointer (some ⟨rs, 0, none⟩), .int .i64 a] W fun e W' => e = .returned (.int .i64 (s.pushR a).1) ∧ DLeft W W' G rs (s.pushR a).2 := by
  obtain ⟨a0, cap, rfl, hc1, hc2, _⟩ := h.open
  obtain ⟨c0, c1, c2, fz⟩ := h.facts
  have hl := h.len
  have HL := Lib.hid (h.left (Cha.refl _ W))
  unfold St.pushR
  by_cases c : a < 0 ∨ 32 < a
  · rw [if_pos c]
    clear h hc
    by_cases k : a < 0
    · clear c
      go_enter Try.func12, Try.ntmps12
      go_wp2
      go_returns
      exact ⟨rfl, HL.out⟩
    · have k2 : 32 < a := by omega
      clear c
      go_enter Try.func12, Try.ntmps12
      go_wp2
      go_returns
      exact ⟨rfl, HL.out⟩
  · have k64 : s.fs.length = 64 := by omega
    rw [if_neg c, if_pos k64]
    rw [hl, k64] at c0
    have k1 : ¬ a < 0 := by omega
    have k2 : ¬ 32 < a := by omega
    clear h hc c hl hc1
    go_enter Try.func12, Try.ntmps12
    go_wp2
    go_returns
    exact ⟨rfl, HL.out⟩
set_option maxHeartbeats 4000000 in
theorem dpush_in (h : Dk W G rs vf A sl s) (n : Nat) (hn : n ≤ 32) (hl : s.fs.length < 64) : Calls Try.prog 12 #[.pointer (some ⟨rs, 0, none⟩), .int .i64 (n : Int)] W fun e W' => e = .returned (.int .i64 0) ∧ DLeft W W' G rs (s.push n) := by
  obtain ⟨a0, cap, rfl, hc1, hc2, _⟩ := h.open
  obtain ⟨c0, c1, c2, fz⟩ := h.facts
  have hlen := h.len
  have hN := h.ok.n_le
  have hp2 := h.ok.p2
  have hfit := h.ok.fit
  have hb := h.old _ h.gr
  have hmk := mkSlots n hn
  have CU := Lib.hid (dused_any h)
  have hpb : pos s.fs + (n + 1) ≤ 2112 := by
    have hb : pos (n :: s.fs) ≤ (n :: s.fs).length * 33 := pos_bound (m := 32) fun k hk => by
      rcases List.mem_cons.1 hk with rfl | hk
      · exact hn
      · exact h.ok.slots k hk
    have hl' : (n :: s.fs).length * 33 ≤ 64 * 33 := Nat.mul_le_mul_right _ hl
    have : pos (n :: s.fs) = pos s.fs + (n + 1) := rfl
    omega
  have hlt64 : A.length < 64 := by omega
  have HLEN := Lib.hid hlen
  by_cases hw : s.n < pos s.fs + (n + 1)
  · have hpush : s.push n = (s.moved (2 * s.n)).lay n := by unfold St.push; rw [if_pos hw]
    rw [hpush]
    have HG := Lib.hid h.gr
    have HM : Hid (Dk ((W.setCell ⟨rs, 1, none⟩ (.int .i64 (2 * (s.n : Int)))).setCell ⟨rs, 2, none⟩ (.int .i64 (wrap64 (s.cop + 1)))) G rs (.slice a0 A.length cap) A sl (s.moved (2 * s.n))) := Lib.hid (h.moved (2 * s.n) (by omega) (by omega))
    have HSZ : Hid (((W.setCell ⟨rs, 1, none⟩ (.int .i64 (2 * (s.n : Int)))).setCell ⟨rs, 2, none⟩ (.int .i64 (wrap64 (s.cop + 1)))).heap.size = W.heap.size) := Lib.hid (by simp [World.setCell])
    have HLI : Hid (∀ W', Cha (fun _ => False) ((W.setCell ⟨rs, 1, none⟩ (.int .i64 (2 * (s.n : Int)))).setCell ⟨rs, 2, none⟩ (.int .i64 (wrap64 (s.cop + 1)))) W' → Lies frE W' (.slice a0 A.length cap) A) := Lib.hid fun W' c => HM.out.lies.same c
    have HKX : Hid (∀ W', Cha (fun i => (Value.slice a0 A.length cap).ownBlock = some i) ((W.setCell ⟨rs, 1, none⟩ (.int .i64 (2 * (s.n : Int)))).setCell ⟨rs, 2, none⟩ (.int .i64 (wrap64 (s.cop + 1)))) W' → W'.cell? ⟨rs, 0, none⟩ = some (.slice a0 A.length cap) ∧ W'.frozen? ⟨rs, 0, none⟩ = false) := Lib.hid fun W' c => by
      have e := (c.old rs (HM.out.old _ HM.out.gr) (fun q => (HM.out.gv rs q).2 rfl)).trans HM.out.head
      exact ⟨cell_of_row W' rs 0 _ 48 (0, 0) e, frozen_of_row W' rs 0 _ 48 e⟩
    have HF : Hid (∀ W2 w3 g o cap', App frE W2 w3 (.slice a0 A.length cap) A [⟨W.heap.size, n⟩] g o cap' → W2.heap = ((((W.setCell ⟨rs, 1, none⟩ (.int .i64 (2 * (s.n : Int)))).setCell ⟨rs, 2, none⟩ (.int .i64 (wrap64 (s.cop + 1)))).alloc (.cells (fcells (n * 4) (sr zsl)) 64)).alloc (.cells #[.slice (some ⟨W.heap.size, 0, none⟩) n n] 60)).heap → W2.os = ((W.setCell ⟨rs, 1, none⟩ (.int .i64 (2 * (s.n : Int)))).setCell ⟨rs, 2, none⟩ (.int .i64 (wrap64 (s.cop + 1)))).os → W2.output = ((W.setCell ⟨rs, 1, none⟩ (.int .i64 (2 * (s.n : Int)))).setCell ⟨rs, 2, none⟩ (.int .i64 (wrap64 (s.cop + 1)))).output → DLeft W (w3.setCell ⟨rs, 0, none⟩ (.slice (some ⟨g, o, none⟩) (A.length + 1) cap')) G rs ((s.moved (2 * s.n)).lay n)) := Lib.hid fun W2 w3 g o cap' hA q1 q2 q3 => by
      rw [← HSZ.out] at q1 hA
      obtain ⟨G1, v1, A1, s1, r1, r2, r3⟩ := HM.out.lay hn hl (by show pos s.fs + (n + 1) ≤ 2 * s.n; omega) q1 q2 q3 hA
      exact ⟨G1, v1, A1, s1, r1, (((Cha.refl G W).setCell (p := ⟨rs, 1, none⟩) (fun _ => HG.out) _).setCell (p := ⟨rs, 2, none⟩) (fun _ => HG.out) _).trans r2, fun i hi => (r3 i hi).imp id fun e => by rw [HSZ.out] at e; exact e⟩
    have HN : Hid (∀ j u, (frE.cs [(⟨W.heap.size, n⟩ : Fr)])[j]? = some u → ((((W.setCell ⟨rs, 1, none⟩ (.int .i64 (2 * (s.n : Int)))).setCell ⟨rs, 2, none⟩ (.int .i64 (wrap64 (s.cop + 1)))).alloc (.cells (fcells (n * 4) (sr zsl)) 64)).alloc (.cells #[.slice (some ⟨W.heap.size, 0, none⟩) n n] 60)).cell? ((⟨W.heap.size + 1, 0, none⟩ : Addr).add j) = some u) := Lib.hid (by
      have q := just_new frE (((W.setCell ⟨rs, 1, none⟩ (.int .i64 (2 * (s.n : Int)))).setCell ⟨rs, 2, none⟩ (.int .i64 (wrap64 (s.cop + 1)))).alloc (.cells (fcells (n * 4) (sr zsl)) 64)) ⟨W.heap.size, n⟩ 60
      rw [World.size_alloc, HSZ.out] at q
      exact q)
    have HB1 : Hid (A.length + [(⟨W.heap.size, n⟩ : Fr)].length ≤ maxLen) := Lib.hid (by unfold maxLen; simp only [List.length_singleton]; omega)
    have HB2 : Hid ((A.length + [(⟨W.heap.size, n⟩ : Fr)].length) * frE.b ≤ 140737488355328) := Lib.hid (by show _ * 24 ≤ _; simp only [List.length_singleton]; omega)
    obtain ⟨p, hp⟩ : ∃ p, p = pos s.fs := ⟨_, rfl⟩
    rw [← hp] at CU hw hpb hfit
    clear h hpush hp hlen hl
    go_enter Try.func12, Try.ntmps12
    go_wp2
    go_loopw [5] (fun x wr => (x = .int .i64 (s.n : Int) ∨ x = .int .i64 (2 * (s.n : Int))) ∧ W = wr) (fun x _ => 8192 - (intOf x).toNat)
    case atStart => exact ⟨.inl rfl, rfl⟩
    case round =>
      obtain ⟨hx, rfl⟩ := hrel
      rcases hx with rfl | rfl
      · have q : (s.n : Int) < (p : Int) + (n : Int) + 1 := by omega
        go_wp2_with (go_at_call 30; ((with_reducible refine (CU.out).mono ?_); rintro e w1 ⟨rfl, rfl⟩))
        go_roundw
        case rel => refine ⟨.inr ?_, ?_⟩ <;> first | trivial | rfl | omega | (congr 1; omega)
        case measure => simp [intOf]; omega
      · have q : ¬ (2 * (s.n : Int) < (p : Int) + (n : Int) + 1) := by omega
        go_wp2_with (go_at_call 30; ((with_reducible refine (CU.out).mono ?_); rintro e w1 ⟨rfl, rfl⟩))
        go_region_law (refine step_app frE_ok rfl (.tmp 54) (.tmp 57) rfl (v := .slice a0 A.length cap) (A := A) rfl (HLI.out _ ((((Cha.refl (fun _ => False) _).alloc _).alloc _).drew)) ⟨W.heap.size + 1, 0, none⟩ 1 1 [⟨W.heap.size, n⟩] rfl rfl HN.out Nat.zero_lt_one HB1.out HB2.out ?_; intro g3 o3 cap3 w3 hA3; obtain ⟨k5, k6⟩ := HKX.out w3 (((((Cha.refl (fun _ => False) _).alloc _).alloc _).drew).wide.trans hA3.cha); have A3 := Lib.hid hA3)
        all_goals
          go_wp2
          go_returns
          exact ⟨rfl, HF.out _ _ _ _ _ A3.out rfl rfl rfl⟩
  · have hpush : s.push n = s.lay n := by unfold St.push; rw [if_neg hw]
    rw [hpush]
    have H0 := Lib.hid h
    have HSZ : Hid (W.heap.size = W.heap.size) := Lib.hid rfl
    have HLI : Hid (∀ W', Cha (fun _ => False) W W' → Lies frE W' (.slice a0 A.length cap) A) := Lib.hid fun W' c => H0.out.lies.same c
    have HKX : Hid (∀ W', Cha (fun i => (Value.slice a0 A.length cap).ownBlock = some i) W W' → W'.cell? ⟨rs, 0, none⟩ = some (.slice a0 A.length cap) ∧ W'.frozen? ⟨rs, 0, none⟩ = false) := Lib.hid fun W' c => by
      have e := (c.old rs (H0.out.old _ H0.out.gr) (fun q => (H0.out.gv rs q).2 rfl)).trans H0.out.head
      exact ⟨cell_of_row W' rs 0 _ 48 (0, 0) e, frozen_of_row W' rs 0 _ 48 e⟩
    have HF : Hid (∀ W2 w3 g o cap', App frE W2 w3 (.slice a0 A.length cap) A [⟨W.heap.size, n⟩] g o cap' → W2.heap = ((W.alloc (.cells (fcells (n * 4) (sr zsl)) 64)).alloc (.cells #[.slice (some ⟨W.heap.size, 0, none⟩) n n] 60)).heap → W2.os = W.os → W2.output = W.output → DLeft W (w3.setCell ⟨rs, 0, none⟩ (.slice (some ⟨g, o, none⟩) (A.length + 1) cap')) G rs (s.lay n)) := Lib.hid fun W2 w3 g o cap' hA q1 q2 q3 => by
      rw [← HSZ.out] at q1 hA
      obtain ⟨G1, v1, A1, s1, r1, r2, r3⟩ := H0.out.lay hn hl (by omega) q1 q2 q3 hA
      exact ⟨G1, v1, A1, s1, r1, (Cha.refl G W).trans r2, fun i hi => (r3 i hi).imp id fun e => by rw [HSZ.out] at e; exact e⟩
    have HN : Hid (∀ j u, (frE.cs [(⟨W.heap.size, n⟩ : Fr)])[j]? = some u → ((W.alloc (.cells (fcells (n * 4) (sr zsl)) 64)).alloc (.cells #[.slice (some ⟨W.heap.size, 0, none⟩) n n] 60)).cell? ((⟨W.heap.size + 1, 0, none⟩ : Addr).add j) = some u) := Lib.hid (by
      have q := just_new frE (W.alloc (.cells (fcells (n * 4) (sr zsl)) 64)) ⟨W.heap.size, n⟩ 60
      rw [World.size_alloc, HSZ.out] at q
      exact q)
    have HB1 : Hid (A.length + [(⟨W.heap.size, n⟩ : Fr)].length ≤ maxLen) := Lib.hid (by unfold maxLen; simp only [List.length_singleton]; omega)
    have HB2 : Hid ((A.length + [(⟨W.heap.size, n⟩ : Fr)].length) * frE.b ≤ 140737488355328) := Lib.hid (by show _ * 24 ≤ _; simp only [List.length_singleton]; omega)
    obtain ⟨p, hp⟩ : ∃ p, p = pos s.fs := ⟨_, rfl⟩
    rw [← hp] at CU hw hpb hfit
    clear h hpush hp hlen hl
    go_enter Try.func12, Try.ntmps12
    go_wp2
    go_loopw [5] (fun x wr => x = .int .i64 (s.n : Int) ∧ W = wr) (fun x _ => 8192 - (intOf x).toNat)
    case atStart => exact ⟨rfl, rfl⟩
    case round =>
      obtain ⟨rfl, rfl⟩ := hrel
      have q : ¬ ((s.n : Int) < (p : Int) + (n : Int) + 1) := by omega
      go_wp2_with (go_at_call 30; ((with_reducible refine (CU.out).mono ?_); rintro e w1 ⟨rfl, rfl⟩))
      go_region_law (refine step_app frE_ok rfl (.tmp 54) (.tmp 57) rfl (v := .slice a0 A.length cap) (A := A) rfl (HLI.out _ ((((Cha.refl (fun _ => False) _).alloc _).alloc _).drew)) ⟨W.heap.size + 1, 0, none⟩ 1 1 [⟨W.heap.size, n⟩] rfl rfl HN.out Nat.zero_lt_one HB1.out HB2.out ?_; intro g3 o3 cap3 w3 hA3; obtain ⟨k5, k6⟩ := HKX.out w3 (((((Cha.refl (fun _ => False) _).alloc _).alloc _).drew).wide.trans hA3.cha); have A3 := Lib.hid hA3)
      all_goals
        go_wp2
        go_returns
        exact ⟨rfl, HF.out _ _ _ _ _ A3.out rfl rfl rfl⟩
theorem dpush_any (h : Dk W G rs vf A sl s) (a : Int) : Calls Try.prog 12 #[.pointer (some ⟨rs, 0, none⟩), .int .i64 a] W fun e W' => e = .returned (.int .i64 (s.pushR a).1) ∧ DLeft W W' G rs (s.pushR a).2 := by
  by_cases c : a < 0 ∨ 32 < a ∨ s.fs.length = 64
  · exact dpush_none h a c
  · obtain ⟨n, rfl⟩ : ∃ n : Nat, a = n := ⟨a.toNat, by omega⟩
    have q := dpush_in h n (by omega) (by have := h.ok.len; omega)
    unfold St.pushR
    rw [if_neg (by omega), if_neg (by omega)]
    exact q
end Go.Proofs.Yteienclklmjhdaa
