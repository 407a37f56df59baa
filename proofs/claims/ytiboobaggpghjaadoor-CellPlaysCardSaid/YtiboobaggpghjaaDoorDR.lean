/- Layer 7's New: its contract. -/
import Derived.Test.YtiboobaggpghjaaDoorDQ
import Derived.Carry
namespace Go.Proofs.YtiboobaggpghjaaDoor
open Go.ChangeShapes Go.WideShapes Go.ChangeAt Go.RowKit

theorem info63 : (Tryd.prog.info? 63).map (fun i => (i.zero, i.size, i.bytes)) = some (some (.slice none 0 0), 1, 24) := by kernel_rfl
theorem info74 : (Tryd.prog.info? 74).map (fun i => (i.zero, i.size, i.bytes)) = some (some (.pointer none), 1, 8) := by kernel_rfl
theorem made_one (v : Value) (hv : v.cells = #[v]) (m : Nat) : madeCells v.cells (m * 1) = fcells m fun _ => v := by
  rw [Nat.mul_one, hv]
  unfold madeCells fcells
  congr 1
  funext x
  show (#[v])[x % 1]! = _
  rw [Nat.mod_one]
  rfl
theorem mk_rows (m : Nat) (hm : m ≤ 1000000) (W : World) : (Instr.makeSlice 62 (.int .i64 (m : Int)) (.int .i64 (m : Int))).run Tryd.prog W = .ok (.slice (some ⟨W.heap.size, 0, none⟩) m m) (W.alloc (.cells (fcells m fun _ => .slice none 0 0) 63)) := by
  obtain ⟨i, hi, hz, hs, hb⟩ := info_parts info63
  have h := run_make (P := Tryd.prog) W 62 63 i _ Tryd.underlying62 hi hz .i64 .i64 (m : Int) (m : Int) (by omega) (by omega) (by rw [hb]; omega) (by omega)
  rw [hs, Int.toNat_natCast, made_one _ rfl] at h
  exact h
theorem mk_ptrs (m : Nat) (hm : m ≤ 1000000) (W : World) : (Instr.makeSlice 63 (.int .i64 (m : Int)) (.int .i64 (m : Int))).run Tryd.prog W = .ok (.slice (some ⟨W.heap.size, 0, none⟩) m m) (W.alloc (.cells (fcells m fun _ => .pointer none) 74)) := by
  obtain ⟨i, hi, hz, hs, hb⟩ := info_parts info74
  have h := run_make (P := Tryd.prog) W 63 74 i _ Tryd.underlying63 hi hz .i64 .i64 (m : Int) (m : Int) (by omega) (by omega) (by rw [hb]; omega) (by omega)
  rw [hs, Int.toNat_natCast, made_one _ rfl] at h
  exact h
theorem inv_nil (n pr : Nat) : Inv n pr [] := ⟨List.Pairwise.nil, fun _ h => (by cases h), fun _ h => (by cases h), fun _ h => (by cases h)⟩
theorem live_nil : Live [] := fun _ h => by cases h
theorem cnew_procs (m p : Int) (w : World) (hp : p < 1 ∨ 8 < p) : Calls Tryd.prog 21 #[.int .i64 m, .int .i64 p] w fun e w' => e = .returned (.tuple #[.pointer none, .int .i64 1]) ∧ w = w' := by
  rcases hp with hp | hp
  · have h1 : decide (p < 1) = true := by simpa using hp
    go_enter Tryd.func21, Tryd.ntmps21
    go_wp2
    go_ret2
    exact ⟨rfl, rfl⟩
  · have h1 : decide (p < 1) = false := by simp; omega
    have h2 : decide (8 < p) = true := by simpa using hp
    go_enter Tryd.func21, Tryd.ntmps21
    go_wp2
    go_ret2
    exact ⟨rfl, rfl⟩
theorem cnew_pages (m p : Int) (w : World) (hp1 : 1 ≤ p) (hp2 : p ≤ 8) (hm : m < 1 ∨ 4096 < m) : Calls Tryd.prog 21 #[.int .i64 m, .int .i64 p] w fun e w' => e = .returned (.tuple #[.pointer none, .int .i64 1]) ∧ w = w' := by
  have C := Lib.hid (new5_bad m w hm)
  have h1 : decide (p < 1) = false := by simp; omega
  have h2 : decide (8 < p) = false := by simp; omega
  clear hm
  go_enter Tryd.func21, Tryd.ntmps21
  go_wp2_with (go_at_call 36; ((with_reducible refine (C.out).mono ?_); rintro e w1 ⟨rfl, rfl⟩))
  go_ret2
  exact ⟨rfl, rfl⟩
set_option maxRecDepth 100000 in
set_option maxHeartbeats 4000000 in
theorem cnew_ok (n p : Nat) (w : World) (hn1 : 1 ≤ n) (hn2 : n ≤ 4096) (hp1 : 1 ≤ p) (hp2 : p ≤ 8) (hs : Siz w) : Calls Tryd.prog 21 #[.int .i64 (n : Int), .int .i64 (p : Int)] w fun e w' => ∃ F a, e = .returned (.tuple #[.pointer (some ⟨a.bc, 0, none⟩), .int .i64 0]) ∧ Cl n p F a w' [] ∧ Cha (fun _ => False) w w' ∧ ∀ i, F i → w.heap.size ≤ i := by
  have C := Lib.hid (new5_ok n w hn1 hn2)
  have CN := Lib.hid count6
  have h1 : decide ((p : Int) < 1) = false := by simp; omega
  have h2 : decide ((8 : Int) < (p : Int)) = false := by simp; omega
  have hmk := fun W => mk_rows p (by omega) W
  have hmk2 : ∀ W, (Instr.makeSlice 63 (.int .i64 16) (.int .i64 16)).run Tryd.prog W = .ok (.slice (some ⟨W.heap.size, 0, none⟩) 16 16) (W.alloc (.cells (fcells 16 fun _ => .pointer none) 74)) := fun W => mk_ptrs 16 (by omega) W
  obtain ⟨fc, hfc⟩ : ∃ fc, fc = fcells 16 (fun _ => Value.pointer none) := ⟨_, rfl⟩
  obtain ⟨fd, hfd⟩ : ∃ fd, fd = fcells p (fun _ => Value.slice none 0 0) := ⟨_, rfl⟩
  simp only [← hfc] at hmk2
  simp only [← hfd] at hmk
  have HFC := Lib.hid hfc
  have HFD := Lib.hid hfd
  have HMK := Lib.hid hmk
  have HMK2 := Lib.hid hmk2
  have HS := Lib.hid hs
  obtain ⟨_, _, hs0⟩ := hs
  have hw0 : 0 < w.heap.size := (Array.getElem?_eq_some_iff.1 hs0).1
  clear hfc hfd hmk hmk2 hs0
  have hmk := HMK.out
  go_enter Tryd.func21, Tryd.ntmps21
  go_wp2_with (go_at_call 36; ((with_reducible refine (C.out).mono ?_); rintro e w1 ⟨rfl, hm⟩; have H1 := Lib.hid hm; clear hm))
  have hsz1 := H1.out.cha.size
  obtain ⟨g, hg⟩ : ∃ g, g = w1.heap.size := ⟨_, rfl⟩
  have N1 : (w1.alloc (.cells fd 63)).heap[g]? = some (.cells fd 63 (0, 0)) := by rw [hg]; exact heap_alloc_new w1 _
  have N2 : (w1.alloc (.cells fd 63)).heap.size = g + 1 := by rw [hg, World.size_alloc]
  have N3 : Cha (fun _ => False) w1 (w1.alloc (.cells fd 63)) := (Cha.refl _ w1).alloc _
  rw [← hg]
  obtain ⟨W2, hW2⟩ : ∃ W2, W2 = w1.alloc (.cells fd 63) := ⟨_, rfl⟩
  rw [← hW2] at N1 N2 N3 ⊢
  clear hW2 hmk
  have HG := Lib.hid hg
  have HN1 := Lib.hid N1
  have HN3 := Lib.hid N3
  clear hg N1 N3
  go_loopw [28] (fun i wr => ∃ k : Nat, k ≤ p ∧ i = .int .i64 (k : Int) ∧ FRow 63 wr g p (fun q => if q < k then .slice (some ⟨g + 1 + q, 0, none⟩) 16 16 else .slice none 0 0) ∧ (∀ q, q < k → FRow 74 wr (g + 1 + q) 16 (fun _ => .pointer none)) ∧ wr.heap.size = g + 1 + k ∧ Cha (fun j => j = g) W2 wr) (fun i _ => p - (intOf i).toNat)
  case atStart => exact ⟨0, by omega, rfl, by unfold FRow; rw [HN1.out, HFD.out]; rfl, fun q h => absurd h (by omega), by omega, Cha.refl _ _⟩
  case round =>
    obtain ⟨k, hk, rfl, hR, hrows, hsz, hC⟩ := hrel
    by_cases hlt : k < p
    · have hcell := hR.cell hlt
      rw [if_neg (by omega)] at hcell
      have hfr := hR.free k
      have HR := Lib.hid hR
      have HRO := Lib.hid hrows
      have HC := Lib.hid hC
      have hgl := hR.lt
      have HSZ := Lib.hid hsz
      clear hsz
      have h2 := HMK2.out wr
      have CN2 := Lib.hid (CN.out wr)
      clear hR hrows hC
      go_wp2_with (go_at_call 20; ((with_reducible refine (CN2.out).mono ?_); rintro e w2 ⟨rfl, rfl⟩))
      go_roundw
      case rel =>
        have hsz := HSZ.out
        obtain ⟨ws, hws⟩ : ∃ ws, ws = wr.setCell ⟨g, k, none⟩ (.slice (some ⟨wr.heap.size, 0, none⟩) 16 16) := ⟨_, rfl⟩
        have cs : Cha (fun j => j = g) wr ws := by rw [hws]; exact (Cha.refl (fun j => j = g) wr).setCell (p := ⟨g, k, none⟩) (fun _ => rfl) _
        have R0 := HR.out.set (i := k) (.slice (some ⟨wr.heap.size, 0, none⟩) 16 16)
        have zs : ws.heap.size = wr.heap.size := by rw [hws]; simp [World.setCell]
        rw [← hws] at R0 ⊢
        have ca : Cha (fun _ => False) ws (ws.alloc (.cells fc 74)) := (Cha.refl _ ws).alloc _
        have na := heap_alloc_new ws (.cells fc 74)
        rw [zs, hsz] at na
        have sa : (ws.alloc (.cells fc 74)).heap.size = g + 1 + (k + 1) := by rw [World.size_alloc]; omega
        have R1 := ca.row R0 (fun x => x)
        refine ⟨k + 1, by omega, by go_num, R1.congr fun q _ => ?_, fun q hq => ?_, ?_, (HC.out.trans cs).trans ca.wide⟩
        · by_cases e : q = k
          · subst e; rw [if_pos rfl, if_pos (by omega), hsz]
          · rw [if_neg e]
            by_cases e2 : q < k
            · rw [if_pos e2, if_pos (by omega)]
            · rw [if_neg e2, if_neg (by omega)]
        · by_cases e : q = k
          · subst e
            unfold FRow; rw [← HFC.out]; exact na
          · exact ca.row (cs.row (HRO.out q (by omega)) (by omega)) (fun x => x)
        · exact sa
      case measure => simp [intOf]; omega
    · obtain rfl : k = p := by omega
      have HR := Lib.hid hR
      have HRO := Lib.hid hrows
      have HC := Lib.hid hC
      have hmm := @run_makeMap Tryd.prog
      clear hR hrows hC
      go_wp2
      go_ret2
      have l1 := H1.out.tl.2.lt
      have l2 := H1.out.tl.2.pg.lt
      have hgg := HG.out
      have c1 : Cha (fun _ => False) w wr := (H1.out.cha.trans HN3.out).over HC.out (fun i hi => .inr (by have e : i = g := hi; omega))
      have t1 := (H1.out.tl.cha HN3.out (fun x => x) (fun x => x) (fun x => x) (fun x => x)).cha HC.out (by omega) (by omega) (by omega) (by omega)
      have pm := PM.made wr
      have nn := heap_alloc2_new wr (.map #[] 0) (.cells #[.pointer (some ⟨w.heap.size + 3, 0, none⟩), .map (some (g + 1 + k)), .slice (some ⟨g, 0, none⟩) k k] 66)
      rw [hsz] at pm nn
      have ca : Cha (fun _ => False) wr (wr.alloc (.map #[] 0)) := (Cha.refl _ wr).alloc _
      have cb : Cha (fun _ => False) (wr.alloc (.map #[] 0)) ((wr.alloc (.map #[] 0)).alloc (.cells #[.pointer (some ⟨w.heap.size + 3, 0, none⟩), .map (some (g + 1 + k)), .slice (some ⟨g, 0, none⟩) k k] 66)) := (Cha.refl _ _).alloc _
      have cab := ca.trans cb
      have hsz2 : ((wr.alloc (.map #[] 0)).alloc (.cells #[.pointer (some ⟨w.heap.size + 3, 0, none⟩), .map (some (g + 1 + k)), .slice (some ⟨g, 0, none⟩) k k] 66)).heap.size = g + 1 + k + 2 := by rw [World.size_alloc, World.size_alloc]; omega
      refine ⟨fun i => w.heap.size ≤ i ∧ i < g + 1 + k + 2, ⟨g + 1 + k + 1, w.heap.size + 3, w.heap.size + 1, w.heap.size, w.heap.size + 2, g + 1 + k, g, fun q => g + 1 + q, fun _ => 0, fun _ => 0⟩, rfl, ?_, c1.trans cab, fun i hi => hi.1⟩
      refine ⟨inv_nil n k, ⟨hp1, hp2⟩, nn, ⟨[], t1.cha cab (fun x => x) (fun x => x) (fun x => x) (fun x => x), fun s => ⟨fun h => (by cases h), fun ⟨_, h, _⟩ => (by cases h)⟩⟩, ⟨_, pm.cha cb (fun x => x), fun _ h => (by cases h), fun x p h => (by cases h)⟩, fun _ h => (by cases h), ?_, fun q hq => ?_,
        ⟨⟨by show w.heap.size ≤ g + 1 + k + 1; omega, by show g + 1 + k + 1 < g + 1 + k + 2; omega⟩, ⟨by show w.heap.size ≤ w.heap.size + 3; omega, by show w.heap.size + 3 < g + 1 + k + 2; omega⟩, ⟨by show w.heap.size ≤ w.heap.size + 1; omega, by show w.heap.size + 1 < g + 1 + k + 2; omega⟩, ⟨by show w.heap.size ≤ w.heap.size; omega, by show w.heap.size < g + 1 + k + 2; omega⟩, ⟨by show w.heap.size ≤ w.heap.size + 2; omega, by show w.heap.size + 2 < g + 1 + k + 2; omega⟩, ⟨by show w.heap.size ≤ g + 1 + k; omega, by show g + 1 + k < g + 1 + k + 2; omega⟩, ⟨by show w.heap.size ≤ g; omega, by show g < g + 1 + k + 2; omega⟩⟩, fun q hq => ⟨by show w.heap.size ≤ g + 1 + q; omega, by show g + 1 + q < _; omega⟩, fun _ h => (by cases h), fun i hi => by rw [hsz2]; exact hi.2, (HS.out.same c1).same cab, fun h => by have := h.1; omega, fun p q _ _ e => by have e : g + 1 + p = g + 1 + q := e; omega, fun _ h => (by cases h), fun _ h => (by cases h)⟩
      · exact (cab.row HR.out (fun x => x)).congr fun q hq => by rw [if_pos hq]
      · exact (cab.row (HRO.out q hq) (fun x => x)).congr fun c _ => rfl
end Go.Proofs.YtiboobaggpghjaaDoor
