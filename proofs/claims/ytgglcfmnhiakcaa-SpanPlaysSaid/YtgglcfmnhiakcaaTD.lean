/- SpanPlays: whatever the script, the program's table and the document's answer the same. -/
import Derived.Test.YtgglcfmnhiakcaaTC
import Derived.Test.YtgglcfmnhiakcaaQ
import Derived.Deep.RegionHeld3
import Derived.BigQuiet
namespace Go.Proofs.Ytgglcfmnhiakcaa
open Go.ChangeShapes Go.WideShapes Go.ChangeAt Go.RowKit

/-- The program's table (of spans L) and the document's (of spans M), in blocks that are new since w. -/
structure Ts (w W : World) (B bt bm bp bs rt rm rq n : Nat) (L M : List Spn) (v : Value) : Prop where
  tl : Tl W bt bm bp bs n L
  dt : Rt W B rt rm rq n v M
  cha : Cha (fun _ => False) w W
  new : w.heap.size ≤ bp ∧ w.heap.size ≤ bs ∧ w.heap.size ≤ rq
  far : bt < rq ∧ bm < rq ∧ bp < rq ∧ bs < rq ∧ rq < rt ∧ rq < rm
  hB : B ≤ W.heap.size
/-- What the two tables' calls change. -/
def Tq (bp bs rt rq : Nat) (W W' : World) : Prop := Cha (fun i => (i = bp ∨ i = bs) ∨ (i = rt ∨ i = rq)) W W'
section
variable {w W W' : World} {B bt bm bp bs rt rm rq n : Nat} {L M L' : List Spn} {v v' : Value}
theorem Ts.same (h : Ts w W B bt bm bp bs rt rm rq n L M v) (c : Cha (fun _ => False) W W') : Ts w W' B bt bm bp bs rt rm rq n L M v :=
  ⟨⟨h.tl.1, h.tl.2.same c⟩, h.dt.same c, h.cha.trans c, h.new, h.far, Nat.le_trans h.hB c.size⟩
theorem Ts.turn (h : Ts w W B bt bm bp bs rt rm rq n L M v) (m : Tl W' bt bm bp bs n L') (c : Cha (fun i => i = bp ∨ i = bs) W W') : Ts w W' B bt bm bp bs rt rm rq n L' M v := by
  have hf := h.far
  have hn := h.new
  have hr := h.dt.ne
  exact ⟨m, h.dt.cha c (by omega) (by omega) (by omega) (by intro i hi; omega), h.cha.over c (by intro i hi; omega), hn, hf, Nat.le_trans h.hB c.size⟩
theorem Ts.rturn (h : Ts w W B bt bm bp bs rt rm rq n L M v) (m : Rt W' B rt rm rq n v' L') (c : Cha (fun i => i = rt ∨ i = rq) W W') : Ts w W' B bt bm bp bs rt rm rq n L L' v' := by
  have hf := h.far
  have hn := h.new
  exact ⟨⟨h.tl.1, h.tl.2.cha c (by omega) (by omega) (by omega) (by omega)⟩, m, h.cha.over c (by intro i hi; omega), hn, hf, Nat.le_trans h.hB c.size⟩
theorem ts_alloc {k tag r : Int} {s : Spn} (c : Alc5 n L k tag s r L') (hk2 : k ≤ 9223372036854775807) (h : Ts w W B bt bm bp bs rt rm rq n L L v) : Calls Try.prog 28 #[.pointer (some ⟨bt, 0, none⟩), .int .i64 k, .int .i64 tag] W fun e W' => e = .returned (.tuple #[.agg #[.int .i64 (s.b : Int), .int .i64 (s.k : Int), .int .i64 s.t], .int .i64 r]) ∧ Ts w W' B bt bm bp bs rt rm rq n L' L v ∧ Tq bp bs rt rq W W' :=
  (alloc5_any c hk2 h.tl).mono fun _ _ ⟨he, hm, hc⟩ => ⟨he, h.turn hm hc, hc.mono fun _ _ e => .inl e⟩
theorem ts_ralloc {k tag r : Int} {s : Spn} (c : Alc5 n L k tag s r L') (hk2 : k ≤ 9223372036854775807) (h : Ts w W B bt bm bp bs rt rm rq n L' L v) : Calls Try.prog 29 #[.pointer (some ⟨rt, 0, none⟩), .int .i64 k, .int .i64 tag] W fun e W' => ∃ v', e = .returned (.tuple #[.agg #[.int .i64 (s.b : Int), .int .i64 (s.k : Int), .int .i64 s.t], .int .i64 r]) ∧ Ts w W' B bt bm bp bs rt rm rq n L' L' v' ∧ Tq bp bs rt rq W W' :=
  (ralloc5_any c hk2 h.dt h.hB).mono fun _ _ ⟨v', he, hm, hc⟩ => ⟨v', he, h.rturn hm hc, hc.mono fun _ _ e => .inr e⟩
theorem ts_find {s : Spn} {b : Bool} {x : Int} (e : atP L n x = (s, b)) (h : Ts w W B bt bm bp bs rt rm rq n L M v) : Calls Try.prog 32 #[.pointer (some ⟨bt, 0, none⟩), .int .i64 x] W fun e W' => e = .returned (.tuple #[.agg #[.int .i64 (s.b : Int), .int .i64 (s.k : Int), .int .i64 s.t], .bool b]) ∧ Cha (fun _ => False) W W' :=
  (find_any x h.tl).mono fun _ _ ⟨he, hc, _⟩ => ⟨by rw [he, e]; rfl, hc⟩
theorem ts_rfind {s : Spn} {b : Bool} {x : Int} (hx : x ≤ 9223372036854775807) (e : atP M n x = (s, b)) (h : Ts w W B bt bm bp bs rt rm rq n L M v) : Calls Try.prog 33 #[.pointer (some ⟨rt, 0, none⟩), .int .i64 x] W fun e W' => e = .returned (.tuple #[.agg #[.int .i64 (s.b : Int), .int .i64 (s.k : Int), .int .i64 s.t], .bool b]) ∧ Cha (fun _ => False) W W' :=
  (rfind_any x hx h.dt).mono fun _ _ ⟨he, hc⟩ => ⟨by rw [he, e]; rfl, hc⟩
/-- What Free answers, and the spans behind it. -/
def Fre (n : Nat) (L : List Spn) (x r : Int) (L' : List Spn) : Prop := (r = 0 ∧ ∃ F ∈ L, (F.b : Int) = x ∧ L' = del F.b L) ∨ (r = 4 ∧ begP L n x = (noS, false) ∧ (∀ F ∈ L, (F.b : Int) ≠ x) ∧ L' = L)
theorem Fre.ex (_h : Good n L) (x : Int) : ∃ r L', Fre n L x r L' := by
  by_cases c : ∃ F ∈ L, (F.b : Int) = x
  · obtain ⟨F, h1, h2⟩ := c
    exact ⟨0, _, .inl ⟨rfl, F, h1, h2, rfl⟩⟩
  · have hno : ∀ F ∈ L, (F.b : Int) ≠ x := fun F h1 h2 => c ⟨F, h1, h2⟩
    refine ⟨4, _, .inr ⟨rfl, ?_, hno, rfl⟩⟩
    unfold begP
    rw [if_neg]
    rintro ⟨k0, _, k2, k3⟩
    exact hno _ (fOf_mem k2).1 (by omega)
theorem begp_yes (h : Good n L) {F : Spn} (hF : F ∈ L) : begP L n (F.b : Int) ≠ (noS, false) := by
  have hr := h.rng F hF
  have hhas : F.has F.b = true := has_iff.2 (by omega)
  unfold begP
  rw [Int.toNat_natCast, if_pos ⟨by omega, by omega, uOf_iff.2 ⟨F, hF, hhas⟩, by rw [h.fOf_yes hF hhas]⟩]
  intro e; have := congrArg Prod.snd e; cases this
theorem ts_free {x r : Int} (c : Fre n L x r L') (h : Ts w W B bt bm bp bs rt rm rq n L L v) : Calls Try.prog 30 #[.pointer (some ⟨bt, 0, none⟩), .int .i64 x] W fun e W' => e = .returned (.int .i64 r) ∧ Ts w W' B bt bm bp bs rt rm rq n L' L v ∧ Tq bp bs rt rq W W' := by
  rcases c with ⟨rfl, F, h1, rfl, rfl⟩ | ⟨rfl, h1, _, rfl⟩
  · exact (free5_ok F h1 h.tl).mono fun _ _ ⟨he, hm, hc⟩ => ⟨he, h.turn hm hc, hc.mono fun _ _ e => .inl e⟩
  · exact (free5_no x h1 h.tl).mono fun _ _ ⟨he, hc⟩ => ⟨he, h.same hc, hc.wide⟩
theorem ts_rfree {x r : Int} (c : Fre n L x r L') (h : Ts w W B bt bm bp bs rt rm rq n L' L v) : Calls Try.prog 31 #[.pointer (some ⟨rt, 0, none⟩), .int .i64 x] W fun e W' => ∃ v', e = .returned (.int .i64 r) ∧ Ts w W' B bt bm bp bs rt rm rq n L' L' v' ∧ Tq bp bs rt rq W W' := by
  refine (rfree5_any x h.dt h.hB).mono fun e W' hp => ?_
  rcases c with ⟨rfl, F, h1, h2, rfl⟩ | ⟨rfl, _, h2, rfl⟩
  · rcases hp with ⟨k1, _⟩ | ⟨F2, k1, k2, v', k3, k4, k5⟩
    · subst h2; exact absurd k1 (begp_yes h.dt.good h1)
    · have : F2.b = F.b := by omega
      rw [this] at k4
      exact ⟨v', k3, h.rturn k4 k5, k5.mono fun _ _ e => .inr e⟩
  · rcases hp with ⟨_, k2, k3⟩ | ⟨F2, k1, k2, _⟩
    · exact ⟨v, k2, h.same k3, k3.wide⟩
    · exact absurd k2 (h2 F2 k1)
end
theorem box_cells {W : World} {g : Nat} {p q r : Value} (h : W.heap[g]? = some (.cells #[p, q, r] 66 (0, 0))) : W.cell? ⟨g, 0, none⟩ = some p ∧ W.cell? ⟨g, 1, none⟩ = some q ∧ W.cell? ⟨g, 2, none⟩ = some r :=
  ⟨cell_of_row W g 0 _ 66 (0, 0) h, cell_of_row W g 1 _ 66 (0, 0) h, cell_of_row W g 2 _ 66 (0, 0) h⟩

set_option maxRecDepth 100000 in
set_option maxHeartbeats 2000000 in
theorem plays5_bad (p : Int) (v : Value) (w : World) (hp : p < 1 ∨ 4096 < p) : Calls Try.prog 7 #[.int .i64 p, v] w fun e w' => e = .returned (.bool true) ∧ Cha (fun _ => False) w w' := by
  have A25 := Lib.hid (new5_bad p w hp)
  have A26 := Lib.hid fun w => rnew5_bad p w hp
  have A27 := Lib.hid awake5_any
  clear hp
  go_enter Try.func7, Try.ntmps7
  go_wp2_with (first
    | (go_at_call 25; ((with_reducible refine (A25.out).mono ?_); rintro e w1 ⟨rfl, rfl⟩))
    | (go_at_call 26; ((with_reducible refine (A26.out _).mono ?_); rintro e w1 ⟨rfl, rfl⟩))
    | (go_at_call 27; ((with_reducible refine (A27.out _).mono ?_); rintro e w1 ⟨rfl, h⟩; have H12 := Lib.hid h; clear h)))
  go_ret
  exact ⟨rfl, H12.out⟩
theorem ts_start (n : Nat) (w w1 w2 : World) (h1 : Made5 w w1 n) (h2 : Rt w2 (w1.heap.size + 3) (w1.heap.size + 2) (w1.heap.size + 1) w1.heap.size n (.slice none 0 0) []) (hc : Cha (fun _ => False) w1 w2) (hs : w2.heap.size = w1.heap.size + 3) :
    Ts w w2 (w1.heap.size + 3) (w.heap.size + 3) (w.heap.size + 1) w.heap.size (w.heap.size + 2) (w1.heap.size + 2) (w1.heap.size + 1) w1.heap.size n [] [] (.slice none 0 0) := by
  have k1 := h1.tl.2.lt
  have k2 := h1.tl.2.pg.lt
  have k3 := h1.cha.size
  exact ⟨⟨h1.tl.1, h1.tl.2.same hc⟩, h2, h1.cha.trans hc, by omega, by omega, by omega⟩

set_option maxRecDepth 100000 in
set_option maxHeartbeats 8000000 in
theorem plays5_walk (n : Nat) (s : Option Addr) (len c : Nat) (w : World) (hp1 : 1 ≤ n) (hp2 : n ≤ 4096) (hs : Script w s len) :
    Calls Try.prog 7 #[.int .i64 (n : Int), .slice s len c] w fun e w' => e = .returned (.bool true) ∧ Cha (fun _ => False) w w' := by
  have A25 := Lib.hid (new5_ok n w hp1 hp2)
  have A26 := Lib.hid fun w => rnew5_ok n w hp1 hp2
  have A27 := Lib.hid awake5_any
  have HS := Lib.hid hs
  have hlen := hs.1
  clear hs
  go_enter Try.func7, Try.ntmps7
  go_wp2_with (first
    | (go_at_call 25; ((with_reducible refine (A25.out).mono ?_); rintro e w1 ⟨rfl, h⟩; have H10 := Lib.hid h; clear h))
    | (go_at_call 26; ((with_reducible refine (A26.out _).mono ?_); rintro e w2 ⟨rfl, h, hc, hs⟩; have H11 := Lib.hid (ts_start _ _ _ _ H10.out h hc hs); clear h hc hs))
    | (go_at_call 27; ((with_reducible refine (A27.out _).mono ?_); rintro e w3 ⟨rfl, h⟩; have H12 := Lib.hid (H11.out.same h); clear h)))
  clear A25 A26 A27 H10 H11
  have H13 : Hid (∃ v, Ts w w3 (w1.heap.size + 3) (w.heap.size + 3) (w.heap.size + 1) w.heap.size (w.heap.size + 2) (w1.heap.size + 2) (w1.heap.size + 1) w1.heap.size n [] [] v) := Lib.hid ⟨_, H12.out⟩
  clear H12
  generalize w1.heap.size + 3 = B at *
  generalize w1.heap.size + 2 = rt at *
  generalize w1.heap.size + 1 = rm at *
  generalize w1.heap.size = rq at *
  obtain ⟨bp, hbp⟩ : ∃ bp, bp = w.heap.size := ⟨_, rfl⟩
  have H14 : Hid (∃ v, Ts w w3 B (w.heap.size + 3) (w.heap.size + 1) bp (w.heap.size + 2) rt rm rq n [] [] v) := Lib.hid (by rw [hbp]; exact H13.out)
  clear H13 hbp
  generalize w.heap.size + 3 = bt at *
  generalize w.heap.size + 2 = bs at *
  generalize w.heap.size + 1 = bm at *
  go_loopw [54] (fun i wr => ∃ (j : Nat) (L : List Spn) (v : Value), j ≤ len ∧ i = .int .i64 (j : Int) ∧ Ts w wr B bt bm bp bs rt rm rq n L L v) (fun i _ => len - (intOf i).toNat)
  case atStart => obtain ⟨v0, h0⟩ := H14.out; exact ⟨0, [], v0, Nat.zero_le _, rfl, h0⟩
  case round =>
    clear H14
    obtain ⟨j, L, v, hj, rfl, hT⟩ := hrel
    by_cases hlt : j < len
    · obtain ⟨b, o, rfl, hz⟩ := HS.out.2 (by omega)
      obtain ⟨z0, z1, z2, hop⟩ := hz j hlt
      have hop := hop.cha hT.cha
      have HR := Lib.hid hop.cells
      have l1 := hop.l1
      have l2 := hop.l2
      have h1 := hop.h1
      have h2 := hop.h2
      have HG := Lib.hid hT.tl.1
      have hfar := hT.far
      have hrn := hT.dt.ne
      have hBw := hT.hB
      have HT := Lib.hid (hT.same ((Cha.refl _ wr).alloc (.cells #[.int .i64 z0, .int .i64 z1, .int .i64 z2] 64)))
      have hsz : wr.heap.size < (wr.alloc (.cells #[.int .i64 z0, .int .i64 z1, .int .i64 z2] 64)).heap.size := by show _ < (Array.push _ _).size; simp
      have KX : Hid (∀ W', Tq bp bs rt rq (wr.alloc (.cells #[.int .i64 z0, .int .i64 z1, .int .i64 z2] 64)) W' → W'.cell? ⟨wr.heap.size, 1, none⟩ = some (.int .i64 z1) ∧ W'.cell? ⟨wr.heap.size, 2, none⟩ = some (.int .i64 z2)) := Lib.hid fun W' hc => by
        have e := (hc.old _ hsz (by omega)).trans (heap_alloc_new wr _)
        exact ⟨cell_of_row W' _ 1 _ 64 _ e, cell_of_row W' _ 2 _ 64 _ e⟩
      clear hz hop hT
      by_cases hk0 : z0 = 0
      · subst hk0
        obtain ⟨s, r, L', hA⟩ := Alc5.ex HG.out z1 z2
        obtain ⟨f, fb, hf⟩ : ∃ f fb, atP L' n z1 = (f, fb) := ⟨_, _, rfl⟩
        have M := Lib.hid fun (W : World) v h => ts_alloc (w := w) (W := W) (B := B) (bt := bt) (bm := bm) (bp := bp) (bs := bs) (rt := rt) (rm := rm) (rq := rq) (v := v) hA h1 h
        have R := Lib.hid fun (W : World) v h => ts_ralloc (w := w) (W := W) (B := B) (bt := bt) (bm := bm) (bp := bp) (bs := bs) (rt := rt) (rm := rm) (rq := rq) (v := v) hA h1 h
        have C32 := Lib.hid fun (W : World) v h => ts_find (w := w) (W := W) (B := B) (bt := bt) (bm := bm) (bp := bp) (bs := bs) (rt := rt) (rm := rm) (rq := rq) (v := v) (M := L') hf h
        have C33 := Lib.hid fun (W : World) v h => ts_rfind (w := w) (W := W) (B := B) (bt := bt) (bm := bm) (bp := bp) (bs := bs) (rt := rt) (rm := rm) (rq := rq) (v := v) (L := L') h1 hf h
        clear hA hf
        go_wp2_with (first
          | (refine wpList_load_mid rfl 64 (.tmp 56) rfl b (o + j * 3) rfl _ _ HR.out Try.underlying64 rfl (by kernel_rfl) ?_)
          | (go_at_call 28; ((with_reducible refine (M.out _ _ HT.out).mono ?_); rintro e w5 ⟨rfl, hN, hc⟩; obtain ⟨k1, k2⟩ := KX.out _ hc; have h5 := hc.size; have h5 : wr.heap.size < w5.heap.size := (by omega); have HN := Lib.hid (hN.same ((Cha.refl _ w5).alloc (.cells #[.int .i64 (s.b : Int), .int .i64 (s.k : Int), .int .i64 s.t] 66))); have HC : Hid (Tq bp bs rt rq _ _) := Lib.hid (hc.alloc (.cells #[.int .i64 (s.b : Int), .int .i64 (s.k : Int), .int .i64 s.t] 66)); have HX := Lib.hid (heap_alloc_new w5 (.cells #[.int .i64 (s.b : Int), .int .i64 (s.k : Int), .int .i64 s.t] 66)); clear hN hc))
          | (go_at_call 29; ((with_reducible refine (R.out _ _ HN.out).mono ?_); rintro e w6 ⟨v', rfl, hN, hc⟩; have HD : Hid (Tq bp bs rt rq _ _) := Lib.hid (HC.out.trans hc); obtain ⟨q1, q2⟩ := KX.out _ HD.out; have hs6 := hc.size; rw [World.size_alloc] at hs6; have h6 : w5.heap.size < w6.heap.size := (by omega); have h6b : wr.heap.size < w6.heap.size := (by omega); obtain ⟨x0, x1, x2⟩ := box_cells ((hc.old w5.heap.size (by rw [World.size_alloc]; omega) (by omega)).trans HX.out); have HM := Lib.hid (hN.same ((Cha.refl _ w6).alloc (.cells #[.int .i64 (s.b : Int), .int .i64 (s.k : Int), .int .i64 s.t] 66))); have HDM : Hid (Tq bp bs rt rq _ _) := Lib.hid (HD.out.alloc (.cells #[.int .i64 (s.b : Int), .int .i64 (s.k : Int), .int .i64 s.t] 66)); clear hN hc))
          | (go_at_call 32; ((with_reducible refine (C32.out _ _ HM.out).mono ?_); rintro e w7 ⟨rfl, hc⟩; have HM7 := Lib.hid (HM.out.same (hc.alloc (.cells #[.int .i64 (f.b : Int), .int .i64 (f.k : Int), .int .i64 f.t] 66))); obtain ⟨p1, p2⟩ := KX.out _ (HDM.out.trans hc.wide); have hs7 := HDM.out.size; have hs7b := hc.size; have h7 : wr.heap.size < w7.heap.size := (by omega); have HY := Lib.hid (heap_alloc_new w7 (.cells #[.int .i64 (f.b : Int), .int .i64 (f.k : Int), .int .i64 f.t] 66)); clear hc))
          | (go_at_call 33; ((with_reducible refine (C33.out _ _ HM7.out).mono ?_); rintro e w8 ⟨rfl, hc⟩; have HM8 := Lib.hid (HM7.out.same (hc.alloc (.cells #[.int .i64 (f.b : Int), .int .i64 (f.k : Int), .int .i64 f.t] 66))); have hs8 := hc.size; rw [World.size_alloc] at hs8; have h8 : w7.heap.size < w8.heap.size := (by omega); have HY8 := Lib.hid ((hc.old w7.heap.size (by rw [World.size_alloc]; omega) (fun x => x)).trans HY.out); have HZ8 := Lib.hid (heap_alloc_new w8 (.cells #[.int .i64 (f.b : Int), .int .i64 (f.k : Int), .int .i64 f.t] 66)); obtain ⟨a0, a1, a2⟩ := box_cells HY8.out; clear hc))
          | (go_at_call 34; (have C34 := counts5 HM8.out.tl.2; (with_reducible refine (C34).mono ?_); clear C34; rintro e w9 ⟨rfl, hc⟩; have HM9 := Lib.hid (HM8.out.same hc); obtain ⟨b0, b1, b2⟩ := box_cells ((hc.old w7.heap.size (by rw [World.size_alloc]; omega) (fun x => x)).trans ((heap_alloc_old w8 _ h8).trans HY8.out)); obtain ⟨c0, c1, c2⟩ := box_cells ((hc.old w8.heap.size (by rw [World.size_alloc]; omega) (fun x => x)).trans HZ8.out); have rp := HM9.out.dt.ptr0; clear hc))
          | (go_at_call 19; ((with_reducible refine (rcounts_any HM9.out.dt.pg).mono ?_); rintro e w10 ⟨rfl, rfl⟩)))
        go_roundw
        case rel => exact ⟨j + 1, L', _, by omega, by go_num, HM9.out⟩
        case measure => simp [intOf]; omega
      · by_cases hk1 : z0 = 1
        · subst hk1
          obtain ⟨r, L', hA⟩ := Fre.ex HG.out z1
          obtain ⟨f, fb, hf⟩ : ∃ f fb, atP L' n z1 = (f, fb) := ⟨_, _, rfl⟩
          have M := Lib.hid fun (W : World) v h => ts_free (w := w) (W := W) (B := B) (bt := bt) (bm := bm) (bp := bp) (bs := bs) (rt := rt) (rm := rm) (rq := rq) (v := v) hA h
          have R := Lib.hid fun (W : World) v h => ts_rfree (w := w) (W := W) (B := B) (bt := bt) (bm := bm) (bp := bp) (bs := bs) (rt := rt) (rm := rm) (rq := rq) (v := v) hA h
          have C32 := Lib.hid fun (W : World) v h => ts_find (w := w) (W := W) (B := B) (bt := bt) (bm := bm) (bp := bp) (bs := bs) (rt := rt) (rm := rm) (rq := rq) (v := v) (M := L') hf h
          have C33 := Lib.hid fun (W : World) v h => ts_rfind (w := w) (W := W) (B := B) (bt := bt) (bm := bm) (bp := bp) (bs := bs) (rt := rt) (rm := rm) (rq := rq) (v := v) (L := L') h1 hf h
          clear hA hf
          go_wp2_with (refine wpList_load_mid rfl 64 (.tmp 56) rfl b (o + j * 3) rfl _ _ HR.out Try.underlying64 rfl (by kernel_rfl) ?_)
          generalize wr.heap.size = g at *
          generalize hWb : wr.alloc (.cells #[.int .i64 1, .int .i64 z1, .int .i64 z2] 64) = Wb at *
          clear hWb
          obtain ⟨k1, k2⟩ := KX.out Wb.drew (show Tq bp bs rt rq Wb Wb.drew from (Cha.refl _ Wb).drew)
          have HT2 := Lib.hid (HT.out.same ((Cha.refl _ Wb).drew))
          have KY : Hid (∀ W', Tq bp bs rt rq Wb.drew W' → W'.cell? ⟨g, 1, none⟩ = some (.int .i64 z1) ∧ W'.cell? ⟨g, 2, none⟩ = some (.int .i64 z2)) := Lib.hid fun W' hc => KX.out W' (show Tq bp bs rt rq Wb W' from ((Cha.refl _ Wb).drew).trans hc)
          go_region_held3 (fun w' => w'.cell? ⟨g, 1, none⟩ = some (.int .i64 z1) ∧ w'.cell? ⟨g, 2, none⟩ = some (.int .i64 z2))
            (first
              | go_keep
              | exact ⟨k1, k2⟩
              | exact KY.out _ (by assumption))
            (first
              | (go_at_call 30; refine (M.out Wb.drew _ HT2.out).mono ?_; rintro e5 w5 ⟨rfl, hH, hD⟩)
              | (go_at_call 31; refine (R.out w5 _ hH).mono ?_; rintro e6 w6 ⟨v', rfl, hN, hD2⟩; have hD3 : Tq bp bs rt rq Wb.drew w6 := Cha.trans hD hD2))
          all_goals
            have HM := Lib.hid hN
            have HDM : Hid (Tq bp bs rt rq Wb w6) := Lib.hid (show Cha _ Wb w6 from ((Cha.refl _ Wb).drew).trans hD3)
            clear hN hD3 hD2 hD hH
            go_wp2_with (first
              | (go_at_call 32; ((with_reducible refine (C32.out _ _ HM.out).mono ?_); rintro e w7 ⟨rfl, hc⟩; have HM7 := Lib.hid (HM.out.same (hc.alloc (.cells #[.int .i64 (f.b : Int), .int .i64 (f.k : Int), .int .i64 f.t] 66))); obtain ⟨p1, p2⟩ := KX.out _ (HDM.out.trans hc.wide); have hs7 := HDM.out.size; have hs7b := hc.size; have h7 : g < w7.heap.size := (by omega); have HY := Lib.hid (heap_alloc_new w7 (.cells #[.int .i64 (f.b : Int), .int .i64 (f.k : Int), .int .i64 f.t] 66)); clear hc))
              | (go_at_call 33; ((with_reducible refine (C33.out _ _ HM7.out).mono ?_); rintro e w8 ⟨rfl, hc⟩; have HM8 := Lib.hid (HM7.out.same (hc.alloc (.cells #[.int .i64 (f.b : Int), .int .i64 (f.k : Int), .int .i64 f.t] 66))); have hs8 := hc.size; rw [World.size_alloc] at hs8; have h8 : w7.heap.size < w8.heap.size := (by omega); have HY8 := Lib.hid ((hc.old w7.heap.size (by rw [World.size_alloc]; omega) (fun x => x)).trans HY.out); have HZ8 := Lib.hid (heap_alloc_new w8 (.cells #[.int .i64 (f.b : Int), .int .i64 (f.k : Int), .int .i64 f.t] 66)); obtain ⟨a0, a1, a2⟩ := box_cells HY8.out; clear hc))
              | (go_at_call 34; (have C34 := counts5 HM8.out.tl.2; (with_reducible refine (C34).mono ?_); clear C34; rintro e w9 ⟨rfl, hc⟩; have HM9 := Lib.hid (HM8.out.same hc); obtain ⟨b0, b1, b2⟩ := box_cells ((hc.old w7.heap.size (by rw [World.size_alloc]; omega) (fun x => x)).trans ((heap_alloc_old w8 _ h8).trans HY8.out)); obtain ⟨c0, c1, c2⟩ := box_cells ((hc.old w8.heap.size (by rw [World.size_alloc]; omega) (fun x => x)).trans HZ8.out); have rp := HM9.out.dt.ptr0; clear hc))
              | (go_at_call 19; ((with_reducible refine (rcounts_any HM9.out.dt.pg).mono ?_); rintro e w10 ⟨rfl, rfl⟩)))
            go_roundw
            case rel => exact ⟨j + 1, L', _, by omega, by go_num, HM9.out⟩
            case measure => simp [intOf]; omega
        · obtain ⟨f, fb, hf⟩ : ∃ f fb, atP L n z1 = (f, fb) := ⟨_, _, rfl⟩
          have HM := HT
          have HDM : Hid (Tq bp bs rt rq (wr.alloc (.cells #[.int .i64 z0, .int .i64 z1, .int .i64 z2] 64)) (wr.alloc (.cells #[.int .i64 z0, .int .i64 z1, .int .i64 z2] 64))) := Lib.hid (Cha.refl _ _)
          have C32 := Lib.hid fun (W : World) v h => ts_find (w := w) (W := W) (B := B) (bt := bt) (bm := bm) (bp := bp) (bs := bs) (rt := rt) (rm := rm) (rq := rq) (v := v) (M := L) hf h
          have C33 := Lib.hid fun (W : World) v h => ts_rfind (w := w) (W := W) (B := B) (bt := bt) (bm := bm) (bp := bp) (bs := bs) (rt := rt) (rm := rm) (rq := rq) (v := v) (L := L) h1 hf h
          clear hf
          go_wp2_with (first
            | (refine wpList_load_mid rfl 64 (.tmp 56) rfl b (o + j * 3) rfl _ _ HR.out Try.underlying64 rfl (by kernel_rfl) ?_)
            | (go_at_call 32; ((with_reducible refine (C32.out _ _ HM.out).mono ?_); rintro e w7 ⟨rfl, hc⟩; have HM7 := Lib.hid (HM.out.same (hc.alloc (.cells #[.int .i64 (f.b : Int), .int .i64 (f.k : Int), .int .i64 f.t] 66))); obtain ⟨p1, p2⟩ := KX.out _ (HDM.out.trans hc.wide); have hs7 := HDM.out.size; have hs7b := hc.size; have h7 : wr.heap.size < w7.heap.size := (by omega); have HY := Lib.hid (heap_alloc_new w7 (.cells #[.int .i64 (f.b : Int), .int .i64 (f.k : Int), .int .i64 f.t] 66)); clear hc))
            | (go_at_call 33; ((with_reducible refine (C33.out _ _ HM7.out).mono ?_); rintro e w8 ⟨rfl, hc⟩; have HM8 := Lib.hid (HM7.out.same (hc.alloc (.cells #[.int .i64 (f.b : Int), .int .i64 (f.k : Int), .int .i64 f.t] 66))); have hs8 := hc.size; rw [World.size_alloc] at hs8; have h8 : w7.heap.size < w8.heap.size := (by omega); have HY8 := Lib.hid ((hc.old w7.heap.size (by rw [World.size_alloc]; omega) (fun x => x)).trans HY.out); have HZ8 := Lib.hid (heap_alloc_new w8 (.cells #[.int .i64 (f.b : Int), .int .i64 (f.k : Int), .int .i64 f.t] 66)); obtain ⟨a0, a1, a2⟩ := box_cells HY8.out; clear hc))
            | (go_at_call 34; (have C34 := counts5 HM8.out.tl.2; (with_reducible refine (C34).mono ?_); clear C34; rintro e w9 ⟨rfl, hc⟩; have HM9 := Lib.hid (HM8.out.same hc); obtain ⟨b0, b1, b2⟩ := box_cells ((hc.old w7.heap.size (by rw [World.size_alloc]; omega) (fun x => x)).trans ((heap_alloc_old w8 _ h8).trans HY8.out)); obtain ⟨c0, c1, c2⟩ := box_cells ((hc.old w8.heap.size (by rw [World.size_alloc]; omega) (fun x => x)).trans HZ8.out); have rp := HM9.out.dt.ptr0; clear hc))
            | (go_at_call 19; ((with_reducible refine (rcounts_any HM9.out.dt.pg).mono ?_); rintro e w10 ⟨rfl, rfl⟩)))
          go_roundw
          case rel => exact ⟨j + 1, L, _, by omega, by go_num, HM9.out⟩
          case measure => simp [intOf]; omega
    · obtain rfl : j = len := by omega
      have hL := good_length hT.tl.1
      obtain ⟨a2, cap2, rfl, _⟩ := hT.dt.slice
      have HT := Lib.hid hT
      clear hT
      have C35 : Hid (∀ W v, Ts w W B bt bm bp bs rt rm rq n L L v → Calls Try.prog 35 #[.pointer (some ⟨bt, 0, none⟩), .int .i64 (-1)] W fun e W' => (∃ a c, e = .returned (.tuple #[.slice a L.length c, .bool true]) ∧ Trips W' (.slice a L.length c) L) ∧ Cha (fun _ => False) W W') := Lib.hid fun W v h => (all_any W h.tl).mono fun e W' ⟨v, he, ho, hc⟩ => ⟨by
        obtain ⟨a, c, e1, _⟩ := trips_of_own ho
        exact ⟨a, c, by rw [he, e1], by rw [← e1]; exact trips_of_own ho⟩, hc⟩
      go_wp2_with (first
        | (go_at_call 35; ((with_reducible refine (C35.out _ _ HT.out).mono ?_); rintro e w5 ⟨⟨a3, c3, rfl, htr⟩, hc⟩; have HT5 := Lib.hid (HT.out.same hc); have HA3 := Lib.hid htr; have HU := Lib.hid (trips_of_own HT5.out.dt.lst); have rp1 := HT5.out.dt.ptr1; clear htr hc))
        | (go_at_call 36; ((with_reducible refine (same5_any (by omega) HA3.out HU.out).mono ?_); rintro e w7 ⟨rfl, hc⟩; have HT7 := Lib.hid (HT5.out.same hc); clear hc)))
      go_ret
      exact ⟨rfl, HT7.out.cha⟩
end Go.Proofs.Ytgglcfmnhiakcaa
