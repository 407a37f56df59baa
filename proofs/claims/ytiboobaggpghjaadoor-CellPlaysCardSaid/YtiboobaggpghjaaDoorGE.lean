/- CellPlays: the list of cells beside both rooms. -/
import Derived.Test.YtiboobaggpghjaaDoorGC
import Derived.Test.YtiboobaggpghjaaDoorEB
import Derived.Test.YtiboobaggpghjaaDoorDV
import Derived.Test.YtiboobaggpghjaaDoorDU
import Derived.Deep.CutBlock
import Derived.Deep.DeepCutAuto
import Derived.Outline
namespace Go.Proofs.YtiboobaggpghjaaDoor
open Go.ChangeShapes Go.WideShapes Go.ChangeAt Go.RowKit
theorem wle (x : Int) : IntKind.i64.wrap x ≤ 9223372036854775807 := by
  rw [IntWalk.i64_left]
  unfold RowKit.wrap64
  omega
/-- The list's own block, as it lies. -/
def mX (W : World) (q : Value) : Nat → Option Obj := fun i => if q.ownBlock = some i then W.heap[i]? else none
section
variable {n pr bc dc rt : Nat} {w0 w W W' : World} {X X' : Nat → Option Obj} {A A2 : List Bk} {B m : Nat} {F : Nat → Prop} {q q' v' : Value} {M : Nat → Int} {g : Nat} {o o' : Obj}
theorem Li.row (h : Li B F W q m M) (e : ∀ g, q.ownBlock = some g → W'.heap[g]? = W.heap[g]?) : Li B F W' q m M := by
  refine ⟨⟨h.own.1, ?_⟩, h.far⟩
  rcases h.own.2 with h | ⟨g, cap, cur, h1, hg, h2, h3⟩
  · exact .inl h
  · exact .inr ⟨g, cap, cur, h1, hg, (e g (by rw [h1]; rfl)).trans h2, h3⟩
theorem li_pr (h : Li B F W q m M) (p : Pr n pr bc dc rt w0 X W' A A2) (hx : ∀ i o, mX W q i = some o → X i = some o) : Li B F W' q m M :=
  h.row fun g e => by
    have hl := (h.lt e).2
    have e2 : mX W q g = some W.heap[g] := by unfold mX; rw [if_pos e, Array.getElem?_eq_getElem hl]
    rw [p.row (hx _ _ e2), Array.getElem?_eq_getElem hl]
theorem Pr.weak (h : Pr n pr bc dc rt w0 X W A A2) (hx : ∀ i o, X' i = some o → X i = some o) : Pr n pr bc dc rt w0 X' W A A2 :=
  h.turn (Cha.refl (fun _ => False) W) (fun _ f => f.elim) fun i o e => ⟨h.row (hx i o e), .inl (by rw [hx i o e]; simp)⟩
theorem bx_old {i : Nat} (h : X i = some o) (hn : X g = none) : bx X g o' i = some o := by
  unfold bx
  by_cases c : i = g
  · subst c; rw [hn] at h; cases h
  · rw [if_neg c]; exact h
/-- A cell of the box is written. -/
theorem Pr.put {cs : Array Value} {t : TypeId} (h : Pr n pr bc dc rt w0 (bx X g (.cells cs t)) W A A2) (hg : w0.heap.size ≤ g) (i : Nat) (v : Value) :
    Pr n pr bc dc rt w0 (bx X g (.cells (cs.setIfInBounds i v) t)) (W.setCell ⟨g, i, none⟩ v) A A2 := by
  have hr := h.row (bx_at X g (.cells cs t))
  refine h.turn (S := fun j => j = g) ((Cha.refl (fun j => j = g) W).setCell (p := ⟨g, i, none⟩) (fun _ => rfl) _) (fun j e => ⟨by rw [e, bx_at]; simp, by rw [e]; exact hg⟩) fun j o e => ?_
  unfold bx at e
  by_cases c : j = g
  · subst c
    rw [if_pos rfl] at e
    cases e
    exact ⟨heap_setCell_same W j i _ t _ hr, .inl (by rw [bx_at]; simp)⟩
  · rw [if_neg c] at e
    have e2 : bx X g (.cells cs t) j = some o := by unfold bx; rw [if_neg c]; exact e
    exact ⟨by rw [heap_setCell_other _ _ _ _ c]; exact h.row e2, .inl (by rw [e2]; simp)⟩
/-- The list is longer by one. -/
theorem Pr.app {cs : Array Value} {t : TypeId} (h : Pr n pr bc dc rt w0 (bx (mX w q) g (.cells cs t)) W A A2) (hl : Li w0.heap.size F W q m M) (hq : ∀ i, q.ownBlock = some i → i ≠ g) (hw : ∀ i, q.ownBlock = some i → w.heap[i]? ≠ none) {x : Int} (hF : ∀ i, F i → False)
    (h1 : W'.ownsRow w0.heap.size 3 1 v' (m + 1) (ilz M m ++ [.int .i64 x])) (hg : (W.alloc o).grownBy W' q.ownBlock) (hh : v'.ownBlock = q.ownBlock ∨ ∀ i, v'.ownBlock = some i → (W.alloc o).heap.size ≤ i) :
    Li w0.heap.size F W' v' (m + 1) (put9 M m x) ∧ Pr n pr bc dc rt w0 (bx (mX W' v') g (.cells cs t)) W' A A2 ∧ mX W' v' g = none := by
  obtain ⟨l, c⟩ := hl.app (fun i fi => (hF i fi).elim) h1 hg hh
  refine ⟨l, h.turn c (fun i e => ⟨?_, (hl.lt e).1⟩) fun i ob e => ?_, ?_⟩
  · unfold bx mX
    rw [if_neg (hq i e), if_pos e]
    exact hw i e
  · have hr := h.row (bx_at (mX w q) g (.cells cs t))
    have hgl := (Array.getElem?_eq_some_iff.1 hr).1
    unfold bx at e
    by_cases ci : i = g
    · subst ci
      rw [if_pos rfl] at e
      cases e
      exact ⟨(c.old i hgl (fun e => hq i e rfl)).trans hr, .inl (by rw [bx_at]; simp)⟩
    · rw [if_neg ci] at e
      unfold mX at e
      by_cases c2 : v'.ownBlock = some i
      · rw [if_pos c2] at e
        refine ⟨e, ?_⟩
        rcases hh with hh | hh
        · refine .inl ?_
          rw [hh] at c2
          unfold bx mX
          rw [if_neg ci, if_pos c2]
          exact hw i c2
        · have := hh i c2
          rw [World.size_alloc] at this
          exact .inr (by omega)
      · rw [if_neg c2] at e; cases e
  · have hgl := (Array.getElem?_eq_some_iff.1 (h.row (bx_at (mX w q) g (.cells cs t)))).1
    unfold mX
    by_cases c2 : v'.ownBlock = some g
    · rcases hh with hh | hh
      · rw [hh] at c2
        exact (hq g c2 rfl).elim
      · have := hh g c2
        rw [World.size_alloc] at this
        omega
    · rw [if_neg c2]
/-- At a round's end the boxes are forgotten. -/
theorem pr_end {g1 g2 : Nat} {o1 o2 : Obj} (h : Pr n pr bc dc rt w0 (bx (bx (mX w q) g1 o1) g2 o2) W A A2) (hl : Li B F w q m M) (n1 : mX w q g1 = none) (n2 : bx (mX w q) g1 o1 g2 = none) : Pr n pr bc dc rt w0 (mX W q) W A A2 ∧ Li B F W q m M := by
  have key : ∀ i o, mX w q i = some o → bx (bx (mX w q) g1 o1) g2 o2 i = some o := fun i o e => bx_old (bx_old e n1) n2
  refine ⟨h.weak fun i o e => ?_, li_pr hl h key⟩
  unfold mX at e
  by_cases c : q.ownBlock = some i
  · rw [if_pos c] at e
    have hlt := (hl.lt c).2
    have e2 : mX w q i = some w.heap[i] := by unfold mX; rw [if_pos c, Array.getElem?_eq_getElem hlt]
    have := h.row (key _ _ e2)
    rw [this] at e
    cases e
    exact key _ _ e2
  · rw [if_neg c] at e; cases e
end
end Go.Proofs.YtiboobaggpghjaaDoor

namespace Go.Proofs.YtiboobaggpghjaaDoor
open Go.ChangeShapes Go.WideShapes Go.ChangeAt Go.RowKit
theorem bytes41 : Tryd.prog.bytesOf 41 = 32 := by kernel_rfl
theorem script_size {H : Type} {enc : TypeId × Value → H} {W : World} {base : Nat} {spare : Nat → Bool} {held : Bool} {s t : TypeId} (hs : Tryd.prog.underlying s = some (.slice t)) {fuel : Nat} {a : Option Addr} {len c : Nat} {d : DataW H} {ps : List MemPlace}
    (h : DataW.trod enc Tryd.prog W base spare held fuel s (Value.slice a len c).cells.toList = some (d, ps)) : len = 0 ∨ ∃ el sp, d = .slice el sp ∧ el.length = len := by
  rcases DataW.trod_slice hs h with ⟨hcs, _⟩ | ⟨a', len', cap', elems, rest, n, _, hcs, hx, hb, hl, hm, hlen, hel, _⟩
  · simp [Value.cells] at hcs
    exact .inl hcs.2.1
  · simp [Value.cells] at hcs
    obtain ⟨rfl, rfl, rfl⟩ := hcs
    cases hx
    exact .inr ⟨_, _, rfl, by rw [List.length_map]; exact hlen⟩
end Go.Proofs.YtiboobaggpghjaaDoor

namespace Go.Proofs.YtiboobaggpghjaaDoor
open Go.ChangeShapes Go.WideShapes Go.ChangeAt Go.RowKit
theorem wle64 (x : Int) : wrap64 x ≤ 9223372036854775807 := by rw [← IntWalk.i64_left]; exact wle x
set_option maxRecDepth 100000 in
set_option maxHeartbeats 4000000 in
theorem plays7_bad (p0 p1 : Int) (w : World) (hs : Siz w) (s : Option Addr) (len c : Nat) (hb : (p1 < 1 ∨ 8 < p1) ∨ (1 ≤ p1 ∧ p1 ≤ 8 ∧ (p0 < 1 ∨ 4096 < p0))) :
    Calls Tryd.prog 6 #[.int .i64 p0, .int .i64 p1, .slice s len c] w fun e w' => e = .returned (.bool true) ∧ Cha (fun _ => False) w w' := by
  have C21 : Hid (Calls Tryd.prog 21 #[.int .i64 p0, .int .i64 p1] w fun e w' => e = .returned (.tuple #[.pointer none, .int .i64 1]) ∧ w = w') := Lib.hid (by
    rcases hb with hb | ⟨h1, h2, h3⟩
    · exact cnew_procs p0 p1 w hb
    · exact cnew_pages p0 p1 w h1 h2 h3)
  have C22 : Hid (Calls Tryd.prog 22 #[.int .i64 p0, .int .i64 p1] w fun e w' => e = .returned (.tuple #[.pointer none, .int .i64 1]) ∧ w = w') := Lib.hid (by
    rcases hb with hb | ⟨h1, h2, h3⟩
    · exact dnew_procs p0 p1 w hb
    · exact dnew_pages p0 p1 w h1 h2 h3)
  have C23 := Lib.hid (awake7 w hs)
  clear hb hs
  go_enter Tryd.func6, Tryd.ntmps6
  go_wp2_with (first
    | (go_at_call 21; ((with_reducible refine (C21.out).mono ?_); rintro e w1 ⟨rfl, rfl⟩))
    | (go_at_call 22; ((with_reducible refine (C22.out).mono ?_); rintro e w2 ⟨rfl, rfl⟩))
    | (go_at_call 23; ((with_reducible refine (C23.out).mono ?_); rintro e w3 ⟨rfl, hc⟩; have HC := Lib.hid hc; clear hc)))
  go_returns
  exact ⟨rfl, HC.out⟩
set_option maxRecDepth 100000 in
set_option maxHeartbeats 16000000 in
theorem plays7_ok (n pr : Nat) (w : World) (hs : Siz w) (s : Option Addr) (len c : Nat) (k : Script w s len) (hz : len * 32 ≤ 140737488351232) (hn1 : 1 ≤ n) (hn2 : n ≤ 4096) (hp1 : 1 ≤ pr) (hp2 : pr ≤ 8) :
    Calls Tryd.prog 6 #[.int .i64 (n : Int), .int .i64 (pr : Int), .slice s len c] w fun e w' => e = .returned (.bool true) ∧ Cha (fun _ => False) w w' := by
  have C21 := Lib.hid (oc_new n pr w hn1 hn2 hp1 hp2 hs)
  have C22 := Lib.hid (fun w1 => dnew_ok n pr w1 hn1 hn2 hp1 hp2)
  have hpos : 0 < w.heap.size := by
    obtain ⟨_, _, hs0⟩ := hs
    exact (Array.getElem?_eq_some_iff.1 hs0).1
  have PR : Hid (∀ bc dc rt w1 w2 F F2, Oc n pr F bc w1 [] → Cha (fun _ => False) w w1 → (∀ i, F i → w.heap.size ≤ i) → Ce n pr F2 w2 dc rt (.slice none 0 0) [] → Cha (fun _ => False) w1 w2 → (∀ i, F2 i → w1.heap.size ≤ i) → Pr n pr bc dc rt w (mX w2 (.slice none 0 0)) w2 [] []) := Lib.hid fun bc dc rt w1 w2 F F2 a1 a2 a3 b1 b2 b3 =>
    ⟨⟨F, F2, _, [], a1.same b2, a3, rfl, b1, fun i hi => Nat.le_trans a2.size (b3 i hi), fun i hi h2 => by have := a1.lt hi; have := b3 i h2; omega, fun i o e => by unfold mX at e; rw [if_neg (by simp [Value.ownBlock])] at e; cases e⟩, a2.trans b2, hpos⟩
  have C23 : Hid (∀ bc dc rt w2, Pr n pr bc dc rt w (mX w2 (.slice none 0 0)) w2 [] [] → Calls Tryd.prog 23 #[] w2 fun e w' => e = .returned (.bool true) ∧ Pr n pr bc dc rt w (mX w' (.slice none 0 0)) w' [] []) := Lib.hid fun bc dc rt w2 h => (awake7 w2 h.siz).mono fun e w' ⟨he, hc⟩ => ⟨he, (h.same hc).weak fun i o e => by unfold mX at e; rw [if_neg (by simp [Value.ownBlock])] at e; cases e⟩
  have HS := Lib.hid k.2
  clear hn1 hn2 hp1 hp2 hs k hpos
  go_enter Tryd.func6, Tryd.ntmps6
  go_wp2_with (first
    | (go_at_call 21; ((with_reducible refine (C21.out).mono ?_); rintro e w1 ⟨bc, rfl, F, h1, h2, h3⟩; have A1 := Lib.hid h1; have A2 := Lib.hid h2; have A3 := Lib.hid h3; clear h1 h2 h3))
    | (go_at_call 22; ((with_reducible refine (C22.out _).mono ?_); rintro e w2 ⟨dc, rt, F2, rfl, h1, h2, h3⟩; have P2 := Lib.hid (PR.out _ _ _ _ _ _ _ A1.out A2.out A3.out h1 h2 h3); clear h1 h2 h3))
    | (go_at_call 23; ((with_reducible refine (C23.out _ _ _ _ P2.out).mono ?_); rintro e w3 ⟨rfl, h⟩; have P3 := Lib.hid h; clear h)))
  clear C21 C22 C23 PR A1 A2 A3 P2
  obtain ⟨i0, hi, hz0, hz1, hz2⟩ := info_parts info3
  go_loopw [11, 60] (fun q i wr => ∃ (j m : Nat) (M : Nat → Int) (A : List Bk), j ≤ len ∧ m ≤ j ∧ i = .int .i64 (j : Int) ∧ Li w.heap.size (fun _ => False) wr q m M ∧ (∀ i, i < m → M i ≤ 9223372036854775807) ∧ Pr n pr bc dc rt w (mX wr q) wr A A) (fun _ i _ => len - (intOf i).toNat)
  case atStart => exact ⟨0, 0, fun _ => 0, [], Nat.zero_le _, Nat.zero_le _, rfl, Li.nil _ _ _ _, fun i hi => by omega, P3.out⟩
  case round =>
    clear P3
    obtain ⟨j, m, M, A, hj, hm, rfl, hL, hM, hP⟩ := hrel
    obtain ⟨qa, qc, rfl, hsh⟩ := hL.shape
    have HL := Lib.hid hL
    have HM := Lib.hid hM
    by_cases hlt : j < len
    · obtain ⟨b, o, rfl, hz3⟩ := HS.out (by omega)
      obtain ⟨z0, z1, z2, z3, hop⟩ := hz3 j hlt
      have hop := hop.cha hP.cha
      have HR := Lib.hid hop.cells
      have l1 := hop.h1
      have l2 := hop.h2
      have XN := Lib.hid hP.fresh_none
      have HW : Hid (w.heap.size ≤ wr.heap.size) := Lib.hid hP.cha.size
      have HB := Lib.hid (hP.box (.cells #[.int .i64 z0, .int .i64 z1, .int .i64 z2, .int .i64 z3] 41))
      have HBA : Hid (∀ a : Int, Pr n pr bc dc rt w (bx (mX wr (.slice qa m qc)) wr.heap.size (.cells #[.int .i64 z0, .int .i64 a, .int .i64 z2, .int .i64 z3] 41)) (wr.alloc (.cells #[.int .i64 z0, .int .i64 a, .int .i64 z2, .int .i64 z3] 41)) A A) := Lib.hid fun a => hP.box _
      have HQ : Hid (∀ i, (Value.slice qa m qc).ownBlock = some i → i ≠ wr.heap.size) := Lib.hid fun i e c => by have := (HL.out.lt e).2; omega
      have HQ2 : Hid (∀ i, (Value.slice qa m qc).ownBlock = some i → wr.heap[i]? ≠ none) := Lib.hid fun i e c => by have := (HL.out.lt e).2; rw [Array.getElem?_eq_getElem this] at c; cases c
      have l1b := HL.out.cha ((Cha.refl (fun _ => False) wr).alloc (.cells #[.int .i64 z0, .int .i64 z1, .int .i64 z2, .int .i64 z3] 41)) (fun _ _ f => f)
      obtain ⟨_, _, eqs, hsh1⟩ := l1b.shape
      cases eqs
      have SH1 := Lib.hid hsh1
      clear hz3 hop hP hL hM hsh hsh1 l1b
      have R5A : Hid (∀ a w5 A', Pr n pr bc dc rt w (bx (mX wr (.slice qa m qc)) wr.heap.size (.cells #[.int .i64 z0, .int .i64 a, .int .i64 z2, .int .i64 z3] 41)) w5 A' A' → w5.cell? ⟨wr.heap.size, 0, none⟩ = some (.int .i64 z0) ∧ w5.cell? ⟨wr.heap.size, 1, none⟩ = some (.int .i64 a)) := Lib.hid fun a w5 A' h => by
        have r := h.row (bx_at _ _ _)
        exact ⟨cell_of_row _ _ 0 _ 41 (0, 0) r, cell_of_row _ _ 1 _ 41 (0, 0) r⟩
      have L5A : Hid (∀ a w5 A', Pr n pr bc dc rt w (bx (mX wr (.slice qa m qc)) wr.heap.size (.cells #[.int .i64 z0, .int .i64 a, .int .i64 z2, .int .i64 z3] 41)) w5 A' A' → Li w.heap.size (fun _ => False) w5 (.slice qa m qc) m M) := Lib.hid fun a w5 A' h => li_pr HL.out h fun i o e => bx_old e XN.out
      have APPA : Hid (∀ a w5 A', Pr n pr bc dc rt w (bx (mX wr (.slice qa m qc)) wr.heap.size (.cells #[.int .i64 z0, .int .i64 a, .int .i64 z2, .int .i64 z3] 41)) w5 A' A' → ∀ x w6 v', x ≤ 9223372036854775807 → w6.ownsRow w.heap.size 3 1 v' (m + 1) (ilz M m ++ [.int .i64 x]) → (w5.alloc (.cells #[.int .i64 x] 3)).grownBy w6 (Value.slice qa m qc).ownBlock → (v'.ownBlock = (Value.slice qa m qc).ownBlock ∨ ∀ i, v'.ownBlock = some i → (w5.alloc (.cells #[.int .i64 x] 3)).heap.size ≤ i) →
          Li w.heap.size (fun _ => False) w6 v' (m + 1) (put9 M m x) ∧ Pr n pr bc dc rt w (bx (mX w6 v') wr.heap.size (.cells #[.int .i64 z0, .int .i64 a, .int .i64 z2, .int .i64 z3] 41)) w6 A' A' ∧ mX w6 v' wr.heap.size = none ∧ (∀ i, i < m + 1 → put9 M m x i ≤ 9223372036854775807) ∧ w6.cell? ⟨wr.heap.size, 1, none⟩ = some (.int .i64 a)) := Lib.hid fun a w5 A' h x w6 v' hx a1 a2 a3 => by
        obtain ⟨b1, b2, b3⟩ := h.app (L5A.out _ _ _ h) HQ.out HQ2.out (fun _ f => f) a1 a2 a3
        refine ⟨b1, b2, b3, fun i hi => ?_, cell_of_row _ _ 1 _ 41 (0, 0) (b2.row (bx_at _ _ _))⟩
        unfold put9
        split
        · exact hx
        · exact HM.out i (by omega)
      have r := HB.out.row (bx_at _ _ _)
      have k0 := cell_of_row _ _ 0 _ 41 (0, 0) r
      have k1 := cell_of_row _ _ 1 _ 41 (0, 0) r
      have k3 := cell_of_row _ _ 3 _ 41 (0, 0) r
      have kf := frozen_of_row _ wr.heap.size 1 _ 41 r
      clear r
      by_cases e1 : z0 = 1
      · subst e1
        by_cases c3 : 0 ≤ z3
        · by_cases c4 : z3 < (m : Int)
          · obtain ⟨k, rfl⟩ : ∃ k : Nat, z3 = (k : Int) := ⟨z3.toNat, by omega⟩
            have c5 : k < m := by omega
            obtain ⟨gq, rfl, _, _, _, hc, _⟩ := SH1.out (by omega)
            have h0 := hc k c5
            have HMk := HM.out k c5
            clear hc
            as_aux_lemma =>
              have PA := Lib.hid (HBA.out (M k))
              have r := PA.out.row (bx_at _ _ _)
              have g0 := cell_of_row _ _ 0 _ 41 (0, 0) r
              have g1 := cell_of_row _ _ 1 _ 41 (0, 0) r
              have g2 := cell_of_row _ _ 2 _ 41 (0, 0) r
              have g3 := cell_of_row _ _ 3 _ 41 (0, 0) r
              have HA := HMk
              have C24 := Lib.hid (one_any 1 (M k) z2 (k : Int) HA l2 PA.out)
              have R5 := Lib.hid (R5A.out (M k))
              have L5 := Lib.hid (L5A.out (M k))
              have APP := Lib.hid (APPA.out (M k))
              clear r R5A L5A APPA HB HBA PA
              go_upto_block 2 with (refine wpList_load_mid rfl 41 (.tmp 62) rfl b (o + j * 4) rfl _ _ HR.out Tryd.underlying41 rfl (by kernel_rfl) ?_)
              go_wp2_with (go_at_call 24; ((with_reducible refine (C24.out).mono ?_); rintro e w5 ⟨x, A', hx, rfl, h⟩; obtain ⟨y0, y1⟩ := R5.out _ _ h; have L6 := Lib.hid (L5.out _ _ h); have H5 := Lib.hid h; have S5 : Hid (w.heap.size ≤ w5.heap.size) := Lib.hid h.cha.size; clear h))
              have LL := HL
              have PP := H5
              have NN := XN
              have MM := HM
              have T2 := Lib.hid PP.out.fresh_none
              have PB := Lib.hid (PP.out.box (.cells #[.int .i64 x, .int .i64 (wrap64 (x + 1)), .int .i64 (M k)] 3))
              have hw1 := wle64 (x + 1)
              generalize hb4 : wr.heap.size = b4 at *
              generalize ht : w5.heap.size = t at *
              go_loopw [118] (fun i wi => ∃ j2 : Nat, j2 ≤ 3 ∧ i = .int .i64 (j2 : Int) ∧ Pr n pr bc dc rt w (bx (bx (mX wr (.slice (some ⟨gq, 0, none⟩) m qc)) b4 (.cells #[.int .i64 1, .int .i64 (M k), .int .i64 z2, .int .i64 (k : Int)] 41)) t (.cells #[.int .i64 x, .int .i64 (wrap64 (x + 1)), .int .i64 (M k)] 3)) wi A' A') (fun i _ => 3 - (intOf i).toNat)
              case atStart => exact ⟨0, by omega, rfl, PB.out⟩
              case round =>
                rename World => wi
                obtain ⟨j2, hj2, rfl, hPi⟩ := hrel
                have HPi := Lib.hid hPi
                have ri := hPi.row (bx_at _ _ _)
                by_cases c3 : j2 < 3
                · have PF : ∃ p, p ≤ 9223372036854775807 ∧ wi.cell? ⟨t, j2, none⟩ = some (.int .i64 p) := by
                    have : j2 = 0 ∨ j2 = 1 ∨ j2 = 2 := by omega
                    rcases this with rfl | rfl | rfl
                    · exact ⟨_, hx, cell_of_row _ _ 0 _ 3 (0, 0) ri⟩
                    · exact ⟨_, hw1, cell_of_row _ _ 1 _ 3 (0, 0) ri⟩
                    · exact ⟨_, HA, cell_of_row _ _ 2 _ 3 (0, 0) ri⟩
                  obtain ⟨p, hp, kp⟩ := PF
                  obtain ⟨fa, fb, fc, q25, q26⟩ := pair_find (n := n) (pr := pr) (bc := bc) (dc := dc) (rt := rt) (A := A') w (bx (bx (mX wr (.slice (some ⟨gq, 0, none⟩) m qc)) b4 (.cells #[.int .i64 1, .int .i64 (M k), .int .i64 z2, .int .i64 (k : Int)] 41)) t (.cells #[.int .i64 x, .int .i64 (wrap64 (x + 1)), .int .i64 (M k)] 3)) p hp
                  obtain ⟨fu, q27, q28⟩ := pair_used (n := n) (pr := pr) (bc := bc) (dc := dc) (rt := rt) (A := A') w (bx (bx (mX wr (.slice (some ⟨gq, 0, none⟩) m qc)) b4 (.cells #[.int .i64 1, .int .i64 (M k), .int .i64 z2, .int .i64 (k : Int)] 41)) t (.cells #[.int .i64 x, .int .i64 (wrap64 (x + 1)), .int .i64 (M k)] 3)) (wrap64 (p.tdiv 64)) (wle64 _)
                  have C25 := Lib.hid q25
                  have C26 := Lib.hid q26
                  have C27 := Lib.hid q27
                  have C28 := Lib.hid q28
                  have r1 : (fa != fa) = false := by simp
                  have r2 : (fb != fb) = false := by simp
                  have r3 : (fc != fc) = false := by simp
                  have r4 : (fu != fu) = false := by simp
                  clear q25 q26 q27 q28 ri hPi
                  go_wp2_with (first
                    | (go_at_call 25; ((with_reducible refine (C25.out _ HPi.out).mono ?_); rintro e v1 ⟨rfl, h⟩; have I1 := Lib.hid h; clear h))
                    | (go_at_call 26; ((with_reducible refine (C26.out _ I1.out).mono ?_); rintro e v2 ⟨rfl, h⟩; have I2 := Lib.hid h; clear h))
                    | (go_at_call 27; ((with_reducible refine (C27.out _ I2.out).mono ?_); rintro e v3 ⟨rfl, h⟩; have I3 := Lib.hid h; clear h))
                    | (go_at_call 28; ((with_reducible refine (C28.out _ I3.out).mono ?_); rintro e v4 ⟨rfl, h⟩; have I4 := Lib.hid h; clear h)))
                  go_roundw
                  case rel => exact ⟨j2 + 1, by omega, by go_num, I4.out⟩
                  case measure => simp [intOf]; omega
                · obtain rfl : j2 = 3 := by omega
                  obtain ⟨fa, fb, fc, q29, q30⟩ := pair_counts (n := n) (pr := pr) (bc := bc) (dc := dc) (rt := rt) (A := A') w (bx (bx (mX wr (.slice (some ⟨gq, 0, none⟩) m qc)) b4 (.cells #[.int .i64 1, .int .i64 (M k), .int .i64 z2, .int .i64 (k : Int)] 41)) t (.cells #[.int .i64 x, .int .i64 (wrap64 (x + 1)), .int .i64 (M k)] 3))
                  have C29 := Lib.hid q29
                  have C30 := Lib.hid q30
                  have r1 : (fa != fa) = false := by simp
                  have r2 : (fb != fb) = false := by simp
                  have r3 : (fc != fc) = false := by simp
                  clear q29 q30 ri hPi
                  go_wp2_with (first
                    | (go_at_call 29; ((with_reducible refine (C29.out _ HPi.out).mono ?_); rintro e v1 ⟨rfl, h⟩; have I1 := Lib.hid h; clear h))
                    | (go_at_call 30; ((with_reducible refine (C30.out _ I1.out).mono ?_); rintro e v2 ⟨rfl, h⟩; have I2 := Lib.hid (pr_end h LL.out NN.out T2.out); clear h)))
                  go_roundw
                  case rel => exact ⟨j + 1, m, _, A', by omega, by omega, by go_num, I2.out.2, MM.out, I2.out.1⟩
                  case measure => simp [intOf]; omega
          · have c4d : decide (z3 < (m : Int)) = false := decide_eq_false c4
            as_aux_lemma =>
              have PA := Lib.hid (HB.out)
              have r := PA.out.row (bx_at _ _ _)
              have g0 := cell_of_row _ _ 0 _ 41 (0, 0) r
              have g1 := cell_of_row _ _ 1 _ 41 (0, 0) r
              have g2 := cell_of_row _ _ 2 _ 41 (0, 0) r
              have g3 := cell_of_row _ _ 3 _ 41 (0, 0) r
              have HA := l1
              have C24 := Lib.hid (one_any 1 z1 z2 z3 HA l2 PA.out)
              have R5 := Lib.hid (R5A.out z1)
              have L5 := Lib.hid (L5A.out z1)
              have APP := Lib.hid (APPA.out z1)
              clear r R5A L5A APPA HB HBA PA
              go_upto_block 2 with (refine wpList_load_mid rfl 41 (.tmp 62) rfl b (o + j * 4) rfl _ _ HR.out Tryd.underlying41 rfl (by kernel_rfl) ?_)
              go_wp2_with (go_at_call 24; ((with_reducible refine (C24.out).mono ?_); rintro e w5 ⟨x, A', hx, rfl, h⟩; obtain ⟨y0, y1⟩ := R5.out _ _ h; have L6 := Lib.hid (L5.out _ _ h); have H5 := Lib.hid h; have S5 : Hid (w.heap.size ≤ w5.heap.size) := Lib.hid h.cha.size; clear h))
              have LL := HL
              have PP := H5
              have NN := XN
              have MM := HM
              have T2 := Lib.hid PP.out.fresh_none
              have PB := Lib.hid (PP.out.box (.cells #[.int .i64 x, .int .i64 (wrap64 (x + 1)), .int .i64 z1] 3))
              have hw1 := wle64 (x + 1)
              generalize hb4 : wr.heap.size = b4 at *
              generalize ht : w5.heap.size = t at *
              go_loopw [118] (fun i wi => ∃ j2 : Nat, j2 ≤ 3 ∧ i = .int .i64 (j2 : Int) ∧ Pr n pr bc dc rt w (bx (bx (mX wr (.slice qa m qc)) b4 (.cells #[.int .i64 1, .int .i64 z1, .int .i64 z2, .int .i64 z3] 41)) t (.cells #[.int .i64 x, .int .i64 (wrap64 (x + 1)), .int .i64 z1] 3)) wi A' A') (fun i _ => 3 - (intOf i).toNat)
              case atStart => exact ⟨0, by omega, rfl, PB.out⟩
              case round =>
                rename World => wi
                obtain ⟨j2, hj2, rfl, hPi⟩ := hrel
                have HPi := Lib.hid hPi
                have ri := hPi.row (bx_at _ _ _)
                by_cases c3 : j2 < 3
                · have PF : ∃ p, p ≤ 9223372036854775807 ∧ wi.cell? ⟨t, j2, none⟩ = some (.int .i64 p) := by
                    have : j2 = 0 ∨ j2 = 1 ∨ j2 = 2 := by omega
                    rcases this with rfl | rfl | rfl
                    · exact ⟨_, hx, cell_of_row _ _ 0 _ 3 (0, 0) ri⟩
                    · exact ⟨_, hw1, cell_of_row _ _ 1 _ 3 (0, 0) ri⟩
                    · exact ⟨_, HA, cell_of_row _ _ 2 _ 3 (0, 0) ri⟩
                  obtain ⟨p, hp, kp⟩ := PF
                  obtain ⟨fa, fb, fc, q25, q26⟩ := pair_find (n := n) (pr := pr) (bc := bc) (dc := dc) (rt := rt) (A := A') w (bx (bx (mX wr (.slice qa m qc)) b4 (.cells #[.int .i64 1, .int .i64 z1, .int .i64 z2, .int .i64 z3] 41)) t (.cells #[.int .i64 x, .int .i64 (wrap64 (x + 1)), .int .i64 z1] 3)) p hp
                  obtain ⟨fu, q27, q28⟩ := pair_used (n := n) (pr := pr) (bc := bc) (dc := dc) (rt := rt) (A := A') w (bx (bx (mX wr (.slice qa m qc)) b4 (.cells #[.int .i64 1, .int .i64 z1, .int .i64 z2, .int .i64 z3] 41)) t (.cells #[.int .i64 x, .int .i64 (wrap64 (x + 1)), .int .i64 z1] 3)) (wrap64 (p.tdiv 64)) (wle64 _)
                  have C25 := Lib.hid q25
                  have C26 := Lib.hid q26
                  have C27 := Lib.hid q27
                  have C28 := Lib.hid q28
                  have r1 : (fa != fa) = false := by simp
                  have r2 : (fb != fb) = false := by simp
                  have r3 : (fc != fc) = false := by simp
                  have r4 : (fu != fu) = false := by simp
                  clear q25 q26 q27 q28 ri hPi
                  go_wp2_with (first
                    | (go_at_call 25; ((with_reducible refine (C25.out _ HPi.out).mono ?_); rintro e v1 ⟨rfl, h⟩; have I1 := Lib.hid h; clear h))
                    | (go_at_call 26; ((with_reducible refine (C26.out _ I1.out).mono ?_); rintro e v2 ⟨rfl, h⟩; have I2 := Lib.hid h; clear h))
                    | (go_at_call 27; ((with_reducible refine (C27.out _ I2.out).mono ?_); rintro e v3 ⟨rfl, h⟩; have I3 := Lib.hid h; clear h))
                    | (go_at_call 28; ((with_reducible refine (C28.out _ I3.out).mono ?_); rintro e v4 ⟨rfl, h⟩; have I4 := Lib.hid h; clear h)))
                  go_roundw
                  case rel => exact ⟨j2 + 1, by omega, by go_num, I4.out⟩
                  case measure => simp [intOf]; omega
                · obtain rfl : j2 = 3 := by omega
                  obtain ⟨fa, fb, fc, q29, q30⟩ := pair_counts (n := n) (pr := pr) (bc := bc) (dc := dc) (rt := rt) (A := A') w (bx (bx (mX wr (.slice qa m qc)) b4 (.cells #[.int .i64 1, .int .i64 z1, .int .i64 z2, .int .i64 z3] 41)) t (.cells #[.int .i64 x, .int .i64 (wrap64 (x + 1)), .int .i64 z1] 3))
                  have C29 := Lib.hid q29
                  have C30 := Lib.hid q30
                  have r1 : (fa != fa) = false := by simp
                  have r2 : (fb != fb) = false := by simp
                  have r3 : (fc != fc) = false := by simp
                  clear q29 q30 ri hPi
                  go_wp2_with (first
                    | (go_at_call 29; ((with_reducible refine (C29.out _ HPi.out).mono ?_); rintro e v1 ⟨rfl, h⟩; have I1 := Lib.hid h; clear h))
                    | (go_at_call 30; ((with_reducible refine (C30.out _ I1.out).mono ?_); rintro e v2 ⟨rfl, h⟩; have I2 := Lib.hid (pr_end h LL.out NN.out T2.out); clear h)))
                  go_roundw
                  case rel => exact ⟨j + 1, m, _, A', by omega, by omega, by go_num, I2.out.2, MM.out, I2.out.1⟩
                  case measure => simp [intOf]; omega
        · have c3d : decide (0 ≤ z3) = false := decide_eq_false c3
          as_aux_lemma =>
            have PA := Lib.hid (HB.out)
            have r := PA.out.row (bx_at _ _ _)
            have g0 := cell_of_row _ _ 0 _ 41 (0, 0) r
            have g1 := cell_of_row _ _ 1 _ 41 (0, 0) r
            have g2 := cell_of_row _ _ 2 _ 41 (0, 0) r
            have g3 := cell_of_row _ _ 3 _ 41 (0, 0) r
            have HA := l1
            have C24 := Lib.hid (one_any 1 z1 z2 z3 HA l2 PA.out)
            have R5 := Lib.hid (R5A.out z1)
            have L5 := Lib.hid (L5A.out z1)
            have APP := Lib.hid (APPA.out z1)
            clear r R5A L5A APPA HB HBA PA
            go_upto_block 2 with (refine wpList_load_mid rfl 41 (.tmp 62) rfl b (o + j * 4) rfl _ _ HR.out Tryd.underlying41 rfl (by kernel_rfl) ?_)
            go_wp2_with (go_at_call 24; ((with_reducible refine (C24.out).mono ?_); rintro e w5 ⟨x, A', hx, rfl, h⟩; obtain ⟨y0, y1⟩ := R5.out _ _ h; have L6 := Lib.hid (L5.out _ _ h); have H5 := Lib.hid h; have S5 : Hid (w.heap.size ≤ w5.heap.size) := Lib.hid h.cha.size; clear h))
            have LL := HL
            have PP := H5
            have NN := XN
            have MM := HM
            have T2 := Lib.hid PP.out.fresh_none
            have PB := Lib.hid (PP.out.box (.cells #[.int .i64 x, .int .i64 (wrap64 (x + 1)), .int .i64 z1] 3))
            have hw1 := wle64 (x + 1)
            generalize hb4 : wr.heap.size = b4 at *
            generalize ht : w5.heap.size = t at *
            go_loopw [118] (fun i wi => ∃ j2 : Nat, j2 ≤ 3 ∧ i = .int .i64 (j2 : Int) ∧ Pr n pr bc dc rt w (bx (bx (mX wr (.slice qa m qc)) b4 (.cells #[.int .i64 1, .int .i64 z1, .int .i64 z2, .int .i64 z3] 41)) t (.cells #[.int .i64 x, .int .i64 (wrap64 (x + 1)), .int .i64 z1] 3)) wi A' A') (fun i _ => 3 - (intOf i).toNat)
            case atStart => exact ⟨0, by omega, rfl, PB.out⟩
            case round =>
              rename World => wi
              obtain ⟨j2, hj2, rfl, hPi⟩ := hrel
              have HPi := Lib.hid hPi
              have ri := hPi.row (bx_at _ _ _)
              by_cases c3 : j2 < 3
              · have PF : ∃ p, p ≤ 9223372036854775807 ∧ wi.cell? ⟨t, j2, none⟩ = some (.int .i64 p) := by
                  have : j2 = 0 ∨ j2 = 1 ∨ j2 = 2 := by omega
                  rcases this with rfl | rfl | rfl
                  · exact ⟨_, hx, cell_of_row _ _ 0 _ 3 (0, 0) ri⟩
                  · exact ⟨_, hw1, cell_of_row _ _ 1 _ 3 (0, 0) ri⟩
                  · exact ⟨_, HA, cell_of_row _ _ 2 _ 3 (0, 0) ri⟩
                obtain ⟨p, hp, kp⟩ := PF
                obtain ⟨fa, fb, fc, q25, q26⟩ := pair_find (n := n) (pr := pr) (bc := bc) (dc := dc) (rt := rt) (A := A') w (bx (bx (mX wr (.slice qa m qc)) b4 (.cells #[.int .i64 1, .int .i64 z1, .int .i64 z2, .int .i64 z3] 41)) t (.cells #[.int .i64 x, .int .i64 (wrap64 (x + 1)), .int .i64 z1] 3)) p hp
                obtain ⟨fu, q27, q28⟩ := pair_used (n := n) (pr := pr) (bc := bc) (dc := dc) (rt := rt) (A := A') w (bx (bx (mX wr (.slice qa m qc)) b4 (.cells #[.int .i64 1, .int .i64 z1, .int .i64 z2, .int .i64 z3] 41)) t (.cells #[.int .i64 x, .int .i64 (wrap64 (x + 1)), .int .i64 z1] 3)) (wrap64 (p.tdiv 64)) (wle64 _)
                have C25 := Lib.hid q25
                have C26 := Lib.hid q26
                have C27 := Lib.hid q27
                have C28 := Lib.hid q28
                have r1 : (fa != fa) = false := by simp
                have r2 : (fb != fb) = false := by simp
                have r3 : (fc != fc) = false := by simp
                have r4 : (fu != fu) = false := by simp
                clear q25 q26 q27 q28 ri hPi
                go_wp2_with (first
                  | (go_at_call 25; ((with_reducible refine (C25.out _ HPi.out).mono ?_); rintro e v1 ⟨rfl, h⟩; have I1 := Lib.hid h; clear h))
                  | (go_at_call 26; ((with_reducible refine (C26.out _ I1.out).mono ?_); rintro e v2 ⟨rfl, h⟩; have I2 := Lib.hid h; clear h))
                  | (go_at_call 27; ((with_reducible refine (C27.out _ I2.out).mono ?_); rintro e v3 ⟨rfl, h⟩; have I3 := Lib.hid h; clear h))
                  | (go_at_call 28; ((with_reducible refine (C28.out _ I3.out).mono ?_); rintro e v4 ⟨rfl, h⟩; have I4 := Lib.hid h; clear h)))
                go_roundw
                case rel => exact ⟨j2 + 1, by omega, by go_num, I4.out⟩
                case measure => simp [intOf]; omega
              · obtain rfl : j2 = 3 := by omega
                obtain ⟨fa, fb, fc, q29, q30⟩ := pair_counts (n := n) (pr := pr) (bc := bc) (dc := dc) (rt := rt) (A := A') w (bx (bx (mX wr (.slice qa m qc)) b4 (.cells #[.int .i64 1, .int .i64 z1, .int .i64 z2, .int .i64 z3] 41)) t (.cells #[.int .i64 x, .int .i64 (wrap64 (x + 1)), .int .i64 z1] 3))
                have C29 := Lib.hid q29
                have C30 := Lib.hid q30
                have r1 : (fa != fa) = false := by simp
                have r2 : (fb != fb) = false := by simp
                have r3 : (fc != fc) = false := by simp
                clear q29 q30 ri hPi
                go_wp2_with (first
                  | (go_at_call 29; ((with_reducible refine (C29.out _ HPi.out).mono ?_); rintro e v1 ⟨rfl, h⟩; have I1 := Lib.hid h; clear h))
                  | (go_at_call 30; ((with_reducible refine (C30.out _ I1.out).mono ?_); rintro e v2 ⟨rfl, h⟩; have I2 := Lib.hid (pr_end h LL.out NN.out T2.out); clear h)))
                go_roundw
                case rel => exact ⟨j + 1, m, _, A', by omega, by omega, by go_num, I2.out.2, MM.out, I2.out.1⟩
                case measure => simp [intOf]; omega
      · have e11 : (z0 == 1) = false := by simpa using e1
        by_cases e4 : z0 = 4
        · subst e4
          clear e1 e11
          by_cases c3 : 0 ≤ z3
          · by_cases c4 : z3 < (m : Int)
            · obtain ⟨k, rfl⟩ : ∃ k : Nat, z3 = (k : Int) := ⟨z3.toNat, by omega⟩
              have c5 : k < m := by omega
              obtain ⟨gq, rfl, _, _, _, hc, _⟩ := SH1.out (by omega)
              have h0 := hc k c5
              have HMk := HM.out k c5
              clear hc
              as_aux_lemma =>
                have PA := Lib.hid (HBA.out (M k))
                have r := PA.out.row (bx_at _ _ _)
                have g0 := cell_of_row _ _ 0 _ 41 (0, 0) r
                have g1 := cell_of_row _ _ 1 _ 41 (0, 0) r
                have g2 := cell_of_row _ _ 2 _ 41 (0, 0) r
                have g3 := cell_of_row _ _ 3 _ 41 (0, 0) r
                have HA := HMk
                have C24 := Lib.hid (one_any 4 (M k) z2 (k : Int) HA l2 PA.out)
                have R5 := Lib.hid (R5A.out (M k))
                have L5 := Lib.hid (L5A.out (M k))
                have APP := Lib.hid (APPA.out (M k))
                clear r R5A L5A APPA HB HBA PA
                go_upto_block 2 with (refine wpList_load_mid rfl 41 (.tmp 62) rfl b (o + j * 4) rfl _ _ HR.out Tryd.underlying41 rfl (by kernel_rfl) ?_)
                go_wp2_with (go_at_call 24; ((with_reducible refine (C24.out).mono ?_); rintro e w5 ⟨x, A', hx, rfl, h⟩; obtain ⟨y0, y1⟩ := R5.out _ _ h; have L6 := Lib.hid (L5.out _ _ h); have H5 := Lib.hid h; have S5 : Hid (w.heap.size ≤ w5.heap.size) := Lib.hid h.cha.size; clear h))
                have LL := HL
                have PP := H5
                have NN := XN
                have MM := HM
                have T2 := Lib.hid PP.out.fresh_none
                have PB := Lib.hid (PP.out.box (.cells #[.int .i64 x, .int .i64 (wrap64 (x + 1)), .int .i64 (M k)] 3))
                have hw1 := wle64 (x + 1)
                generalize hb4 : wr.heap.size = b4 at *
                generalize ht : w5.heap.size = t at *
                go_loopw [118] (fun i wi => ∃ j2 : Nat, j2 ≤ 3 ∧ i = .int .i64 (j2 : Int) ∧ Pr n pr bc dc rt w (bx (bx (mX wr (.slice (some ⟨gq, 0, none⟩) m qc)) b4 (.cells #[.int .i64 4, .int .i64 (M k), .int .i64 z2, .int .i64 (k : Int)] 41)) t (.cells #[.int .i64 x, .int .i64 (wrap64 (x + 1)), .int .i64 (M k)] 3)) wi A' A') (fun i _ => 3 - (intOf i).toNat)
                case atStart => exact ⟨0, by omega, rfl, PB.out⟩
                case round =>
                  rename World => wi
                  obtain ⟨j2, hj2, rfl, hPi⟩ := hrel
                  have HPi := Lib.hid hPi
                  have ri := hPi.row (bx_at _ _ _)
                  by_cases c3 : j2 < 3
                  · have PF : ∃ p, p ≤ 9223372036854775807 ∧ wi.cell? ⟨t, j2, none⟩ = some (.int .i64 p) := by
                      have : j2 = 0 ∨ j2 = 1 ∨ j2 = 2 := by omega
                      rcases this with rfl | rfl | rfl
                      · exact ⟨_, hx, cell_of_row _ _ 0 _ 3 (0, 0) ri⟩
                      · exact ⟨_, hw1, cell_of_row _ _ 1 _ 3 (0, 0) ri⟩
                      · exact ⟨_, HA, cell_of_row _ _ 2 _ 3 (0, 0) ri⟩
                    obtain ⟨p, hp, kp⟩ := PF
                    obtain ⟨fa, fb, fc, q25, q26⟩ := pair_find (n := n) (pr := pr) (bc := bc) (dc := dc) (rt := rt) (A := A') w (bx (bx (mX wr (.slice (some ⟨gq, 0, none⟩) m qc)) b4 (.cells #[.int .i64 4, .int .i64 (M k), .int .i64 z2, .int .i64 (k : Int)] 41)) t (.cells #[.int .i64 x, .int .i64 (wrap64 (x + 1)), .int .i64 (M k)] 3)) p hp
                    obtain ⟨fu, q27, q28⟩ := pair_used (n := n) (pr := pr) (bc := bc) (dc := dc) (rt := rt) (A := A') w (bx (bx (mX wr (.slice (some ⟨gq, 0, none⟩) m qc)) b4 (.cells #[.int .i64 4, .int .i64 (M k), .int .i64 z2, .int .i64 (k : Int)] 41)) t (.cells #[.int .i64 x, .int .i64 (wrap64 (x + 1)), .int .i64 (M k)] 3)) (wrap64 (p.tdiv 64)) (wle64 _)
                    have C25 := Lib.hid q25
                    have C26 := Lib.hid q26
                    have C27 := Lib.hid q27
                    have C28 := Lib.hid q28
                    have r1 : (fa != fa) = false := by simp
                    have r2 : (fb != fb) = false := by simp
                    have r3 : (fc != fc) = false := by simp
                    have r4 : (fu != fu) = false := by simp
                    clear q25 q26 q27 q28 ri hPi
                    go_wp2_with (first
                      | (go_at_call 25; ((with_reducible refine (C25.out _ HPi.out).mono ?_); rintro e v1 ⟨rfl, h⟩; have I1 := Lib.hid h; clear h))
                      | (go_at_call 26; ((with_reducible refine (C26.out _ I1.out).mono ?_); rintro e v2 ⟨rfl, h⟩; have I2 := Lib.hid h; clear h))
                      | (go_at_call 27; ((with_reducible refine (C27.out _ I2.out).mono ?_); rintro e v3 ⟨rfl, h⟩; have I3 := Lib.hid h; clear h))
                      | (go_at_call 28; ((with_reducible refine (C28.out _ I3.out).mono ?_); rintro e v4 ⟨rfl, h⟩; have I4 := Lib.hid h; clear h)))
                    go_roundw
                    case rel => exact ⟨j2 + 1, by omega, by go_num, I4.out⟩
                    case measure => simp [intOf]; omega
                  · obtain rfl : j2 = 3 := by omega
                    obtain ⟨fa, fb, fc, q29, q30⟩ := pair_counts (n := n) (pr := pr) (bc := bc) (dc := dc) (rt := rt) (A := A') w (bx (bx (mX wr (.slice (some ⟨gq, 0, none⟩) m qc)) b4 (.cells #[.int .i64 4, .int .i64 (M k), .int .i64 z2, .int .i64 (k : Int)] 41)) t (.cells #[.int .i64 x, .int .i64 (wrap64 (x + 1)), .int .i64 (M k)] 3))
                    have C29 := Lib.hid q29
                    have C30 := Lib.hid q30
                    have r1 : (fa != fa) = false := by simp
                    have r2 : (fb != fb) = false := by simp
                    have r3 : (fc != fc) = false := by simp
                    clear q29 q30 ri hPi
                    go_wp2_with (first
                      | (go_at_call 29; ((with_reducible refine (C29.out _ HPi.out).mono ?_); rintro e v1 ⟨rfl, h⟩; have I1 := Lib.hid h; clear h))
                      | (go_at_call 30; ((with_reducible refine (C30.out _ I1.out).mono ?_); rintro e v2 ⟨rfl, h⟩; have I2 := Lib.hid (pr_end h LL.out NN.out T2.out); clear h)))
                    go_roundw
                    case rel => exact ⟨j + 1, m, _, A', by omega, by omega, by go_num, I2.out.2, MM.out, I2.out.1⟩
                    case measure => simp [intOf]; omega
            · have c4d : decide (z3 < (m : Int)) = false := decide_eq_false c4
              as_aux_lemma =>
                have PA := Lib.hid (HB.out)
                have r := PA.out.row (bx_at _ _ _)
                have g0 := cell_of_row _ _ 0 _ 41 (0, 0) r
                have g1 := cell_of_row _ _ 1 _ 41 (0, 0) r
                have g2 := cell_of_row _ _ 2 _ 41 (0, 0) r
                have g3 := cell_of_row _ _ 3 _ 41 (0, 0) r
                have HA := l1
                have C24 := Lib.hid (one_any 4 z1 z2 z3 HA l2 PA.out)
                have R5 := Lib.hid (R5A.out z1)
                have L5 := Lib.hid (L5A.out z1)
                have APP := Lib.hid (APPA.out z1)
                clear r R5A L5A APPA HB HBA PA
                go_upto_block 2 with (refine wpList_load_mid rfl 41 (.tmp 62) rfl b (o + j * 4) rfl _ _ HR.out Tryd.underlying41 rfl (by kernel_rfl) ?_)
                go_wp2_with (go_at_call 24; ((with_reducible refine (C24.out).mono ?_); rintro e w5 ⟨x, A', hx, rfl, h⟩; obtain ⟨y0, y1⟩ := R5.out _ _ h; have L6 := Lib.hid (L5.out _ _ h); have H5 := Lib.hid h; have S5 : Hid (w.heap.size ≤ w5.heap.size) := Lib.hid h.cha.size; clear h))
                have LL := HL
                have PP := H5
                have NN := XN
                have MM := HM
                have T2 := Lib.hid PP.out.fresh_none
                have PB := Lib.hid (PP.out.box (.cells #[.int .i64 x, .int .i64 (wrap64 (x + 1)), .int .i64 z1] 3))
                have hw1 := wle64 (x + 1)
                generalize hb4 : wr.heap.size = b4 at *
                generalize ht : w5.heap.size = t at *
                go_loopw [118] (fun i wi => ∃ j2 : Nat, j2 ≤ 3 ∧ i = .int .i64 (j2 : Int) ∧ Pr n pr bc dc rt w (bx (bx (mX wr (.slice qa m qc)) b4 (.cells #[.int .i64 4, .int .i64 z1, .int .i64 z2, .int .i64 z3] 41)) t (.cells #[.int .i64 x, .int .i64 (wrap64 (x + 1)), .int .i64 z1] 3)) wi A' A') (fun i _ => 3 - (intOf i).toNat)
                case atStart => exact ⟨0, by omega, rfl, PB.out⟩
                case round =>
                  rename World => wi
                  obtain ⟨j2, hj2, rfl, hPi⟩ := hrel
                  have HPi := Lib.hid hPi
                  have ri := hPi.row (bx_at _ _ _)
                  by_cases c3 : j2 < 3
                  · have PF : ∃ p, p ≤ 9223372036854775807 ∧ wi.cell? ⟨t, j2, none⟩ = some (.int .i64 p) := by
                      have : j2 = 0 ∨ j2 = 1 ∨ j2 = 2 := by omega
                      rcases this with rfl | rfl | rfl
                      · exact ⟨_, hx, cell_of_row _ _ 0 _ 3 (0, 0) ri⟩
                      · exact ⟨_, hw1, cell_of_row _ _ 1 _ 3 (0, 0) ri⟩
                      · exact ⟨_, HA, cell_of_row _ _ 2 _ 3 (0, 0) ri⟩
                    obtain ⟨p, hp, kp⟩ := PF
                    obtain ⟨fa, fb, fc, q25, q26⟩ := pair_find (n := n) (pr := pr) (bc := bc) (dc := dc) (rt := rt) (A := A') w (bx (bx (mX wr (.slice qa m qc)) b4 (.cells #[.int .i64 4, .int .i64 z1, .int .i64 z2, .int .i64 z3] 41)) t (.cells #[.int .i64 x, .int .i64 (wrap64 (x + 1)), .int .i64 z1] 3)) p hp
                    obtain ⟨fu, q27, q28⟩ := pair_used (n := n) (pr := pr) (bc := bc) (dc := dc) (rt := rt) (A := A') w (bx (bx (mX wr (.slice qa m qc)) b4 (.cells #[.int .i64 4, .int .i64 z1, .int .i64 z2, .int .i64 z3] 41)) t (.cells #[.int .i64 x, .int .i64 (wrap64 (x + 1)), .int .i64 z1] 3)) (wrap64 (p.tdiv 64)) (wle64 _)
                    have C25 := Lib.hid q25
                    have C26 := Lib.hid q26
                    have C27 := Lib.hid q27
                    have C28 := Lib.hid q28
                    have r1 : (fa != fa) = false := by simp
                    have r2 : (fb != fb) = false := by simp
                    have r3 : (fc != fc) = false := by simp
                    have r4 : (fu != fu) = false := by simp
                    clear q25 q26 q27 q28 ri hPi
                    go_wp2_with (first
                      | (go_at_call 25; ((with_reducible refine (C25.out _ HPi.out).mono ?_); rintro e v1 ⟨rfl, h⟩; have I1 := Lib.hid h; clear h))
                      | (go_at_call 26; ((with_reducible refine (C26.out _ I1.out).mono ?_); rintro e v2 ⟨rfl, h⟩; have I2 := Lib.hid h; clear h))
                      | (go_at_call 27; ((with_reducible refine (C27.out _ I2.out).mono ?_); rintro e v3 ⟨rfl, h⟩; have I3 := Lib.hid h; clear h))
                      | (go_at_call 28; ((with_reducible refine (C28.out _ I3.out).mono ?_); rintro e v4 ⟨rfl, h⟩; have I4 := Lib.hid h; clear h)))
                    go_roundw
                    case rel => exact ⟨j2 + 1, by omega, by go_num, I4.out⟩
                    case measure => simp [intOf]; omega
                  · obtain rfl : j2 = 3 := by omega
                    obtain ⟨fa, fb, fc, q29, q30⟩ := pair_counts (n := n) (pr := pr) (bc := bc) (dc := dc) (rt := rt) (A := A') w (bx (bx (mX wr (.slice qa m qc)) b4 (.cells #[.int .i64 4, .int .i64 z1, .int .i64 z2, .int .i64 z3] 41)) t (.cells #[.int .i64 x, .int .i64 (wrap64 (x + 1)), .int .i64 z1] 3))
                    have C29 := Lib.hid q29
                    have C30 := Lib.hid q30
                    have r1 : (fa != fa) = false := by simp
                    have r2 : (fb != fb) = false := by simp
                    have r3 : (fc != fc) = false := by simp
                    clear q29 q30 ri hPi
                    go_wp2_with (first
                      | (go_at_call 29; ((with_reducible refine (C29.out _ HPi.out).mono ?_); rintro e v1 ⟨rfl, h⟩; have I1 := Lib.hid h; clear h))
                      | (go_at_call 30; ((with_reducible refine (C30.out _ I1.out).mono ?_); rintro e v2 ⟨rfl, h⟩; have I2 := Lib.hid (pr_end h LL.out NN.out T2.out); clear h)))
                    go_roundw
                    case rel => exact ⟨j + 1, m, _, A', by omega, by omega, by go_num, I2.out.2, MM.out, I2.out.1⟩
                    case measure => simp [intOf]; omega
          · have c3d : decide (0 ≤ z3) = false := decide_eq_false c3
            as_aux_lemma =>
              have PA := Lib.hid (HB.out)
              have r := PA.out.row (bx_at _ _ _)
              have g0 := cell_of_row _ _ 0 _ 41 (0, 0) r
              have g1 := cell_of_row _ _ 1 _ 41 (0, 0) r
              have g2 := cell_of_row _ _ 2 _ 41 (0, 0) r
              have g3 := cell_of_row _ _ 3 _ 41 (0, 0) r
              have HA := l1
              have C24 := Lib.hid (one_any 4 z1 z2 z3 HA l2 PA.out)
              have R5 := Lib.hid (R5A.out z1)
              have L5 := Lib.hid (L5A.out z1)
              have APP := Lib.hid (APPA.out z1)
              clear r R5A L5A APPA HB HBA PA
              go_upto_block 2 with (refine wpList_load_mid rfl 41 (.tmp 62) rfl b (o + j * 4) rfl _ _ HR.out Tryd.underlying41 rfl (by kernel_rfl) ?_)
              go_wp2_with (go_at_call 24; ((with_reducible refine (C24.out).mono ?_); rintro e w5 ⟨x, A', hx, rfl, h⟩; obtain ⟨y0, y1⟩ := R5.out _ _ h; have L6 := Lib.hid (L5.out _ _ h); have H5 := Lib.hid h; have S5 : Hid (w.heap.size ≤ w5.heap.size) := Lib.hid h.cha.size; clear h))
              have LL := HL
              have PP := H5
              have NN := XN
              have MM := HM
              have T2 := Lib.hid PP.out.fresh_none
              have PB := Lib.hid (PP.out.box (.cells #[.int .i64 x, .int .i64 (wrap64 (x + 1)), .int .i64 z1] 3))
              have hw1 := wle64 (x + 1)
              generalize hb4 : wr.heap.size = b4 at *
              generalize ht : w5.heap.size = t at *
              go_loopw [118] (fun i wi => ∃ j2 : Nat, j2 ≤ 3 ∧ i = .int .i64 (j2 : Int) ∧ Pr n pr bc dc rt w (bx (bx (mX wr (.slice qa m qc)) b4 (.cells #[.int .i64 4, .int .i64 z1, .int .i64 z2, .int .i64 z3] 41)) t (.cells #[.int .i64 x, .int .i64 (wrap64 (x + 1)), .int .i64 z1] 3)) wi A' A') (fun i _ => 3 - (intOf i).toNat)
              case atStart => exact ⟨0, by omega, rfl, PB.out⟩
              case round =>
                rename World => wi
                obtain ⟨j2, hj2, rfl, hPi⟩ := hrel
                have HPi := Lib.hid hPi
                have ri := hPi.row (bx_at _ _ _)
                by_cases c3 : j2 < 3
                · have PF : ∃ p, p ≤ 9223372036854775807 ∧ wi.cell? ⟨t, j2, none⟩ = some (.int .i64 p) := by
                    have : j2 = 0 ∨ j2 = 1 ∨ j2 = 2 := by omega
                    rcases this with rfl | rfl | rfl
                    · exact ⟨_, hx, cell_of_row _ _ 0 _ 3 (0, 0) ri⟩
                    · exact ⟨_, hw1, cell_of_row _ _ 1 _ 3 (0, 0) ri⟩
                    · exact ⟨_, HA, cell_of_row _ _ 2 _ 3 (0, 0) ri⟩
                  obtain ⟨p, hp, kp⟩ := PF
                  obtain ⟨fa, fb, fc, q25, q26⟩ := pair_find (n := n) (pr := pr) (bc := bc) (dc := dc) (rt := rt) (A := A') w (bx (bx (mX wr (.slice qa m qc)) b4 (.cells #[.int .i64 4, .int .i64 z1, .int .i64 z2, .int .i64 z3] 41)) t (.cells #[.int .i64 x, .int .i64 (wrap64 (x + 1)), .int .i64 z1] 3)) p hp
                  obtain ⟨fu, q27, q28⟩ := pair_used (n := n) (pr := pr) (bc := bc) (dc := dc) (rt := rt) (A := A') w (bx (bx (mX wr (.slice qa m qc)) b4 (.cells #[.int .i64 4, .int .i64 z1, .int .i64 z2, .int .i64 z3] 41)) t (.cells #[.int .i64 x, .int .i64 (wrap64 (x + 1)), .int .i64 z1] 3)) (wrap64 (p.tdiv 64)) (wle64 _)
                  have C25 := Lib.hid q25
                  have C26 := Lib.hid q26
                  have C27 := Lib.hid q27
                  have C28 := Lib.hid q28
                  have r1 : (fa != fa) = false := by simp
                  have r2 : (fb != fb) = false := by simp
                  have r3 : (fc != fc) = false := by simp
                  have r4 : (fu != fu) = false := by simp
                  clear q25 q26 q27 q28 ri hPi
                  go_wp2_with (first
                    | (go_at_call 25; ((with_reducible refine (C25.out _ HPi.out).mono ?_); rintro e v1 ⟨rfl, h⟩; have I1 := Lib.hid h; clear h))
                    | (go_at_call 26; ((with_reducible refine (C26.out _ I1.out).mono ?_); rintro e v2 ⟨rfl, h⟩; have I2 := Lib.hid h; clear h))
                    | (go_at_call 27; ((with_reducible refine (C27.out _ I2.out).mono ?_); rintro e v3 ⟨rfl, h⟩; have I3 := Lib.hid h; clear h))
                    | (go_at_call 28; ((with_reducible refine (C28.out _ I3.out).mono ?_); rintro e v4 ⟨rfl, h⟩; have I4 := Lib.hid h; clear h)))
                  go_roundw
                  case rel => exact ⟨j2 + 1, by omega, by go_num, I4.out⟩
                  case measure => simp [intOf]; omega
                · obtain rfl : j2 = 3 := by omega
                  obtain ⟨fa, fb, fc, q29, q30⟩ := pair_counts (n := n) (pr := pr) (bc := bc) (dc := dc) (rt := rt) (A := A') w (bx (bx (mX wr (.slice qa m qc)) b4 (.cells #[.int .i64 4, .int .i64 z1, .int .i64 z2, .int .i64 z3] 41)) t (.cells #[.int .i64 x, .int .i64 (wrap64 (x + 1)), .int .i64 z1] 3))
                  have C29 := Lib.hid q29
                  have C30 := Lib.hid q30
                  have r1 : (fa != fa) = false := by simp
                  have r2 : (fb != fb) = false := by simp
                  have r3 : (fc != fc) = false := by simp
                  clear q29 q30 ri hPi
                  go_wp2_with (first
                    | (go_at_call 29; ((with_reducible refine (C29.out _ HPi.out).mono ?_); rintro e v1 ⟨rfl, h⟩; have I1 := Lib.hid h; clear h))
                    | (go_at_call 30; ((with_reducible refine (C30.out _ I1.out).mono ?_); rintro e v2 ⟨rfl, h⟩; have I2 := Lib.hid (pr_end h LL.out NN.out T2.out); clear h)))
                  go_roundw
                  case rel => exact ⟨j + 1, m, _, A', by omega, by omega, by go_num, I2.out.2, MM.out, I2.out.1⟩
                  case measure => simp [intOf]; omega
        · have e41 : (z0 == 4) = false := by simpa using e4
          by_cases e0 : z0 = 0
          · subst e0
            clear e1 e11 e4 e41
            as_aux_lemma =>
              have PA := Lib.hid (HB.out)
              have r := PA.out.row (bx_at _ _ _)
              have g0 := cell_of_row _ _ 0 _ 41 (0, 0) r
              have g1 := cell_of_row _ _ 1 _ 41 (0, 0) r
              have g2 := cell_of_row _ _ 2 _ 41 (0, 0) r
              have g3 := cell_of_row _ _ 3 _ 41 (0, 0) r
              have HA := l1
              have C24 := Lib.hid (one_any 0 z1 z2 z3 HA l2 PA.out)
              have R5 := Lib.hid (R5A.out z1)
              have L5 := Lib.hid (L5A.out z1)
              have APP := Lib.hid (APPA.out z1)
              clear r R5A L5A APPA HB HBA PA
              go_upto_block 2 with (refine wpList_load_mid rfl 41 (.tmp 62) rfl b (o + j * 4) rfl _ _ HR.out Tryd.underlying41 rfl (by kernel_rfl) ?_)
              go_wp2_with (first
                | (go_at_call 24; ((with_reducible refine (C24.out).mono ?_); rintro e w5 ⟨x, A', hx, rfl, h⟩; obtain ⟨y0, y1⟩ := R5.out _ _ h; have L6 := Lib.hid (L5.out _ _ h); have H5 := Lib.hid h; have S5 : Hid (w.heap.size ≤ w5.heap.size) := Lib.hid h.cha.size; clear h))
                | (at_builtin; refine wpList_append_where _ rfl _ _ 39 rfl w.heap.size 3 i0 (.int .i64 0) 1 8 Tryd.underlying39 hi hz0 hz1 hz2 rfl (by decide) _ _ _ rfl (L6.out.own.alloc _) ⟨w5.heap.size, 0, none⟩ 1 1 [.int .i64 x] rfl rfl (one_new _ _ _) (one_int _) (by unfold maxLen; omega) (by omega) (by rw [World.size_alloc]; have := S5.out; omega) ?_; intro v' w6 hown' hgrow hwh; obtain ⟨l6, p6, n6, m6, y1⟩ := APP.out _ _ H5.out x w6 v' hx hown' hgrow hwh; have LL := Lib.hid l6; have PP := Lib.hid p6; have NN := Lib.hid n6; have MM := Lib.hid m6; clear l6 p6 n6 m6 hown' hgrow hwh y0))
              have T2 := Lib.hid PP.out.fresh_none
              have PB := Lib.hid (PP.out.box (.cells #[.int .i64 x, .int .i64 (wrap64 (x + 1)), .int .i64 z1] 3))
              have hw1 := wle64 (x + 1)
              generalize hb4 : wr.heap.size = b4 at *
              generalize ht : w6.heap.size = t at *
              go_loopw [118] (fun i wi => ∃ j2 : Nat, j2 ≤ 3 ∧ i = .int .i64 (j2 : Int) ∧ Pr n pr bc dc rt w (bx (bx (mX w6 v') b4 (.cells #[.int .i64 0, .int .i64 z1, .int .i64 z2, .int .i64 z3] 41)) t (.cells #[.int .i64 x, .int .i64 (wrap64 (x + 1)), .int .i64 z1] 3)) wi A' A') (fun i _ => 3 - (intOf i).toNat)
              case atStart => exact ⟨0, by omega, rfl, PB.out⟩
              case round =>
                rename World => wi
                obtain ⟨j2, hj2, rfl, hPi⟩ := hrel
                have HPi := Lib.hid hPi
                have ri := hPi.row (bx_at _ _ _)
                by_cases c3 : j2 < 3
                · have PF : ∃ p, p ≤ 9223372036854775807 ∧ wi.cell? ⟨t, j2, none⟩ = some (.int .i64 p) := by
                    have : j2 = 0 ∨ j2 = 1 ∨ j2 = 2 := by omega
                    rcases this with rfl | rfl | rfl
                    · exact ⟨_, hx, cell_of_row _ _ 0 _ 3 (0, 0) ri⟩
                    · exact ⟨_, hw1, cell_of_row _ _ 1 _ 3 (0, 0) ri⟩
                    · exact ⟨_, HA, cell_of_row _ _ 2 _ 3 (0, 0) ri⟩
                  obtain ⟨p, hp, kp⟩ := PF
                  obtain ⟨fa, fb, fc, q25, q26⟩ := pair_find (n := n) (pr := pr) (bc := bc) (dc := dc) (rt := rt) (A := A') w (bx (bx (mX w6 v') b4 (.cells #[.int .i64 0, .int .i64 z1, .int .i64 z2, .int .i64 z3] 41)) t (.cells #[.int .i64 x, .int .i64 (wrap64 (x + 1)), .int .i64 z1] 3)) p hp
                  obtain ⟨fu, q27, q28⟩ := pair_used (n := n) (pr := pr) (bc := bc) (dc := dc) (rt := rt) (A := A') w (bx (bx (mX w6 v') b4 (.cells #[.int .i64 0, .int .i64 z1, .int .i64 z2, .int .i64 z3] 41)) t (.cells #[.int .i64 x, .int .i64 (wrap64 (x + 1)), .int .i64 z1] 3)) (wrap64 (p.tdiv 64)) (wle64 _)
                  have C25 := Lib.hid q25
                  have C26 := Lib.hid q26
                  have C27 := Lib.hid q27
                  have C28 := Lib.hid q28
                  have r1 : (fa != fa) = false := by simp
                  have r2 : (fb != fb) = false := by simp
                  have r3 : (fc != fc) = false := by simp
                  have r4 : (fu != fu) = false := by simp
                  clear q25 q26 q27 q28 ri hPi
                  go_wp2_with (first
                    | (go_at_call 25; ((with_reducible refine (C25.out _ HPi.out).mono ?_); rintro e v1 ⟨rfl, h⟩; have I1 := Lib.hid h; clear h))
                    | (go_at_call 26; ((with_reducible refine (C26.out _ I1.out).mono ?_); rintro e v2 ⟨rfl, h⟩; have I2 := Lib.hid h; clear h))
                    | (go_at_call 27; ((with_reducible refine (C27.out _ I2.out).mono ?_); rintro e v3 ⟨rfl, h⟩; have I3 := Lib.hid h; clear h))
                    | (go_at_call 28; ((with_reducible refine (C28.out _ I3.out).mono ?_); rintro e v4 ⟨rfl, h⟩; have I4 := Lib.hid h; clear h)))
                  go_roundw
                  case rel => exact ⟨j2 + 1, by omega, by go_num, I4.out⟩
                  case measure => simp [intOf]; omega
                · obtain rfl : j2 = 3 := by omega
                  obtain ⟨fa, fb, fc, q29, q30⟩ := pair_counts (n := n) (pr := pr) (bc := bc) (dc := dc) (rt := rt) (A := A') w (bx (bx (mX w6 v') b4 (.cells #[.int .i64 0, .int .i64 z1, .int .i64 z2, .int .i64 z3] 41)) t (.cells #[.int .i64 x, .int .i64 (wrap64 (x + 1)), .int .i64 z1] 3))
                  have C29 := Lib.hid q29
                  have C30 := Lib.hid q30
                  have r1 : (fa != fa) = false := by simp
                  have r2 : (fb != fb) = false := by simp
                  have r3 : (fc != fc) = false := by simp
                  clear q29 q30 ri hPi
                  go_wp2_with (first
                    | (go_at_call 29; ((with_reducible refine (C29.out _ HPi.out).mono ?_); rintro e v1 ⟨rfl, h⟩; have I1 := Lib.hid h; clear h))
                    | (go_at_call 30; ((with_reducible refine (C30.out _ I1.out).mono ?_); rintro e v2 ⟨rfl, h⟩; have I2 := Lib.hid (pr_end h LL.out NN.out T2.out); clear h)))
                  go_roundw
                  case rel => exact ⟨j + 1, m + 1, _, A', by omega, by omega, by go_num, I2.out.2, MM.out, I2.out.1⟩
                  case measure => simp [intOf]; omega
          · have e01 : (z0 == 0) = false := by simpa using e0
            by_cases e3 : z0 = 3
            · subst e3
              clear e1 e11 e4 e41 e0 e01
              as_aux_lemma =>
                have PA := Lib.hid (HB.out)
                have r := PA.out.row (bx_at _ _ _)
                have g0 := cell_of_row _ _ 0 _ 41 (0, 0) r
                have g1 := cell_of_row _ _ 1 _ 41 (0, 0) r
                have g2 := cell_of_row _ _ 2 _ 41 (0, 0) r
                have g3 := cell_of_row _ _ 3 _ 41 (0, 0) r
                have HA := l1
                have C24 := Lib.hid (one_any 3 z1 z2 z3 HA l2 PA.out)
                have R5 := Lib.hid (R5A.out z1)
                have L5 := Lib.hid (L5A.out z1)
                have APP := Lib.hid (APPA.out z1)
                clear r R5A L5A APPA HB HBA PA
                go_upto_block 2 with (refine wpList_load_mid rfl 41 (.tmp 62) rfl b (o + j * 4) rfl _ _ HR.out Tryd.underlying41 rfl (by kernel_rfl) ?_)
                go_wp2_with (first
                  | (go_at_call 24; ((with_reducible refine (C24.out).mono ?_); rintro e w5 ⟨x, A', hx, rfl, h⟩; obtain ⟨y0, y1⟩ := R5.out _ _ h; have L6 := Lib.hid (L5.out _ _ h); have H5 := Lib.hid h; have S5 : Hid (w.heap.size ≤ w5.heap.size) := Lib.hid h.cha.size; clear h))
                  | (at_builtin; refine wpList_append_where _ rfl _ _ 39 rfl w.heap.size 3 i0 (.int .i64 0) 1 8 Tryd.underlying39 hi hz0 hz1 hz2 rfl (by decide) _ _ _ rfl (L6.out.own.alloc _) ⟨w5.heap.size, 0, none⟩ 1 1 [.int .i64 x] rfl rfl (one_new _ _ _) (one_int _) (by unfold maxLen; omega) (by omega) (by rw [World.size_alloc]; have := S5.out; omega) ?_; intro v' w6 hown' hgrow hwh; obtain ⟨l6, p6, n6, m6, y1⟩ := APP.out _ _ H5.out x w6 v' hx hown' hgrow hwh; have LL := Lib.hid l6; have PP := Lib.hid p6; have NN := Lib.hid n6; have MM := Lib.hid m6; clear l6 p6 n6 m6 hown' hgrow hwh y0))
                have T2 := Lib.hid PP.out.fresh_none
                have PB := Lib.hid (PP.out.box (.cells #[.int .i64 x, .int .i64 (wrap64 (x + 1)), .int .i64 z1] 3))
                have hw1 := wle64 (x + 1)
                generalize hb4 : wr.heap.size = b4 at *
                generalize ht : w6.heap.size = t at *
                go_loopw [118] (fun i wi => ∃ j2 : Nat, j2 ≤ 3 ∧ i = .int .i64 (j2 : Int) ∧ Pr n pr bc dc rt w (bx (bx (mX w6 v') b4 (.cells #[.int .i64 3, .int .i64 z1, .int .i64 z2, .int .i64 z3] 41)) t (.cells #[.int .i64 x, .int .i64 (wrap64 (x + 1)), .int .i64 z1] 3)) wi A' A') (fun i _ => 3 - (intOf i).toNat)
                case atStart => exact ⟨0, by omega, rfl, PB.out⟩
                case round =>
                  rename World => wi
                  obtain ⟨j2, hj2, rfl, hPi⟩ := hrel
                  have HPi := Lib.hid hPi
                  have ri := hPi.row (bx_at _ _ _)
                  by_cases c3 : j2 < 3
                  · have PF : ∃ p, p ≤ 9223372036854775807 ∧ wi.cell? ⟨t, j2, none⟩ = some (.int .i64 p) := by
                      have : j2 = 0 ∨ j2 = 1 ∨ j2 = 2 := by omega
                      rcases this with rfl | rfl | rfl
                      · exact ⟨_, hx, cell_of_row _ _ 0 _ 3 (0, 0) ri⟩
                      · exact ⟨_, hw1, cell_of_row _ _ 1 _ 3 (0, 0) ri⟩
                      · exact ⟨_, HA, cell_of_row _ _ 2 _ 3 (0, 0) ri⟩
                    obtain ⟨p, hp, kp⟩ := PF
                    obtain ⟨fa, fb, fc, q25, q26⟩ := pair_find (n := n) (pr := pr) (bc := bc) (dc := dc) (rt := rt) (A := A') w (bx (bx (mX w6 v') b4 (.cells #[.int .i64 3, .int .i64 z1, .int .i64 z2, .int .i64 z3] 41)) t (.cells #[.int .i64 x, .int .i64 (wrap64 (x + 1)), .int .i64 z1] 3)) p hp
                    obtain ⟨fu, q27, q28⟩ := pair_used (n := n) (pr := pr) (bc := bc) (dc := dc) (rt := rt) (A := A') w (bx (bx (mX w6 v') b4 (.cells #[.int .i64 3, .int .i64 z1, .int .i64 z2, .int .i64 z3] 41)) t (.cells #[.int .i64 x, .int .i64 (wrap64 (x + 1)), .int .i64 z1] 3)) (wrap64 (p.tdiv 64)) (wle64 _)
                    have C25 := Lib.hid q25
                    have C26 := Lib.hid q26
                    have C27 := Lib.hid q27
                    have C28 := Lib.hid q28
                    have r1 : (fa != fa) = false := by simp
                    have r2 : (fb != fb) = false := by simp
                    have r3 : (fc != fc) = false := by simp
                    have r4 : (fu != fu) = false := by simp
                    clear q25 q26 q27 q28 ri hPi
                    go_wp2_with (first
                      | (go_at_call 25; ((with_reducible refine (C25.out _ HPi.out).mono ?_); rintro e v1 ⟨rfl, h⟩; have I1 := Lib.hid h; clear h))
                      | (go_at_call 26; ((with_reducible refine (C26.out _ I1.out).mono ?_); rintro e v2 ⟨rfl, h⟩; have I2 := Lib.hid h; clear h))
                      | (go_at_call 27; ((with_reducible refine (C27.out _ I2.out).mono ?_); rintro e v3 ⟨rfl, h⟩; have I3 := Lib.hid h; clear h))
                      | (go_at_call 28; ((with_reducible refine (C28.out _ I3.out).mono ?_); rintro e v4 ⟨rfl, h⟩; have I4 := Lib.hid h; clear h)))
                    go_roundw
                    case rel => exact ⟨j2 + 1, by omega, by go_num, I4.out⟩
                    case measure => simp [intOf]; omega
                  · obtain rfl : j2 = 3 := by omega
                    obtain ⟨fa, fb, fc, q29, q30⟩ := pair_counts (n := n) (pr := pr) (bc := bc) (dc := dc) (rt := rt) (A := A') w (bx (bx (mX w6 v') b4 (.cells #[.int .i64 3, .int .i64 z1, .int .i64 z2, .int .i64 z3] 41)) t (.cells #[.int .i64 x, .int .i64 (wrap64 (x + 1)), .int .i64 z1] 3))
                    have C29 := Lib.hid q29
                    have C30 := Lib.hid q30
                    have r1 : (fa != fa) = false := by simp
                    have r2 : (fb != fb) = false := by simp
                    have r3 : (fc != fc) = false := by simp
                    clear q29 q30 ri hPi
                    go_wp2_with (first
                      | (go_at_call 29; ((with_reducible refine (C29.out _ HPi.out).mono ?_); rintro e v1 ⟨rfl, h⟩; have I1 := Lib.hid h; clear h))
                      | (go_at_call 30; ((with_reducible refine (C30.out _ I1.out).mono ?_); rintro e v2 ⟨rfl, h⟩; have I2 := Lib.hid (pr_end h LL.out NN.out T2.out); clear h)))
                    go_roundw
                    case rel => exact ⟨j + 1, m + 1, _, A', by omega, by omega, by go_num, I2.out.2, MM.out, I2.out.1⟩
                    case measure => simp [intOf]; omega
            · have e31 : (z0 == 3) = false := by simpa using e3
              as_aux_lemma =>
                have PA := Lib.hid (HB.out)
                have r := PA.out.row (bx_at _ _ _)
                have g0 := cell_of_row _ _ 0 _ 41 (0, 0) r
                have g1 := cell_of_row _ _ 1 _ 41 (0, 0) r
                have g2 := cell_of_row _ _ 2 _ 41 (0, 0) r
                have g3 := cell_of_row _ _ 3 _ 41 (0, 0) r
                have HA := l1
                have C24 := Lib.hid (one_any z0 z1 z2 z3 HA l2 PA.out)
                have R5 := Lib.hid (R5A.out z1)
                have L5 := Lib.hid (L5A.out z1)
                have APP := Lib.hid (APPA.out z1)
                clear r R5A L5A APPA HB HBA PA
                go_upto_block 2 with (refine wpList_load_mid rfl 41 (.tmp 62) rfl b (o + j * 4) rfl _ _ HR.out Tryd.underlying41 rfl (by kernel_rfl) ?_)
                go_wp2_with (go_at_call 24; ((with_reducible refine (C24.out).mono ?_); rintro e w5 ⟨x, A', hx, rfl, h⟩; obtain ⟨y0, y1⟩ := R5.out _ _ h; have L6 := Lib.hid (L5.out _ _ h); have H5 := Lib.hid h; have S5 : Hid (w.heap.size ≤ w5.heap.size) := Lib.hid h.cha.size; clear h))
                have LL := HL
                have PP := H5
                have NN := XN
                have MM := HM
                have T2 := Lib.hid PP.out.fresh_none
                have PB := Lib.hid (PP.out.box (.cells #[.int .i64 x, .int .i64 (wrap64 (x + 1)), .int .i64 z1] 3))
                have hw1 := wle64 (x + 1)
                generalize hb4 : wr.heap.size = b4 at *
                generalize ht : w5.heap.size = t at *
                go_loopw [118] (fun i wi => ∃ j2 : Nat, j2 ≤ 3 ∧ i = .int .i64 (j2 : Int) ∧ Pr n pr bc dc rt w (bx (bx (mX wr (.slice qa m qc)) b4 (.cells #[.int .i64 z0, .int .i64 z1, .int .i64 z2, .int .i64 z3] 41)) t (.cells #[.int .i64 x, .int .i64 (wrap64 (x + 1)), .int .i64 z1] 3)) wi A' A') (fun i _ => 3 - (intOf i).toNat)
                case atStart => exact ⟨0, by omega, rfl, PB.out⟩
                case round =>
                  rename World => wi
                  obtain ⟨j2, hj2, rfl, hPi⟩ := hrel
                  have HPi := Lib.hid hPi
                  have ri := hPi.row (bx_at _ _ _)
                  by_cases c3 : j2 < 3
                  · have PF : ∃ p, p ≤ 9223372036854775807 ∧ wi.cell? ⟨t, j2, none⟩ = some (.int .i64 p) := by
                      have : j2 = 0 ∨ j2 = 1 ∨ j2 = 2 := by omega
                      rcases this with rfl | rfl | rfl
                      · exact ⟨_, hx, cell_of_row _ _ 0 _ 3 (0, 0) ri⟩
                      · exact ⟨_, hw1, cell_of_row _ _ 1 _ 3 (0, 0) ri⟩
                      · exact ⟨_, HA, cell_of_row _ _ 2 _ 3 (0, 0) ri⟩
                    obtain ⟨p, hp, kp⟩ := PF
                    obtain ⟨fa, fb, fc, q25, q26⟩ := pair_find (n := n) (pr := pr) (bc := bc) (dc := dc) (rt := rt) (A := A') w (bx (bx (mX wr (.slice qa m qc)) b4 (.cells #[.int .i64 z0, .int .i64 z1, .int .i64 z2, .int .i64 z3] 41)) t (.cells #[.int .i64 x, .int .i64 (wrap64 (x + 1)), .int .i64 z1] 3)) p hp
                    obtain ⟨fu, q27, q28⟩ := pair_used (n := n) (pr := pr) (bc := bc) (dc := dc) (rt := rt) (A := A') w (bx (bx (mX wr (.slice qa m qc)) b4 (.cells #[.int .i64 z0, .int .i64 z1, .int .i64 z2, .int .i64 z3] 41)) t (.cells #[.int .i64 x, .int .i64 (wrap64 (x + 1)), .int .i64 z1] 3)) (wrap64 (p.tdiv 64)) (wle64 _)
                    have C25 := Lib.hid q25
                    have C26 := Lib.hid q26
                    have C27 := Lib.hid q27
                    have C28 := Lib.hid q28
                    have r1 : (fa != fa) = false := by simp
                    have r2 : (fb != fb) = false := by simp
                    have r3 : (fc != fc) = false := by simp
                    have r4 : (fu != fu) = false := by simp
                    clear q25 q26 q27 q28 ri hPi
                    go_wp2_with (first
                      | (go_at_call 25; ((with_reducible refine (C25.out _ HPi.out).mono ?_); rintro e v1 ⟨rfl, h⟩; have I1 := Lib.hid h; clear h))
                      | (go_at_call 26; ((with_reducible refine (C26.out _ I1.out).mono ?_); rintro e v2 ⟨rfl, h⟩; have I2 := Lib.hid h; clear h))
                      | (go_at_call 27; ((with_reducible refine (C27.out _ I2.out).mono ?_); rintro e v3 ⟨rfl, h⟩; have I3 := Lib.hid h; clear h))
                      | (go_at_call 28; ((with_reducible refine (C28.out _ I3.out).mono ?_); rintro e v4 ⟨rfl, h⟩; have I4 := Lib.hid h; clear h)))
                    go_roundw
                    case rel => exact ⟨j2 + 1, by omega, by go_num, I4.out⟩
                    case measure => simp [intOf]; omega
                  · obtain rfl : j2 = 3 := by omega
                    obtain ⟨fa, fb, fc, q29, q30⟩ := pair_counts (n := n) (pr := pr) (bc := bc) (dc := dc) (rt := rt) (A := A') w (bx (bx (mX wr (.slice qa m qc)) b4 (.cells #[.int .i64 z0, .int .i64 z1, .int .i64 z2, .int .i64 z3] 41)) t (.cells #[.int .i64 x, .int .i64 (wrap64 (x + 1)), .int .i64 z1] 3))
                    have C29 := Lib.hid q29
                    have C30 := Lib.hid q30
                    have r1 : (fa != fa) = false := by simp
                    have r2 : (fb != fb) = false := by simp
                    have r3 : (fc != fc) = false := by simp
                    clear q29 q30 ri hPi
                    go_wp2_with (first
                      | (go_at_call 29; ((with_reducible refine (C29.out _ HPi.out).mono ?_); rintro e v1 ⟨rfl, h⟩; have I1 := Lib.hid h; clear h))
                      | (go_at_call 30; ((with_reducible refine (C30.out _ I1.out).mono ?_); rintro e v2 ⟨rfl, h⟩; have I2 := Lib.hid (pr_end h LL.out NN.out T2.out); clear h)))
                    go_roundw
                    case rel => exact ⟨j + 1, m, _, A', by omega, by omega, by go_num, I2.out.2, MM.out, I2.out.1⟩
                    case measure => simp [intOf]; omega
    · have HC := Lib.hid hP.cha
      clear hP
      go_wp2
      go_returns
      exact ⟨rfl, HC.out⟩
end Go.Proofs.YtiboobaggpghjaaDoor
