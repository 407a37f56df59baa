/- CellApart: the walk. -/
import Derived.Test.YtiboobaggpghjaaDoorEB
import Derived.Test.YtiboobaggpghjaaDoorDU
import Derived.Test.YtiboobaggpghjaaDoorDV
namespace Go.Proofs.YtiboobaggpghjaaDoor
open Go.ChangeShapes Go.WideShapes Go.ChangeAt Go.RowKit
variable {n pr m wd X j : Nat} {A A' : List Bk} {own ps ws : Nat → Int} {v : Int}

def filz (own : Nat → Int) (b k : Nat) (v : Int) : Nat → Int := fun x => if b ≤ x ∧ x < b + k then v else own x
theorem filz_zero (own : Nat → Int) (b : Nat) (v : Int) : filz own b 0 v = own := by funext x; unfold filz; rw [if_neg (by omega)]
theorem filz_step (own : Nat → Int) (b k : Nat) (v : Int) : (fun x => if x = b + k then v else filz own b k v x) = filz own b (k + 1) v := by
  funext x
  unfold filz
  by_cases e : x = b + k
  · rw [if_pos e, if_pos (by omega)]
  · rw [if_neg e]
    by_cases c : b ≤ x ∧ x < b + k
    · rw [if_pos c, if_pos (by omega)]
    · rw [if_neg c, if_neg (by omega)]
theorem filz_next (own : Nat → Int) (b k : Nat) (v : Int) : filz own b k v (b + k) = own (b + k) := by unfold filz; rw [if_neg (by omega)]
/-- How many places of the list are none that was freed. -/
def alv (ps : Nat → Int) : Nat → Nat
  | 0 => 0
  | k + 1 => alv ps k + if ps k = -1 then 0 else 1
theorem alv_congr {a b : Nat → Int} : ∀ {m : Nat}, (∀ i, i < m → a i = b i) → alv a m = alv b m
  | 0, _ => rfl
  | k + 1, h => by
    unfold alv
    rw [alv_congr (m := k) fun i hi => h i (by omega), h k (by omega)]
theorem alv_put {j : Nat} : ∀ {m : Nat}, j < m → ps j ≠ -1 → alv (put9 ps j (-1)) m + 1 = alv ps m
  | 0, h, _ => absurd h (by omega)
  | k + 1, h, hp => by
    unfold alv
    by_cases e : j = k
    · subst e
      rw [alv_congr (a := put9 ps j (-1)) (b := ps) fun i hi => by unfold put9; rw [if_neg (by omega)], show put9 ps j (-1) j = -1 by unfold put9; rw [if_pos rfl], if_pos rfl, if_neg hp]
    · have := alv_put (j := j) (m := k) (by omega) hp
      rw [show put9 ps j (-1) k = ps k by unfold put9; rw [if_neg (by omega)]]
      omega
theorem alv_ge : ∀ {m : Nat}, (∀ i, 256 ≤ i → i < m → ps i ≠ -1) → m ≤ 256 + alv ps m
  | 0, _ => by omega
  | k + 1, h => by
    have ih := alv_ge (m := k) fun i h1 h2 => h i h1 (by omega)
    unfold alv
    by_cases c : 256 ≤ k
    · rw [if_neg (h k c (by omega))]
      omega
    · omega
/-- What is owned lies in used cells; the list's places are used cells, or -1. -/
structure ApI (A : List Bk) (own : Nat → Int) (m : Nat) (ps ws : Nat → Int) : Prop where
  own : ∀ w : Nat, own w ≠ 0 → ∃ y i, Hit A (w : Int) y i
  cel : ∀ i, i < m → ps i = -1 ∨ (0 ≤ ps i ∧ ∃ wd : Nat, ws i = (wd : Int) ∧ Cel A (ps i) wd)
  inj : ∀ i j, i < j → j < m → ps i = ps j → ps i = -1
  cnt : alv ps m ≤ sumA fC A
  high : ∀ i, 256 ≤ i → i < m → ps i ≠ -1
theorem ApI.nil : ApI [] (fun _ => 0) 0 ps ws := ⟨fun _ h => absurd rfl h, fun i h => absurd h (by omega), fun i j _ h => absurd h (by omega), by simp [alv], fun i _ h => absurd h (by omega)⟩
theorem ApI.mid (h : ApI A own m ps ws) (k : Mid n pr A A') : ApI A' own m ps ws := by
  refine ⟨fun w hw => ?_, fun i hi => ?_, h.inj, by rw [k.sum]; exact h.cnt, h.high⟩
  · obtain ⟨y, i, hh⟩ := h.own w hw
    obtain ⟨y', h', _⟩ := hh.ext k.ext
    exact ⟨y', i, h'⟩
  · rcases h.cel i hi with e | ⟨e, wd, e1, e2⟩
    · exact .inl e
    · exact .inr ⟨e, wd, e1, e2.ext k.ext⟩
theorem ApI.zero (h : ApI A own m ps ws) {w : Nat} (hn : NoHit A (w : Int)) : own w = 0 := by
  by_cases e : own w = 0
  · exact e
  · obtain ⟨y, i, hh⟩ := h.own w e
    exact absurd hh (hn y i)
theorem ApI.add (h : ApI A own m ps ws) (hw : 1 ≤ wd) (k : Adds n pr A A' (X : Int) wd) : ApI A' (filz own X wd v) (m + 1) (put9 ps m (X : Int)) (put9 ws m (wd : Int)) := by
  have at_m : put9 ps m (X : Int) m = X := by unfold put9; rw [if_pos rfl]
  have lt_m : ∀ i, i < m → put9 ps m (X : Int) i = ps i := fun i hi => by unfold put9; rw [if_neg (by omega)]
  refine ⟨fun w hw => ?_, fun i hi => ?_, fun i j hij hj e => ?_, ?_, fun i h1 h2 => ?_⟩
  · unfold filz at hw
    by_cases c : X ≤ w ∧ w < X + wd
    · obtain ⟨y, i, hh, _⟩ := k.cel.word (w := (w : Int)) (by omega) (by omega)
      exact ⟨y, i, hh⟩
    · rw [if_neg c] at hw
      obtain ⟨y, i, hh⟩ := h.own w hw
      obtain ⟨y', h', _⟩ := hh.ext k.ext
      exact ⟨y', i, h'⟩
  · by_cases e : i = m
    · subst e
      rw [at_m, show put9 ws i (wd : Int) i = wd by unfold put9; rw [if_pos rfl]]
      exact .inr ⟨by omega, wd, rfl, k.cel⟩
    · rw [lt_m i (by omega), show put9 ws m (wd : Int) i = ws i by unfold put9; rw [if_neg e]]
      rcases h.cel i (by omega) with e | ⟨e, wd, e1, e2⟩
      · exact .inl e
      · exact .inr ⟨e, wd, e1, e2.ext k.ext⟩
  · rw [lt_m i (by omega)] at e ⊢
    by_cases c : j = m
    · subst c
      rw [at_m] at e
      rcases h.cel i hij with e2 | ⟨_, wd', _, y, q, hh, _⟩
      · exact e2
      · exact absurd (e ▸ hh) (k.new X (Int.le_refl _) (by omega) y q)
    · rw [lt_m j (by omega)] at e
      exact h.inj i j hij (by omega) e
  · unfold alv
    rw [alv_congr lt_m, at_m, if_neg (by omega), k.sum]
    have := h.cnt
    omega
  · by_cases c : i = m
    · subst c; rw [at_m]; omega
    · rw [lt_m i (by omega)]; exact h.high i h1 (by omega)
theorem ApI.rem (h : ApI A own m ps ws) (hj : j < m) (hj2 : j < 256) (hx : ps j = (X : Int)) (k : Rems n pr A A' (X : Int) wd) : ApI A' (filz own X wd 0) m (put9 ps j (-1)) ws := by
  have at_j : put9 ps j (-1) j = -1 := by unfold put9; rw [if_pos rfl]
  have ne_j : ∀ i, i ≠ j → put9 ps j (-1) i = ps i := fun i hi => by unfold put9; rw [if_neg hi]
  refine ⟨fun w hw => ?_, fun i hi => ?_, fun i i' hij hj' e => ?_, ?_, fun i h1 h2 => ?_⟩
  · unfold filz at hw
    by_cases c : X ≤ w ∧ w < X + wd
    · rw [if_pos c] at hw; exact absurd rfl hw
    · rw [if_neg c] at hw
      exact k.hit _ (by omega) (h.own w hw)
  · by_cases e : i = j
    · subst e; exact .inl at_j
    · rw [ne_j i e]
      rcases h.cel i hi with e2 | ⟨e2, wd', e3, e4⟩
      · exact .inl e2
      · refine .inr ⟨e2, wd', e3, k.cel _ _ e4 fun c => ?_⟩
        have c : ps i = ps j := c.trans hx.symm
        rcases Nat.lt_or_gt_of_ne e with d | d
        · have := h.inj i j d hj c; omega
        · have := h.inj j i d hi c.symm; omega
  · by_cases e1 : i = j
    · subst e1; exact at_j
    · by_cases e2 : i' = j
      · subst e2; rw [at_j] at e; exact e
      · rw [ne_j i e1, ne_j i' e2] at e
        rw [ne_j i e1]
        exact h.inj i i' hij hj' e
  · have := alv_put (ps := ps) hj (by omega)
    have := k.sum
    have := h.cnt
    omega
  · rw [ne_j i (by omega)]; exact h.high i h1 h2

/-! ### The law's arrays -/
structure Ws (w : World) (g : Nat) (own : Nat → Int) (F : Nat → Prop) (W : World) (u v : Value) (m1 m2 : Nat) (ps ws : Nat → Int) : Prop where
  fg : ¬ F g
  r : FRow 3 W g 16384 (fun i => .int .i64 (own i))
  l1 : Li w.heap.size F W u m1 ps
  l2 : Li w.heap.size F W v m2 ws
  far : ∀ x, u.ownBlock = some x → v.ownBlock ≠ some x
  g1 : u.ownBlock ≠ some g
  g2 : v.ownBlock ≠ some g
  cha : Cha (fun _ => False) w W
  new : ∀ i, F i → w.heap.size ≤ i
  gn : w.heap.size ≤ g
variable {w W W' : World} {g bc m1 m2 : Nat} {F F' : Nat → Prop} {u v u' v' : Value} {x : Int}
theorem Ws.move (h : Ws w g own F W u v m1 m2 ps ws) (k2 : Cha F W W') (k4 : ∀ i, F' i → F i ∨ W.heap.size ≤ i) : Ws w g own F' W' u v m1 m2 ps ws := by
  have l := h.r.lt
  have hs := h.cha.size
  refine ⟨fun e => ?_, k2.row h.r h.fg, h.l1.move k2 k4, h.l2.move k2 k4, h.far, h.g1, h.g2, h.cha.over k2 fun i hi => .inr (h.new i hi), fun i hi => ?_, h.gn⟩
  · rcases k4 _ e with e | e
    · exact h.fg e
    · omega
  · rcases k4 i hi with e | e
    · exact h.new i e
    · omega
theorem Ws.set (h : Ws w g own F W u v m1 m2 ps ws) (i : Nat) (x : Int) : Ws w g (fun j => if j = i then x else own j) F (W.setCell ⟨g, i, none⟩ (.int .i64 x)) u v m1 m2 ps ws := by
  have c := cha_set W g i (.int .i64 x)
  refine ⟨h.fg, (h.r.set (i := i) (.int .i64 x)).congr fun j _ => ?_, h.l1.cha c fun b hb e => h.g1 (by rw [hb]; exact congrArg some e), h.l2.cha c fun b hb e => h.g2 (by rw [hb]; exact congrArg some e), h.far, h.g1, h.g2, h.cha.over c fun b hb => .inr (by have := h.gn; have e : b = g := hb; omega), h.new, h.gn⟩
  show _ = Value.int .i64 _
  split <;> rfl
theorem Ws.app1 (h : Ws w g own F W u v m1 m2 ps ws) (h0 : ∀ i, F i → i < W.heap.size) {o : Obj} (h1 : W'.ownsRow w.heap.size 3 1 u' (m1 + 1) (ilz ps m1 ++ [.int .i64 x])) (hg : (W.alloc o).grownBy W' u.ownBlock) (hw : u'.ownBlock = u.ownBlock ∨ ∀ g, u'.ownBlock = some g → (W.alloc o).heap.size ≤ g) :
    Ws w g own F W' u' v (m1 + 1) m2 (put9 ps m1 x) ws ∧ Cha (fun i => u.ownBlock = some i) W W' := by
  obtain ⟨k, c⟩ := h.l1.app h0 h1 hg hw
  have l := h.r.lt
  refine ⟨⟨h.fg, c.row h.r h.g1, k, h.l2.cha c fun b hb e => h.far b e hb, fun b hb e => ?_, fun e => ?_, h.g2, h.cha.over c fun b hb => .inr (h.l1.lt hb).1, h.new, h.gn⟩, c⟩
  · rcases hw with hw | hw
    · exact h.far b (hw ▸ hb) e
    · have := hw b hb
      have := (h.l2.lt e).2
      rw [World.size_alloc] at *
      omega
  · rcases hw with hw | hw
    · exact h.g1 (hw ▸ e)
    · have := hw g e
      rw [World.size_alloc] at this
      omega
theorem Ws.app2 (h : Ws w g own F W u v m1 m2 ps ws) (h0 : ∀ i, F i → i < W.heap.size) {o : Obj} (h1 : W'.ownsRow w.heap.size 3 1 v' (m2 + 1) (ilz ws m2 ++ [.int .i64 x])) (hg : (W.alloc o).grownBy W' v.ownBlock) (hw : v'.ownBlock = v.ownBlock ∨ ∀ g, v'.ownBlock = some g → (W.alloc o).heap.size ≤ g) :
    Ws w g own F W' u v' m1 (m2 + 1) ps (put9 ws m2 x) ∧ Cha (fun i => v.ownBlock = some i) W W' := by
  obtain ⟨k, c⟩ := h.l2.app h0 h1 hg hw
  have l := h.r.lt
  refine ⟨⟨h.fg, c.row h.r h.g2, h.l1.cha c fun b hb e => h.far b hb e, k, fun b hb e => ?_, h.g1, fun e => ?_, h.cha.over c fun b hb => .inr (h.l2.lt hb).1, h.new, h.gn⟩, c⟩
  · rcases hw with hw | hw
    · exact h.far b hb (hw ▸ e)
    · have := hw b e
      have := (h.l1.lt hb).2
      rw [World.size_alloc] at *
      omega
  · rcases hw with hw | hw
    · exact h.g2 (hw ▸ e)
    · have := hw g e
      rw [World.size_alloc] at this
      omega
theorem Ws.setp (h : Ws w g own F W u v m1 m2 ps ws) {b : Nat} (hb : u.ownBlock = some b) (i : Nat) (x : Int) (hi : i < m1) : Ws w g own F (W.setCell ⟨b, i, none⟩ (.int .i64 x)) u v m1 m2 (put9 ps i x) ws ∧ b ≠ 0 ∧ ¬ F b ∨ w.heap.size = 0 := by
  by_cases h0 : w.heap.size = 0
  · exact .inr h0
  · have c := cha_set W b i (.int .i64 x)
    have := h.l1.lt hb
    exact .inl ⟨⟨h.fg, c.row h.r fun e => h.g1 (by rw [hb]; exact congrArg some (Eq.symm e)), h.l1.set hb i x hi, h.l2.cha c fun d hd e => h.far d (by rw [hb]; exact congrArg some (Eq.symm e)) hd, h.far, h.g1, h.g2, h.cha.over c fun d hd => .inr (by have e : d = b := hd; omega), h.new, h.gn⟩, by omega, h.l1.far b hb⟩
end Go.Proofs.YtiboobaggpghjaaDoor

namespace Go.Proofs.YtiboobaggpghjaaDoor
open Go.ChangeShapes Go.WideShapes Go.ChangeAt Go.RowKit

theorem Ws.at1 {w W : World} {g m1 m2 c jj : Nat} {own ps ws : Nat → Int} {F : Nat → Prop} {a : Option Addr} {v : Value} (h : Ws w g own F W (.slice a m1 c) v m1 m2 ps ws) (hj : jj < m1) : ∃ b, a = some ⟨b, 0, none⟩ ∧ W.cell? ⟨b, jj, none⟩ = some (.int .i64 (ps jj)) ∧ ∀ i, W.frozen? ⟨b, i, none⟩ = false := by
  obtain ⟨aX, cX, hX, hsX⟩ := h.l1.shape
  cases hX
  obtain ⟨b, h1, _, _, _, h2, h3⟩ := hsX (by omega)
  exact ⟨b, h1, h2 jj hj, h3⟩
theorem Ws.at2 {w W : World} {g m1 m2 c jj : Nat} {own ps ws : Nat → Int} {F : Nat → Prop} {a : Option Addr} {v : Value} (h : Ws w g own F W v (.slice a m2 c) m1 m2 ps ws) (hj : jj < m2) : ∃ b, a = some ⟨b, 0, none⟩ ∧ W.cell? ⟨b, jj, none⟩ = some (.int .i64 (ws jj)) ∧ ∀ i, W.frozen? ⟨b, i, none⟩ = false := by
  obtain ⟨aX, cX, hX, hsX⟩ := h.l2.shape
  cases hX
  obtain ⟨b, h1, _, _, _, h2, h3⟩ := hsX (by omega)
  exact ⟨b, h1, h2 jj hj, h3⟩
theorem Ws.owns {w W : World} {g m1 m2 : Nat} {own own' ps ws : Nat → Int} {F : Nat → Prop} {u v : Value} (h : Ws w g own F W u v m1 m2 ps ws) (e : own = own') : Ws w g own' F W u v m1 m2 ps ws := e ▸ h
theorem ApI.few {A : List Bk} {own ps ws : Nat → Int} {m : Nat} (h : ApI A own m ps ws) (hi : Inv 256 3 A) (hl : A.length ≤ 256) : m ≤ 262400 := by
  have h1 := alv_ge (ps := ps) h.high
  have h2 := sums_le hi (by omega) hl
  have := h.cnt
  omega
set_option maxRecDepth 100000 in
set_option maxHeartbeats 16000000 in
theorem apart_walk (w : World) (hs : Siz w) (a0 : Option Addr) (n0 c0 : Nat) (a1 : Option Addr) (n1 c1 : Nat) (k0 : NumsC .u16 w a0 n0 c0) (k1 : NumsC .u8 w a1 n1 c1) :
    Calls Tryd.prog 7 #[.slice a0 n0 c0, .slice a1 n1 c1] w fun e w' => e = .returned (.bool true) ∧ Cha (fun _ => False) w w' := by
  have CN : Hid (Calls Tryd.prog 21 #[.int .i64 256, .int .i64 3] w fun e w' => ∃ bc, e = .returned (.tuple #[.pointer (some ⟨bc, 0, none⟩), .int .i64 0]) ∧ ∃ F, Oc 256 3 F bc w' [] ∧ Cha (fun _ => False) w w' ∧ ∀ i, F i → w.heap.size ≤ i) := Lib.hid (oc_new 256 3 w (by omega) (by omega) (by omega) (by omega) hs)
  have CA := Lib.hid fun W (h : Siz W) => awake7 W h
  have H1 := Lib.hid k0
  have H2 := Lib.hid k1
  have hn0 := k0.2.2.1
  have hn1 := k1.2.2.1
  have hw0 : 0 < w.heap.size := by
    obtain ⟨_, _, hs0⟩ := hs
    exact (Array.getElem?_eq_some_iff.1 hs0).1
  clear k0 k1 hs
  obtain ⟨NN, hNN⟩ : ∃ NN : Nat, NN = 16384 := ⟨_, rfl⟩
  have hmk : ∀ W, (Instr.makeSlice 39 (.int .i64 16384) (.int .i64 16384)).run Tryd.prog W = .ok (.slice (some ⟨W.heap.size, 0, none⟩) NN NN) (W.alloc (.cells (fcells 16384 fun _ => .int .i64 0) 3)) := fun W => by rw [hNN]; exact mk_ints 16384 (by omega) W
  have HNN := Lib.hid hNN
  clear hNN
  obtain ⟨fc, hfc⟩ : ∃ fc, fc = fcells 16384 (fun _ => Value.int .i64 0) := ⟨_, rfl⟩
  simp only [← hfc] at hmk
  have HFC0 := Lib.hid hfc
  clear hfc
  go_enter Tryd.func7, Tryd.ntmps7
  go_wp2_with (first
    | (go_at_call 21; ((with_reducible refine (CN.out).mono ?_); rintro e w1 ⟨bc, rfl, F, h, hc, hf⟩; have H3 := Lib.hid h; have C3 := Lib.hid hc; have N3 := Lib.hid hf; clear h hc hf))
    | (go_at_call 23; ((with_reducible refine (CA.out _ H3.out.siz).mono ?_); rintro e w2 ⟨rfl, h⟩; have H4 := Lib.hid (H3.out.same h); have C4 := Lib.hid (C3.out.trans h); clear h)))
  obtain ⟨g, hg⟩ : ∃ g, g = w2.heap.size := ⟨_, rfl⟩
  have hg2 : w.heap.size ≤ g := by rw [hg]; exact C4.out.size
  have X1 : FRow 3 (w2.alloc (.cells fc 3)) g 16384 (fun _ => .int .i64 0) := by unfold FRow; rw [hg, ← HFC0.out]; exact heap_alloc_new w2 _
  have X3 : Cha (fun _ => False) w2 (w2.alloc (.cells fc 3)) := (Cha.refl _ w2).alloc _
  have X4 : ∀ i, F i → i < g := fun i hi => by rw [hg]; exact H4.out.lt hi
  rw [← hg]
  obtain ⟨w3, hw3⟩ : ∃ w3, w3 = w2.alloc (.cells fc 3) := ⟨_, rfl⟩
  rw [← hw3] at X1 X3 ⊢
  clear hw3 hg hmk
  have O0 := Lib.hid (H4.out.same X3)
  have I0 : Hid (Ws w g (fun _ => 0) F w3 (.slice none 0 0) (.slice none 0 0) 0 0 (fun _ => 0) (fun _ => 0)) := Lib.hid ⟨fun e => by have := X4 _ e; omega, X1, Li.nil _ _ _ _, Li.nil _ _ _ _, fun x h => by simp [Value.ownBlock] at h, fun h => by simp [Value.ownBlock] at h, fun h => by simp [Value.ownBlock] at h, C4.out.trans X3, N3.out, hg2⟩
  clear X1 X3 X4 CN CA H3 H4 C3 C4 N3
  have hg10 : g ≠ 0 := by omega
  obtain ⟨i0, hi, hz0, hz1, hz2⟩ := info_parts info3
  go_loopw [8, 9, 38] (fun u v i wr => ∃ (j m : Nat) (A : List Bk) (F : Nat → Prop) (own ps ws : Nat → Int), j ≤ n0 ∧ i = .int .i64 (j : Int) ∧ ApI A own m ps ws ∧ Oc 256 3 F bc wr A ∧ Ws w g own F wr u v m m ps ws) (fun _ _ i _ => n0 - (intOf i).toNat)
  case atStart => exact ⟨0, 0, _, _, _, _, _, by omega, rfl, ApI.nil, O0.out, I0.out⟩
  case round =>
    clear I0 O0
    obtain ⟨j, m, A, F, own, ps, ws, hj, rfl, hP, hO, hW⟩ := hrel
    have hm : m ≤ 262400 := hP.few hO.inv hO.len.2.1
    by_cases hlt : j < n0
    · obtain ⟨b, o, z, rfl, hz⟩ := H1.out.2.2.2 (by omega)
      obtain ⟨hz1', hz2'⟩ := hz j hlt
      have hc := (hW.cha.old b (block_lt_of_cell hz1') (fun x => x))
      have hcell : wr.cell? ⟨b, o + j, none⟩ = some (.int .u16 (z j)) := (World.cell?_of_block (a := ⟨b, o + j, none⟩) hc).trans hz1'
      have hxlo := u16_lo hz2'
      have hxhi := u16_hi hz2'
      clear hz hz1' hz2' hc
      generalize z j = x at *
      obtain ⟨p, hp⟩ : ∃ p : Nat, (j : Int) % 3 = (p : Int) := ⟨((j : Int) % 3).toNat, by omega⟩
      have hp2 : p < 3 := by omega
      obtain ⟨k, hk, hk1, hk2⟩ : ∃ k : Nat, (if x % 7 = 0 then x % 1024 + 1 else x % 300 + 1) = (k : Int) ∧ 1 ≤ k ∧ k ≤ 1024 := by
        refine ⟨(if x % 7 = 0 then x % 1024 + 1 else x % 300 + 1).toNat, ?_⟩
        split <;> omega
      obtain ⟨A', x0, r, hal⟩ := Alo.ex (n := 256) (pr := 3) hO.inv (p : Int) (k : Int)
      have C31 := Lib.hid (oc_alloc hO hal (by omega))
      have HW0 := Lib.hid hW
      rcases alo_does hO.inv hal (by omega) (by omega) (by omega) (by omega) with ⟨rfl, hmid⟩ | ⟨rfl, wd, hwd, had⟩
      · have HP := Lib.hid (hP.mid hmid)
        clear hO hW hP hal hmid
        by_cases h7 : x % 7 = 0
        rw [if_pos h7] at hk
        rotate_left
        rw [if_neg h7] at hk
        all_goals
          go_wp2_with (go_at_call 31; ((with_reducible refine (C31.out).mono ?_); rintro e w5 ⟨rfl, F5, k1, k2, k3, k4⟩; have O5 := Lib.hid k1; have W5 := Lib.hid (HW0.out.move k2 k4); clear k1 k2 k3 k4))
          go_roundw
          case rel => exact ⟨j + 1, m, A', F5, _, _, _, by omega, by go_num, HP.out, O5.out, W5.out⟩
          case measure => simp [intOf]; omega
      · obtain ⟨q1, q2, q3⟩ := had.cel.rng had.inv
        obtain ⟨X, rfl⟩ : ∃ X : Nat, x0 = (X : Int) := ⟨x0.toNat, by omega⟩
        obtain ⟨Z, hZ⟩ : ∃ Z, Z = X + wd := ⟨_, rfl⟩
        have hZ2 : (X : Int) + (wd : Int) = (Z : Int) := by omega
        have hZ3 : Z ≤ 16384 := by omega
        have C25 : Hid (∀ W F, Oc 256 3 F bc W A' → Calls Tryd.prog 25 #[.pointer (some ⟨bc, 0, none⟩), .int .i64 (X : Int)] W fun e w' => e = .returned (.tuple #[.int .i64 (X : Int), .int .i64 (wd : Int), .bool true]) ∧ Oc 256 3 F bc w' A' ∧ Cha (fun _ => False) W w') := Lib.hid fun W F h => by
          obtain ⟨y, i, hh, e1, e2⟩ := had.cel
          have := oc_find h hh
          unfold begAt at e1
          rw [e2, ← e2, ← e1] at this
          rw [e2] at this
          exact this
        have HZ0 : Hid (∀ t, t < wd → own (X + t) = 0) := Lib.hid fun t ht => hP.zero (had.new _ (by omega) (by omega))
        have HP2 := Lib.hid (hP.add (v := (j : Int) + 1) q3 had)
        have hwk : ¬ wd < k := by omega
        have hX0 : ¬ ((X : Int) < 0) := by omega
        have hZ4 : ¬ NN < Z := by have := HNN.out; omega
        obtain ⟨M1, hM1⟩ : ∃ M1, M1 = m + 1 := ⟨_, rfl⟩
        have HM1 := Lib.hid hM1
        have hM0 : 0 < M1 := by omega
        have hM2 : M1 ≤ 262401 := by omega
        rw [← hM1] at HP2
        have HZe := Lib.hid hZ
        clear hO hW hP hal had hM1 q1 q2 hwd hZ
        by_cases h7 : x % 7 = 0
        rw [if_pos h7] at hk
        rotate_left
        rw [if_neg h7] at hk
        all_goals
          go_wp2_with (first
            | (go_at_call 31; ((with_reducible refine (C31.out).mono ?_); rintro e w5 ⟨rfl, F5, k1, k2, k3, k4⟩; have O5 := Lib.hid k1; have W5 := Lib.hid (HW0.out.move k2 k4); clear k1 k2 k3 k4))
            | (go_at_call 25; ((with_reducible refine (C25.out _ _ O5.out).mono ?_); rintro e w5b ⟨rfl, k1, k2⟩; have O5b := Lib.hid k1; have W5b := Lib.hid (W5.out.move (F' := F5) k2.wide (fun i hi => .inl hi)); clear k1 k2 hk h7 hp hxlo hxhi hp2 hcell)))
          go_loopw [18] (fun i wr2 => ∃ (y t : Nat), y = X + t ∧ t ≤ wd ∧ i = .int .i64 (y : Int) ∧ Oc 256 3 F5 bc wr2 A' ∧ Ws w g (filz own X t ((j : Int) + 1)) F5 wr2 u8 u9 m m ps ws) (fun i _ => Z - (intOf i).toNat)
          case atStart => exact ⟨X, 0, by omega, by omega, rfl, O5b.out, by rw [filz_zero]; exact W5b.out⟩
          case round =>
            clear O5 W5 O5b W5b C31 C25 HW0
            obtain ⟨y, t, hy, ht, rfl, hO, hW⟩ := hrel
            have HY := Lib.hid hy
            have hZe := HZe.out
            have HO := Lib.hid hO
            have HW := Lib.hid hW
            by_cases hlt2 : t < wd
            · have hyZ : y < Z := by omega
              have hy2 : y < 16384 := by omega
              have hy3 : y < NN := by have := HNN.out; omega
              have hcell2 := hW.r.cell (i := y) hy2
              have hfr2 := hW.r.free y
              have hv0 : filz own X t ((j : Int) + 1) y = 0 := by rw [hy, filz_next]; exact HZ0.out t hlt2
              rw [hv0] at hcell2
              clear hO hW hy hZe hv0
              go_wp2
              go_roundw
              case rel => exact ⟨y + 1, t + 1, by have := HY.out; omega, by omega, by go_num, HO.out.other HW.out.fg hg10 _ _, by have h := HW.out.set y ((j : Int) + 1); rw [HY.out, filz_step, ← HY.out] at h; exact h⟩
              case measure => simp [intOf]; omega
            · obtain rfl : t = wd := by omega
              have hyZ : ¬ y < Z := by omega
              clear hO hW hy hZe
              have hmm := hm
              have HI := Lib.hid HO.out.inv
              have HLV := Lib.hid HO.out.live
              by_cases hf : j < n1
              · obtain ⟨b1, o1, zf, rfl, hzf⟩ := H2.out.2.2.2 (by omega)
                obtain ⟨hf1, hf2⟩ := hzf j hf
                have HFC := Lib.hid fun (W : World) (hc : Cha (fun _ => False) w W) => (World.cell?_of_block (a := ⟨b1, o1 + j, none⟩) (hc.old b1 (block_lt_of_cell hf1) (fun x => x))).trans hf1
                have hflo := u8_lo hf2
                have hfhi := u8_hi hf2
                clear hzf hf1 hf2
                generalize zf j = fz at *
                by_cases h3 : fz % 3 = 0
                · obtain ⟨jj, hjq⟩ : ∃ jj : Nat, fz % (M1 : Int) = (jj : Int) := ⟨(fz % (M1 : Int)).toNat, by have := Int.emod_nonneg fz (show (M1 : Int) ≠ 0 by omega); omega⟩
                  have hjj : jj < M1 := by have := Int.emod_lt_of_pos fz (show 0 < (M1 : Int) by omega); omega
                  have hj256 : jj < 256 := by
                    have e : (jj : Int) = ((fz.toNat % M1 : Nat) : Int) := by rw [← hjq, Int.natCast_emod, Int.toNat_of_nonneg hflo]
                    have := Nat.mod_le fz.toNat M1
                    omega
                  obtain ⟨pj, hpj⟩ : ∃ pj, pj = put9 ps m (X : Int) jj := ⟨_, rfl⟩
                  have hcj := HP2.out.cel jj hjj
                  rw [← hpj] at hcj
                  have HPJ := Lib.hid hpj
                  clear hpj
                  by_cases hneg : pj = -1
                  · subst hneg
                    clear hcj
                    go_wp2_with (first
                  | (at_builtin; refine wpList_append_where _ rfl _ _ 39 rfl w.heap.size 3 i0 (.int .i64 0) 1 8 Tryd.underlying39 hi hz0 hz1 hz2 rfl (by decide) _ _ _ rfl (HW.out.l1.own.alloc _) ⟨wr.heap.size, 0, none⟩ 1 1 [.int .i64 (X : Int)] rfl rfl (one_new _ _ _) (one_int _) (by unfold maxLen; omega) (by omega) (by rw [World.size_alloc]; have := HW.out.cha.size; omega) ?_; intro u' w6 hown' hgrow hwh; obtain ⟨l6, c6⟩ := HW.out.app1 (o := .cells #[.int .i64 (X : Int)] 3) (fun i hi => HO.out.lt hi) hown' hgrow hwh; rw [← HM1.out] at l6; have O6 := Lib.hid (HO.out.cha c6 (fun i hi e => HW.out.l1.far i e hi) (fun e => by have := (HW.out.l1.lt e).1; omega)); obtain ⟨a6, k6, rfl, hs6⟩ := l6.l1.shape; have W6 := Lib.hid l6; clear hown' hgrow hwh l6 c6 hs6)
                  | (at_builtin; refine wpList_append_where _ rfl _ _ 39 rfl w.heap.size 3 i0 (.int .i64 0) 1 8 Tryd.underlying39 hi hz0 hz1 hz2 rfl (by decide) _ _ _ rfl (W6.out.l2.own.alloc _) ⟨w6.heap.size, 0, none⟩ 1 1 [.int .i64 (t : Int)] rfl rfl (one_new _ _ _) (one_int _) (by unfold maxLen; omega) (by omega) (by rw [World.size_alloc]; have := W6.out.cha.size; omega) ?_; intro v' w7 hown' hgrow hwh; obtain ⟨l7, c7⟩ := W6.out.app2 (o := .cells #[.int .i64 (t : Int)] 3) (fun i hi => O6.out.lt hi) hown' hgrow hwh; rw [← HM1.out] at l7; have O7 := Lib.hid (O6.out.cha c7 (fun i hi e => W6.out.l2.far i e hi) (fun e => by have := (W6.out.l2.lt e).1; omega)); obtain ⟨a7, k7, rfl, hs7⟩ := l7.l2.shape; have W7 := Lib.hid l7; clear hown' hgrow hwh l7 c7 hs7; have fc7 := HFC.out w7 W7.out.cha; obtain ⟨gA, rfl, cA, _⟩ := W7.out.at1 hjj; rw [← HPJ.out] at cA; obtain ⟨gB, rfl, _, _⟩ := W7.out.at2 hjj))
                    go_roundw
                    case rel => exact ⟨j + 1, M1, A', F5, _, _, _, by omega, by go_num, HP2.out, O7.out, W7.out⟩
                    case measure => simp [intOf]; omega
                  · obtain ⟨hp0, wd', hws, hcl⟩ : 0 ≤ pj ∧ ∃ wd' : Nat, put9 ws m (t : Int) jj = (wd' : Int) ∧ Cel A' pj wd' := by
                      rcases hcj with e | e
                      · exact absurd e hneg
                      · exact e
                    obtain ⟨Y, rfl⟩ : ∃ Y : Nat, pj = (Y : Int) := ⟨pj.toNat, by omega⟩
                    obtain ⟨_, r2, r3⟩ := hcl.rng HI.out
                    obtain ⟨A2, hfre, hrem⟩ := free_does HI.out HLV.out hcl
                    have C32a := Lib.hid fun W (h : Oc 256 3 F5 bc W A') => oc_free h hfre (by omega)
                    have C32b := Lib.hid fun W (h : Oc 256 3 F5 bc W A2) => oc_free h (Fre7.no hrem.gone) (by omega)
                    have HP3 := Lib.hid (HP2.out.rem hjj hj256 HPJ.out.symm hrem)
                    obtain ⟨Z2, hZ2'⟩ : ∃ Z2, Z2 = Y + wd' := ⟨_, rfl⟩
                    have hZ23 : Z2 ≤ 16384 := by omega
                    have hY0 : ¬ ((Y : Int) < 0) := by omega
                    have HZ2e := Lib.hid hZ2'
                    have hq1 : IntKind.i64.wrap ((Y : Int) + (wd' : Int)) = (Z2 : Int) := by rw [IntWalk.i64_in _ (by omega)]; omega
                    clear hcj hcl hfre hrem hneg hp0 hZ2'
                    go_wp2_with (first
                  | (at_builtin; refine wpList_append_where _ rfl _ _ 39 rfl w.heap.size 3 i0 (.int .i64 0) 1 8 Tryd.underlying39 hi hz0 hz1 hz2 rfl (by decide) _ _ _ rfl (HW.out.l1.own.alloc _) ⟨wr.heap.size, 0, none⟩ 1 1 [.int .i64 (X : Int)] rfl rfl (one_new _ _ _) (one_int _) (by unfold maxLen; omega) (by omega) (by rw [World.size_alloc]; have := HW.out.cha.size; omega) ?_; intro u' w6 hown' hgrow hwh; obtain ⟨l6, c6⟩ := HW.out.app1 (o := .cells #[.int .i64 (X : Int)] 3) (fun i hi => HO.out.lt hi) hown' hgrow hwh; rw [← HM1.out] at l6; have O6 := Lib.hid (HO.out.cha c6 (fun i hi e => HW.out.l1.far i e hi) (fun e => by have := (HW.out.l1.lt e).1; omega)); obtain ⟨a6, k6, rfl, hs6⟩ := l6.l1.shape; have W6 := Lib.hid l6; clear hown' hgrow hwh l6 c6 hs6)
                  | (at_builtin; refine wpList_append_where _ rfl _ _ 39 rfl w.heap.size 3 i0 (.int .i64 0) 1 8 Tryd.underlying39 hi hz0 hz1 hz2 rfl (by decide) _ _ _ rfl (W6.out.l2.own.alloc _) ⟨w6.heap.size, 0, none⟩ 1 1 [.int .i64 (t : Int)] rfl rfl (one_new _ _ _) (one_int _) (by unfold maxLen; omega) (by omega) (by rw [World.size_alloc]; have := W6.out.cha.size; omega) ?_; intro v' w7 hown' hgrow hwh; obtain ⟨l7, c7⟩ := W6.out.app2 (o := .cells #[.int .i64 (t : Int)] 3) (fun i hi => O6.out.lt hi) hown' hgrow hwh; rw [← HM1.out] at l7; have O7 := Lib.hid (O6.out.cha c7 (fun i hi e => W6.out.l2.far i e hi) (fun e => by have := (W6.out.l2.lt e).1; omega)); obtain ⟨a7, k7, rfl, hs7⟩ := l7.l2.shape; have W7 := Lib.hid l7; clear hown' hgrow hwh l7 c7 hs7; have fc7 := HFC.out w7 W7.out.cha; obtain ⟨gA, rfl, cA, _⟩ := W7.out.at1 hjj; rw [← HPJ.out] at cA; obtain ⟨gB, rfl, _, _⟩ := W7.out.at2 hjj)
                  | (go_at_call 32; ((with_reducible refine (C32a.out _ O7.out).mono ?_); rintro e w8 ⟨rfl, k1, k2⟩; have O8 := Lib.hid k1; have W8 := Lib.hid (W7.out.move (F' := F5) k2 (fun i hi => .inl hi)); obtain ⟨_, hb8, cA8, _⟩ := W8.out.at1 hjj; cases hb8; rw [← HPJ.out] at cA8; clear k1 k2))
                  | (go_at_call 32; ((with_reducible refine (C32b.out _ O8.out).mono ?_); rintro e w9 ⟨rfl, k1, k2⟩; have O9 := Lib.hid k1; have W9 := Lib.hid (W8.out.move (F' := F5) k2 (fun i hi => .inl hi)); obtain ⟨_, hb9, cA9, _⟩ := W9.out.at1 hjj; cases hb9; rw [← HPJ.out] at cA9; clear k1 k2)))
                    obtain ⟨own2, ho2⟩ : ∃ own2, own2 = filz own X t ((j : Int) + 1) := ⟨_, rfl⟩
                    obtain ⟨ps2, hps2⟩ : ∃ ps2, ps2 = put9 ps m (X : Int) := ⟨_, rfl⟩
                    obtain ⟨ws2, hws2⟩ : ∃ ws2, ws2 = put9 ws m (t : Int) := ⟨_, rfl⟩
                    rw [← ho2, ← hps2, ← hws2] at W9 HP3
                    have hpj2 := HPJ.out
                    rw [← hps2] at hpj2
                    have HPJ2 := Lib.hid hpj2
                    clear hpj2
                    rw [← hws2] at hws
                    clear HW HP2 HFC W6 W7 W8 O6 O7 O8 C32a C32b HI HLV fc7 cA cA8 h3 hjq hflo hfhi ho2 hps2 hws2
                    go_loopw [20] (fun i wr3 => ∃ (y t : Nat), y = Y + t ∧ t ≤ wd' ∧ i = .int .i64 (y : Int) ∧ Oc 256 3 F5 bc wr3 A2 ∧ Ws w g (filz own2 Y t 0) F5 wr3 (.slice (some ⟨gA, 0, none⟩) M1 k6) (.slice (some ⟨gB, 0, none⟩) M1 k7) M1 M1 ps2 ws2) (fun i _ => Z2 - (intOf i).toNat)
                    case atStart => exact ⟨Y, 0, by omega, by omega, rfl, O9.out, by rw [filz_zero]; exact W9.out⟩
                    case round =>
                      clear O9 W9 cA9
                      obtain ⟨y2, t2, hy2', ht2, rfl, hO3, hW3⟩ := hrel
                      have HY2 := Lib.hid hy2'
                      have hZ2e := HZ2e.out
                      have HO3 := Lib.hid hO3
                      have HW3 := Lib.hid hW3
                      obtain ⟨_, hbA, cA3, fA3⟩ := hW3.at1 hjj
                      cases hbA
                      obtain ⟨_, hbB, cB3, _⟩ := hW3.at2 hjj
                      cases hbB
                      rw [← HPJ2.out] at cA3
                      rw [hws] at cB3
                      have fg3 := fun i => hW3.r.free i
                      clear hO3 hW3
                      by_cases hlt3 : t2 < wd'
                      · have hyZ2 : y2 < Z2 := by omega
                        have hyN2 : y2 < NN := by have := HNN.out; omega
                        obtain ⟨qy, hqy⟩ : ∃ q, wr.cell? ⟨g, y2, none⟩ = some q := ⟨_, HW3.out.r.cell (i := y2) (by have := HNN.out; omega)⟩
                        clear hy2' hZ2e
                        go_wp2
                        go_quiet (fail)
                        go_wp2
                        go_roundw
                        case rel => exact ⟨y2 + 1, t2 + 1, by have := HY2.out; omega, by omega, by go_num, (HO3.out.same ((Cha.refl _ wr).drewN _)).other HW3.out.fg hg10 _ _, Ws.owns ((HW3.out.move (F' := F5) ((Cha.refl _ wr).drewN _) (fun i hi => .inl hi)).set y2 0) (by rw [HY2.out]; exact filz_step _ _ _ _)⟩
                        case measure => simp [intOf]; omega
                      · obtain rfl : t2 = wd' := by omega
                        have hyZ2 : ¬ y2 < Z2 := by omega
                        clear hy2' hZ2e
                        go_wp2
                        go_quiet (fail)
                        go_wp2
                        go_roundw
                        case rel =>
                          rcases (HW3.out.move (F' := F5) ((Cha.refl _ wr).drewN _) (fun i hi => .inl hi)).setp (b := gA) rfl jj (-1) hjj with ⟨k1, k2, k3⟩ | e
                          · exact ⟨j + 1, M1, A2, F5, _, _, _, by omega, by go_num, HP3.out, (HO3.out.same ((Cha.refl _ wr).drewN _)).other k3 k2 _ _, k1⟩
                          · omega
                        case measure => simp [intOf]; omega
                · go_wp2_with (first
                  | (at_builtin; refine wpList_append_where _ rfl _ _ 39 rfl w.heap.size 3 i0 (.int .i64 0) 1 8 Tryd.underlying39 hi hz0 hz1 hz2 rfl (by decide) _ _ _ rfl (HW.out.l1.own.alloc _) ⟨wr.heap.size, 0, none⟩ 1 1 [.int .i64 (X : Int)] rfl rfl (one_new _ _ _) (one_int _) (by unfold maxLen; omega) (by omega) (by rw [World.size_alloc]; have := HW.out.cha.size; omega) ?_; intro u' w6 hown' hgrow hwh; obtain ⟨l6, c6⟩ := HW.out.app1 (o := .cells #[.int .i64 (X : Int)] 3) (fun i hi => HO.out.lt hi) hown' hgrow hwh; rw [← HM1.out] at l6; have O6 := Lib.hid (HO.out.cha c6 (fun i hi e => HW.out.l1.far i e hi) (fun e => by have := (HW.out.l1.lt e).1; omega)); obtain ⟨a6, k6, rfl, hs6⟩ := l6.l1.shape; have W6 := Lib.hid l6; clear hown' hgrow hwh l6 c6 hs6)
                  | (at_builtin; refine wpList_append_where _ rfl _ _ 39 rfl w.heap.size 3 i0 (.int .i64 0) 1 8 Tryd.underlying39 hi hz0 hz1 hz2 rfl (by decide) _ _ _ rfl (W6.out.l2.own.alloc _) ⟨w6.heap.size, 0, none⟩ 1 1 [.int .i64 (t : Int)] rfl rfl (one_new _ _ _) (one_int _) (by unfold maxLen; omega) (by omega) (by rw [World.size_alloc]; have := W6.out.cha.size; omega) ?_; intro v' w7 hown' hgrow hwh; obtain ⟨l7, c7⟩ := W6.out.app2 (o := .cells #[.int .i64 (t : Int)] 3) (fun i hi => O6.out.lt hi) hown' hgrow hwh; rw [← HM1.out] at l7; have O7 := Lib.hid (O6.out.cha c7 (fun i hi e => W6.out.l2.far i e hi) (fun e => by have := (W6.out.l2.lt e).1; omega)); obtain ⟨a7, k7, rfl, hs7⟩ := l7.l2.shape; have W7 := Lib.hid l7; clear hown' hgrow hwh l7 c7 hs7; have fc7 := HFC.out w7 W7.out.cha))
                  go_roundw
                  case rel => exact ⟨j + 1, M1, A', F5, _, _, _, by omega, by go_num, HP2.out, O7.out, W7.out⟩
                  case measure => simp [intOf]; omega
              · go_wp2_with (first
                  | (at_builtin; refine wpList_append_where _ rfl _ _ 39 rfl w.heap.size 3 i0 (.int .i64 0) 1 8 Tryd.underlying39 hi hz0 hz1 hz2 rfl (by decide) _ _ _ rfl (HW.out.l1.own.alloc _) ⟨wr.heap.size, 0, none⟩ 1 1 [.int .i64 (X : Int)] rfl rfl (one_new _ _ _) (one_int _) (by unfold maxLen; omega) (by omega) (by rw [World.size_alloc]; have := HW.out.cha.size; omega) ?_; intro u' w6 hown' hgrow hwh; obtain ⟨l6, c6⟩ := HW.out.app1 (o := .cells #[.int .i64 (X : Int)] 3) (fun i hi => HO.out.lt hi) hown' hgrow hwh; rw [← HM1.out] at l6; have O6 := Lib.hid (HO.out.cha c6 (fun i hi e => HW.out.l1.far i e hi) (fun e => by have := (HW.out.l1.lt e).1; omega)); obtain ⟨a6, k6, rfl, hs6⟩ := l6.l1.shape; have W6 := Lib.hid l6; clear hown' hgrow hwh l6 c6 hs6)
                  | (at_builtin; refine wpList_append_where _ rfl _ _ 39 rfl w.heap.size 3 i0 (.int .i64 0) 1 8 Tryd.underlying39 hi hz0 hz1 hz2 rfl (by decide) _ _ _ rfl (W6.out.l2.own.alloc _) ⟨w6.heap.size, 0, none⟩ 1 1 [.int .i64 (t : Int)] rfl rfl (one_new _ _ _) (one_int _) (by unfold maxLen; omega) (by omega) (by rw [World.size_alloc]; have := W6.out.cha.size; omega) ?_; intro v' w7 hown' hgrow hwh; obtain ⟨l7, c7⟩ := W6.out.app2 (o := .cells #[.int .i64 (t : Int)] 3) (fun i hi => O6.out.lt hi) hown' hgrow hwh; rw [← HM1.out] at l7; have O7 := Lib.hid (O6.out.cha c7 (fun i hi e => W6.out.l2.far i e hi) (fun e => by have := (W6.out.l2.lt e).1; omega)); obtain ⟨a7, k7, rfl, hs7⟩ := l7.l2.shape; have W7 := Lib.hid l7; clear hown' hgrow hwh l7 c7 hs7))
                go_roundw
                case rel => exact ⟨j + 1, M1, A', F5, _, _, _, by omega, by go_num, HP2.out, O7.out, W7.out⟩
                case measure => simp [intOf]; omega
    · have HW := Lib.hid hW
      clear hO hW hP
      go_wp2
      go_ret
      exact ⟨rfl, HW.out.cha⟩
end Go.Proofs.YtiboobaggpghjaaDoor
