/- The document's scheduler in memory: its own blocks. -/
import Derived.Test.YtaloafihbdamiaaGreatSS
import Derived.Test.YtaloafihbdamiaaGreatSP
import Derived.Test.YtaloafihbdamiaaGreatYA
import Derived.Test.YtaloafihbdamiaaGreatUH
import Derived.Test.YtaloafihbdamiaaGreatUI
import Derived.Handy
import Derived.Deep.RegionHeld3
namespace Go.Proofs.YtaloafihbdamiaaGreat
open Go.ChangeShapes Go.WideShapes Go.ChangeAt Go.RowKit
def inE : En.Enc Int := ⟨37, 3, 1, 8, .int .i64 0, fun a => [.int .i64 a]⟩
theorem inE_ok : inE.Ok := ⟨Tryz.underlying37, by kernel_rfl, rfl, by decide, fun _ => rfl, fun a u h => by simp [inE] at h; subst h; rfl⟩
def boE : En.Enc Bool := ⟨38, 4, 1, 1, .bool false, fun a => [.bool a]⟩
theorem boE_ok : boE.Ok := ⟨Tryz.underlying38, by kernel_rfl, rfl, by decide, fun _ => rfl, fun a u h => by simp [boE] at h; subst h; rfl⟩
/-- The document's scheduler at bd: states, who sleeps, of each processor its goroutine and its slice; T tells what each block is of. -/
structure Dw (w : World) (F : Nat → Prop) (bd br bt : Nat) (v1 v2 v3 v4 : Value) (T : Nat → Nat) (st : List Int) (sl : List Bool) (g sc : List Int) (clk : Int) : Prop where
  head : w.heap[bd]? = some (.cells #[v1, v2, v3, v4, .pointer (some ⟨br, 0, none⟩), .pointer (some ⟨bt, 0, none⟩), .int .u64 clk] 42 (0, 0))
  l1 : En.Lies inE w v1 st
  l2 : En.Lies boE w v2 sl
  l3 : En.Lies inE w v3 g
  l4 : En.Lies inE w v4 sc
  tg : T bd = 0 ∧ F bd
  t1 : ∀ b, v1.ownBlock = some b → T b = 1 ∧ F b
  t2 : ∀ b, v2.ownBlock = some b → T b = 2 ∧ F b
  t3 : ∀ b, v3.ownBlock = some b → T b = 3 ∧ F b
  t4 : ∀ b, v4.ownBlock = some b → T b = 4 ∧ F b
  g64 : st.length ≤ 64
  s64 : sl.length = st.length
  n8 : g.length ≤ 8
  c8 : sc.length = g.length
  c0 : 0 ≤ clk
  c1 : clk ≤ 2199023255552
  old : ∀ i, F i → i < w.heap.size
section
variable {w w' : World} {F S : Nat → Prop} {bd br bt : Nat} {v1 v2 v3 v4 : Value} {T : Nat → Nat} {st : List Int} {sl : List Bool} {g sc : List Int} {clk : Int}
theorem Dw.cha (h : Dw w F bd br bt v1 v2 v3 v4 T st sl g sc clk) (c : Cha S w w') (hs : ∀ i, F i → ¬ S i) : Dw w' F bd br bt v1 v2 v3 v4 T st sl g sc clk :=
  { h with head := (c.old bd (h.old _ h.tg.2) (hs _ h.tg.2)).trans h.head, l1 := h.l1.cha c fun b e => hs b (h.t1 b e).2, l2 := h.l2.cha c fun b e => hs b (h.t2 b e).2, l3 := h.l3.cha c fun b e => hs b (h.t3 b e).2, l4 := h.l4.cha c fun b e => hs b (h.t4 b e).2, old := fun i x => Nat.lt_of_lt_of_le (h.old i x) c.size }
theorem Dw.same (h : Dw w F bd br bt v1 v2 v3 v4 T st sl g sc clk) (c : Cha (fun _ => False) w w') : Dw w' F bd br bt v1 v2 v3 v4 T st sl g sc clk := h.cha c fun _ _ x => x
theorem Dw.up1 {st' : List Int} (h : Dw w F bd br bt v1 v2 v3 v4 T st sl g sc clk) (c : Cha (fun i => v1.ownBlock = some i) w w') (l : En.Lies inE w' v1 st') (hl : st'.length = st.length) : Dw w' F bd br bt v1 v2 v3 v4 T st' sl g sc clk ∧ Cha F w w' :=
  ⟨{ h with head := (c.old bd (h.old _ h.tg.2) fun e => by have := (h.t1 bd e).1; have := h.tg.1; omega).trans h.head, l1 := l, l2 := h.l2.cha c fun b e k => by have := (h.t1 b k).1; have := (h.t2 b e).1; omega, l3 := h.l3.cha c fun b e k => by have := (h.t1 b k).1; have := (h.t3 b e).1; omega, l4 := h.l4.cha c fun b e k => by have := (h.t1 b k).1; have := (h.t4 b e).1; omega, g64 := by rw [hl]; exact h.g64, s64 := by rw [hl]; exact h.s64, old := fun i x => Nat.lt_of_lt_of_le (h.old i x) c.size }, c.mono fun i _ e => (h.t1 i e).2⟩
theorem Dw.up2 {sl' : List Bool} (h : Dw w F bd br bt v1 v2 v3 v4 T st sl g sc clk) (c : Cha (fun i => v2.ownBlock = some i) w w') (l : En.Lies boE w' v2 sl') (hl : sl'.length = sl.length) : Dw w' F bd br bt v1 v2 v3 v4 T st sl' g sc clk ∧ Cha F w w' :=
  ⟨{ h with head := (c.old bd (h.old _ h.tg.2) fun e => by have := (h.t2 bd e).1; have := h.tg.1; omega).trans h.head, l2 := l, l1 := h.l1.cha c fun b e k => by have := (h.t2 b k).1; have := (h.t1 b e).1; omega, l3 := h.l3.cha c fun b e k => by have := (h.t2 b k).1; have := (h.t3 b e).1; omega, l4 := h.l4.cha c fun b e k => by have := (h.t2 b k).1; have := (h.t4 b e).1; omega, s64 := by rw [hl]; exact h.s64, old := fun i x => Nat.lt_of_lt_of_le (h.old i x) c.size }, c.mono fun i _ e => (h.t2 i e).2⟩
theorem Dw.up3 {g' : List Int} (h : Dw w F bd br bt v1 v2 v3 v4 T st sl g sc clk) (c : Cha (fun i => v3.ownBlock = some i) w w') (l : En.Lies inE w' v3 g') (hl : g'.length = g.length) : Dw w' F bd br bt v1 v2 v3 v4 T st sl g' sc clk ∧ Cha F w w' :=
  ⟨{ h with head := (c.old bd (h.old _ h.tg.2) fun e => by have := (h.t3 bd e).1; have := h.tg.1; omega).trans h.head, l3 := l, l1 := h.l1.cha c fun b e k => by have := (h.t3 b k).1; have := (h.t1 b e).1; omega, l2 := h.l2.cha c fun b e k => by have := (h.t3 b k).1; have := (h.t2 b e).1; omega, l4 := h.l4.cha c fun b e k => by have := (h.t3 b k).1; have := (h.t4 b e).1; omega, n8 := by rw [hl]; exact h.n8, c8 := by rw [hl]; exact h.c8, old := fun i x => Nat.lt_of_lt_of_le (h.old i x) c.size }, c.mono fun i _ e => (h.t3 i e).2⟩
theorem Dw.up4 {sc' : List Int} (h : Dw w F bd br bt v1 v2 v3 v4 T st sl g sc clk) (c : Cha (fun i => v4.ownBlock = some i) w w') (l : En.Lies inE w' v4 sc') (hl : sc'.length = sc.length) : Dw w' F bd br bt v1 v2 v3 v4 T st sl g sc' clk ∧ Cha F w w' :=
  ⟨{ h with head := (c.old bd (h.old _ h.tg.2) fun e => by have := (h.t4 bd e).1; have := h.tg.1; omega).trans h.head, l4 := l, l1 := h.l1.cha c fun b e k => by have := (h.t4 b k).1; have := (h.t1 b e).1; omega, l2 := h.l2.cha c fun b e k => by have := (h.t4 b k).1; have := (h.t2 b e).1; omega, l3 := h.l3.cha c fun b e k => by have := (h.t4 b k).1; have := (h.t3 b e).1; omega, c8 := by rw [hl]; exact h.c8, old := fun i x => Nat.lt_of_lt_of_le (h.old i x) c.size }, c.mono fun i _ e => (h.t4 i e).2⟩
theorem Dw.clock (h : Dw w F bd br bt v1 v2 v3 v4 T st sl g sc clk) (x : Int) (h0 : 0 ≤ x) (h1 : x ≤ 2199023255552) : Dw (w.setCell ⟨bd, 6, none⟩ (.int .u64 x)) F bd br bt v1 v2 v3 v4 T st sl g sc x ∧ Cha F w (w.setCell ⟨bd, 6, none⟩ (.int .u64 x)) := by
  have cc : Cha (fun i => i = bd) w (w.setCell ⟨bd, 6, none⟩ (.int .u64 x)) := (Cha.refl (fun j => j = bd) w).setCell (p := ⟨bd, 6, none⟩) (fun _ => rfl) _
  exact ⟨{ h with head := by rw [heap_setCell_same w bd 6 _ 42 _ h.head]; rfl, l1 := h.l1.cha cc fun b e k => by have := (h.t1 b e).1; have := h.tg.1; rw [k] at *; omega, l2 := h.l2.cha cc fun b e k => by have := (h.t2 b e).1; have := h.tg.1; rw [k] at *; omega, l3 := h.l3.cha cc fun b e k => by have := (h.t3 b e).1; have := h.tg.1; rw [k] at *; omega, l4 := h.l4.cha cc fun b e k => by have := (h.t4 b e).1; have := h.tg.1; rw [k] at *; omega, c0 := h0, c1 := h1, old := fun i x => Nat.lt_of_lt_of_le (h.old i x) cc.size }, cc.mono fun i _ e => e ▸ h.tg.2⟩
theorem Dw.facts (h : Dw w F bd br bt v1 v2 v3 v4 T st sl g sc clk) : w.cell? ⟨bd, 0, none⟩ = some v1 ∧ w.cell? ⟨bd, 1, none⟩ = some v2 ∧ w.cell? ⟨bd, 2, none⟩ = some v3 ∧ w.cell? ⟨bd, 3, none⟩ = some v4 ∧ w.cell? ⟨bd, 4, none⟩ = some (.pointer (some ⟨br, 0, none⟩)) ∧ w.cell? ⟨bd, 5, none⟩ = some (.pointer (some ⟨bt, 0, none⟩)) ∧ w.cell? ⟨bd, 6, none⟩ = some (.int .u64 clk) ∧ ∀ i, w.frozen? ⟨bd, i, none⟩ = false :=
  ⟨cell_of_row w bd 0 _ 42 (0, 0) h.head, cell_of_row w bd 1 _ 42 (0, 0) h.head, cell_of_row w bd 2 _ 42 (0, 0) h.head, cell_of_row w bd 3 _ 42 (0, 0) h.head, cell_of_row w bd 4 _ 42 (0, 0) h.head, cell_of_row w bd 5 _ 42 (0, 0) h.head, cell_of_row w bd 6 _ 42 (0, 0) h.head, fun i => frozen_of_row w bd i _ 42 h.head⟩
end
/-- An int of a list: where it lies, and that it may be another one. -/
theorem in_at {w : World} {v : Value} {L : List Int} (h : En.Lies inE w v L) {i : Nat} (hi : i < L.length) : ∃ b o cap, v = .slice (some ⟨b, o, none⟩) L.length cap ∧ L.length ≤ cap ∧ cap ≤ maxLen ∧ w.cell? ⟨b, o + i, none⟩ = some (.int .i64 (L.getD i 0)) ∧ (∀ j, w.frozen? ⟨b, j, none⟩ = false) ∧
    ∀ W, Cha (fun _ => False) w W → ∀ x, En.Lies inE (W.setCell ⟨b, o + i, none⟩ (.int .i64 x)) v (L.set i x) ∧ Cha (fun j => v.ownBlock = some j) W (W.setCell ⟨b, o + i, none⟩ (.int .i64 x)) := by
  obtain ⟨b, o, cap, rfl, h1, h2, h3, h4⟩ := h.elem inE_ok hi
  have e : L[i] = L.getD i 0 := by simp [List.getD, hi]
  refine ⟨b, o, cap, rfl, h1, h2, by rw [← e]; have := h3 0 (by decide); rw [show o + i * inE.k + 0 = o + i by show o + i * 1 + 0 = _; omega] at this; exact this, h4, fun W c x => ⟨?_, (Cha.refl (fun j => (Value.slice (some ⟨b, o, none⟩) L.length cap).ownBlock = some j) W).setCell (p := ⟨b, o + i, none⟩) (fun _ => rfl) _⟩⟩
  have := (h.same c).put inE_ok hi x
  rw [show i * inE.k = i from Nat.mul_one i] at this
  exact this
theorem bo_at {w : World} {v : Value} {L : List Bool} (h : En.Lies boE w v L) {i : Nat} (hi : i < L.length) : ∃ b o cap, v = .slice (some ⟨b, o, none⟩) L.length cap ∧ L.length ≤ cap ∧ cap ≤ maxLen ∧ w.cell? ⟨b, o + i, none⟩ = some (.bool (L.getD i false)) ∧ (∀ j, w.frozen? ⟨b, j, none⟩ = false) ∧
    ∀ W, Cha (fun _ => False) w W → ∀ x, En.Lies boE (W.setCell ⟨b, o + i, none⟩ (.bool x)) v (L.set i x) ∧ Cha (fun j => v.ownBlock = some j) W (W.setCell ⟨b, o + i, none⟩ (.bool x)) := by
  obtain ⟨b, o, cap, rfl, h1, h2, h3, h4⟩ := h.elem boE_ok hi
  have e : L[i] = L.getD i false := by simp [List.getD, hi]
  refine ⟨b, o, cap, rfl, h1, h2, by rw [← e]; have := h3 0 (by decide); rw [show o + i * boE.k + 0 = o + i by show o + i * 1 + 0 = _; omega] at this; exact this, h4, fun W c x => ⟨?_, (Cha.refl (fun j => (Value.slice (some ⟨b, o, none⟩) L.length cap).ownBlock = some j) W).setCell (p := ⟨b, o + i, none⟩) (fun _ => rfl) _⟩⟩
  have := (h.same c).put boE_ok hi x
  rw [show i * boE.k = i from Nat.mul_one i] at this
  exact this
end Go.Proofs.YtaloafihbdamiaaGreat

namespace Go.Proofs.YtaloafihbdamiaaGreat
open Go.ChangeShapes Go.WideShapes Go.ChangeAt Go.RowKit
/-- The document's scheduler, plainly. -/
structure Dx where
  Q : St
  D : List Tm
  st : List Int
  sl : List Bool
  g : List Int
  sc : List Int
  clk : Int
def RqA (br : Nat) (s : St) : Asn := fun w F => ∃ U bl bn on cn lv va, Rq w U br bl bn on cn lv va s.1 s.2 ∧ F br ∧ F bl ∧ F bn ∧ (∀ i, U i → F i) ∧ ∀ i, F i → i < w.heap.size
def DtA (bt n : Nat) (D : List Tm) : Asn := fun w F => ∃ v, Dt w F bt n v D
def DoA (bd br bt : Nat) (st : List Int) (sl : List Bool) (g sc : List Int) (clk : Int) : Asn := fun w F => ∃ v1 v2 v3 v4 T, Dw w F bd br bt v1 v2 v3 v4 T st sl g sc clk
section
variable {w w' : World} {F U : Nat → Prop} {br bt bd n bl bn on cn : Nat} {lv : Nat → Value} {va : Value} {s : St} {S : List Prc} {A : List Int} {D : List Tm} {st g sc : List Int} {sl : List Bool} {clk : Int}
theorem fit_rq : Fit (RqA br s) := ⟨fun ⟨U, bl, bn, on, cn, lv, va, h, f1, f2, f3, f4, o⟩ c hs => ⟨U, bl, bn, on, cn, lv, va, h.cha c (hs _ f1) (hs _ f2) (hs _ f3) fun i x => hs i (f4 i x), f1, f2, f3, f4, fun i x => Nat.lt_of_lt_of_le (o i x) c.size⟩, fun ⟨_, _, _, _, _, _, _, _, _, _, _, _, o⟩ => o⟩
theorem fit_dt : Fit (DtA bt n D) := ⟨fun ⟨v, h⟩ c hs => ⟨v, h.cha c hs⟩, fun ⟨_, h⟩ => h.old⟩
theorem fit_do : Fit (DoA bd br bt st sl g sc clk) := ⟨fun ⟨a, b, c, d, T, h⟩ k hs => ⟨a, b, c, d, T, h.cha k hs⟩, fun ⟨_, _, _, _, _, h⟩ => h.old⟩
theorem goes_rleft (f1 : F br) (f2 : F bl) (f3 : F bn) (f4 : ∀ i, U i → F i) (o : ∀ i, F i → i < w.heap.size) (h : RLeft w w' U br bl bn on cn S A) : Goes (RqA br (S, A)) w w' F := by
  obtain ⟨U', lv, va, q, c, s1, n1⟩ := h
  refine ⟨fun i => F i ∨ U' i, ⟨U', bl, bn, on, cn, lv, va, q, .inl f1, .inl f2, .inl f3, fun _ x => .inr x, fun i x => x.elim (fun x => Nat.lt_of_lt_of_le (o i x) c.size) (q.old i)⟩, c.mono fun i _ e => ?_, fun i x => ?_⟩
  · rcases e with rfl | rfl | rfl <;> assumption
  · rcases x with x | x
    · exact .inl x
    · exact (n1 i x).imp (f4 i) id
theorem goes_dleft (h : DLeft w w' F bt n D) : Goes (DtA bt n D) w w' F := by
  obtain ⟨F', v, q, c, m⟩ := h
  exact ⟨F', ⟨v, q⟩, c, m⟩
end
def DcA (bd br bt n : Nat) (Y : Dx) : Asn := Star (Star (RqA br Y.Q) (DtA bt n Y.D)) (DoA bd br bt Y.st Y.sl Y.g Y.sc Y.clk)
/-- What the queues' numbers are. -/
structure QOk (s : St) : Prop where
  n0 : Nums0 s.1
  l8 : ∀ (p : Nat) (x : Prc), s.1[p]? = some x → x.2.length ≤ 8
  a : s.2.length + 5 ≤ 17592186044416
section
variable {w w' : World} {F : Nat → Prop} {bd br bt n : Nat} {Y : Dx}
theorem fit_dc : Fit (DcA bd br bt n Y) := (fit_rq.star fit_dt).star fit_do
theorem Dc.own (h : DcA bd br bt n Y w F) : ∃ F2 v1 v2 v3 v4 T, Dw w F2 bd br bt v1 v2 v3 v4 T Y.st Y.sl Y.g Y.sc Y.clk ∧ ∀ st sl g sc clk w', Goes (DoA bd br bt st sl g sc clk) w w' F2 → Goes (DcA bd br bt n { Y with st := st, sl := sl, g := g, sc := sc, clk := clk }) w w' F := by
  obtain ⟨F2, ⟨v1, v2, v3, v4, T, a⟩, e, k⟩ := Star.splitR (fit_rq.star fit_dt) h
  exact ⟨F2, v1, v2, v3, v4, T, a, fun st sl g sc clk w' x => k _ w' fit_do x⟩
theorem Dc.que (h : DcA bd br bt n Y w F) : ∃ F2 U bl bn on cn lv va, Rq w U br bl bn on cn lv va Y.Q.1 Y.Q.2 ∧ F2 br ∧ F2 bl ∧ F2 bn ∧ (∀ i, U i → F2 i) ∧ (∀ i, F2 i → i < w.heap.size) ∧ ∀ s w', Goes (RqA br s) w w' F2 → Goes (DcA bd br bt n { Y with Q := s }) w w' F := by
  obtain ⟨F1, a, _, k⟩ := Star.split fit_do h
  obtain ⟨F2, ⟨U, bl, bn, on, cn, lv, va, q, f1, f2, f3, f4, o⟩, _, k2⟩ := Star.split fit_dt a
  exact ⟨F2, U, bl, bn, on, cn, lv, va, q, f1, f2, f3, f4, o, fun s w' g => k _ w' (fit_rq.star fit_dt) (k2 _ w' fit_rq g)⟩
theorem Dc.tim (h : DcA bd br bt n Y w F) : ∃ F2 v, Dt w F2 bt n v Y.D ∧ (∀ D w', Goes (DtA bt n D) w w' F2 → Goes (DcA bd br bt n { Y with D := D }) w w' F) ∧
    ∀ D v A w', Goes (Star (DtA bt n D) (LiA v A)) w w' F2 → Goes (Star (DcA bd br bt n { Y with D := D }) (LiA v A)) w w' F := by
  obtain ⟨F1, a, _, k⟩ := Star.split fit_do h
  obtain ⟨F2, ⟨v, q⟩, _, k2⟩ := Star.splitR fit_rq a
  exact ⟨F2, v, q, fun D w' g => k _ w' (fit_rq.star fit_dt) (k2 _ w' fit_dt g), fun D v A w' g => (k _ w' (fit_rq.star (fit_dt.star fit_li)) (k2 _ w' (fit_dt.star fit_li) g)).mono fun _ x => Star.rot (x.monoL fun _ y => y.assoc)⟩
theorem dc_put (h : DcA bd br bt n Y w F) (o : QOk Y.Q) (p : Nat) (g : Int) (hp : p < Y.Q.1.length) (hg : 0 ≤ g) :
    Calls Tryz.prog 41 #[.pointer (some ⟨br, 0, none⟩), .int .i64 (p : Int), .int .i64 g] w fun e w' => e = .returned (.int .i64 0) ∧ Goes (DcA bd br bt n { Y with Q := putP Y.Q p g }) w w' F := by
  obtain ⟨F2, U, bl, bn, on, cn, lv, va, q, f1, f2, f3, f4, od, k⟩ := Dc.que h
  exact (rput_any p g q hp hg o.n0 o.l8 o.a).mono fun e w' ⟨a, l⟩ => ⟨a, k _ w' (goes_rleft f1 f2 f3 f4 od l)⟩
theorem dc_last (h : DcA bd br bt n Y w F) (o : QOk Y.Q) (g : Int) (hg : 0 ≤ g) :
    Calls Tryz.prog 47 #[.pointer (some ⟨br, 0, none⟩), .int .i64 g] w fun e w' => e = .returned (.int .i64 0) ∧ Goes (DcA bd br bt n { Y with Q := (Y.Q.1, Y.Q.2 ++ [g]) }) w w' F := by
  obtain ⟨F2, U, bl, bn, on, cn, lv, va, q, f1, f2, f3, f4, od, k⟩ := Dc.que h
  exact (rlast_any g q hg o.a).mono fun e w' ⟨a, l⟩ => ⟨a, k _ w' (goes_rleft f1 f2 f3 f4 od l)⟩
theorem dc_waiting (h : DcA bd br bt n Y w F) (o : QOk Y.Q) (p : Nat) (hp : p < Y.Q.1.length) :
    Calls Tryz.prog 42 #[.pointer (some ⟨br, 0, none⟩), .int .i64 (p : Int)] w fun e w' => e = .returned (.tuple #[.int .i64 (cnt (Y.Q.1.getD p (-1, [])) : Nat), .int .i64 (Y.Q.2.length : Nat)]) ∧ Cha (fun _ => False) w w' := by
  obtain ⟨F2, U, bl, bn, on, cn, lv, va, q, f1, f2, f3, f4, od, k⟩ := Dc.que h
  exact (rwaiting_any p q hp o.n0 o.l8).mono fun e w' ⟨a, l⟩ => ⟨a, by
    first
    | (obtain ⟨m, e⟩ := l; rw [e]; exact (Cha.refl _ w).drewN m)
    | (rw [← l]; exact Cha.refl _ w)⟩
theorem dc_get (h : DcA bd br bt n Y w F) (o : QOk Y.Q) (p : Nat) (s : Int) (hp : p < Y.Q.1.length) :
    Calls Tryz.prog 60 #[.pointer (some ⟨br, 0, none⟩), .int .i64 (p : Int), .int .i64 s] w fun e w' => e = .returned (.tuple #[.int .i64 (getP Y.Q p s).1.1, .bool (getP Y.Q p s).1.2]) ∧ Goes (DcA bd br bt n { Y with Q := (getP Y.Q p s).2 }) w w' F := by
  obtain ⟨F2, U, bl, bn, on, cn, lv, va, q, f1, f2, f3, f4, od, k⟩ := Dc.que h
  have key : Calls Tryz.prog 60 #[.pointer (some ⟨br, 0, none⟩), .int .i64 (p : Int), .int .i64 s] w (RGot w U br bl bn on cn Y.Q.1 Y.Q.2 p (s % (Y.Q.1.length : Int)).toNat) := by
    have hpx := D_get hp
    have h0 := o.n0 p _ hpx
    have h8 := o.l8 p _ hpx
    have hA := o.a
    obtain ⟨⟨S, A⟩, D, st, sl, g, sc, clk⟩ := Y
    generalize hu : S.getD p (-1, []) = u at *
    obtain ⟨x, L⟩ := u
    by_cases hx : x = -1
    · subst hx
      cases L with
      | cons g l => exact rget_own p s _ q hpx (by simp only [List.length_cons] at h8; omega)
      | nil =>
        cases A with
        | cons g l => exact rget_all p s _ q hpx (by simp only [List.length_cons] at hA; omega)
        | nil =>
          by_cases c : s.tmod (S.length : Int) < 0
          · exact rget_steal1 p s c q hpx o.n0 o.l8
          · exact rget_steal2 p s (by show 0 ≤ s.tmod (S.length : Int); omega) q hpx o.n0 o.l8
    · exact rget_next p s _ q hpx hx (by rcases h0 with h0 | h0; exact absurd h0 hx; exact h0)
  exact key.mono fun e w' ⟨a, l⟩ => ⟨a, k _ w' (goes_rleft f1 f2 f3 f4 od l)⟩
theorem dc_add (h : DcA bd br bt n Y w F) (p : Nat) (t id : Int) (hp : p < n) (hl : Y.D.length < 1024) :
    Calls Tryz.prog 50 #[.pointer (some ⟨bt, 0, none⟩), .int .i64 (p : Int), .int .u64 t, .int .i64 id] w fun e w' => e = .returned (.int .i64 0) ∧ Goes (DcA bd br bt n { Y with D := Y.D ++ [⟨(p : Int), t, id⟩] }) w w' F := by
  obtain ⟨F2, v, q, k, -⟩ := Dc.tim h
  exact (dadd_ok (p : Int) t id q (by omega) (by omega) hl).mono fun e w' ⟨a, l⟩ => ⟨a, k _ w' (goes_dleft l)⟩
theorem dc_move (h : DcA bd br bt n Y w F) (p q : Nat) (hp : p < n) (hq : q < n) (hl : Y.D.length ≤ 1024) :
    Calls Tryz.prog 62 #[.pointer (some ⟨bt, 0, none⟩), .int .i64 (p : Int), .int .i64 (q : Int)] w fun e w' => e = .returned (.int .i64 0) ∧ Goes (DcA bd br bt n { Y with D := Y.D.map (mvT (p : Int) (q : Int)) }) w w' F := by
  obtain ⟨F2, v, d, k, -⟩ := Dc.tim h
  exact (dmove_ok (p : Int) (q : Int) d (by omega) (by omega) (by omega) (by omega) hl).mono fun e w' ⟨a, l, c⟩ => ⟨a, k _ w' ⟨F2, ⟨v, l⟩, c, fun _ x => .inl x⟩⟩
end
end Go.Proofs.YtaloafihbdamiaaGreat

namespace Go.Proofs.YtaloafihbdamiaaGreat
open Go.ChangeShapes Go.WideShapes Go.ChangeAt Go.RowKit
section
variable {w w' : World} {F : Nat → Prop} {bd br bt n : Nat} {Y : Dx}
theorem Dc.setSt (h : DcA bd br bt n Y w F) {i : Nat} (hi : i < Y.st.length) : ∃ b o cap, w.cell? ⟨bd, 0, none⟩ = some (.slice (some ⟨b, o, none⟩) Y.st.length cap) ∧ Y.st.length ≤ cap ∧ cap ≤ maxLen ∧ w.cell? ⟨b, o + i, none⟩ = some (.int .i64 (Y.st.getD i 0)) ∧ (∀ j, w.frozen? ⟨b, j, none⟩ = false) ∧ b ≠ bd ∧
    ∀ W, Cha (fun _ => False) w W → ∀ x : Int, Goes (DcA bd br bt n { Y with st := Y.st.set i x }) w (W.setCell ⟨b, o + i, none⟩ (.int .i64 x)) F := by
  obtain ⟨F2, v1, v2, v3, v4, T, d, k⟩ := Dc.own h
  obtain ⟨c0, c1, c2, c3, -⟩ := d.facts
  obtain ⟨b, o, cap, e, h1, h2, z, fr, up⟩ := in_at d.l1 hi
  refine ⟨b, o, cap, by rw [← e]; exact c0, h1, h2, z, fr, fun c => ?_, fun W cw x => ?_⟩
  · have h3 := (d.t1 b (by rw [e]; rfl)).1
    have h4 := d.tg.1
    rw [c] at h3; omega
  · obtain ⟨l, cc⟩ := up W cw x
    obtain ⟨d', c'⟩ := (d.same cw).up1 cc l (List.length_set ..)
    exact k (Y.st.set i x) Y.sl Y.g Y.sc Y.clk _ ⟨F2, ⟨_, _, _, _, _, d'⟩, cw.wide.trans c', fun _ x => .inl x⟩
theorem Dc.setSl (h : DcA bd br bt n Y w F) {i : Nat} (hi : i < Y.sl.length) : ∃ b o cap, w.cell? ⟨bd, 1, none⟩ = some (.slice (some ⟨b, o, none⟩) Y.sl.length cap) ∧ Y.sl.length ≤ cap ∧ cap ≤ maxLen ∧ w.cell? ⟨b, o + i, none⟩ = some (.bool (Y.sl.getD i false)) ∧ (∀ j, w.frozen? ⟨b, j, none⟩ = false) ∧ b ≠ bd ∧
    ∀ W, Cha (fun _ => False) w W → ∀ x : Bool, Goes (DcA bd br bt n { Y with sl := Y.sl.set i x }) w (W.setCell ⟨b, o + i, none⟩ (.bool x)) F := by
  obtain ⟨F2, v1, v2, v3, v4, T, d, k⟩ := Dc.own h
  obtain ⟨c0, c1, c2, c3, -⟩ := d.facts
  obtain ⟨b, o, cap, e, h1, h2, z, fr, up⟩ := bo_at d.l2 hi
  refine ⟨b, o, cap, by rw [← e]; exact c1, h1, h2, z, fr, fun c => ?_, fun W cw x => ?_⟩
  · have h3 := (d.t2 b (by rw [e]; rfl)).1
    have h4 := d.tg.1
    rw [c] at h3; omega
  · obtain ⟨l, cc⟩ := up W cw x
    obtain ⟨d', c'⟩ := (d.same cw).up2 cc l (List.length_set ..)
    exact k Y.st (Y.sl.set i x) Y.g Y.sc Y.clk _ ⟨F2, ⟨_, _, _, _, _, d'⟩, cw.wide.trans c', fun _ x => .inl x⟩
theorem Dc.setG (h : DcA bd br bt n Y w F) {i : Nat} (hi : i < Y.g.length) : ∃ b o cap, w.cell? ⟨bd, 2, none⟩ = some (.slice (some ⟨b, o, none⟩) Y.g.length cap) ∧ Y.g.length ≤ cap ∧ cap ≤ maxLen ∧ w.cell? ⟨b, o + i, none⟩ = some (.int .i64 (Y.g.getD i 0)) ∧ (∀ j, w.frozen? ⟨b, j, none⟩ = false) ∧ b ≠ bd ∧
    ∀ W, Cha (fun _ => False) w W → ∀ x : Int, Goes (DcA bd br bt n { Y with g := Y.g.set i x }) w (W.setCell ⟨b, o + i, none⟩ (.int .i64 x)) F := by
  obtain ⟨F2, v1, v2, v3, v4, T, d, k⟩ := Dc.own h
  obtain ⟨c0, c1, c2, c3, -⟩ := d.facts
  obtain ⟨b, o, cap, e, h1, h2, z, fr, up⟩ := in_at d.l3 hi
  refine ⟨b, o, cap, by rw [← e]; exact c2, h1, h2, z, fr, fun c => ?_, fun W cw x => ?_⟩
  · have h3 := (d.t3 b (by rw [e]; rfl)).1
    have h4 := d.tg.1
    rw [c] at h3; omega
  · obtain ⟨l, cc⟩ := up W cw x
    obtain ⟨d', c'⟩ := (d.same cw).up3 cc l (List.length_set ..)
    exact k Y.st Y.sl (Y.g.set i x) Y.sc Y.clk _ ⟨F2, ⟨_, _, _, _, _, d'⟩, cw.wide.trans c', fun _ x => .inl x⟩
theorem Dc.setSc (h : DcA bd br bt n Y w F) {i : Nat} (hi : i < Y.sc.length) : ∃ b o cap, w.cell? ⟨bd, 3, none⟩ = some (.slice (some ⟨b, o, none⟩) Y.sc.length cap) ∧ Y.sc.length ≤ cap ∧ cap ≤ maxLen ∧ w.cell? ⟨b, o + i, none⟩ = some (.int .i64 (Y.sc.getD i 0)) ∧ (∀ j, w.frozen? ⟨b, j, none⟩ = false) ∧ b ≠ bd ∧
    ∀ W, Cha (fun _ => False) w W → ∀ x : Int, Goes (DcA bd br bt n { Y with sc := Y.sc.set i x }) w (W.setCell ⟨b, o + i, none⟩ (.int .i64 x)) F := by
  obtain ⟨F2, v1, v2, v3, v4, T, d, k⟩ := Dc.own h
  obtain ⟨c0, c1, c2, c3, -⟩ := d.facts
  obtain ⟨b, o, cap, e, h1, h2, z, fr, up⟩ := in_at d.l4 hi
  refine ⟨b, o, cap, by rw [← e]; exact c3, h1, h2, z, fr, fun c => ?_, fun W cw x => ?_⟩
  · have h3 := (d.t4 b (by rw [e]; rfl)).1
    have h4 := d.tg.1
    rw [c] at h3; omega
  · obtain ⟨l, cc⟩ := up W cw x
    obtain ⟨d', c'⟩ := (d.same cw).up4 cc l (List.length_set ..)
    exact k Y.st Y.sl Y.g (Y.sc.set i x) Y.clk _ ⟨F2, ⟨_, _, _, _, _, d'⟩, cw.wide.trans c', fun _ x => .inl x⟩
theorem Dc.n8 (h : DcA bd br bt n Y w F) : Y.g.length ≤ 8 ∧ Y.st.length ≤ 64 ∧ Y.sl.length = Y.st.length ∧ Y.sc.length = Y.g.length ∧ 0 ≤ Y.clk ∧ Y.clk ≤ 2199023255552 := by
  obtain ⟨F2, v1, v2, v3, v4, T, d, k⟩ := Dc.own h
  exact ⟨d.n8, d.g64, d.s64, d.c8, d.c0, d.c1⟩
theorem Dc.facts (h : DcA bd br bt n Y w F) : (∃ a c, w.cell? ⟨bd, 0, none⟩ = some (.slice a Y.st.length c)) ∧ (∃ a c, w.cell? ⟨bd, 2, none⟩ = some (.slice a Y.g.length c)) ∧ w.cell? ⟨bd, 4, none⟩ = some (.pointer (some ⟨br, 0, none⟩)) ∧ w.cell? ⟨bd, 5, none⟩ = some (.pointer (some ⟨bt, 0, none⟩)) ∧ w.cell? ⟨bd, 6, none⟩ = some (.int .u64 Y.clk) ∧ ∀ i, w.frozen? ⟨bd, i, none⟩ = false := by
  obtain ⟨F2, v1, v2, v3, v4, T, d, k⟩ := Dc.own h
  obtain ⟨c0, c1, c2, c3, c4, c5, c6, cf⟩ := d.facts
  obtain ⟨a1, k1, rfl, -⟩ := d.l1.form
  obtain ⟨a3, k3, rfl, -⟩ := d.l3.form
  exact ⟨⟨_, _, c0⟩, ⟨_, _, c2⟩, c4, c5, c6, cf⟩
theorem sbad_no (h : DcA bd br bt n Y w F) (p : Nat) (hp : p < Y.g.length) : Calls Tryz.prog 36 #[.pointer (some ⟨bd, 0, none⟩), .int .i64 (p : Int)] w fun e w' => e = .returned (.bool false) ∧ w = w' := by
  obtain ⟨-, ⟨a, c, c2⟩, -, -, -, -⟩ := Dc.facts h
  have h8 := (Dc.n8 h).1
  clear h
  generalize Y.g.length = m at *
  have h1 : decide ((p : Int) < 0) = false := by simp
  have h2 : decide ((m : Int) ≤ (p : Int)) = false := by simp; omega
  go_enter Tryz.func36, Tryz.ntmps36
  go_wp2
  go_returns
  have h3 : ¬ m ≤ p := by omega
  exact ⟨by first | (rw [decide_eq_false h3]; rfl) | rfl, rfl⟩
theorem sbad_yes (h : DcA bd br bt n Y w F) (p : Int) (hp : p < 0 ∨ (Y.g.length : Int) ≤ p) : Calls Tryz.prog 36 #[.pointer (some ⟨bd, 0, none⟩), .int .i64 p] w fun e w' => e = .returned (.bool true) ∧ w = w' := by
  obtain ⟨-, ⟨a, c, c2⟩, -, -, -, -⟩ := Dc.facts h
  have h8 := (Dc.n8 h).1
  clear h
  generalize Y.g.length = m at *
  by_cases h0 : p < 0
  · clear hp
    go_enter Tryz.func36, Tryz.ntmps36
    go_wp2
    go_returns
    exact ⟨rfl, rfl⟩
  · have h1 : decide (p < 0) = false := by simpa using h0
    have h2 : (m : Int) ≤ p := by omega
    clear hp h0
    go_enter Tryz.func36, Tryz.ntmps36
    go_wp2
    go_returns
    exact ⟨rfl, rfl⟩
theorem dstate_any (h : DcA bd br bt n Y w F) (g : Nat) (hg : g < Y.st.length) : Calls Tryz.prog 13 #[.pointer (some ⟨bd, 0, none⟩), .int .i64 (g : Int)] w fun e w' => e = .returned (.int .i64 (Y.st.getD g 0)) ∧ w = w' := by
  have h8 := (Dc.n8 h).2.1
  obtain ⟨b, o, cap, c0, hc1, hc2, z, -, -, -⟩ := Dc.setSt h hg
  clear h
  generalize Y.st.getD g 0 = y at *
  generalize Y.st.length = m at *
  have h1 : decide ((g : Int) < 0) = false := by simp
  have h2 : decide ((m : Int) ≤ (g : Int)) = false := by simp; omega
  go_enter Tryz.func13, Tryz.ntmps13
  go_wp2
  go_returns
  exact ⟨rfl, rfl⟩
theorem dstate_bad (h : DcA bd br bt n Y w F) (g : Int) (hg : g < 0 ∨ (Y.st.length : Int) ≤ g) : Calls Tryz.prog 13 #[.pointer (some ⟨bd, 0, none⟩), .int .i64 g] w fun e w' => e = .returned (.int .i64 0) ∧ w = w' := by
  have h8 := (Dc.n8 h).2.1
  obtain ⟨⟨a, c, c0⟩, -⟩ := Dc.facts h
  clear h
  generalize Y.st.length = m at *
  by_cases h0 : g < 0
  · clear hg
    go_enter Tryz.func13, Tryz.ntmps13
    go_wp2
    go_returns
    exact ⟨rfl, rfl⟩
  · have h1 : decide (g < 0) = false := by simpa using h0
    have h2 : (m : Int) ≤ g := by omega
    clear hg h0
    go_enter Tryz.func13, Tryz.ntmps13
    go_wp2
    go_returns
    exact ⟨rfl, rfl⟩
theorem dcurrent_any (h : DcA bd br bt n Y w F) (p : Nat) (hp : p < Y.g.length) : Calls Tryz.prog 11 #[.pointer (some ⟨bd, 0, none⟩), .int .i64 (p : Int)] w fun e w' => e = .returned (.int .i64 (Y.g.getD p 0)) ∧ w = w' := by
  have C := Lib.hid (sbad_no h p hp)
  have h8 := (Dc.n8 h).1
  obtain ⟨b, o, cap, c2, hc1, hc2, z, -, -, -⟩ := Dc.setG h hp
  clear h
  generalize Y.g.getD p 0 = y at *
  generalize Y.g.length = m at *
  go_enter Tryz.func11, Tryz.ntmps11
  go_wp2_with (go_at_call 36; ((with_reducible refine (C.out).mono ?_); rintro e w1 ⟨rfl, rfl⟩))
  go_returns
  exact ⟨rfl, rfl⟩
theorem dcurrent_bad (h : DcA bd br bt n Y w F) (p : Int) (hp : p < 0 ∨ (Y.g.length : Int) ≤ p) : Calls Tryz.prog 11 #[.pointer (some ⟨bd, 0, none⟩), .int .i64 p] w fun e w' => e = .returned (.int .i64 (-1)) ∧ w = w' := by
  have C := Lib.hid (sbad_yes h p hp)
  clear h hp
  go_enter Tryz.func11, Tryz.ntmps11
  go_wp2_with (go_at_call 36; ((with_reducible refine (C.out).mono ?_); rintro e w1 ⟨rfl, rfl⟩))
  go_returns
  exact ⟨rfl, rfl⟩
/-- A processor's goroutine leaves it. -/
def Dx.off (Y : Dx) (p : Nat) : Dx := { Y with g := Y.g.set p (-1) }
theorem off_bad (h : DcA bd br bt n Y w F) (p : Int) (hp : p < 0 ∨ (Y.g.length : Int) ≤ p) : Calls Tryz.prog 46 #[.pointer (some ⟨bd, 0, none⟩), .int .i64 p] w fun e w' => e = .returned (.tuple #[.int .i64 0, .int .i64 1]) ∧ w = w' := by
  have C := Lib.hid (sbad_yes h p hp)
  clear h hp
  go_enter Tryz.func46, Tryz.ntmps46
  go_wp2_with (go_at_call 36; ((with_reducible refine (C.out).mono ?_); rintro e w1 ⟨rfl, rfl⟩))
  go_returns
  exact ⟨rfl, rfl⟩
theorem off_idle (h : DcA bd br bt n Y w F) (p : Nat) (hp : p < Y.g.length) (hn : Y.g.getD p 0 = -1) : Calls Tryz.prog 46 #[.pointer (some ⟨bd, 0, none⟩), .int .i64 (p : Int)] w fun e w' => e = .returned (.tuple #[.int .i64 0, .int .i64 4]) ∧ w = w' := by
  have C := Lib.hid (sbad_no h p hp)
  have h8 := (Dc.n8 h).1
  obtain ⟨b, o, cap, c2, hc1, hc2, z, -, -, -⟩ := Dc.setG h hp
  rw [hn] at z
  clear h hn
  generalize Y.g.length = m at *
  go_enter Tryz.func46, Tryz.ntmps46
  go_wp2_with (go_at_call 36; ((with_reducible refine (C.out).mono ?_); rintro e w1 ⟨rfl, rfl⟩))
  go_returns
  exact ⟨rfl, rfl⟩
theorem off_any (h : DcA bd br bt n Y w F) (p g : Nat) (hp : p < Y.g.length) (hn : Y.g.getD p 0 = (g : Int)) : Calls Tryz.prog 46 #[.pointer (some ⟨bd, 0, none⟩), .int .i64 (p : Int)] w fun e w' => e = .returned (.tuple #[.int .i64 (g : Int), .int .i64 0]) ∧ Goes (DcA bd br bt n (Y.off p)) w w' F := by
  have C := Lib.hid (sbad_no h p hp)
  have h8 := (Dc.n8 h).1
  obtain ⟨b, o, cap, c2, hc1, hc2, z, fr, -, up⟩ := Dc.setG h hp
  have HG : Hid (Goes (DcA bd br bt n (Y.off p)) w (w.setCell ⟨b, o + p, none⟩ (.int .i64 (-1))) F) := Lib.hid (up w (Cha.refl _ w) (-1))
  rw [hn] at z
  clear h hn up
  generalize Y.g.length = m at *
  have k1 : decide ((g : Int) < 0) = false := by simp
  go_enter Tryz.func46, Tryz.ntmps46
  go_wp2_with (go_at_call 36; ((with_reducible refine (C.out).mono ?_); rintro e w1 ⟨rfl, rfl⟩))
  go_returns
  exact ⟨rfl, HG.out⟩
end
end Go.Proofs.YtaloafihbdamiaaGreat

namespace Go.Proofs.YtaloafihbdamiaaGreat
open Go.ChangeShapes Go.WideShapes Go.ChangeAt Go.RowKit
section
variable {w w' : World} {F : Nat → Prop} {bd br bt n : Nat} {Y : Dx}
def Dx.tick (Y : Dx) (t : Int) : Dx := { Y with clk := Y.clk + min t (1099511627776 - Y.clk) }
theorem Dc.clock (h : DcA bd br bt n Y w F) (x : Int) (h0 : 0 ≤ x) (h1 : x ≤ 2199023255552) : Goes (DcA bd br bt n { Y with clk := x }) w (w.setCell ⟨bd, 6, none⟩ (.int .u64 x)) F := by
  obtain ⟨F2, v1, v2, v3, v4, T, d, k⟩ := Dc.own h
  obtain ⟨d', c'⟩ := d.clock x h0 h1
  exact k Y.st Y.sl Y.g Y.sc x _ ⟨F2, ⟨_, _, _, _, _, d'⟩, c', fun _ x => .inl x⟩
theorem dyield_bad (h : DcA bd br bt n Y w F) (p : Int) (hp : p < 0 ∨ (Y.g.length : Int) ≤ p) : Calls Tryz.prog 23 #[.pointer (some ⟨bd, 0, none⟩), .int .i64 p] w fun e w' => e = .returned (.int .i64 1) ∧ w = w' := by
  have C := Lib.hid (off_bad h p hp)
  clear h hp
  go_enter Tryz.func23, Tryz.ntmps23
  go_wp2_with (go_at_call 46; ((with_reducible refine (C.out).mono ?_); rintro e w1 ⟨rfl, rfl⟩))
  go_returns
  exact ⟨rfl, rfl⟩
theorem dyield_idle (h : DcA bd br bt n Y w F) (p : Nat) (hp : p < Y.g.length) (hn : Y.g.getD p 0 = -1) : Calls Tryz.prog 23 #[.pointer (some ⟨bd, 0, none⟩), .int .i64 (p : Int)] w fun e w' => e = .returned (.int .i64 4) ∧ w = w' := by
  have C := Lib.hid (off_idle h p hp hn)
  clear h hp hn
  go_enter Tryz.func23, Tryz.ntmps23
  go_wp2_with (go_at_call 46; ((with_reducible refine (C.out).mono ?_); rintro e w1 ⟨rfl, rfl⟩))
  go_returns
  exact ⟨rfl, rfl⟩
def Dx.yld (Y : Dx) (p g : Nat) : Dx := { Y with g := Y.g.set p (-1), Q := (Y.Q.1, Y.Q.2 ++ [(g : Int)]) }
theorem dyield_any (h : DcA bd br bt n Y w F) (o : QOk Y.Q) (p g : Nat) (hp : p < Y.g.length) (hn : Y.g.getD p 0 = (g : Int)) : Calls Tryz.prog 23 #[.pointer (some ⟨bd, 0, none⟩), .int .i64 (p : Int)] w fun e w' => e = .returned (.int .i64 0) ∧ Goes (DcA bd br bt n (Y.yld p g)) w w' F := by
  have C := Lib.hid (off_any h p g hp hn)
  have D : Hid (∀ w1, Goes (DcA bd br bt n (Y.off p)) w w1 F → w1.cell? ⟨bd, 4, none⟩ = some (.pointer (some ⟨br, 0, none⟩)) ∧ Calls Tryz.prog 47 #[.pointer (some ⟨br, 0, none⟩), .int .i64 (g : Int)] w1 fun e w' => e = .returned (.int .i64 0) ∧ Goes (DcA bd br bt n (Y.yld p g)) w w' F) := Lib.hid fun w1 G => by
    have G0 := G
    obtain ⟨F1, h1, -, -⟩ := G
    exact ⟨(Dc.facts h1).2.2.1, G0.next fun F2 h2 => dc_last (Y := Y.off p) h2 o (g : Int) (by omega)⟩
  clear h hn o
  go_enter Tryz.func23, Tryz.ntmps23
  go_wp2_with (first
    | (go_at_call 46; ((with_reducible refine (C.out).mono ?_); rintro e w1 ⟨rfl, hG⟩; obtain ⟨q, cc⟩ := D.out _ hG; have D2 := Lib.hid cc; clear hG cc))
    | (go_at_call 47; ((with_reducible refine (D2.out).mono ?_); rintro e w2 ⟨rfl, hG⟩; have HG := Lib.hid hG; clear hG)))
  go_returns
  exact ⟨rfl, HG.out⟩
def Dx.stp (Y : Dx) (p g : Nat) (x : Int) : Dx := { Y with g := Y.g.set p (-1), st := Y.st.set g x }
theorem dblock_bad (h : DcA bd br bt n Y w F) (p : Int) (hp : p < 0 ∨ (Y.g.length : Int) ≤ p) : Calls Tryz.prog 25 #[.pointer (some ⟨bd, 0, none⟩), .int .i64 p] w fun e w' => e = .returned (.int .i64 1) ∧ w = w' := by
  have C := Lib.hid (off_bad h p hp)
  clear h
  go_enter Tryz.func25, Tryz.ntmps25
  go_wp2_with (go_at_call 46; ((with_reducible refine (C.out).mono ?_); rintro e w1 ⟨rfl, rfl⟩))
  go_returns
  exact ⟨rfl, rfl⟩
theorem dblock_idle (h : DcA bd br bt n Y w F) (p : Nat) (hp : p < Y.g.length) (hn : Y.g.getD p 0 = -1) : Calls Tryz.prog 25 #[.pointer (some ⟨bd, 0, none⟩), .int .i64 (p : Int)] w fun e w' => e = .returned (.int .i64 4) ∧ w = w' := by
  have C := Lib.hid (off_idle h p hp hn)
  clear h
  go_enter Tryz.func25, Tryz.ntmps25
  go_wp2_with (go_at_call 46; ((with_reducible refine (C.out).mono ?_); rintro e w1 ⟨rfl, rfl⟩))
  go_returns
  exact ⟨rfl, rfl⟩
theorem dend_bad (h : DcA bd br bt n Y w F) (p : Int) (hp : p < 0 ∨ (Y.g.length : Int) ≤ p) : Calls Tryz.prog 29 #[.pointer (some ⟨bd, 0, none⟩), .int .i64 p] w fun e w' => e = .returned (.int .i64 1) ∧ w = w' := by
  have C := Lib.hid (off_bad h p hp)
  clear h
  go_enter Tryz.func29, Tryz.ntmps29
  go_wp2_with (go_at_call 46; ((with_reducible refine (C.out).mono ?_); rintro e w1 ⟨rfl, rfl⟩))
  go_returns
  exact ⟨rfl, rfl⟩
theorem dend_idle (h : DcA bd br bt n Y w F) (p : Nat) (hp : p < Y.g.length) (hn : Y.g.getD p 0 = -1) : Calls Tryz.prog 29 #[.pointer (some ⟨bd, 0, none⟩), .int .i64 (p : Int)] w fun e w' => e = .returned (.int .i64 4) ∧ w = w' := by
  have C := Lib.hid (off_idle h p hp hn)
  clear h
  go_enter Tryz.func29, Tryz.ntmps29
  go_wp2_with (go_at_call 46; ((with_reducible refine (C.out).mono ?_); rintro e w1 ⟨rfl, rfl⟩))
  go_returns
  exact ⟨rfl, rfl⟩
theorem dblock_any (h : DcA bd br bt n Y w F) (p g : Nat) (hp : p < Y.g.length) (hn : Y.g.getD p 0 = (g : Int)) (hg : g < Y.st.length) : Calls Tryz.prog 25 #[.pointer (some ⟨bd, 0, none⟩), .int .i64 (p : Int)] w fun e w' => e = .returned (.int .i64 0) ∧ Goes (DcA bd br bt n (Y.stp p g 2)) w w' F := by
  have C := Lib.hid (off_any h p g hp hn)
  have h8 := (Dc.n8 h).2.1
  have D : Hid (∀ w1, Goes (DcA bd br bt n (Y.off p)) w w1 F → ∃ b o cap z, w1.cell? ⟨bd, 0, none⟩ = some (.slice (some ⟨b, o, none⟩) Y.st.length cap) ∧ Y.st.length ≤ cap ∧ cap ≤ maxLen ∧ w1.cell? ⟨b, o + g, none⟩ = some (.int .i64 z) ∧ (∀ j, w1.frozen? ⟨b, j, none⟩ = false) ∧ Goes (DcA bd br bt n (Y.stp p g 2)) w (w1.setCell ⟨b, o + g, none⟩ (.int .i64 2)) F) := Lib.hid fun w1 G => by
    have G0 := G
    obtain ⟨F1, h1, c1, n1⟩ := G
    obtain ⟨b, o, cap, q1, q2, q3, q4, q5, -, up⟩ := Dc.setSt (Y := Y.off p) h1 (i := g) hg
    have hu := up w1 (Cha.refl _ w1) 2
    exact ⟨b, o, cap, _, q1, q2, q3, q4, q5, by
      obtain ⟨F3, q, cq, nq⟩ := hu
      exact ⟨F3, q, c1.over cq n1, fun i hi => (nq i hi).elim (n1 i) fun e => .inr (Nat.le_trans c1.size e)⟩⟩
  clear h hn
  generalize Y.st.length = m at *
  have k1 : (g : Int) < (m : Int) := by omega
  have k2 : (0 : Int) ≤ (g : Int) := by omega
  go_enter Tryz.func25, Tryz.ntmps25
  go_wp2_with (go_at_call 46; ((with_reducible refine (C.out).mono ?_); rintro e w1 ⟨rfl, hG⟩; obtain ⟨b, o, cap, z, q1, q2, q3, q4, q5, hG2⟩ := D.out _ hG; have HG := Lib.hid hG2; clear hG hG2))
  go_returns
  exact ⟨rfl, HG.out⟩
theorem dend_any (h : DcA bd br bt n Y w F) (p g : Nat) (hp : p < Y.g.length) (hn : Y.g.getD p 0 = (g : Int)) (hg : g < Y.st.length) : Calls Tryz.prog 29 #[.pointer (some ⟨bd, 0, none⟩), .int .i64 (p : Int)] w fun e w' => e = .returned (.int .i64 0) ∧ Goes (DcA bd br bt n (Y.stp p g 3)) w w' F := by
  have C := Lib.hid (off_any h p g hp hn)
  have h8 := (Dc.n8 h).2.1
  have D : Hid (∀ w1, Goes (DcA bd br bt n (Y.off p)) w w1 F → ∃ b o cap z, w1.cell? ⟨bd, 0, none⟩ = some (.slice (some ⟨b, o, none⟩) Y.st.length cap) ∧ Y.st.length ≤ cap ∧ cap ≤ maxLen ∧ w1.cell? ⟨b, o + g, none⟩ = some (.int .i64 z) ∧ (∀ j, w1.frozen? ⟨b, j, none⟩ = false) ∧ Goes (DcA bd br bt n (Y.stp p g 3)) w (w1.setCell ⟨b, o + g, none⟩ (.int .i64 3)) F) := Lib.hid fun w1 G => by
    have G0 := G
    obtain ⟨F1, h1, c1, n1⟩ := G
    obtain ⟨b, o, cap, q1, q2, q3, q4, q5, -, up⟩ := Dc.setSt (Y := Y.off p) h1 (i := g) hg
    have hu := up w1 (Cha.refl _ w1) 3
    exact ⟨b, o, cap, _, q1, q2, q3, q4, q5, by
      obtain ⟨F3, q, cq, nq⟩ := hu
      exact ⟨F3, q, c1.over cq n1, fun i hi => (nq i hi).elim (n1 i) fun e => .inr (Nat.le_trans c1.size e)⟩⟩
  clear h hn
  generalize Y.st.length = m at *
  have k1 : (g : Int) < (m : Int) := by omega
  have k2 : (0 : Int) ≤ (g : Int) := by omega
  go_enter Tryz.func29, Tryz.ntmps29
  go_wp2_with (go_at_call 46; ((with_reducible refine (C.out).mono ?_); rintro e w1 ⟨rfl, hG⟩; obtain ⟨b, o, cap, z, q1, q2, q3, q4, q5, hG2⟩ := D.out _ hG; have HG := Lib.hid hG2; clear hG hG2))
  go_returns
  exact ⟨rfl, HG.out⟩
end
end Go.Proofs.YtaloafihbdamiaaGreat

namespace Go.Proofs.YtaloafihbdamiaaGreat
open Go.ChangeShapes Go.WideShapes Go.ChangeAt Go.RowKit
section
variable {w w' : World} {F : Nat → Prop} {bd br bt n : Nat} {Y : Dx}
theorem Goes.on {P P' : Asn} {w w1 w2 : World} {F : Nat → Prop} (h : Goes P w w1 F) (k : ∀ F1, P w1 F1 → Goes P' w1 w2 F1) : Goes P' w w2 F := h.trans k
theorem dtick_any (h : DcA bd br bt n Y w F) (t : Int) (h0 : 0 ≤ t) (h1 : t ≤ 18446744073709551615) (hc : Y.clk ≤ 1099511627776) :
    Calls Tryz.prog 33 #[.pointer (some ⟨bd, 0, none⟩), .int .u64 t] w fun e w' => e = .returned (.tuple #[]) ∧ Goes (DcA bd br bt n (Y.tick t)) w w' F := by
  have c0 := (Dc.n8 h).2.2.2.2.1
  obtain ⟨-, -, -, -, c6, cf⟩ := Dc.facts h
  obtain ⟨s, hs⟩ : ∃ s, s = min t 1099511627776 := ⟨_, rfl⟩
  have hs0 : 0 ≤ s := by omega
  have hs1 : s ≤ 1099511627776 := by omega
  have G1 := Dc.clock h (Y.clk + s) (by omega) (by omega)
  have G2 : Goes (DcA bd br bt n { Y with clk := 1099511627776 }) w ((w.setCell ⟨bd, 6, none⟩ (.int .u64 (Y.clk + s))).setCell ⟨bd, 6, none⟩ (.int .u64 1099511627776)) F := G1.on fun F1 h1 => Dc.clock h1 1099511627776 (by decide) (by decide)
  have HA : Hid (Y.clk + s ≤ 1099511627776 → Goes (DcA bd br bt n (Y.tick t)) w (w.setCell ⟨bd, 6, none⟩ (.int .u64 (Y.clk + s))) F) := Lib.hid fun hle => by
    unfold Dx.tick
    rw [show Y.clk + min t (1099511627776 - Y.clk) = Y.clk + s by omega]
    exact G1
  have HB : Hid (¬ Y.clk + s ≤ 1099511627776 → Goes (DcA bd br bt n (Y.tick t)) w ((w.setCell ⟨bd, 6, none⟩ (.int .u64 (Y.clk + s))).setCell ⟨bd, 6, none⟩ (.int .u64 1099511627776)) F) := Lib.hid fun hle => by
    unfold Dx.tick
    rw [show Y.clk + min t (1099511627776 - Y.clk) = 1099511627776 by omega]
    exact G2
  have e1 : IntKind.u64.wrap (Y.clk + s) = Y.clk + s := IntWalk.u64_in _ (by omega)
  clear G1 G2 h
  generalize Y.clk = k at *
  by_cases ht : 1099511627776 < t
  · obtain rfl : s = 1099511627776 := by omega
    by_cases hle : k + 1099511627776 ≤ 1099511627776
    · have HG := Lib.hid (HA.out hle)
      have k2 : decide (1099511627776 < k + 1099511627776) = false := by simp; omega
      clear hs
      go_enter Tryz.func33, Tryz.ntmps33
      go_wp2
      go_returns
      exact ⟨rfl, HG.out⟩
    · have HG := Lib.hid (HB.out hle)
      have k2 : 1099511627776 < k + 1099511627776 := by omega
      clear hs
      go_enter Tryz.func33, Tryz.ntmps33
      go_wp2
      go_returns
      exact ⟨rfl, HG.out⟩
  · obtain rfl : s = t := by omega
    have k1 : decide (1099511627776 < s) = false := by simpa using ht
    by_cases hle : k + s ≤ 1099511627776
    · have HG := Lib.hid (HA.out hle)
      have k2 : decide (1099511627776 < k + s) = false := by simp; omega
      clear hs
      go_enter Tryz.func33, Tryz.ntmps33
      go_wp2
      go_returns
      exact ⟨rfl, HG.out⟩
    · have HG := Lib.hid (HB.out hle)
      have k2 : 1099511627776 < k + s := by omega
      clear hs
      go_enter Tryz.func33, Tryz.ntmps33
      go_wp2
      go_returns
      exact ⟨rfl, HG.out⟩
/-- How many can go on. -/
def dable (st : List Int) : Nat := st.countP fun x => x == 1
theorem dable_take (st : List Int) {j : Nat} (hj : j < st.length) : dable (st.take (j + 1)) = dable (st.take j) + if st.getD j 0 = 1 then 1 else 0 := by
  unfold dable
  rw [List.take_add_one, List.getElem?_eq_getElem hj, List.countP_append]
  congr 1
  simp [List.getD, hj, List.countP_cons]
theorem dable_any (h : DcA bd br bt n Y w F) : Calls Tryz.prog 9 #[.pointer (some ⟨bd, 0, none⟩)] w fun e w' => e = .returned (.int .i64 (dable Y.st : Nat)) ∧ Cha (fun _ => False) w w' := by
  have h8 := (Dc.n8 h).2.1
  obtain ⟨⟨a, c, c0⟩, -⟩ := Dc.facts h
  have HE : Hid (∀ j, j < Y.st.length → ∃ b o, a = some ⟨b, o, none⟩ ∧ Y.st.length ≤ c ∧ c ≤ maxLen ∧ w.cell? ⟨b, o + j, none⟩ = some (.int .i64 (Y.st.getD j 0))) := Lib.hid fun j hj => by
    obtain ⟨b, o, cap, q1, q2, q3, q4, -⟩ := Dc.setSt h hj
    rw [c0] at q1
    injection q1 with q1
    injection q1 with q1 _ q5
    subst q5
    exact ⟨b, o, q1, q2, q3, q4⟩
  have HT := Lib.hid fun j (hj : j < Y.st.length) => dable_take Y.st hj
  have HB := Lib.hid fun j => (show dable (Y.st.take j) ≤ 64 by unfold dable; have := List.countP_le_length (p := fun x : Int => x == 1) (l := Y.st.take j); have := List.length_take (i := j) (l := Y.st); omega)
  have HF : Hid (dable (Y.st.take Y.st.length) = dable Y.st) := Lib.hid (by rw [List.take_length])
  clear h
  generalize hG : Y.st = G at *
  go_enter Tryz.func9, Tryz.ntmps9
  go_wp2
  go_loopw [3, 4] (fun r i wr => ∃ j : Nat, j ≤ G.length ∧ i = .int .i64 (j : Int) ∧ r = .int .i64 (dable (G.take j) : Nat) ∧ w = wr) (fun _ i _ => G.length - (intOf i).toNat)
  case atStart => exact ⟨0, Nat.zero_le _, rfl, rfl, rfl⟩
  case round =>
    obtain ⟨j, hj, rfl, rfl, rfl⟩ := hrel
    have hb := HB.out j
    by_cases hlt : j < G.length
    · obtain ⟨b, o, rfl, q2, q3, z⟩ := HE.out j hlt
      have ht := HT.out j hlt
      have hb2 := HB.out (j + 1)
      have k1 : (j : Int) < G.length := by omega
      have k2 : (0 : Int) ≤ (j : Int) := by omega
      unfold maxLen at q3
      generalize G.getD j 0 = y at *
      by_cases hy : y = 1
      · subst hy
        rw [if_pos rfl] at ht
        have e2 : IntKind.i64.wrap ((dable (G.take j) : Int) + 1) = ((dable (G.take (j + 1)) : Nat) : Int) := by rw [IntWalk.i64_in _ (by omega)]; omega
        go_wp2
        go_roundw
        case rel => exact ⟨j + 1, by omega, by go_num, by congr 1; omega, by first | rfl | exact trivial⟩
        case measure => simp [intOf]; omega
      · have hy2 : (y == 1) = false := by simpa using hy
        rw [if_neg hy, Nat.add_zero] at ht
        go_wp2
        go_roundw
        case rel => exact ⟨j + 1, by omega, by go_num, by congr 1; omega, by first | rfl | exact trivial⟩
        case measure => simp [intOf]; omega
    · obtain rfl : j = G.length := by omega
      rw [HF.out]
      go_wp2
      go_returns
      exact ⟨rfl, Cha.refl _ _⟩
end
end Go.Proofs.YtaloafihbdamiaaGreat

namespace Go.Proofs.YtaloafihbdamiaaGreat
open Go.ChangeShapes Go.WideShapes Go.ChangeAt Go.RowKit
section
variable {w w' : World} {F : Nat → Prop} {bd br bt n : Nat} {Y : Dx}
theorem Dc.setSS (h : DcA bd br bt n Y w F) {i : Nat} (hi : i < Y.st.length) : ∃ b o cap b2 o2 cap2, w.cell? ⟨bd, 0, none⟩ = some (.slice (some ⟨b, o, none⟩) Y.st.length cap) ∧ Y.st.length ≤ cap ∧ cap ≤ maxLen ∧ w.cell? ⟨b, o + i, none⟩ = some (.int .i64 (Y.st.getD i 0)) ∧ (∀ j, w.frozen? ⟨b, j, none⟩ = false) ∧
    w.cell? ⟨bd, 1, none⟩ = some (.slice (some ⟨b2, o2, none⟩) Y.st.length cap2) ∧ Y.st.length ≤ cap2 ∧ cap2 ≤ maxLen ∧ w.cell? ⟨b2, o2 + i, none⟩ = some (.bool (Y.sl.getD i false)) ∧ (∀ j, w.frozen? ⟨b2, j, none⟩ = false) ∧ b ≠ bd ∧ b2 ≠ bd ∧ b ≠ b2 ∧
    ∀ W, Cha (fun _ => False) w W → ∀ (x : Int) (y : Bool), Goes (DcA bd br bt n { Y with st := Y.st.set i x, sl := Y.sl.set i y }) w ((W.setCell ⟨b, o + i, none⟩ (.int .i64 x)).setCell ⟨b2, o2 + i, none⟩ (.bool y)) F := by
  obtain ⟨F2, v1, v2, v3, v4, T, d, k⟩ := Dc.own h
  obtain ⟨c0, c1, c2, c3, -⟩ := d.facts
  have hs := d.s64
  have hi2 : i < Y.sl.length := by omega
  obtain ⟨b, o, cap, e, h1, h2, z, fr, up⟩ := in_at d.l1 hi
  obtain ⟨b2, o2, cap2, e2, g1, g2, z2, fr2, -⟩ := bo_at d.l2 hi2
  have t0 := d.tg.1
  have t1 := (d.t1 b (by rw [e]; rfl)).1
  have t2 := (d.t2 b2 (by rw [e2]; rfl)).1
  rw [hs] at g1 e2
  refine ⟨b, o, cap, b2, o2, cap2, by rw [← e]; exact c0, h1, h2, z, fr, by rw [← e2]; exact c1, g1, g2, z2, fr2, fun c => by rw [c] at t1; omega, fun c => by rw [c] at t2; omega, fun c => by rw [c] at t1; omega, fun W cw x y => ?_⟩
  obtain ⟨l, cc⟩ := up W cw x
  obtain ⟨d', c'⟩ := (d.same cw).up1 cc l (List.length_set ..)
  have l2 : En.Lies boE ((W.setCell ⟨b, o + i, none⟩ (.int .i64 x)).setCell ⟨b2, o2 + i, none⟩ (.bool y)) v2 (Y.sl.set i y) := by
    have q := d'.l2
    rw [e2] at q ⊢
    rw [← hs] at q ⊢
    have := q.put boE_ok hi2 y
    rw [show i * boE.k = i from Nat.mul_one i] at this
    exact this
  have cc2 : Cha (fun j => v2.ownBlock = some j) (W.setCell ⟨b, o + i, none⟩ (.int .i64 x)) ((W.setCell ⟨b, o + i, none⟩ (.int .i64 x)).setCell ⟨b2, o2 + i, none⟩ (.bool y)) :=
    (Cha.refl (fun j => v2.ownBlock = some j) _).setCell (p := ⟨b2, o2 + i, none⟩) (fun _ => by rw [e2]; rfl) _
  obtain ⟨d2, c2'⟩ := d'.up2 cc2 l2 (List.length_set ..)
  exact k (Y.st.set i x) (Y.sl.set i y) Y.g Y.sc Y.clk _ ⟨F2, ⟨_, _, _, _, _, d2⟩, (cw.wide.trans c').trans c2', fun _ x => .inl x⟩
theorem dsleep_bad (h : DcA bd br bt n Y w F) (p t : Int) (hp : p < 0 ∨ (Y.g.length : Int) ≤ p) : Calls Tryz.prog 27 #[.pointer (some ⟨bd, 0, none⟩), .int .i64 p, .int .u64 t] w fun e w' => e = .returned (.int .i64 1) ∧ w = w' := by
  have C := Lib.hid (off_bad h p hp)
  clear h
  go_enter Tryz.func27, Tryz.ntmps27
  go_wp2_with (go_at_call 46; ((with_reducible refine (C.out).mono ?_); rintro e w1 ⟨rfl, rfl⟩))
  go_returns
  exact ⟨rfl, rfl⟩
theorem dsleep_idle (h : DcA bd br bt n Y w F) (p : Nat) (t : Int) (hp : p < Y.g.length) (hn : Y.g.getD p 0 = -1) : Calls Tryz.prog 27 #[.pointer (some ⟨bd, 0, none⟩), .int .i64 (p : Int), .int .u64 t] w fun e w' => e = .returned (.int .i64 4) ∧ w = w' := by
  have C := Lib.hid (off_idle h p hp hn)
  clear h
  go_enter Tryz.func27, Tryz.ntmps27
  go_wp2_with (go_at_call 46; ((with_reducible refine (C.out).mono ?_); rintro e w1 ⟨rfl, rfl⟩))
  go_returns
  exact ⟨rfl, rfl⟩
def Dx.slp (Y : Dx) (p g : Nat) (t : Int) : Dx := { Y with g := Y.g.set p (-1), st := Y.st.set g 2, sl := Y.sl.set g true, D := Y.D ++ [⟨(p : Int), t, (g : Int)⟩] }
theorem dsleep_any (h : DcA bd br bt n Y w F) (p g : Nat) (t : Int) (hp : p < Y.g.length) (hpn : p < n) (hn : Y.g.getD p 0 = (g : Int)) (hg : g < Y.st.length) (hl : Y.D.length < 1024) : Calls Tryz.prog 27 #[.pointer (some ⟨bd, 0, none⟩), .int .i64 (p : Int), .int .u64 t] w fun e w' => e = .returned (.int .i64 0) ∧ Goes (DcA bd br bt n (Y.slp p g t)) w w' F := by
  have C := Lib.hid (off_any h p g hp hn)
  have h8 := (Dc.n8 h).2.1
  have D : Hid (∀ w1, Goes (DcA bd br bt n (Y.off p)) w w1 F → ∃ b o cap b2 o2 cap2 z z2, w1.cell? ⟨bd, 0, none⟩ = some (.slice (some ⟨b, o, none⟩) Y.st.length cap) ∧ Y.st.length ≤ cap ∧ cap ≤ maxLen ∧ w1.cell? ⟨b, o + g, none⟩ = some (.int .i64 z) ∧ (∀ j, w1.frozen? ⟨b, j, none⟩ = false) ∧
      w1.cell? ⟨bd, 1, none⟩ = some (.slice (some ⟨b2, o2, none⟩) Y.st.length cap2) ∧ Y.st.length ≤ cap2 ∧ cap2 ≤ maxLen ∧ w1.cell? ⟨b2, o2 + g, none⟩ = some (.bool z2) ∧ (∀ j, w1.frozen? ⟨b2, j, none⟩ = false) ∧ b ≠ bd ∧ b2 ≠ bd ∧ b ≠ b2 ∧ w1.cell? ⟨bd, 5, none⟩ = some (.pointer (some ⟨bt, 0, none⟩)) ∧
      Calls Tryz.prog 50 #[.pointer (some ⟨bt, 0, none⟩), .int .i64 (p : Int), .int .u64 t, .int .i64 (g : Int)] ((w1.setCell ⟨b, o + g, none⟩ (.int .i64 2)).setCell ⟨b2, o2 + g, none⟩ (.bool true)) fun e w' => e = .returned (.int .i64 0) ∧ Goes (DcA bd br bt n (Y.slp p g t)) w w' F) := Lib.hid fun w1 G => by
    have G0 := G
    obtain ⟨F1, h1, c1, n1⟩ := G
    have h5 := (Dc.facts h1).2.2.2.1
    obtain ⟨b, o, cap, b2, o2, cap2, q1, q2, q3, q4, q5, q6, q7, q8, q9, q10, q11, q12, q13, up⟩ := Dc.setSS (Y := Y.off p) h1 (i := g) hg
    refine ⟨b, o, cap, b2, o2, cap2, _, _, q1, q2, q3, q4, q5, q6, q7, q8, q9, q10, q11, q12, q13, h5, ?_⟩
    have G2 : Goes (DcA bd br bt n { Y.off p with st := Y.st.set g 2, sl := Y.sl.set g true }) w ((w1.setCell ⟨b, o + g, none⟩ (.int .i64 2)).setCell ⟨b2, o2 + g, none⟩ (.bool true)) F := by
      obtain ⟨F3, q, cq, nq⟩ := up w1 (Cha.refl _ w1) 2 true
      exact ⟨F3, q, c1.over cq n1, fun i hi => (nq i hi).elim (n1 i) fun e => .inr (Nat.le_trans c1.size e)⟩
    exact G2.next fun F3 h3 => dc_add h3 p t (g : Int) hpn hl
  clear h hn
  generalize Y.st.length = m at *
  have k1 : (g : Int) < (m : Int) := by omega
  have k2 : (0 : Int) ≤ (g : Int) := by omega
  go_enter Tryz.func27, Tryz.ntmps27
  go_wp2_with (first
    | (go_at_call 46; ((with_reducible refine (C.out).mono ?_); rintro e w1 ⟨rfl, hG⟩; obtain ⟨b, o, cap, b2, o2, cap2, z, z2, q1, q2, q3, q4, q5, q6, q7, q8, q9, q10, q11, q12, q13, q14, cc⟩ := D.out _ hG; have D2 := Lib.hid cc; clear hG cc))
    | (go_at_call 50; ((with_reducible refine (D2.out).mono ?_); rintro e w2 ⟨rfl, hG⟩; have HG := Lib.hid hG; clear hG)))
  go_returns
  exact ⟨rfl, HG.out⟩
def Dx.rdy (Y : Dx) (p g : Nat) : Dx := { Y with st := Y.st.set g 1, Q := putP Y.Q p (g : Int) }
theorem dready_bad (h : DcA bd br bt n Y w F) (p g : Int) (hp : p < 0 ∨ (Y.g.length : Int) ≤ p) : Calls Tryz.prog 31 #[.pointer (some ⟨bd, 0, none⟩), .int .i64 p, .int .i64 g] w fun e w' => e = .returned (.int .i64 1) ∧ w = w' := by
  have C := Lib.hid (sbad_yes h p hp)
  clear h
  go_enter Tryz.func31, Tryz.ntmps31
  go_wp2_with (go_at_call 36; ((with_reducible refine (C.out).mono ?_); rintro e w1 ⟨rfl, rfl⟩))
  go_returns
  exact ⟨rfl, rfl⟩
theorem dready_not (h : DcA bd br bt n Y w F) (p : Nat) (g : Int) (hp : p < Y.g.length) (hg : g < 0 ∨ (Y.st.length : Int) ≤ g) : Calls Tryz.prog 31 #[.pointer (some ⟨bd, 0, none⟩), .int .i64 (p : Int), .int .i64 g] w fun e w' => e = .returned (.int .i64 4) ∧ w = w' := by
  have C := Lib.hid (sbad_no h p hp)
  have D := Lib.hid (dstate_bad h g hg)
  clear h hg
  go_enter Tryz.func31, Tryz.ntmps31
  go_wp2_with (first
    | (go_at_call 36; ((with_reducible refine (C.out).mono ?_); rintro e w1 ⟨rfl, rfl⟩))
    | (go_at_call 13; ((with_reducible refine (D.out).mono ?_); rintro e w1 ⟨rfl, rfl⟩)))
  go_returns
  exact ⟨rfl, rfl⟩
theorem dready_busy (h : DcA bd br bt n Y w F) (p g : Nat) (hp : p < Y.g.length) (hg : g < Y.st.length) (hs : Y.st.getD g 0 ≠ 2) : Calls Tryz.prog 31 #[.pointer (some ⟨bd, 0, none⟩), .int .i64 (p : Int), .int .i64 (g : Int)] w fun e w' => e = .returned (.int .i64 4) ∧ w = w' := by
  have C := Lib.hid (sbad_no h p hp)
  have D := Lib.hid (dstate_any h g hg)
  clear h
  generalize Y.st.getD g 0 = y at *
  have k1 : (y == 2) = false := by simpa using hs
  go_enter Tryz.func31, Tryz.ntmps31
  go_wp2_with (first
    | (go_at_call 36; ((with_reducible refine (C.out).mono ?_); rintro e w1 ⟨rfl, rfl⟩))
    | (go_at_call 13; ((with_reducible refine (D.out).mono ?_); rintro e w1 ⟨rfl, rfl⟩)))
  go_returns
  exact ⟨rfl, rfl⟩
theorem dready_asleep (h : DcA bd br bt n Y w F) (p g : Nat) (hp : p < Y.g.length) (hg : g < Y.st.length) (hs : Y.st.getD g 0 = 2) (hl : Y.sl.getD g false = true) : Calls Tryz.prog 31 #[.pointer (some ⟨bd, 0, none⟩), .int .i64 (p : Int), .int .i64 (g : Int)] w fun e w' => e = .returned (.int .i64 4) ∧ w = w' := by
  have C := Lib.hid (sbad_no h p hp)
  have D := Lib.hid (dstate_any h g hg)
  have h8 := (Dc.n8 h).2.1
  have cf := (Dc.facts h).2.2.2.2.2
  obtain ⟨b, o, cap, b2, o2, cap2, -, -, -, -, -, q6, q7, q8, q9, q10, -⟩ := Dc.setSS h hg
  rw [hs] at D
  rw [hl] at q9
  clear h hs hl
  generalize Y.st.length = m at *
  have k1 : (g : Int) < (m : Int) := by omega
  have k2 : (0 : Int) ≤ (g : Int) := by omega
  go_enter Tryz.func31, Tryz.ntmps31
  go_wp2_with (first
    | (go_at_call 36; ((with_reducible refine (C.out).mono ?_); rintro e w1 ⟨rfl, rfl⟩))
    | (go_at_call 13; ((with_reducible refine (D.out).mono ?_); rintro e w1 ⟨rfl, rfl⟩)))
  go_returns
  exact ⟨rfl, rfl⟩
theorem dready_any (h : DcA bd br bt n Y w F) (o : QOk Y.Q) (p g : Nat) (hp : p < Y.g.length) (hq : p < Y.Q.1.length) (hg : g < Y.st.length) (hs : Y.st.getD g 0 = 2) (hl : Y.sl.getD g false = false) : Calls Tryz.prog 31 #[.pointer (some ⟨bd, 0, none⟩), .int .i64 (p : Int), .int .i64 (g : Int)] w fun e w' => e = .returned (.int .i64 0) ∧ Goes (DcA bd br bt n (Y.rdy p g)) w w' F := by
  have C := Lib.hid (sbad_no h p hp)
  have D := Lib.hid (dstate_any h g hg)
  have h8 := (Dc.n8 h).2.1
  obtain ⟨-, -, c4, -, -, cf⟩ := Dc.facts h
  obtain ⟨b, oo, cap, r1, r2, r3, r4, r5, r6, up⟩ := Dc.setSt h hg
  obtain ⟨-, -, -, b2, o2, cap2, -, -, -, -, -, q6, q7, q8, q9, q10, -⟩ := Dc.setSS h hg
  have E := Lib.hid ((up w (Cha.refl _ w) 1).next fun F3 h3 => dc_put h3 o p (g : Int) hq (by omega))
  rw [hs] at D
  rw [hl] at q9
  clear h hs hl up
  generalize Y.st.length = m at *
  have k1 : (g : Int) < (m : Int) := by omega
  have k2 : (0 : Int) ≤ (g : Int) := by omega
  go_enter Tryz.func31, Tryz.ntmps31
  go_wp2_with (first
    | (go_at_call 36; ((with_reducible refine (C.out).mono ?_); rintro e w1 ⟨rfl, rfl⟩))
    | (go_at_call 13; ((with_reducible refine (D.out).mono ?_); rintro e w1 ⟨rfl, rfl⟩))
    | (go_at_call 41; ((with_reducible refine (E.out).mono ?_); rintro e w2 ⟨rfl, hG⟩; have HG := Lib.hid hG; clear hG)))
  go_returns
  exact ⟨rfl, HG.out⟩
end
end Go.Proofs.YtaloafihbdamiaaGreat

namespace Go.Proofs.YtaloafihbdamiaaGreat
open Go.ChangeShapes Go.WideShapes Go.ChangeAt Go.RowKit
section
variable {w w1 w3 w' : World} {F : Nat → Prop} {bd br bt n : Nat} {Y : Dx} {v1 v2 v3 v4 v1' v2' : Value} {T : Nat → Nat} {st st' : List Int} {sl sl' : List Bool} {g sc : List Int} {clk : Int}
/-- Both lists of goroutines have grown. -/
theorem Dw.grow (h : Dw w F bd br bt v1 v2 v3 v4 T st sl g sc clk) (a1 : En.AppV inE w w1 v1 st' v1') (a2 : En.AppV boE (w1.setCell ⟨bd, 0, none⟩ v1') w3 v2 sl' v2') (hl : sl'.length = st'.length) (h64 : st'.length ≤ 64) :
    ∃ F' T', Dw (w3.setCell ⟨bd, 1, none⟩ v2') F' bd br bt v1' v2' v3 v4 T' st' sl' g sc clk ∧ Cha F w (w3.setCell ⟨bd, 1, none⟩ v2') ∧ ∀ i, F' i → F i ∨ w.heap.size ≤ i := by
  have cc1 : Cha (fun i => i = bd) w1 (w1.setCell ⟨bd, 0, none⟩ v1') := (Cha.refl (fun j => j = bd) w1).setCell (p := ⟨bd, 0, none⟩) (fun _ => rfl) _
  have cc2 : Cha (fun i => i = bd) w3 (w3.setCell ⟨bd, 1, none⟩ v2') := (Cha.refl (fun j => j = bd) w3).setCell (p := ⟨bd, 1, none⟩) (fun _ => rfl) _
  have t0 := h.tg.1
  have s1 := a1.cha.size
  have s2 := cc1.size
  have s3 := a2.cha.size
  have s4 := cc2.size
  have b1 : ∀ b, v1'.ownBlock = some b → (T b = 1 ∧ F b) ∨ w.heap.size ≤ b := fun b e => (a1.at' b e).imp (h.t1 b) id
  have l1 : ∀ b, v1'.ownBlock = some b → b < w1.heap.size := fun b e => a1.lies.lt e
  have b2 : ∀ b, v2'.ownBlock = some b → (T b = 2 ∧ F b) ∨ w1.heap.size ≤ b := fun b e => (a2.at' b e).imp (h.t2 b) fun x => by omega
  have hF : ∀ b, F b → b < w.heap.size := h.old
  have hd0 := hF bd h.tg.2
  have hh1 := (a1.cha.old bd hd0 (fun e => by have := (h.t1 bd e).1; omega)).trans h.head
  have hh2 := heap_setCell_same w1 bd 0 _ 42 v1' hh1
  have hh3 := (a2.cha.old bd (by omega) (fun e => by have := (h.t2 bd e).1; omega)).trans hh2
  refine ⟨fun i => F i ∨ v1'.ownBlock = some i ∨ v2'.ownBlock = some i, fun i => if v1'.ownBlock = some i then 1 else if v2'.ownBlock = some i then 2 else T i, ?_, ?_, ?_⟩
  · have n0 : ¬ v1'.ownBlock = some bd := fun e => by rcases b1 bd e with x | x; exact absurd x.1 (by omega); omega
    have n1 : ¬ v2'.ownBlock = some bd := fun e => by rcases b2 bd e with x | x; exact absurd x.1 (by omega); omega
    have n12 : ∀ b, v2'.ownBlock = some b → ¬ v1'.ownBlock = some b := fun b e k => by
      have q := l1 b k
      rcases b2 b e with x | x
      · rcases b1 b k with y | y
        · omega
        · have := hF b x.2; omega
      · omega
    have n3 : ∀ b k, F b → T b = k → k ≠ 1 → ¬ v1'.ownBlock = some b := fun b k f e q x => by
      rcases b1 b x with y | y
      · omega
      · have := hF b f; omega
    have n4 : ∀ b k, F b → T b = k → k ≠ 2 → ¬ v2'.ownBlock = some b := fun b k f e q x => by
      rcases b2 b x with y | y
      · omega
      · have := hF b f; omega
    refine { head := by rw [heap_setCell_same w3 bd 1 _ 42 _ hh3]; rfl, l1 := ?_, l2 := ?_, l3 := ?_, l4 := ?_, tg := ⟨by simp only [n0, n1, if_false]; exact t0, .inl h.tg.2⟩, t1 := fun b e => ⟨by simp only [e, if_true], .inr (.inl e)⟩, t2 := fun b e => ⟨by simp only [n12 b e, e, if_false, if_true], .inr (.inr e)⟩, t3 := fun b e => ?_, t4 := fun b e => ?_, g64 := h64, s64 := hl, n8 := h.n8, c8 := h.c8, c0 := h.c0, c1 := h.c1, old := fun i f => ?_ }
    · refine ((a1.lies.cha cc1 fun b e k => n0 (k ▸ e)).cha a2.cha fun b e k => ?_).cha cc2 fun b e k => n0 (k ▸ e)
      obtain ⟨x1, x2⟩ := h.t2 b k
      exact n3 b 2 x2 x1 (by decide) e
    · exact a2.lies.cha cc2 fun b e k => n1 (k ▸ e)
    · refine (((h.l3.cha a1.cha fun b e k => ?_).cha cc1 fun b e k => ?_).cha a2.cha fun b e k => ?_).cha cc2 fun b e k => ?_
      · have := (h.t1 b k).1; have := (h.t3 b e).1; omega
      · have := (h.t3 b e).1; rw [k] at this; omega
      · have := (h.t2 b k).1; have := (h.t3 b e).1; omega
      · have := (h.t3 b e).1; rw [k] at this; omega
    · refine (((h.l4.cha a1.cha fun b e k => ?_).cha cc1 fun b e k => ?_).cha a2.cha fun b e k => ?_).cha cc2 fun b e k => ?_
      · have := (h.t1 b k).1; have := (h.t4 b e).1; omega
      · have := (h.t4 b e).1; rw [k] at this; omega
      · have := (h.t2 b k).1; have := (h.t4 b e).1; omega
      · have := (h.t4 b e).1; rw [k] at this; omega
    · obtain ⟨x1, x2⟩ := h.t3 b e
      exact ⟨by simp only [n3 b 3 x2 x1 (by decide), n4 b 3 x2 x1 (by decide), if_false]; exact x1, .inl x2⟩
    · obtain ⟨x1, x2⟩ := h.t4 b e
      exact ⟨by simp only [n3 b 4 x2 x1 (by decide), n4 b 4 x2 x1 (by decide), if_false]; exact x1, .inl x2⟩
    · rcases f with f | f | f
      · have := hF i f; omega
      · have := l1 i f; omega
      · have : i < w3.heap.size := a2.lies.lt f
        omega
  · exact (((a1.cha.mono fun i _ e => (h.t1 i e).2).setCell (p := ⟨bd, 0, none⟩) (fun _ => h.tg.2) _).trans (a2.cha.mono fun i _ e => (h.t2 i e).2)).setCell (p := ⟨bd, 1, none⟩) (fun _ => h.tg.2) _
  · intro i f
    rcases f with f | f | f
    · exact .inl f
    · exact (b1 i f).imp And.right id
    · exact (b2 i f).imp And.right fun x => by omega
theorem dbegin_bad (h : DcA bd br bt n Y w F) (p : Int) (hp : p < 0 ∨ (Y.g.length : Int) ≤ p) : Calls Tryz.prog 20 #[.pointer (some ⟨bd, 0, none⟩), .int .i64 p] w fun e w' => e = .returned (.tuple #[.int .i64 0, .int .i64 1]) ∧ w = w' := by
  have C := Lib.hid (sbad_yes h p hp)
  clear h
  go_enter Tryz.func20, Tryz.ntmps20
  go_wp2_with (go_at_call 36; ((with_reducible refine (C.out).mono ?_); rintro e w1 ⟨rfl, rfl⟩))
  go_returns
  exact ⟨rfl, rfl⟩
theorem dbegin_full (h : DcA bd br bt n Y w F) (p : Nat) (hp : p < Y.g.length) (hf : 64 ≤ Y.st.length) : Calls Tryz.prog 20 #[.pointer (some ⟨bd, 0, none⟩), .int .i64 (p : Int)] w fun e w' => e = .returned (.tuple #[.int .i64 0, .int .i64 3]) ∧ w = w' := by
  have C := Lib.hid (sbad_no h p hp)
  have h8 := (Dc.n8 h).2.1
  obtain ⟨⟨a, c, c0⟩, -⟩ := Dc.facts h
  clear h
  have k1 : Y.st.length = 64 := by omega
  rw [k1] at c0
  go_enter Tryz.func20, Tryz.ntmps20
  go_wp2_with (go_at_call 36; ((with_reducible refine (C.out).mono ?_); rintro e w1 ⟨rfl, rfl⟩))
  go_returns
  exact ⟨rfl, rfl⟩
def Dx.beg (Y : Dx) (p : Nat) : Dx := { Y with st := Y.st ++ [1], sl := Y.sl ++ [false], Q := putP Y.Q p (Y.st.length : Int) }
theorem dbegin_any (h : DcA bd br bt n Y w F) (ok : QOk Y.Q) (p : Nat) (hp : p < Y.g.length) (hq : p < Y.Q.1.length) (hg : Y.st.length < 64) : Calls Tryz.prog 20 #[.pointer (some ⟨bd, 0, none⟩), .int .i64 (p : Int)] w fun e w' => e = .returned (.tuple #[.int .i64 (Y.st.length : Nat), .int .i64 0]) ∧ Goes (DcA bd br bt n (Y.beg p)) w w' F := by
  have C := Lib.hid (sbad_no h p hp)
  obtain ⟨F2, v1, v2, v3, v4, T, d, k⟩ := Dc.own h
  obtain ⟨c0, c1, -, -, c4, -, -, cf⟩ := d.facts
  have s64 := d.s64
  obtain ⟨a, cap, e1, hc1, hc2⟩ := d.l1.form
  obtain ⟨a2, cap2, e2, hc3, hc4⟩ := d.l2.form
  have HG : Hid (∀ w3 g3 o3 cap3, En.App inE (w.alloc (.cells #[.int .i64 1] 3)) w3 v1 Y.st [1] g3 o3 cap3 → (w3.cell? ⟨bd, 0, none⟩ = some v1 ∧ w3.cell? ⟨bd, 1, none⟩ = some v2 ∧ ∀ i, w3.frozen? ⟨bd, i, none⟩ = false) ∧
      En.Lies boE ((w3.setCell ⟨bd, 0, none⟩ (.slice (some ⟨g3, o3, none⟩) (Y.st.length + 1) cap3)).alloc (.cells #[.bool false] 4)) v2 Y.sl ∧
      ∀ w6 g6 o6 cap6, En.App boE ((w3.setCell ⟨bd, 0, none⟩ (.slice (some ⟨g3, o3, none⟩) (Y.st.length + 1) cap3)).alloc (.cells #[.bool false] 4)) w6 v2 Y.sl [false] g6 o6 cap6 → (w6.cell? ⟨bd, 1, none⟩ = some v2 ∧ w6.cell? ⟨bd, 4, none⟩ = some (.pointer (some ⟨br, 0, none⟩)) ∧ ∀ i, w6.frozen? ⟨bd, i, none⟩ = false) ∧
        Calls Tryz.prog 41 #[.pointer (some ⟨br, 0, none⟩), .int .i64 (p : Int), .int .i64 (Y.st.length : Nat)] (w6.setCell ⟨bd, 1, none⟩ (.slice (some ⟨g6, o6, none⟩) (Y.st.length + 1) cap6)) fun e w' => e = .returned (.int .i64 0) ∧ Goes (DcA bd br bt n (Y.beg p)) w w' F) := Lib.hid fun w3 g3 o3 cap3 hA => by
    have a1 := append_v ((Cha.refl (fun _ => False) w).alloc _) hA
    have hh1 := (a1.cha.old bd (d.old _ d.tg.2) (fun e => by have := (d.t1 bd e).1; have := d.tg.1; omega)).trans d.head
    have hh2 := heap_setCell_same w3 bd 0 _ 42 (.slice (some ⟨g3, o3, none⟩) (Y.st.length + 1) cap3) hh1
    have cc1 : Cha (fun i => i = bd) w3 (w3.setCell ⟨bd, 0, none⟩ (.slice (some ⟨g3, o3, none⟩) (Y.st.length + 1) cap3)) := (Cha.refl (fun j => j = bd) w3).setCell (p := ⟨bd, 0, none⟩) (fun _ => rfl) _
    have L2 : En.Lies boE (w3.setCell ⟨bd, 0, none⟩ (.slice (some ⟨g3, o3, none⟩) (Y.st.length + 1) cap3)) v2 Y.sl :=
      (d.l2.cha a1.cha fun b e x => by have := (d.t1 b x).1; have := (d.t2 b e).1; omega).cha cc1 fun b e x => by have := (d.t2 b e).1; have := d.tg.1; rw [x] at *; omega
    refine ⟨⟨cell_of_row w3 bd 0 _ 42 (0, 0) hh1, cell_of_row w3 bd 1 _ 42 (0, 0) hh1, fun i => frozen_of_row w3 bd i _ 42 hh1⟩, L2.same ((Cha.refl (fun _ => False) _).alloc _), fun w6 g6 o6 cap6 hA6 => ?_⟩
    have a2 := append_v ((Cha.refl (fun _ => False) (w3.setCell ⟨bd, 0, none⟩ (.slice (some ⟨g3, o3, none⟩) (Y.st.length + 1) cap3))).alloc _) hA6
    have hsz : bd < (w3.setCell ⟨bd, 0, none⟩ (.slice (some ⟨g3, o3, none⟩) (Y.st.length + 1) cap3)).heap.size := by have := d.old _ d.tg.2; have := a1.cha.size; have := cc1.size; omega
    have hh3 := (a2.cha.old bd hsz (fun e => by have := (d.t2 bd e).1; have := d.tg.1; omega)).trans hh2
    refine ⟨⟨cell_of_row w6 bd 1 _ 42 (0, 0) hh3, cell_of_row w6 bd 4 _ 42 (0, 0) hh3, fun i => frozen_of_row w6 bd i _ 42 hh3⟩, ?_⟩
    rw [s64] at a2
    obtain ⟨F', T', d', cd, nd⟩ := d.grow a1 a2 (by simp only [List.length_append, List.length_singleton]; omega) (by simp only [List.length_append, List.length_singleton]; omega)
    have G := k _ _ _ _ _ _ ⟨F', ⟨_, _, _, _, _, d'⟩, cd, nd⟩
    exact G.next fun F3 h3 => dc_put h3 ok p (Y.st.length : Nat) hq (by omega)
  have HL := Lib.hid (d.l1.same ((Cha.refl (fun _ => False) w).alloc (.cells #[.int .i64 1] 3)))
  have HN := Lib.hid (En.just_new inE w (1 : Int) 3)
  have HN2 : Hid (∀ (W : World) (A : Addr) (v : Value), ∀ j u, (boE.cs [false])[j]? = some u → ((W.setCell A v).alloc (.cells #[.bool false] 4)).cell? ((⟨W.heap.size, 0, none⟩ : Addr).add j) = some u) := Lib.hid fun W A v => by
    have := En.just_new boE (W.setCell A v) false 4
    rw [World.size_setCell] at this
    exact this
  have B1 : Hid (Y.st.length + [(1 : Int)].length ≤ maxLen) := Lib.hid (by simp only [List.length_singleton]; unfold maxLen; omega)
  have B2 : Hid ((Y.st.length + [(1 : Int)].length) * inE.b ≤ 140737488355328) := Lib.hid (by simp only [List.length_singleton]; show _ * 8 ≤ _; omega)
  have B3 : Hid (Y.sl.length + [false].length ≤ maxLen) := Lib.hid (by simp only [List.length_singleton]; unfold maxLen; omega)
  have B4 : Hid ((Y.sl.length + [false].length) * boE.b ≤ 140737488355328) := Lib.hid (by simp only [List.length_singleton]; show _ * 1 ≤ _; omega)
  clear h d k ok hq
  have e3 : v2 = .slice a2 Y.st.length cap2 := by rw [← s64]; exact e2
  clear e2
  subst e1 e3
  go_enter Tryz.func20, Tryz.ntmps20
  go_wp2_with (first
    | (go_at_call 36; ((with_reducible refine (C.out).mono ?_); rintro e w1 ⟨rfl, rfl⟩))
    | (at_builtin; refine En.wpList_app inE_ok rfl (.tmp 25) (.tmp 26) rfl rfl HL.out ⟨w.heap.size, 0, none⟩ 1 1 [(1 : Int)] rfl rfl HN.out Nat.zero_lt_one B1.out B2.out ?_; intro g3 o3 cap3 w3 hA3; obtain ⟨⟨k5, k6, k7⟩, kl, kk⟩ := HG.out w3 _ _ _ hA3; have HL2 := Lib.hid kl; have A3 := Lib.hid kk; clear kk kl hA3; dsimp only [List.length_singleton])
    | (at_builtin; go_loud (refine En.wpList_app boE_ok rfl (.tmp 34) (.tmp 35) rfl rfl HL2.out ⟨_, 0, none⟩ 1 1 [false] rfl rfl (HN2.out _ _ _) Nat.zero_lt_one B3.out B4.out ?_; intro g6 o6 cap6 w6 hA6; obtain ⟨⟨k8, k9, k10⟩, kk⟩ := A3.out w6 _ _ _ hA6; have A6 := Lib.hid kk; clear kk hA6; simp only [List.length_singleton, s64]))
    | (go_at_call 41; ((with_reducible refine (A6.out).mono ?_); rintro e w4 ⟨rfl, hG⟩; have HG4 := Lib.hid hG; clear hG)))
  go_returns
  exact ⟨rfl, HG4.out⟩
end
end Go.Proofs.YtaloafihbdamiaaGreat
