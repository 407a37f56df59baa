/- Layer 7's state, for a law. -/
import Derived.Test.YtiboobaggpghjaaDoorDR
namespace Go.Proofs.YtiboobaggpghjaaDoor
open Go.ChangeShapes Go.WideShapes Go.ChangeAt Go.RowKit
variable {n pr bc : Nat} {F : Nat → Prop} {a : Ad} {W0 W : World} {A A' : List Bk} {y : Bk}

/-- A law's room of cells: its own cells are F's. -/
def Oc (n pr : Nat) (F : Nat → Prop) (bc : Nat) (W : World) (A : List Bk) : Prop := ∃ a : Ad, a.bc = bc ∧ Cl n pr F a W A ∧ Live A
theorem Oc.inv (h : Oc n pr F bc W A) : Inv n pr A := by obtain ⟨a, _, h, _⟩ := h; exact h.inv
theorem Oc.live (h : Oc n pr F bc W A) : Live A := by obtain ⟨a, _, _, h⟩ := h; exact h
theorem Oc.lt (h : Oc n pr F bc W A) {i : Nat} (hi : F i) : i < W.heap.size := by obtain ⟨a, _, h, _⟩ := h; exact h.lt i hi
theorem Oc.f0 (h : Oc n pr F bc W A) : ¬ F 0 := by obtain ⟨a, _, h, _⟩ := h; exact h.f0
theorem Oc.siz (h : Oc n pr F bc W A) : Siz W := by obtain ⟨a, _, h, _⟩ := h; exact h.siz
theorem Oc.len (h : Oc n pr F bc W A) : n ≤ 4096 ∧ A.length ≤ n ∧ 1 ≤ pr ∧ pr ≤ 8 := by obtain ⟨a, _, h, _⟩ := h; exact ⟨h.nle.1, h.nle.2, h.prr.1, h.prr.2⟩
theorem Oc.cha {S : Nat → Prop} {W' : World} (h : Oc n pr F bc W A) (c : Cha S W W') (hs : ∀ i, F i → ¬ S i) (h0 : ¬ S 0) : Oc n pr F bc W' A := by
  obtain ⟨a, e, h, hl⟩ := h; exact ⟨a, e, h.cha c hs h0, hl⟩
theorem Oc.same {W' : World} (h : Oc n pr F bc W A) (c : Cha (fun _ => False) W W') : Oc n pr F bc W' A := h.cha c (fun _ _ x => x) (fun x => x)
/-- The room is turned. -/
def Nx (n pr : Nat) (F : Nat → Prop) (bc : Nat) (W : World) (A' : List Bk) (w' : World) : Prop :=
  ∃ F', Oc n pr F' bc w' A' ∧ Cha F W w' ∧ (∀ i, F i → F' i) ∧ ∀ i, F' i → F i ∨ W.heap.size ≤ i
theorem Nx.of {w' : World} (h : Oc n pr F bc w' A') (c : Cha F W w') : Nx n pr F bc W A' w' := ⟨F, h, c, fun _ h => h, fun _ h => .inl h⟩
theorem oc_new (n p : Nat) (w : World) (hn1 : 1 ≤ n) (hn2 : n ≤ 4096) (hp1 : 1 ≤ p) (hp2 : p ≤ 8) (hs : Siz w) : Calls Tryd.prog 21 #[.int .i64 (n : Int), .int .i64 (p : Int)] w fun e w' => ∃ bc, e = .returned (.tuple #[.pointer (some ⟨bc, 0, none⟩), .int .i64 0]) ∧ ∃ F, Oc n p F bc w' [] ∧ Cha (fun _ => False) w w' ∧ ∀ i, F i → w.heap.size ≤ i :=
  (cnew_ok n p w hn1 hn2 hp1 hp2 hs).mono fun _ _ ⟨F, a, he, h, c, hf⟩ => ⟨a.bc, he, F, ⟨a, rfl, h, live_nil⟩, c, hf⟩
theorem oc_alloc (h : Oc n pr F bc W A) {p m x r : Int} (c : Alo n pr A p m A' x r) (hm : m ≤ 9223372036854775807) : Calls Tryd.prog 31 #[.pointer (some ⟨bc, 0, none⟩), .int .i64 p, .int .i64 m] W fun e w' => e = .returned (.tuple #[.int .i64 x, .int .i64 r]) ∧ Nx n pr F bc W A' w' := by
  obtain ⟨a, rfl, h, hl⟩ := h
  refine (alloc7_any h hl c hm).mono ?_
  rintro e w' ⟨he, F', a', hg⟩
  exact ⟨he, F', ⟨a', hg.bc, hg.cl, c.live h.inv hl⟩, hg.cha, hg.sup, hg.sub⟩
theorem oc_free (h : Oc n pr F bc W A) {x r : Int} (c : Fre7 A x A' r) (hx : x ≤ 9223372036854775807) : Calls Tryd.prog 32 #[.pointer (some ⟨bc, 0, none⟩), .int .i64 x] W fun e w' => e = .returned (.int .i64 r) ∧ Oc n pr F bc w' A' ∧ Cha F W w' := by
  obtain ⟨a, rfl, h, hl⟩ := h
  refine (free7_any h hl c hx).mono ?_
  rintro e w' ⟨he, hc, hch⟩
  refine ⟨he, ⟨a, rfl, hc, ?_⟩, hch⟩
  cases c with
  | no _ => exact hl
  | mid _ _ _ _ => exact hl
  | yes y i _ _ => exact live_filter _
theorem oc_flush (h : Oc n pr F bc W A) (p : Nat) (hp : p < pr) : Calls Tryd.prog 33 #[.pointer (some ⟨bc, 0, none⟩), .int .i64 (p : Int)] W fun e w' => e = .returned (.int .i64 0) ∧ Oc n pr F bc w' (flushed A p) ∧ Cha F W w' := by
  obtain ⟨a, rfl, h, hl⟩ := h
  refine (flush_ok h hl p hp).mono ?_
  rintro e w' ⟨he, hc, hch⟩
  exact ⟨he, ⟨a, rfl, hc, live_filter _⟩, hch⟩
theorem oc_flush_bad (h : Oc n pr F bc W A) (p : Int) (hp : p < 0 ∨ (pr : Int) ≤ p) : Calls Tryd.prog 33 #[.pointer (some ⟨bc, 0, none⟩), .int .i64 p] W fun e w' => e = .returned (.int .i64 1) ∧ Oc n pr F bc w' A ∧ Cha F W w' := by
  obtain ⟨a, rfl, h, hl⟩ := h
  refine (flush_bad h p hp).mono ?_
  rintro e w' ⟨he, hc, hch⟩
  exact ⟨he, ⟨a, rfl, hc, hl⟩, hch⟩
theorem oc_pages (h : Oc n pr F bc W A) {m x r : Int} (c : Pgs7 n A m A' x r) (hm : m ≤ 9223372036854775807) : Calls Tryd.prog 34 #[.pointer (some ⟨bc, 0, none⟩), .int .i64 m] W fun e w' => e = .returned (.tuple #[.int .i64 x, .int .i64 r]) ∧ Oc n pr F bc w' A' ∧ Cha F W w' := by
  obtain ⟨a, rfl, h, hl⟩ := h
  refine (pages7_any h c hm).mono ?_
  rintro e w' ⟨he, hc, hch⟩
  refine ⟨he, ⟨a, rfl, hc, ?_⟩, hch⟩
  cases c with
  | no _ _ _ => exact hl
  | ok b k _ _ =>
    intro z hz
    rcases List.mem_append.1 hz with hz | hz
    · exact hl z hz
    · obtain rfl := List.mem_singleton.1 hz
      exact keep_iff.2 (.inl rfl)
theorem oc_give (h : Oc n pr F bc W A) {x r : Int} (c : Giv7 A x A' r) : Calls Tryd.prog 35 #[.pointer (some ⟨bc, 0, none⟩), .int .i64 x] W fun e w' => e = .returned (.int .i64 r) ∧ Oc n pr F bc w' A' ∧ Cha F W w' := by
  obtain ⟨a, rfl, h, hl⟩ := h
  refine (give7_any h c).mono ?_
  rintro e w' ⟨he, hc, hch⟩
  refine ⟨he, ⟨a, rfl, hc, ?_⟩, hch⟩
  cases c with
  | no _ => exact hl
  | yes y _ _ _ => exact fun z hz => hl z (mem_rem.1 hz).1
theorem oc_find (h : Oc n pr F bc W A) {x : Int} {i : Nat} (hh : Hit A x y i) : Calls Tryd.prog 25 #[.pointer (some ⟨bc, 0, none⟩), .int .i64 x] W fun e w' => e = .returned (.tuple #[.int .i64 ((y.b * 64 + i * y.wd : Nat) : Int), .int .i64 (y.wd : Int), .bool true]) ∧ Oc n pr F bc w' A ∧ Cha (fun _ => False) W w' := by
  have h0 := h
  obtain ⟨a, rfl, h, hl⟩ := h
  exact (cfind_yes h hh).mono fun e w' ⟨he, hc⟩ => ⟨he, h0.same hc, hc⟩
theorem oc_find_no (h : Oc n pr F bc W A) {x : Int} (hx : x ≤ 9223372036854775807) (hn : NoHit A x) : Calls Tryd.prog 25 #[.pointer (some ⟨bc, 0, none⟩), .int .i64 x] W fun e w' => e = .returned (.tuple #[.int .i64 0, .int .i64 0, .bool false]) ∧ Oc n pr F bc w' A ∧ Cha (fun _ => False) W w' := by
  have h0 := h
  obtain ⟨a, rfl, h, hl⟩ := h
  exact (cfind_no h hx hn).mono fun e w' ⟨he, hc⟩ => ⟨he, h0.same hc, hc⟩
theorem oc_used (h : Oc n pr F bc W A) (page : Int) : Calls Tryd.prog 27 #[.pointer (some ⟨bc, 0, none⟩), .int .i64 page] W fun e w' => e = .returned (.bool (covI A page)) ∧ Oc n pr F bc w' A ∧ Cha (fun _ => False) W w' := by
  have h0 := h
  obtain ⟨a, rfl, h, hl⟩ := h
  exact (cused_any h page).mono fun e w' ⟨he, hc⟩ => ⟨he, h0.same hc, hc⟩
theorem oc_counts (h : Oc n pr F bc W A) : Calls Tryd.prog 29 #[.pointer (some ⟨bc, 0, none⟩)] W fun e w' => e = .returned (.tuple #[.int .i64 (sumA fC A : Int), .int .i64 (sumA fW A : Int), .int .i64 (cntF (isU (covA A) n) n : Nat)]) ∧ Oc n pr F bc w' A ∧ Cha (fun _ => False) W w' := by
  have h0 := h
  obtain ⟨a, rfl, h, hl⟩ := h
  exact (counts7_any h).mono fun e w' ⟨he, hc⟩ => ⟨he, h0.same hc, hc⟩

/-! ### A room that the arguments know nothing of -/
structure St (n pr bc : Nat) (W0 W : World) (A : List Bk) : Prop where
  ex : ∃ F, Oc n pr F bc W A ∧ ∀ i, F i → W0.heap.size ≤ i
  cha : Cha (fun _ => False) W0 W
theorem st_new (n p : Nat) (w : World) (hn1 : 1 ≤ n) (hn2 : n ≤ 4096) (hp1 : 1 ≤ p) (hp2 : p ≤ 8) (hs : Siz w) : Calls Tryd.prog 21 #[.int .i64 (n : Int), .int .i64 (p : Int)] w fun e w' => ∃ bc, e = .returned (.tuple #[.pointer (some ⟨bc, 0, none⟩), .int .i64 0]) ∧ St n p bc w w' [] :=
  (oc_new n p w hn1 hn2 hp1 hp2 hs).mono fun _ _ ⟨bc, he, F, h, c, hf⟩ => ⟨bc, he, ⟨F, h, hf⟩, c⟩
theorem St.nx {w' : World} (h : St n pr bc W0 W A) (hx : ∀ F, Oc n pr F bc W A → Nx n pr F bc W A' w') : St n pr bc W0 w' A' := by
  obtain ⟨⟨F, h, hf⟩, c⟩ := h
  obtain ⟨F', k1, k2, k3, k4⟩ := hx F h
  have := c.size
  refine ⟨⟨F', k1, fun i hi => ?_⟩, c.over k2 fun i hi => .inr (hf i hi)⟩
  rcases k4 i hi with e | e
  · exact hf i e
  · omega
variable (h : St n pr bc W0 W A)
include h
theorem st_alloc {p m x r : Int} (c : Alo n pr A p m A' x r) (hm : m ≤ 9223372036854775807) : Calls Tryd.prog 31 #[.pointer (some ⟨bc, 0, none⟩), .int .i64 p, .int .i64 m] W fun e w' => e = .returned (.tuple #[.int .i64 x, .int .i64 r]) ∧ St n pr bc W0 w' A' := by
  obtain ⟨⟨F, k, hf⟩, hc⟩ := h
  refine (oc_alloc k c hm).mono ?_
  rintro e w' ⟨he, F', k1, k2, k3, k4⟩
  have := hc.size
  refine ⟨he, ⟨F', k1, fun i hi => ?_⟩, hc.over k2 fun i hi => .inr (hf i hi)⟩
  rcases k4 i hi with e | e
  · exact hf i e
  · omega
theorem st_free {x r : Int} (c : Fre7 A x A' r) (hx : x ≤ 9223372036854775807) : Calls Tryd.prog 32 #[.pointer (some ⟨bc, 0, none⟩), .int .i64 x] W fun e w' => e = .returned (.int .i64 r) ∧ St n pr bc W0 w' A' := by
  obtain ⟨⟨F, k, hf⟩, hc⟩ := h
  exact (oc_free k c hx).mono fun e w' ⟨he, k1, k2⟩ => ⟨he, ⟨F, k1, hf⟩, hc.over k2 fun i hi => .inr (hf i hi)⟩
theorem st_flush (p : Nat) (hp : p < pr) : Calls Tryd.prog 33 #[.pointer (some ⟨bc, 0, none⟩), .int .i64 (p : Int)] W fun e w' => e = .returned (.int .i64 0) ∧ St n pr bc W0 w' (flushed A p) := by
  obtain ⟨⟨F, k, hf⟩, hc⟩ := h
  exact (oc_flush k p hp).mono fun e w' ⟨he, k1, k2⟩ => ⟨he, ⟨F, k1, hf⟩, hc.over k2 fun i hi => .inr (hf i hi)⟩
theorem st_flush_bad (p : Int) (hp : p < 0 ∨ (pr : Int) ≤ p) : Calls Tryd.prog 33 #[.pointer (some ⟨bc, 0, none⟩), .int .i64 p] W fun e w' => e = .returned (.int .i64 1) ∧ St n pr bc W0 w' A := by
  obtain ⟨⟨F, k, hf⟩, hc⟩ := h
  exact (oc_flush_bad k p hp).mono fun e w' ⟨he, k1, k2⟩ => ⟨he, ⟨F, k1, hf⟩, hc.over k2 fun i hi => .inr (hf i hi)⟩
theorem st_give {x r : Int} (c : Giv7 A x A' r) : Calls Tryd.prog 35 #[.pointer (some ⟨bc, 0, none⟩), .int .i64 x] W fun e w' => e = .returned (.int .i64 r) ∧ St n pr bc W0 w' A' := by
  obtain ⟨⟨F, k, hf⟩, hc⟩ := h
  exact (oc_give k c).mono fun e w' ⟨he, k1, k2⟩ => ⟨he, ⟨F, k1, hf⟩, hc.over k2 fun i hi => .inr (hf i hi)⟩
theorem st_find {x : Int} {i : Nat} (hh : Hit A x y i) : Calls Tryd.prog 25 #[.pointer (some ⟨bc, 0, none⟩), .int .i64 x] W fun e w' => e = .returned (.tuple #[.int .i64 ((y.b * 64 + i * y.wd : Nat) : Int), .int .i64 (y.wd : Int), .bool true]) ∧ St n pr bc W0 w' A := by
  obtain ⟨⟨F, k, hf⟩, hc⟩ := h
  exact (oc_find k hh).mono fun e w' ⟨he, k1, k2⟩ => ⟨he, ⟨F, k1, hf⟩, hc.trans k2⟩
theorem st_used (page : Int) : Calls Tryd.prog 27 #[.pointer (some ⟨bc, 0, none⟩), .int .i64 page] W fun e w' => e = .returned (.bool (covI A page)) ∧ St n pr bc W0 w' A := by
  obtain ⟨⟨F, k, hf⟩, hc⟩ := h
  exact (oc_used k page).mono fun e w' ⟨he, k1, k2⟩ => ⟨he, ⟨F, k1, hf⟩, hc.trans k2⟩
theorem st_counts : Calls Tryd.prog 29 #[.pointer (some ⟨bc, 0, none⟩)] W fun e w' => e = .returned (.tuple #[.int .i64 (sumA fC A : Int), .int .i64 (sumA fW A : Int), .int .i64 (cntF (isU (covA A) n) n : Nat)]) ∧ St n pr bc W0 w' A := by
  obtain ⟨⟨F, k, hf⟩, hc⟩ := h
  exact (oc_counts k).mono fun e w' ⟨he, k1, k2⟩ => ⟨he, ⟨F, k1, hf⟩, hc.trans k2⟩
end Go.Proofs.YtiboobaggpghjaaDoor
