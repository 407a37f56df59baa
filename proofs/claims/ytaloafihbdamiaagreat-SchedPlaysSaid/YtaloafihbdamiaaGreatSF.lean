/- The scheduler: queues, timers and its own blocks beside one another. -/
import Derived.Test.YtaloafihbdamiaaGreatSB
import Derived.Test.YtaloafihbdamiaaGreatQA
import Derived.Test.YtaloafihbdamiaaGreatTU
import Derived.Handy
import Derived.Deep.RegionLaw
import Derived.Deep.RegionHeld3
namespace Go.Proofs.YtaloafihbdamiaaGreat
open Go.ChangeShapes Go.WideShapes Go.ChangeAt Go.RowKit

/-- The scheduler, plainly: queues, timers, how many were ever added, of each processor its goroutine and how often it went on, the goroutines, the clock. -/
structure Sx where
  Q : St
  P : List (List Ent)
  a : Int
  pr : List (Int × Int)
  gs : List (Int × Bool)
  clk : Int
def QuA (bq : Nat) (s : St) : Asn := fun w F => ∃ bp z v, Qs w F bq bp z s.1 v s.2
def TiA (bt : Nat) (P : List (List Ent)) (a : Int) : Asn := fun w F => ∃ bp lv, Ts w F bt bp lv P a
/-- A list of ints of one's own. -/
def LiA (v : Value) (A : List Int) : Asn := fun w F => Lies w v A ∧ (∀ g, v.ownBlock = some g → F g) ∧ ∀ i, F i → i < w.heap.size
section
variable {w w' : World} {F T : Nat → Prop} {bq bt bp : Nat} {lv : Nat → Value} {P : List (List Ent)} {a : Int} {s : St} {S : List Prc} {A : List Int} {v : Value}
theorem fit_qu : Fit (QuA bq s) := ⟨fun ⟨bp, z, v, h⟩ c hs => ⟨bp, z, v, h.cha c hs⟩, fun ⟨_, _, _, h⟩ => h.old⟩
theorem Ts.cha (h : Ts w F bt bp lv P a) (c : Cha T w w') (hs : ∀ i, F i → ¬ T i) : Ts w' F bt bp lv P a :=
  ⟨(c.old bt (h.old _ h.ft) (hs _ h.ft)).trans h.head, h.k1, h.k8, c.row h.tab (hs _ h.fp), fun p L hp => (h.lst p L hp).cha c fun g e => hs g (h.fv p g (List.getElem?_eq_some_iff.1 hp).1 e).1, h.ne, h.ft, h.fp, h.fv, h.fpq, fun i hi => Nat.lt_of_lt_of_le (h.old i hi) c.size⟩
theorem fit_ti : Fit (TiA bt P a) := ⟨fun ⟨bp, lv, h⟩ c hs => ⟨bp, lv, h.cha c hs⟩, fun ⟨_, _, h⟩ => h.old⟩
theorem fit_li : Fit (LiA v A) := ⟨fun ⟨h, f, o⟩ c hs => ⟨h.cha c fun g e => hs g (f g e), f, fun i x => Nat.lt_of_lt_of_le (o i x) c.size⟩, fun ⟨_, _, o⟩ => o⟩
theorem goes_left (h : Left w w' F bq bp S A) : Goes (QuA bq (S, A)) w w' F := by
  obtain ⟨F', z, v, q, c, _, n⟩ := h
  exact ⟨F', ⟨bp, z, v, q⟩, c, n⟩
theorem goes_tleft (h : TLeft w w' F bt bp P a) : Goes (TiA bt P a) w w' F := by
  obtain ⟨F', lv, q, c, _, n⟩ := h
  exact ⟨F', ⟨bp, lv, q⟩, c, n⟩
end
section
variable {P P' Q R : Asn} {w w' w1 w2 : World} {F : Nat → Prop}
theorem Star.split (k : Fit Q) (h : Star P Q w F) : ∃ F1, P w F1 ∧ (∀ i, F1 i → F i) ∧ ∀ (P' : Asn) (w' : World), Fit P' → Goes P' w w' F1 → Goes (Star P' Q) w w' F := by
  obtain ⟨F1, F2, a, b, d, e1, e2, o⟩ := h
  refine ⟨F1, a, e1, fun P' w' k' ⟨F3, q, c, n⟩ => ?_⟩
  refine ⟨fun i => F i ∨ F3 i, ⟨F3, F2, q, k.cha b c (fun i x y => d i y x), fun i x y => ?_, fun i x => .inr x, fun i x => .inl (e2 i x), fun i x => ?_⟩, c.mono fun i _ x => e1 i x, fun i x => ?_⟩
  · rcases n i x with z | z
    · exact d i z y
    · have := o i (e2 i y); omega
  · rcases x with x | x
    · exact Nat.lt_of_lt_of_le (o i x) c.size
    · exact k'.old q i x
  · rcases x with x | x
    · exact .inl x
    · exact (n i x).imp (e1 i) id
theorem Goes.swap (h : Goes (Star P Q) w w' F) : Goes (Star Q P) w w' F := h.mono fun _ q => q.swap
theorem Star.splitR (k : Fit P) (h : Star P Q w F) : ∃ F1, Q w F1 ∧ (∀ i, F1 i → F i) ∧ ∀ (Q' : Asn) (w' : World), Fit Q' → Goes Q' w w' F1 → Goes (Star P Q') w w' F := by
  obtain ⟨F1, a, e, n⟩ := Star.split k h.swap
  exact ⟨F1, a, e, fun Q' w' f g => (n Q' w' f g).swap⟩
/-- Three things, taken together otherwise. -/
theorem Star.assoc (h : Star P (Star Q R) w F) : Star (Star P Q) R w F := by
  obtain ⟨F1, F2, p, ⟨F3, F4, q, r, d2, e3, e4, o2⟩, d, e1, e2, o⟩ := h
  exact ⟨fun i => F1 i ∨ F3 i, F4, ⟨F1, F3, p, q, fun i x y => d i x (e3 i y), fun _ x => .inl x, fun _ x => .inr x, fun i x => o i (x.elim (e1 i) fun y => e2 i (e3 i y))⟩, r, fun i x y => x.elim (fun z => d i z (e4 i y)) fun z => d2 i z y, fun i x => x.elim (e1 i) fun y => e2 i (e3 i y), fun i x => e2 i (e4 i x), o⟩
theorem Star.monoL (h : Star P Q w F) (k : ∀ F, P w F → P' w F) : Star P' Q w F := by
  obtain ⟨F1, F2, a, b, r⟩ := h
  exact ⟨F1, F2, k F1 a, b, r⟩
theorem Star.rot (h : Star (Star P R) Q w F) : Star (Star P Q) R w F := by
  have k : Star Q (Star P R) w F := h.swap
  exact (Star.monoL k.assoc fun _ x => x.swap)
theorem Goes.next (h : Goes P w w1 F) {f : FuncId} {args : Array Value} {v : Ending} (k : ∀ F1, P w1 F1 → Calls Tryz.prog f args w1 fun e w' => e = v ∧ Goes P' w1 w' F1) : Calls Tryz.prog f args w1 fun e w' => e = v ∧ Goes P' w w' F := by
  obtain ⟨F1, q, c, n⟩ := h
  refine (k F1 q).mono fun e w' ⟨he, F2, q2, c2, n2⟩ => ⟨he, F2, q2, c.over c2 n, fun i hi => ?_⟩
  rcases n2 i hi with e | e
  · exact n i e
  · exact .inr (Nat.le_trans c.size e)
theorem Goes.chain (h : Goes P w w1 F) (k : ∀ F1, P w1 F1 → Goes P' w1 w2 F1) : Goes P' w w2 F := h.trans k
end
def ScA (bs bq bt b3 : Nat) (X : Sx) : Asn := Star (Star (QuA bq X.Q) (TiA bt X.P X.a)) (OwA bs bq bt b3 X.pr X.gs X.clk)
section
variable {w w' : World} {F : Nat → Prop} {bs bq bt b3 : Nat} {X : Sx}
theorem fit_sc : Fit (ScA bs bq bt b3 X) := (fit_qu.star fit_ti).star fit_ow
theorem Sc.own (h : ScA bs bq bt b3 X w F) : ∃ F2 gv, Ow w F2 bs bq bt b3 gv X.pr X.gs X.clk ∧ (∀ i, F2 i → F i) ∧ ∀ pr gs clk w', Goes (OwA bs bq bt b3 pr gs clk) w w' F2 → Goes (ScA bs bq bt b3 { X with pr := pr, gs := gs, clk := clk }) w w' F := by
  obtain ⟨F2, ⟨gv, a⟩, e, k⟩ := Star.splitR (fit_qu.star fit_ti) h
  exact ⟨F2, gv, a, e, fun pr gs clk w' g => k _ w' fit_ow g⟩
theorem Sc.que (h : ScA bs bq bt b3 X w F) : ∃ F2 bp z v, Qs w F2 bq bp z X.Q.1 v X.Q.2 ∧ ∀ s w', Goes (QuA bq s) w w' F2 → Goes (ScA bs bq bt b3 { X with Q := s }) w w' F := by
  obtain ⟨F1, a, _, k⟩ := Star.split fit_ow h
  obtain ⟨F2, ⟨bp, z, v, q⟩, _, k2⟩ := Star.split fit_ti a
  exact ⟨F2, bp, z, v, q, fun s w' g => k _ w' (fit_qu.star fit_ti) (k2 _ w' fit_qu g)⟩
theorem Sc.tim (h : ScA bs bq bt b3 X w F) : ∃ F2 bp lv, Ts w F2 bt bp lv X.P X.a ∧ (∀ P a w', Goes (TiA bt P a) w w' F2 → Goes (ScA bs bq bt b3 { X with P := P, a := a }) w w' F) ∧
    ∀ P a v A w', Goes (Star (TiA bt P a) (LiA v A)) w w' F2 → Goes (Star (ScA bs bq bt b3 { X with P := P, a := a }) (LiA v A)) w w' F := by
  obtain ⟨F1, a, _, k⟩ := Star.split fit_ow h
  obtain ⟨F2, ⟨bp, lv, q⟩, _, k2⟩ := Star.splitR fit_qu a
  exact ⟨F2, bp, lv, q, fun P a w' g => k _ w' (fit_qu.star fit_ti) (k2 _ w' fit_ti g), fun P a v A w' g => (k _ w' (fit_qu.star (fit_ti.star fit_li)) (k2 _ w' (fit_ti.star fit_li) g)).mono fun _ x => Star.rot (x.monoL fun _ y => y.assoc)⟩
theorem sc_put (h : ScA bs bq bt b3 X w F) (p : Nat) (g : Int) (hp : p < X.Q.1.length) (hg : 0 ≤ g) (hA : X.Q.2.length + 5 ≤ 17592186044416) :
    Calls Tryz.prog 51 #[.pointer (some ⟨bq, 0, none⟩), .int .i64 (p : Int), .int .i64 g] w fun e w' => e = .returned (.int .i64 0) ∧ Goes (ScA bs bq bt b3 { X with Q := putP X.Q p g }) w w' F := by
  obtain ⟨F2, bp, z, v, q, k⟩ := Sc.que h
  exact (put_any p g q hp hg hA).mono fun e w' ⟨a, l⟩ => ⟨a, k _ w' (goes_left l)⟩
theorem sc_last (h : ScA bs bq bt b3 X w F) (g : Int) (hg : 0 ≤ g) (hA : X.Q.2.length + 5 ≤ 17592186044416) :
    Calls Tryz.prog 63 #[.pointer (some ⟨bq, 0, none⟩), .int .i64 g] w fun e w' => e = .returned (.int .i64 0) ∧ Goes (ScA bs bq bt b3 { X with Q := (X.Q.1, X.Q.2 ++ [g]) }) w w' F := by
  obtain ⟨F2, bp, z, v, q, k⟩ := Sc.que h
  exact (last_any g q hg hA).mono fun e w' ⟨a, l⟩ => ⟨a, k _ w' (goes_left l)⟩
theorem sc_get (h : ScA bs bq bt b3 X w F) (p : Nat) (s : Int) (hp : p < X.Q.1.length) :
    Calls Tryz.prog 54 #[.pointer (some ⟨bq, 0, none⟩), .int .i64 (p : Int), .int .i64 s] w fun e w' => e = .returned (.tuple #[.int .i64 (getP X.Q p s).1.1, .bool (getP X.Q p s).1.2]) ∧ Goes (ScA bs bq bt b3 { X with Q := (getP X.Q p s).2 }) w w' F := by
  obtain ⟨F2, bp, z, v, q, k⟩ := Sc.que h
  exact (get_any p s q hp).mono fun e w' ⟨a, l⟩ => ⟨a, k _ w' (goes_left l)⟩
theorem sc_waiting (h : ScA bs bq bt b3 X w F) (p : Nat) (hp : p < X.Q.1.length) :
    Calls Tryz.prog 52 #[.pointer (some ⟨bq, 0, none⟩), .int .i64 (p : Int)] w fun e w' => e = .returned (.tuple #[.int .i64 (cnt (X.Q.1.getD p (-1, [])) : Nat), .int .i64 (X.Q.2.length : Nat)]) ∧ Cha (fun _ => False) w w' := by
  obtain ⟨F2, bp, z, v, q, k⟩ := Sc.que h
  exact (waiting_any p q hp).mono fun e w' ⟨a, n, l⟩ => ⟨a, by rw [l]; exact (Cha.refl _ w).drewN n⟩
theorem sc_next (h : ScA bs bq bt b3 X w F) (p : Nat) (hp : p < X.P.length) :
    Calls Tryz.prog 88 #[.pointer (some ⟨bt, 0, none⟩), .int .i64 (p : Int)] w fun e w' => e = .returned (.tuple #[.int .u64 (((X.P.getD p []).head?.map Ent.when).getD 0), .bool (X.P.getD p []).head?.isSome]) ∧ w = w' := by
  obtain ⟨F2, bp, lv, q, k⟩ := Sc.tim h
  have e : X.P[p]? = some (X.P.getD p []) := by simp [List.getD, hp]
  cases hL : X.P.getD p [] with
  | nil => rw [hL] at e; exact tnext_zero p q e
  | cons y l => rw [hL] at e; exact tnext_some p q e
theorem sc_count (h : ScA bs bq bt b3 X w F) (hm : many X.P ≤ 1024) :
    Calls Tryz.prog 34 #[.pointer (some ⟨bt, 0, none⟩)] w fun e w' => e = .returned (.int .i64 (many X.P : Int)) ∧ Cha (fun _ => False) w w' := by
  obtain ⟨F2, bp, lv, q, k⟩ := Sc.tim h
  exact (tcount_any q hm).mono fun e w' ⟨a, n, l⟩ => ⟨a, by rw [l]; exact (Cha.refl _ w).drewN n⟩
end
/-- A list with one more; lists put together. -/
def Ent.ltb (x y : Ent) : Bool := decide (x.when < y.when ∨ (x.when = y.when ∧ x.order < y.order))
theorem ltb_iff (x y : Ent) : x.ltb y = true ↔ x.lt y := by unfold Ent.ltb Ent.lt; simp
def insO (e : Ent) (L : List Ent) : List Ent := L.filter (fun x => x.ltb e) ++ e :: L.filter (fun x => e.ltb x)
def mrg (L1 L2 : List Ent) : List Ent := L1.foldr insO L2
def dueIds (L : List Ent) (now : Int) : List Int := (L.filter fun x => decide (x.when ≤ now)).map Ent.id
def dueRest (L : List Ent) (now : Int) : List Ent := L.filter fun x => decide (now < x.when)
theorem rises_ins {L : List Ent} (h : Rises L) (e : Ent) : Rises (insO e L) := by
  unfold insO Rises
  rw [List.pairwise_append, List.pairwise_cons]
  refine ⟨h.sublist List.filter_sublist, ⟨fun x hx => ?_, h.sublist List.filter_sublist⟩, fun x hx y hy => ?_⟩
  · exact (ltb_iff _ _).1 (List.mem_filter.1 hx).2
  · have hx := (ltb_iff _ _).1 (List.mem_filter.1 hx).2
    rcases List.mem_cons.1 hy with rfl | hy
    · exact hx
    · exact Ent.lt_trans hx ((ltb_iff _ _).1 (List.mem_filter.1 hy).2)
theorem mem_insO {L : List Ent} {e x : Ent} (h : ∀ y ∈ L, y.order ≠ e.order) : x ∈ insO e L ↔ x = e ∨ x ∈ L := by
  unfold insO
  rw [List.mem_append, List.mem_cons, List.mem_filter, List.mem_filter]
  constructor
  · rintro (⟨a, _⟩ | a | ⟨a, _⟩)
    · exact .inr a
    · exact .inl a
    · exact .inr a
  · rintro (a | a)
    · exact .inr (.inl a)
    · have hn := h x a
      by_cases c : x.lt e
      · exact .inl ⟨a, (ltb_iff _ _).2 c⟩
      · refine .inr (.inr ⟨a, (ltb_iff _ _).2 ?_⟩)
        unfold Ent.lt at *
        omega
theorem Added.is {L L' : List Ent} {e : Ent} (h : Added L e L') (hr : Rises L) (ho : ∀ y ∈ L, y.order ≠ e.order) : L' = insO e L := h.eq (rises_ins hr e) fun _ => mem_insO ho
theorem due_cut {L : List Ent} {now : Int} {k : Nat} (h : Upto L now k) (hr : Rises L) : (L.take k).map Ent.id = dueIds L now ∧ L.drop k = dueRest L now := by
  have e := List.take_append_drop k L
  have h1 := h.all
  have h2 := h.none hr
  unfold dueIds dueRest
  constructor
  · rw [show L.filter (fun x => decide (x.when ≤ now)) = (L.take k ++ L.drop k).filter (fun x => decide (x.when ≤ now)) by rw [e]]
    rw [List.filter_append, List.filter_eq_self.2 (fun x hx => by simpa using h1 x hx), List.filter_eq_nil_iff.2 (fun x hx => by have := h2 x hx; simp; omega), List.append_nil]
  · rw [show L.filter (fun x => decide (now < x.when)) = (L.take k ++ L.drop k).filter (fun x => decide (now < x.when)) by rw [e]]
    rw [List.filter_append, List.filter_eq_nil_iff.2 (fun x hx => by have := h1 x hx; simp; omega), List.filter_eq_self.2 (fun x hx => by simpa using h2 x hx), List.nil_append]
theorem mrg_rises : ∀ (L1 : List Ent) {L2 : List Ent}, Rises L2 → (L1 ++ L2).Pairwise (fun x y => x.order ≠ y.order) → Rises (mrg L1 L2) ∧ ∀ x, x ∈ mrg L1 L2 ↔ x ∈ L1 ∨ x ∈ L2
  | [], L2, h, _ => ⟨h, fun x => by simp [mrg]⟩
  | e :: l, L2, h, k => by
    rw [List.cons_append, List.pairwise_cons] at k
    obtain ⟨r, m⟩ := mrg_rises l h k.2
    refine ⟨rises_ins r e, fun x => ?_⟩
    show x ∈ insO e (mrg l L2) ↔ _
    rw [mem_insO fun y hy => fun c => k.1 y (List.mem_append.2 ((m y).1 hy)) c.symm, m, List.mem_cons, or_assoc]
theorem mrg_is {L1 L2 M : List Ent} (h2 : Rises L2) (ho : (L1 ++ L2).Pairwise (fun x y => x.order ≠ y.order)) (hm : M.Perm (L1 ++ L2)) (hs : M.Pairwise (fun x y => ¬ y.lt x)) : M = mrg L1 L2 := by
  obtain ⟨r, m⟩ := mrg_rises L1 h2 ho
  have hM : Rises M := by
    have hd : M.Pairwise (fun x y => x.order ≠ y.order) := (hm.pairwise_iff fun h c => h c.symm).2 ho
    refine (hs.and hd).imp ?_
    rintro x y ⟨a, b⟩
    unfold Ent.lt at *
    omega
  exact hM.unique r fun x => by rw [hm.mem_iff, List.mem_append, m]
end Go.Proofs.YtaloafihbdamiaaGreat

namespace Go.Proofs.YtaloafihbdamiaaGreat
open Go.ChangeShapes Go.WideShapes Go.ChangeAt Go.RowKit
section
variable {w w' : World} {F : Nat → Prop} {bs bq bt b3 : Nat} {X : Sx}
theorem sproc_none (p : Int) (w : World) : Calls Tryz.prog 35 #[.pointer none, .int .i64 p] w fun e w' => e = .returned (.tuple #[.pointer none, .int .i64 5]) ∧ w = w' := by
  go_enter Tryz.func35, Tryz.ntmps35
  go_wp2
  go_returns
  exact ⟨rfl, rfl⟩
theorem sproc_any (h : ScA bs bq bt b3 X w F) (p : Nat) (hp : p < X.pr.length) : Calls Tryz.prog 35 #[.pointer (some ⟨bs, 0, none⟩), .int .i64 (p : Int)] w fun e w' => e = .returned (.tuple #[.pointer (some ⟨b3, p * 2, none⟩), .int .i64 0]) ∧ w = w' := by
  obtain ⟨F2, gv, o, -, -⟩ := Sc.own h
  obtain ⟨c0, c1, c2, c3, c4, cf⟩ := o.facts
  have h8 := o.n8
  clear h o c0 c1 c3 c4
  generalize X.pr.length = n at *
  have h1 : decide ((p : Int) < 0) = false := by simp
  have h2 : decide ((n : Int) ≤ (p : Int)) = false := by simp; omega
  go_enter Tryz.func35, Tryz.ntmps35
  go_wp2
  go_returns
  exact ⟨rfl, rfl⟩
theorem sproc_bad (h : ScA bs bq bt b3 X w F) (p : Int) (hp : p < 0 ∨ (X.pr.length : Int) ≤ p) : Calls Tryz.prog 35 #[.pointer (some ⟨bs, 0, none⟩), .int .i64 p] w fun e w' => e = .returned (.tuple #[.pointer none, .int .i64 1]) ∧ w = w' := by
  obtain ⟨F2, gv, o, -, -⟩ := Sc.own h
  obtain ⟨c0, c1, c2, c3, c4, cf⟩ := o.facts
  have h8 := o.n8
  clear h o c0 c1 c3 c4
  generalize X.pr.length = n at *
  by_cases h0 : p < 0
  · clear hp
    go_enter Tryz.func35, Tryz.ntmps35
    go_wp2
    go_returns
    exact ⟨rfl, rfl⟩
  · have h1 : decide (p < 0) = false := by simpa using h0
    have h2 : (n : Int) ≤ p := by omega
    clear hp h0
    go_enter Tryz.func35, Tryz.ntmps35
    go_wp2
    go_returns
    exact ⟨rfl, rfl⟩
theorem isgo_any (h : ScA bs bq bt b3 X w F) (g : Nat) (hg : g < X.gs.length) : Calls Tryz.prog 37 #[.pointer (some ⟨bs, 0, none⟩), .int .i64 (g : Int)] w fun e w' => e = .returned (.bool true) ∧ w = w' := by
  obtain ⟨F2, gv, o, -, -⟩ := Sc.own h
  obtain ⟨c0, c1, c2, c3, c4, cf⟩ := o.facts
  have h8 := o.g64
  obtain ⟨a, cap, rfl, -, -⟩ := o.gls.form
  clear h o c0 c1 c2 c4
  generalize X.gs.length = n at *
  have h1 : (0 : Int) ≤ (g : Int) := by omega
  have h2 : (g : Int) < (n : Int) := by omega
  go_enter Tryz.func37, Tryz.ntmps37
  go_wp2
  go_returns
  exact ⟨rfl, rfl⟩
theorem isgo_bad (h : ScA bs bq bt b3 X w F) (g : Int) (hg : g < 0 ∨ (X.gs.length : Int) ≤ g) : Calls Tryz.prog 37 #[.pointer (some ⟨bs, 0, none⟩), .int .i64 g] w fun e w' => e = .returned (.bool false) ∧ w = w' := by
  obtain ⟨F2, gv, o, -, -⟩ := Sc.own h
  obtain ⟨c0, c1, c2, c3, c4, cf⟩ := o.facts
  have h8 := o.g64
  obtain ⟨a, cap, rfl, -, -⟩ := o.gls.form
  clear h o c0 c1 c2 c4
  generalize X.gs.length = n at *
  by_cases h0 : g < 0
  · have h1 : decide (0 ≤ g) = false := by simpa using h0
    clear hg
    go_enter Tryz.func37, Tryz.ntmps37
    go_wp2
    go_returns
    exact ⟨rfl, rfl⟩
  · have h1 : 0 ≤ g := by omega
    have h2 : decide (g < (n : Int)) = false := by simp; omega
    clear hg h0
    go_enter Tryz.func37, Tryz.ntmps37
    go_wp2
    go_returns
    exact ⟨rfl, rfl⟩
theorem state_none (g : Int) (w : World) : Calls Tryz.prog 12 #[.pointer none, .int .i64 g] w fun e w' => e = .returned (.int .i64 0) ∧ w = w' := by
  go_enter Tryz.func12, Tryz.ntmps12
  go_wp2
  go_returns
  exact ⟨rfl, rfl⟩
theorem state_any (h : ScA bs bq bt b3 X w F) (g : Nat) (hg : g < X.gs.length) : Calls Tryz.prog 12 #[.pointer (some ⟨bs, 0, none⟩), .int .i64 (g : Int)] w fun e w' => e = .returned (.int .i64 (X.gs.getD g (0, false)).1) ∧ w = w' := by
  have C := Lib.hid (isgo_any h g hg)
  obtain ⟨F2, gv, o, -, -⟩ := Sc.own h
  obtain ⟨c0, c1, c2, c3, c4, cf⟩ := o.facts
  have h8 := o.g64
  obtain ⟨b, off, cap, rfl, hc1, hc2, d0, d1, df, -⟩ := o.gc hg
  clear h o c0 c1 c2 c4
  generalize X.gs.getD g (0, false) = y at *
  generalize X.gs.length = n at *
  go_enter Tryz.func12, Tryz.ntmps12
  go_wp2_with (go_at_call 37; ((with_reducible refine (C.out).mono ?_); rintro e w1 ⟨rfl, rfl⟩))
  go_returns
  exact ⟨rfl, rfl⟩
theorem state_bad (h : ScA bs bq bt b3 X w F) (g : Int) (hg : g < 0 ∨ (X.gs.length : Int) ≤ g) : Calls Tryz.prog 12 #[.pointer (some ⟨bs, 0, none⟩), .int .i64 g] w fun e w' => e = .returned (.int .i64 0) ∧ w = w' := by
  have C := Lib.hid (isgo_bad h g hg)
  clear h hg
  go_enter Tryz.func12, Tryz.ntmps12
  go_wp2_with (go_at_call 37; ((with_reducible refine (C.out).mono ?_); rintro e w1 ⟨rfl, rfl⟩))
  go_returns
  exact ⟨rfl, rfl⟩
theorem current_none (p : Int) (w : World) : Calls Tryz.prog 10 #[.pointer none, .int .i64 p] w fun e w' => e = .returned (.int .i64 (-1)) ∧ w = w' := by
  have C := Lib.hid (sproc_none p w)
  go_enter Tryz.func10, Tryz.ntmps10
  go_wp2_with (go_at_call 35; ((with_reducible refine (C.out).mono ?_); rintro e w1 ⟨rfl, rfl⟩))
  go_returns
  exact ⟨rfl, rfl⟩
theorem current_any (h : ScA bs bq bt b3 X w F) (p : Nat) (hp : p < X.pr.length) : Calls Tryz.prog 10 #[.pointer (some ⟨bs, 0, none⟩), .int .i64 (p : Int)] w fun e w' => e = .returned (.int .i64 (X.pr.getD p (-1, 0)).1) ∧ w = w' := by
  have C := Lib.hid (sproc_any h p hp)
  obtain ⟨F2, gv, o, -, -⟩ := Sc.own h
  obtain ⟨d0, d1, df⟩ := o.pc hp
  clear h o
  generalize X.pr.getD p (-1, 0) = y at *
  go_enter Tryz.func10, Tryz.ntmps10
  go_wp2_with (go_at_call 35; ((with_reducible refine (C.out).mono ?_); rintro e w1 ⟨rfl, rfl⟩))
  go_returns
  exact ⟨rfl, rfl⟩
theorem current_bad (h : ScA bs bq bt b3 X w F) (p : Int) (hp : p < 0 ∨ (X.pr.length : Int) ≤ p) : Calls Tryz.prog 10 #[.pointer (some ⟨bs, 0, none⟩), .int .i64 p] w fun e w' => e = .returned (.int .i64 (-1)) ∧ w = w' := by
  have C := Lib.hid (sproc_bad h p hp)
  clear h hp
  go_enter Tryz.func10, Tryz.ntmps10
  go_wp2_with (go_at_call 35; ((with_reducible refine (C.out).mono ?_); rintro e w1 ⟨rfl, rfl⟩))
  go_returns
  exact ⟨rfl, rfl⟩
theorem busy_none (p : Int) (w : World) : Calls Tryz.prog 44 #[.pointer none, .int .i64 p] w fun e w' => e = .returned (.tuple #[.pointer none, .int .i64 5]) ∧ w = w' := by
  have C := Lib.hid (sproc_none p w)
  go_enter Tryz.func44, Tryz.ntmps44
  go_wp2_with (go_at_call 35; ((with_reducible refine (C.out).mono ?_); rintro e w1 ⟨rfl, rfl⟩))
  go_returns
  exact ⟨rfl, rfl⟩
theorem busy_bad (h : ScA bs bq bt b3 X w F) (p : Int) (hp : p < 0 ∨ (X.pr.length : Int) ≤ p) : Calls Tryz.prog 44 #[.pointer (some ⟨bs, 0, none⟩), .int .i64 p] w fun e w' => e = .returned (.tuple #[.pointer none, .int .i64 1]) ∧ w = w' := by
  have C := Lib.hid (sproc_bad h p hp)
  clear h hp
  go_enter Tryz.func44, Tryz.ntmps44
  go_wp2_with (go_at_call 35; ((with_reducible refine (C.out).mono ?_); rintro e w1 ⟨rfl, rfl⟩))
  go_returns
  exact ⟨rfl, rfl⟩
theorem busy_idle (h : ScA bs bq bt b3 X w F) (p : Nat) (hp : p < X.pr.length) (hn : (X.pr.getD p (-1, 0)).1 = -1) : Calls Tryz.prog 44 #[.pointer (some ⟨bs, 0, none⟩), .int .i64 (p : Int)] w fun e w' => e = .returned (.tuple #[.pointer none, .int .i64 4]) ∧ w = w' := by
  have C := Lib.hid (sproc_any h p hp)
  obtain ⟨F2, gv, o, -, -⟩ := Sc.own h
  obtain ⟨d0, d1, df⟩ := o.pc hp
  rw [hn] at d0
  clear h o d1 hn
  go_enter Tryz.func44, Tryz.ntmps44
  go_wp2_with (go_at_call 35; ((with_reducible refine (C.out).mono ?_); rintro e w1 ⟨rfl, rfl⟩))
  go_returns
  exact ⟨rfl, rfl⟩
theorem busy_any (h : ScA bs bq bt b3 X w F) (p : Nat) (hp : p < X.pr.length) (hn : (X.pr.getD p (-1, 0)).1 ≠ -1) : Calls Tryz.prog 44 #[.pointer (some ⟨bs, 0, none⟩), .int .i64 (p : Int)] w fun e w' => e = .returned (.tuple #[.pointer (some ⟨b3, p * 2, none⟩), .int .i64 0]) ∧ w = w' := by
  have C := Lib.hid (sproc_any h p hp)
  obtain ⟨F2, gv, o, -, -⟩ := Sc.own h
  obtain ⟨d0, d1, df⟩ := o.pc hp
  clear h o d1
  generalize (X.pr.getD p (-1, 0)).1 = y at *
  go_enter Tryz.func44, Tryz.ntmps44
  go_wp2_with (go_at_call 35; ((with_reducible refine (C.out).mono ?_); rintro e w1 ⟨rfl, rfl⟩))
  go_returns
  exact ⟨rfl, rfl⟩
end
end Go.Proofs.YtaloafihbdamiaaGreat

namespace Go.Proofs.YtaloafihbdamiaaGreat
open Go.ChangeShapes Go.WideShapes Go.ChangeAt Go.RowKit
def Sx.rdy (X : Sx) (p g : Nat) : Sx := { X with gs := X.gs.set g (1, false), Q := putP X.Q p (g : Int) }
section
variable {w w' : World} {F : Nat → Prop} {bs bq bt b3 : Nat} {X : Sx}
theorem makeready_any (h : ScA bs bq bt b3 X w F) (p g : Nat) (hp : p < X.Q.1.length) (hg : g < X.gs.length) (hA : X.Q.2.length + 5 ≤ 17592186044416) :
    Calls Tryz.prog 38 #[.pointer (some ⟨bs, 0, none⟩), .int .i64 (p : Int), .int .i64 (g : Int)] w fun e w' => e = .returned (.tuple #[]) ∧ Goes (ScA bs bq bt b3 (X.rdy p g)) w w' F := by
  obtain ⟨F2, gv, o, -, k⟩ := Sc.own h
  obtain ⟨c0, c1, c2, c3, c4, cf⟩ := o.facts
  obtain ⟨b, off, cap, rfl, hc1, hc2, d0, d1, df, fb, nb, nb3, up⟩ := o.gc hg
  have G := k _ _ _ _ ⟨F2, ⟨_, (up w (Cha.refl _ w) 1 false).1⟩, (up w (Cha.refl _ w) 1 false).2, fun _ x => .inl x⟩
  have C := Lib.hid (G.next fun F1 h1 => sc_put h1 p (g : Int) hp (by omega) hA)
  have g64 := o.g64
  clear h o up k G c1 c2 c4 fb nb3
  generalize X.gs.length = n at *
  go_enter Tryz.func38, Tryz.ntmps38
  go_wp2_with (go_at_call 51; ((with_reducible refine (C.out).mono ?_); rintro e w1 ⟨rfl, hG⟩; have HG := Lib.hid hG; clear hG))
  go_returns
  exact ⟨rfl, HG.out⟩
theorem begin_none (p : Int) (w : World) : Calls Tryz.prog 18 #[.pointer none, .int .i64 p] w fun e w' => e = .returned (.tuple #[.int .i64 0, .int .i64 5]) ∧ w = w' := by
  have C := Lib.hid (sproc_none p w)
  go_enter Tryz.func18, Tryz.ntmps18
  go_wp2_with (go_at_call 35; ((with_reducible refine (C.out).mono ?_); rintro e w1 ⟨rfl, rfl⟩))
  go_returns
  exact ⟨rfl, rfl⟩
theorem begin_bad (h : ScA bs bq bt b3 X w F) (p : Int) (hp : p < 0 ∨ (X.pr.length : Int) ≤ p) : Calls Tryz.prog 18 #[.pointer (some ⟨bs, 0, none⟩), .int .i64 p] w fun e w' => e = .returned (.tuple #[.int .i64 0, .int .i64 1]) ∧ w = w' := by
  have C := Lib.hid (sproc_bad h p hp)
  clear h hp
  go_enter Tryz.func18, Tryz.ntmps18
  go_wp2_with (go_at_call 35; ((with_reducible refine (C.out).mono ?_); rintro e w1 ⟨rfl, rfl⟩))
  go_returns
  exact ⟨rfl, rfl⟩
theorem begin_full (h : ScA bs bq bt b3 X w F) (p : Nat) (hp : p < X.pr.length) (hg : X.gs.length = 64) : Calls Tryz.prog 18 #[.pointer (some ⟨bs, 0, none⟩), .int .i64 (p : Int)] w fun e w' => e = .returned (.tuple #[.int .i64 0, .int .i64 3]) ∧ w = w' := by
  have C := Lib.hid (sproc_any h p hp)
  obtain ⟨F2, gv, o, -, -⟩ := Sc.own h
  obtain ⟨c0, c1, c2, c3, c4, cf⟩ := o.facts
  obtain ⟨a, cap, rfl, -, -⟩ := o.gls.form
  rw [hg] at c3
  clear h o c0 c1 c2 c4 hg
  go_enter Tryz.func18, Tryz.ntmps18
  go_wp2_with (go_at_call 35; ((with_reducible refine (C.out).mono ?_); rintro e w1 ⟨rfl, rfl⟩))
  go_returns
  exact ⟨rfl, rfl⟩
theorem append_v {α : Type} {E : En.Enc α} {w w1 w' : World} {v : Value} {A N : List α} {g o cap : Nat} (c : Cha (fun _ => False) w w1) (hA : En.App E w1 w' v A N g o cap) : En.AppV E w w' v (A ++ N) (.slice (some ⟨g, o, none⟩) (A.length + N.length) cap) :=
  ⟨hA.lies, c.wide.trans hA.cha, fun g' hg => by cases hg; exact hA.at'.imp id (Nat.le_trans c.size)⟩
/-- One goroutine more, ready, next on a processor. -/
def Sx.beg (X : Sx) (p : Nat) : Sx := { X with gs := X.gs ++ [(1, false)], Q := putP X.Q p (X.gs.length : Int) }
theorem set_last {α : Type} (l : List α) (x y : α) : (l ++ [x]).set l.length y = l ++ [y] := by simp
theorem begin_any (h : ScA bs bq bt b3 X w F) (p : Nat) (hp : p < X.pr.length) (hq : p < X.Q.1.length) (hg : X.gs.length < 64) (hA : X.Q.2.length + 5 ≤ 17592186044416) :
    Calls Tryz.prog 18 #[.pointer (some ⟨bs, 0, none⟩), .int .i64 (p : Int)] w fun e w' => e = .returned (.tuple #[.int .i64 (X.gs.length : Nat), .int .i64 0]) ∧ Goes (ScA bs bq bt b3 (X.beg p)) w w' F := by
  have C := Lib.hid (sproc_any h p hp)
  obtain ⟨F2, gv, o, -, k⟩ := Sc.own h
  obtain ⟨c0, c1, c2, c3, c4, cf⟩ := o.facts
  obtain ⟨a, cap, e, hc1, hc2⟩ := o.gls.form
  have HG : Hid (∀ w3 g3 o3 cap3, En.App goE (w.alloc (.cells #[.int .i64 0, .bool false] 80)) w3 gv X.gs [(0, false)] g3 o3 cap3 → (w3.cell? ⟨bs, 3, none⟩ = some gv ∧ ∀ i, w3.frozen? ⟨bs, i, none⟩ = false) ∧
      Goes (ScA bs bq bt b3 { X with gs := X.gs ++ [(0, false)] }) w (w3.setCell ⟨bs, 3, none⟩ (.slice (some ⟨g3, o3, none⟩) (X.gs.length + 1) cap3)) F) := Lib.hid fun w3 g3 o3 cap3 hA => by
    have a := append_v ((Cha.refl (fun _ => False) w).alloc _) hA
    obtain ⟨F', o', c', n'⟩ := o.grow a (by rw [List.length_append]; simp only [List.length_singleton]; omega)
    have hh := (a.cha.old bs (o.old _ o.fs) (fun e => (o.gb bs e).1 rfl)).trans o.head
    exact ⟨⟨cell_of_row w3 bs 3 _ 58 (0, 0) hh, fun i => frozen_of_row w3 bs i _ 58 hh⟩, k _ _ _ _ ⟨F', ⟨_, o'⟩, c', n'⟩⟩
  have HL := Lib.hid (o.gls.same ((Cha.refl (fun _ => False) w).alloc (.cells #[.int .i64 0, .bool false] 80)))
  have HN := Lib.hid (En.just_new goE w (0, false) 80)
  have B1 : Hid (X.gs.length + [(0, false)].length ≤ maxLen) := Lib.hid (by simp only [List.length_singleton]; unfold maxLen; omega)
  have B2 : Hid ((X.gs.length + [(0, false)].length) * goE.b ≤ 140737488355328) := Lib.hid (by simp only [List.length_singleton]; show _ * 16 ≤ _; omega)
  have CM : Hid (∀ W1, Goes (ScA bs bq bt b3 { X with gs := X.gs ++ [(0, false)] }) w W1 F → Calls Tryz.prog 38 #[.pointer (some ⟨bs, 0, none⟩), .int .i64 (p : Int), .int .i64 (X.gs.length : Nat)] W1 fun e w' => e = .returned (.tuple #[]) ∧ Goes (ScA bs bq bt b3 (X.beg p)) w w' F) := Lib.hid fun W1 G => by
    have := G.next fun F1 h1 => makeready_any h1 p X.gs.length hq (by show _ < (X.gs ++ [(0, false)]).length; simp) hA
    unfold Sx.rdy at this
    dsimp only at this
    rw [set_last] at this
    exact this
  have hne : ∀ b, gv.ownBlock = some b → b ≠ bs := fun b e => (o.gb b e).1
  clear h o k c0 c1 c2 c4 hq hA
  subst e
  go_enter Tryz.func18, Tryz.ntmps18
  go_wp2_with (first
    | (go_at_call 35; ((with_reducible refine (C.out).mono ?_); rintro e w1 ⟨rfl, rfl⟩))
    | (at_builtin; refine En.wpList_app goE_ok rfl (.tmp 29) (.tmp 31) rfl rfl HL.out ⟨w.heap.size, 0, none⟩ 1 1 [(0, false)] rfl rfl HN.out Nat.zero_lt_one B1.out B2.out ?_; intro g3 o3 cap3 w3 hA3; obtain ⟨⟨k5, k6⟩, kk⟩ := HG.out w3 _ _ _ hA3; have A3 := Lib.hid kk; clear kk hA3; dsimp only [List.length_singleton])
    | (go_at_call 38; ((with_reducible refine (CM.out _ A3.out).mono ?_); rintro e w4 ⟨rfl, hG⟩; have HG4 := Lib.hid hG; clear hG)))
  go_returns
  exact ⟨rfl, HG4.out⟩
end
end Go.Proofs.YtaloafihbdamiaaGreat

namespace Go.Proofs.YtaloafihbdamiaaGreat
open Go.ChangeShapes Go.WideShapes Go.ChangeAt Go.RowKit
/-- A processor's goroutine. -/
def Sx.on (X : Sx) (p : Nat) : Int := (X.pr.getD p (-1, 0)).1
def Sx.runs (X : Sx) (p : Nat) : Int := (X.pr.getD p (-1, 0)).2
def Sx.stp (X : Sx) (p : Nat) (now : Int × Bool) : Sx := { X with gs := X.gs.set (X.on p).toNat now, pr := X.pr.set p (-1, X.runs p) }
section
variable {w w' : World} {F : Nat → Prop} {bs bq bt b3 : Nat} {X : Sx}
theorem stop_any (h : ScA bs bq bt b3 X w F) (p g : Nat) (a : Int) (b : Bool) (hp : p < X.pr.length) (hn : X.on p = (g : Int)) (hg : g < X.gs.length) :
    Calls Tryz.prog 48 #[.pointer (some ⟨bs, 0, none⟩), .int .i64 (p : Int), .agg #[.int .i64 a, .bool b]] w fun e w' => e = .returned (.int .i64 0) ∧ Goes (ScA bs bq bt b3 (X.stp p (a, b))) w w' F := by
  have c0 := (Cha.refl (fun _ => False) w).alloc (.cells #[.int .i64 a, .bool b] 80)
  have C := Lib.hid (busy_any (fit_sc.same h c0) p hp (by show X.on p ≠ -1; omega))
  obtain ⟨F2, gv, o, -, k⟩ := Sc.own h
  obtain ⟨-, -, -, k3, -, cf⟩ := (o.same c0).facts
  obtain ⟨dd, d1, df⟩ := (o.same c0).pc hp
  obtain ⟨bg, off, cap, rfl, hc1, hc2, g0, g1, gf, fb, nb, nb3, up⟩ := o.gc hg
  have gf0 : ∀ j, (w.alloc (.cells #[.int .i64 a, .bool b] 80)).frozen? ⟨bg, j, none⟩ = false := fun j => by rw [World.frozen?_alloc_old _ _ _ (by have := o.old _ fb; show bg ≠ _; omega)]; exact gf j
  have gg0 : (w.alloc (.cells #[.int .i64 a, .bool b] 80)).cell? ⟨bg, off + g * 2, none⟩ = some (.int .i64 (X.gs.getD g (0, false)).1) := by rw [World.cell?_alloc_old _ _ _ (by have := o.old _ fb; show bg ≠ _; omega)]; exact g0
  have gg1 : (w.alloc (.cells #[.int .i64 a, .bool b] 80)).cell? ⟨bg, off + g * 2 + 1, none⟩ = some (.bool (X.gs.getD g (0, false)).2) := by rw [World.cell?_alloc_old _ _ _ (by have := o.old _ fb; show bg ≠ _; omega)]; exact g1
  have d0 : (w.alloc (.cells #[.int .i64 a, .bool b] 80)).cell? ⟨b3, p * 2, none⟩ = some (.int .i64 (g : Int)) := by rw [dd]; exact congrArg _ (congrArg _ hn)
  have g64 := o.g64
  have HG : Hid (∀ W, Cha (fun _ => False) w W → Goes (ScA bs bq bt b3 (X.stp p (a, b))) w (((W.setCell ⟨bg, off + g * 2, none⟩ (.int .i64 a)).setCell ⟨bg, off + g * 2 + 1, none⟩ (.bool b)).setCell ⟨b3, p * 2, none⟩ (.int .i64 (-1))) F) := Lib.hid fun W c => by
    obtain ⟨u, uc⟩ := up W c a b
    have e : (X.on p).toNat = g := by omega
    unfold Sx.stp
    rw [e]
    exact k _ _ _ _ ⟨F2, ⟨_, u.setP hp (-1)⟩, uc.setCell (p := ⟨b3, p * 2, none⟩) (fun _ => o.f3) _, fun _ x => .inl x⟩
  have n1 : b3 ≠ bg := fun e => nb3 e.symm
  clear h o k up d1 g0 g1 fb c0 gf dd hn
  generalize X.gs.getD g (0, false) = y at *
  generalize X.gs.length = n at *
  go_enter Tryz.func48, Tryz.ntmps48
  go_wp2_with (go_at_call 44; ((with_reducible refine (C.out).mono ?_); rintro e w1 ⟨rfl, rfl⟩))
  go_region
  all_goals
    go_wp2
    go_returns
    exact ⟨rfl, HG.out _ (((Cha.refl (fun _ => False) w).alloc _).drewN _)⟩
theorem stop_none (p a : Int) (b : Bool) (w : World) : Calls Tryz.prog 48 #[.pointer none, .int .i64 p, .agg #[.int .i64 a, .bool b]] w fun e w' => e = .returned (.int .i64 5) ∧ Cha (fun _ => False) w w' := by
  have c0 := Lib.hid ((Cha.refl (fun _ => False) w).alloc (.cells #[.int .i64 a, .bool b] 80))
  have C := Lib.hid (busy_none p (w.alloc (.cells #[.int .i64 a, .bool b] 80)))
  go_enter Tryz.func48, Tryz.ntmps48
  go_wp2_with (go_at_call 44; ((with_reducible refine (C.out).mono ?_); rintro e w1 ⟨rfl, rfl⟩))
  go_returns
  exact ⟨rfl, c0.out⟩
theorem stop_bad (h : ScA bs bq bt b3 X w F) (p a : Int) (b : Bool) (hp : p < 0 ∨ (X.pr.length : Int) ≤ p) : Calls Tryz.prog 48 #[.pointer (some ⟨bs, 0, none⟩), .int .i64 p, .agg #[.int .i64 a, .bool b]] w fun e w' => e = .returned (.int .i64 1) ∧ Cha (fun _ => False) w w' := by
  have c0 := Lib.hid ((Cha.refl (fun _ => False) w).alloc (.cells #[.int .i64 a, .bool b] 80))
  have C := Lib.hid (busy_bad (fit_sc.same h c0.out) p hp)
  clear h hp
  go_enter Tryz.func48, Tryz.ntmps48
  go_wp2_with (go_at_call 44; ((with_reducible refine (C.out).mono ?_); rintro e w1 ⟨rfl, rfl⟩))
  go_returns
  exact ⟨rfl, c0.out⟩
theorem stop_idle (h : ScA bs bq bt b3 X w F) (p : Nat) (a : Int) (b : Bool) (hp : p < X.pr.length) (hn : X.on p = -1) : Calls Tryz.prog 48 #[.pointer (some ⟨bs, 0, none⟩), .int .i64 (p : Int), .agg #[.int .i64 a, .bool b]] w fun e w' => e = .returned (.int .i64 4) ∧ Cha (fun _ => False) w w' := by
  have c0 := Lib.hid ((Cha.refl (fun _ => False) w).alloc (.cells #[.int .i64 a, .bool b] 80))
  have C := Lib.hid (busy_idle (fit_sc.same h c0.out) p hp hn)
  clear h hp
  go_enter Tryz.func48, Tryz.ntmps48
  go_wp2_with (go_at_call 44; ((with_reducible refine (C.out).mono ?_); rintro e w1 ⟨rfl, rfl⟩))
  go_returns
  exact ⟨rfl, c0.out⟩
theorem block_of {v : Ending} {Q : World → Prop} (a b : Value) (C : Calls Tryz.prog 48 #[a, b, .agg #[.int .i64 2, .bool false]] w fun e w' => e = v ∧ Q w') (h : ∃ x, v = .returned x) :
    Calls Tryz.prog 24 #[a, b] w fun e w' => e = v ∧ Q w' := by
  obtain ⟨x, rfl⟩ := h
  have C := Lib.hid C
  go_enter Tryz.func24, Tryz.ntmps24
  go_wp2_with (go_at_call 48; ((with_reducible refine (C.out).mono ?_); rintro e w1 ⟨rfl, hq⟩; have HQ := Lib.hid hq; clear hq))
  go_ret
  exact ⟨rfl, HQ.out⟩
theorem end_of {v : Ending} {Q : World → Prop} (a b : Value) (C : Calls Tryz.prog 48 #[a, b, .agg #[.int .i64 3, .bool false]] w fun e w' => e = v ∧ Q w') (h : ∃ x, v = .returned x) :
    Calls Tryz.prog 28 #[a, b] w fun e w' => e = v ∧ Q w' := by
  obtain ⟨x, rfl⟩ := h
  have C := Lib.hid C
  go_enter Tryz.func28, Tryz.ntmps28
  go_wp2_with (go_at_call 48; ((with_reducible refine (C.out).mono ?_); rintro e w1 ⟨rfl, hq⟩; have HQ := Lib.hid hq; clear hq))
  go_ret
  exact ⟨rfl, HQ.out⟩
/-- The goroutine of a processor is laid behind all others. -/
def Sx.yld (X : Sx) (p : Nat) : Sx := { X with Q := (X.Q.1, X.Q.2 ++ [X.on p]), pr := X.pr.set p (-1, X.runs p) }
theorem Sc.pcs (h : ScA bs bq bt b3 X w F) {p : Nat} (hp : p < X.pr.length) : w.cell? ⟨b3, p * 2, none⟩ = some (.int .i64 (X.on p)) ∧ w.cell? ⟨b3, p * 2 + 1, none⟩ = some (.int .i64 (X.runs p)) ∧ ∀ i, w.frozen? ⟨b3, i, none⟩ = false := by
  obtain ⟨F2, gv, o, -, k⟩ := Sc.own h
  exact o.pc hp
theorem Sc.clearP (h : ScA bs bq bt b3 X w F) {p : Nat} (hp : p < X.pr.length) : w.cell? ⟨b3, p * 2, none⟩ = some (.int .i64 (X.on p)) ∧ (∀ i, w.frozen? ⟨b3, i, none⟩ = false) ∧ Goes (ScA bs bq bt b3 { X with pr := X.pr.set p (-1, X.runs p) }) w (w.setCell ⟨b3, p * 2, none⟩ (.int .i64 (-1))) F := by
  obtain ⟨F2, gv, o, -, k⟩ := Sc.own h
  obtain ⟨d0, d1, df⟩ := o.pc hp
  exact ⟨d0, df, k _ _ _ _ ⟨F2, ⟨_, o.setP hp (-1)⟩, (Cha.refl _ w).setCell (p := ⟨b3, p * 2, none⟩) (fun _ => o.f3) _, fun _ x => .inl x⟩⟩
theorem letgo_any (h : ScA bs bq bt b3 X w F) (p : Nat) (hp : p < X.pr.length) (hn : 0 ≤ X.on p) (hA : X.Q.2.length + 5 ≤ 17592186044416) :
    Calls Tryz.prog 45 #[.pointer (some ⟨bs, 0, none⟩), .pointer (some ⟨b3, p * 2, none⟩)] w fun e w' => e = .returned (.tuple #[]) ∧ Goes (ScA bs bq bt b3 (X.yld p)) w w' F := by
  obtain ⟨F2, gv, o, -, -⟩ := Sc.own h
  obtain ⟨c0, -⟩ := o.facts
  obtain ⟨d0, -, -⟩ := Sc.clearP h hp
  have C : Hid (∀ W, Cha (fun _ => False) w W → Calls Tryz.prog 63 #[.pointer (some ⟨bq, 0, none⟩), .int .i64 (X.on p)] W fun e w' => e = .returned (.int .i64 0) ∧ w'.cell? ⟨b3, p * 2, none⟩ = some (.int .i64 (X.on p)) ∧ w'.cell? ⟨bs, 0, none⟩ = some (.pointer (some ⟨bq, 0, none⟩)) ∧ (∀ i, w'.frozen? ⟨b3, i, none⟩ = false) ∧
      Goes (ScA bs bq bt b3 (X.yld p)) w (w'.setCell ⟨b3, p * 2, none⟩ (.int .i64 (-1))) F) := Lib.hid fun W c =>
    (sc_last (fit_sc.same h c) (X.on p) hn hA).mono fun e w' ⟨a, G⟩ => by
      obtain ⟨F1, h1, c1, n1⟩ := G.before c
      obtain ⟨e0, ef, G2⟩ := Sc.clearP h1 (p := p) hp
      obtain ⟨_, _, o1, -, -⟩ := Sc.own h1
      exact ⟨a, e0, o1.facts.1, ef, Goes.chain ⟨F1, h1, c1, n1⟩ fun F3 h3 => (Sc.clearP h3 (p := p) hp).2.2⟩
  clear h o hA hn
  generalize X.on p = y at *
  go_enter Tryz.func45, Tryz.ntmps45
  go_wp2
  go_region_held3 (fun w' => w'.cell? ⟨b3, p * 2, none⟩ = some (.int .i64 y) ∧ w'.cell? ⟨bs, 0, none⟩ = some (.pointer (some ⟨bq, 0, none⟩)))
    (first
      | exact ⟨d0, c0⟩
      | go_keep)
    (first | (go_at_call 63; (with_reducible refine (C.out _ (by first | exact (Cha.refl _ _).drew | exact (Cha.refl _ _).drewN _ | exact Cha.refl _ _)).mono ?_); rintro e w1 ⟨rfl, e0, e1, ef, hG⟩; have HG := Lib.hid hG; clear hG))
  all_goals
    go_wp2
    go_returns
    exact ⟨rfl, HG.out⟩
end
end Go.Proofs.YtaloafihbdamiaaGreat
