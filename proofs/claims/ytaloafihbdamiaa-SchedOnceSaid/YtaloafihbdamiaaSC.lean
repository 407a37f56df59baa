/- The scheduler: queues, timers and its own blocks beside one another. -/
import Derived.Test.YtaloafihbdamiaaSB
import Derived.Test.YtaloafihbdamiaaQA
import Derived.Test.YtaloafihbdamiaaTU
namespace Go.Proofs.Ytaloafihbdamiaa
open Go.ChangeShapes Go.WideShapes Go.ChangeAt Go.RowKit

/-- The scheduler, plainly: queues, timers, how many were ever added, of each processor its goroutine and how often it went on, the goroutines, the clock. -/
structure Sx where
  Q : St
  P : List (List Ent)
  a : Int
  pr : List (Int × Int)
  gs : List (Int × Bool)
  clk : Int
def QuA (bq : Nat) (s : St) : Asn := fun w F => ∃ bp z v, Qs w F bq bp z s.1 v s.2
def TiA (bt : Nat) (P : List (List Ent)) (a : Int) : Asn := fun w F => ∃ bp lv, Ts w F bt bp lv P a
/-- A list of ints of one's own. -/
def LiA (v : Value) (A : List Int) : Asn := fun w F => Lies w v A ∧ (∀ g, v.ownBlock = some g → F g) ∧ ∀ i, F i → i < w.heap.size
section
variable {w w' : World} {F T : Nat → Prop} {bq bt bp : Nat} {lv : Nat → Value} {P : List (List Ent)} {a : Int} {s : St} {S : List Prc} {A : List Int} {v : Value}
theorem fit_qu : Fit (QuA bq s) := ⟨fun ⟨bp, z, v, h⟩ c hs => ⟨bp, z, v, h.cha c hs⟩, fun ⟨_, _, _, h⟩ => h.old⟩
theorem Ts.cha (h : Ts w F bt bp lv P a) (c : Cha T w w') (hs : ∀ i, F i → ¬ T i) : Ts w' F bt bp lv P a :=
  ⟨(c.old bt (h.old _ h.ft) (hs _ h.ft)).trans h.head, h.k1, h.k8, c.row h.tab (hs _ h.fp), fun p L hp => (h.lst p L hp).cha c fun g e => hs g (h.fv p g (List.getElem?_eq_some_iff.1 hp).1 e).1, h.ne, h.ft, h.fp, h.fv, h.fpq, fun i hi => Nat.lt_of_lt_of_le (h.old i hi) c.size⟩
theorem fit_ti : Fit (TiA bt P a) := ⟨fun ⟨bp, lv, h⟩ c hs => ⟨bp, lv, h.cha c hs⟩, fun ⟨_, _, h⟩ => h.old⟩
theorem fit_li : Fit (LiA v A) := ⟨fun ⟨h, f, o⟩ c hs => ⟨h.cha c fun g e => hs g (f g e), f, fun i x => Nat.lt_of_lt_of_le (o i x) c.size⟩, fun ⟨_, _, o⟩ => o⟩
theorem goes_left (h : Left w w' F bq bp S A) : Goes (QuA bq (S, A)) w w' F := by
  obtain ⟨F', z, v, q, c, _, n⟩ := h
  exact ⟨F', ⟨bp, z, v, q⟩, c, n⟩
theorem goes_tleft (h : TLeft w w' F bt bp P a) : Goes (TiA bt P a) w w' F := by
  obtain ⟨F', lv, q, c, _, n⟩ := h
  exact ⟨F', ⟨bp, lv, q⟩, c, n⟩
end
section
variable {P P' Q R : Asn} {w w' w1 w2 : World} {F : Nat → Prop}
theorem Star.split (k : Fit Q) (h : Star P Q w F) : ∃ F1, P w F1 ∧ (∀ i, F1 i → F i) ∧ ∀ (P' : Asn) (w' : World), Fit P' → Goes P' w w' F1 → Goes (Star P' Q) w w' F := by
  obtain ⟨F1, F2, a, b, d, e1, e2, o⟩ := h
  refine ⟨F1, a, e1, fun P' w' k' ⟨F3, q, c, n⟩ => ?_⟩
  refine ⟨fun i => F i ∨ F3 i, ⟨F3, F2, q, k.cha b c (fun i x y => d i y x), fun i x y => ?_, fun i x => .inr x, fun i x => .inl (e2 i x), fun i x => ?_⟩, c.mono fun i _ x => e1 i x, fun i x => ?_⟩
  · rcases n i x with z | z
    · exact d i z y
    · have := o i (e2 i y); omega
  · rcases x with x | x
    · exact Nat.lt_of_lt_of_le (o i x) c.size
    · exact k'.old q i x
  · rcases x with x | x
    · exact .inl x
    · exact (n i x).imp (e1 i) id
theorem Goes.swap (h : Goes (Star P Q) w w' F) : Goes (Star Q P) w w' F := h.mono fun _ q => q.swap
theorem Star.splitR (k : Fit P) (h : Star P Q w F) : ∃ F1, Q w F1 ∧ (∀ i, F1 i → F i) ∧ ∀ (Q' : Asn) (w' : World), Fit Q' → Goes Q' w w' F1 → Goes (Star P Q') w w' F := by
  obtain ⟨F1, a, e, n⟩ := Star.split k h.swap
  exact ⟨F1, a, e, fun Q' w' f g => (n Q' w' f g).swap⟩
/-- Three things, taken together otherwise. -/
theorem Star.assoc (h : Star P (Star Q R) w F) : Star (Star P Q) R w F := by
  obtain ⟨F1, F2, p, ⟨F3, F4, q, r, d2, e3, e4, o2⟩, d, e1, e2, o⟩ := h
  exact ⟨fun i => F1 i ∨ F3 i, F4, ⟨F1, F3, p, q, fun i x y => d i x (e3 i y), fun _ x => .inl x, fun _ x => .inr x, fun i x => o i (x.elim (e1 i) fun y => e2 i (e3 i y))⟩, r, fun i x y => x.elim (fun z => d i z (e4 i y)) fun z => d2 i z y, fun i x => x.elim (e1 i) fun y => e2 i (e3 i y), fun i x => e2 i (e4 i x), o⟩
theorem Star.monoL (h : Star P Q w F) (k : ∀ F, P w F → P' w F) : Star P' Q w F := by
  obtain ⟨F1, F2, a, b, r⟩ := h
  exact ⟨F1, F2, k F1 a, b, r⟩
theorem Star.rot (h : Star (Star P R) Q w F) : Star (Star P Q) R w F := by
  have k : Star Q (Star P R) w F := h.swap
  exact (Star.monoL k.assoc fun _ x => x.swap)
theorem Goes.next (h : Goes P w w1 F) {f : FuncId} {args : Array Value} {v : Ending} (k : ∀ F1, P w1 F1 → Calls Try.prog f args w1 fun e w' => e = v ∧ Goes P' w1 w' F1) : Calls Try.prog f args w1 fun e w' => e = v ∧ Goes P' w w' F := by
  obtain ⟨F1, q, c, n⟩ := h
  refine (k F1 q).mono fun e w' ⟨he, F2, q2, c2, n2⟩ => ⟨he, F2, q2, c.over c2 n, fun i hi => ?_⟩
  rcases n2 i hi with e | e
  · exact n i e
  · exact .inr (Nat.le_trans c.size e)
theorem Goes.chain (h : Goes P w w1 F) (k : ∀ F1, P w1 F1 → Goes P' w1 w2 F1) : Goes P' w w2 F := h.trans k
end
def ScA (bs bq bt b3 : Nat) (X : Sx) : Asn := Star (Star (QuA bq X.Q) (TiA bt X.P X.a)) (OwA bs bq bt b3 X.pr X.gs X.clk)
section
variable {w w' : World} {F : Nat → Prop} {bs bq bt b3 : Nat} {X : Sx}
theorem fit_sc : Fit (ScA bs bq bt b3 X) := (fit_qu.star fit_ti).star fit_ow
theorem Sc.own (h : ScA bs bq bt b3 X w F) : ∃ F2 gv, Ow w F2 bs bq bt b3 gv X.pr X.gs X.clk ∧ (∀ i, F2 i → F i) ∧ ∀ pr gs clk w', Goes (OwA bs bq bt b3 pr gs clk) w w' F2 → Goes (ScA bs bq bt b3 { X with pr := pr, gs := gs, clk := clk }) w w' F := by
  obtain ⟨F2, ⟨gv, a⟩, e, k⟩ := Star.splitR (fit_qu.star fit_ti) h
  exact ⟨F2, gv, a, e, fun pr gs clk w' g => k _ w' fit_ow g⟩
theorem Sc.que (h : ScA bs bq bt b3 X w F) : ∃ F2 bp z v, Qs w F2 bq bp z X.Q.1 v X.Q.2 ∧ ∀ s w', Goes (QuA bq s) w w' F2 → Goes (ScA bs bq bt b3 { X with Q := s }) w w' F := by
  obtain ⟨F1, a, _, k⟩ := Star.split fit_ow h
  obtain ⟨F2, ⟨bp, z, v, q⟩, _, k2⟩ := Star.split fit_ti a
  exact ⟨F2, bp, z, v, q, fun s w' g => k _ w' (fit_qu.star fit_ti) (k2 _ w' fit_qu g)⟩
theorem Sc.tim (h : ScA bs bq bt b3 X w F) : ∃ F2 bp lv, Ts w F2 bt bp lv X.P X.a ∧ (∀ P a w', Goes (TiA bt P a) w w' F2 → Goes (ScA bs bq bt b3 { X with P := P, a := a }) w w' F) ∧
    ∀ P a v A w', Goes (Star (TiA bt P a) (LiA v A)) w w' F2 → Goes (Star (ScA bs bq bt b3 { X with P := P, a := a }) (LiA v A)) w w' F := by
  obtain ⟨F1, a, _, k⟩ := Star.split fit_ow h
  obtain ⟨F2, ⟨bp, lv, q⟩, _, k2⟩ := Star.splitR fit_qu a
  exact ⟨F2, bp, lv, q, fun P a w' g => k _ w' (fit_qu.star fit_ti) (k2 _ w' fit_ti g), fun P a v A w' g => (k _ w' (fit_qu.star (fit_ti.star fit_li)) (k2 _ w' (fit_ti.star fit_li) g)).mono fun _ x => Star.rot (x.monoL fun _ y => y.assoc)⟩
theorem sc_put (h : ScA bs bq bt b3 X w F) (p : Nat) (g : Int) (hp : p < X.Q.1.length) (hg : 0 ≤ g) (hA : X.Q.2.length + 5 ≤ 17592186044416) :
    Calls Try.prog 36 #[.pointer (some ⟨bq, 0, none⟩), .int .i64 (p : Int), .int .i64 g] w fun e w' => e = .returned (.int .i64 0) ∧ Goes (ScA bs bq bt b3 { X with Q := putP X.Q p g }) w w' F := by
  obtain ⟨F2, bp, z, v, q, k⟩ := Sc.que h
  exact (put_any p g q hp hg hA).mono fun e w' ⟨a, l⟩ => ⟨a, k _ w' (goes_left l)⟩
theorem sc_last (h : ScA bs bq bt b3 X w F) (g : Int) (hg : 0 ≤ g) (hA : X.Q.2.length + 5 ≤ 17592186044416) :
    Calls Try.prog 42 #[.pointer (some ⟨bq, 0, none⟩), .int .i64 g] w fun e w' => e = .returned (.int .i64 0) ∧ Goes (ScA bs bq bt b3 { X with Q := (X.Q.1, X.Q.2 ++ [g]) }) w w' F := by
  obtain ⟨F2, bp, z, v, q, k⟩ := Sc.que h
  exact (last_any g q hg hA).mono fun e w' ⟨a, l⟩ => ⟨a, k _ w' (goes_left l)⟩
theorem sc_get (h : ScA bs bq bt b3 X w F) (p : Nat) (s : Int) (hp : p < X.Q.1.length) :
    Calls Try.prog 39 #[.pointer (some ⟨bq, 0, none⟩), .int .i64 (p : Int), .int .i64 s] w fun e w' => e = .returned (.tuple #[.int .i64 (getP X.Q p s).1.1, .bool (getP X.Q p s).1.2]) ∧ Goes (ScA bs bq bt b3 { X with Q := (getP X.Q p s).2 }) w w' F := by
  obtain ⟨F2, bp, z, v, q, k⟩ := Sc.que h
  exact (get_any p s q hp).mono fun e w' ⟨a, l⟩ => ⟨a, k _ w' (goes_left l)⟩
theorem sc_waiting (h : ScA bs bq bt b3 X w F) (p : Nat) (hp : p < X.Q.1.length) :
    Calls Try.prog 37 #[.pointer (some ⟨bq, 0, none⟩), .int .i64 (p : Int)] w fun e w' => e = .returned (.tuple #[.int .i64 (cnt (X.Q.1.getD p (-1, [])) : Nat), .int .i64 (X.Q.2.length : Nat)]) ∧ Cha (fun _ => False) w w' := by
  obtain ⟨F2, bp, z, v, q, k⟩ := Sc.que h
  exact (waiting_any p q hp).mono fun e w' ⟨a, n, l⟩ => ⟨a, by rw [l]; exact (Cha.refl _ w).drewN n⟩
theorem sc_next (h : ScA bs bq bt b3 X w F) (p : Nat) (hp : p < X.P.length) :
    Calls Try.prog 64 #[.pointer (some ⟨bt, 0, none⟩), .int .i64 (p : Int)] w fun e w' => e = .returned (.tuple #[.int .u64 (((X.P.getD p []).head?.map Ent.when).getD 0), .bool (X.P.getD p []).head?.isSome]) ∧ w = w' := by
  obtain ⟨F2, bp, lv, q, k⟩ := Sc.tim h
  have e : X.P[p]? = some (X.P.getD p []) := by simp [List.getD, hp]
  cases hL : X.P.getD p [] with
  | nil => rw [hL] at e; exact tnext_zero p q e
  | cons y l => rw [hL] at e; exact tnext_some p q e
theorem sc_count (h : ScA bs bq bt b3 X w F) (hm : many X.P ≤ 1024) :
    Calls Try.prog 35 #[.pointer (some ⟨bt, 0, none⟩)] w fun e w' => e = .returned (.int .i64 (many X.P : Int)) ∧ Cha (fun _ => False) w w' := by
  obtain ⟨F2, bp, lv, q, k⟩ := Sc.tim h
  exact (tcount_any q hm).mono fun e w' ⟨a, n, l⟩ => ⟨a, by rw [l]; exact (Cha.refl _ w).drewN n⟩
end
/-- A list with one more; lists put together. -/
def Ent.ltb (x y : Ent) : Bool := decide (x.when < y.when ∨ (x.when = y.when ∧ x.order < y.order))
theorem ltb_iff (x y : Ent) : x.ltb y = true ↔ x.lt y := by unfold Ent.ltb Ent.lt; simp
def insO (e : Ent) (L : List Ent) : List Ent := L.filter (fun x => x.ltb e) ++ e :: L.filter (fun x => e.ltb x)
def mrg (L1 L2 : List Ent) : List Ent := L1.foldr insO L2
def dueIds (L : List Ent) (now : Int) : List Int := (L.filter fun x => decide (x.when ≤ now)).map Ent.id
def dueRest (L : List Ent) (now : Int) : List Ent := L.filter fun x => decide (now < x.when)
theorem rises_ins {L : List Ent} (h : Rises L) (e : Ent) : Rises (insO e L) := by
  unfold insO Rises
  rw [List.pairwise_append, List.pairwise_cons]
  refine ⟨h.sublist List.filter_sublist, ⟨fun x hx => ?_, h.sublist List.filter_sublist⟩, fun x hx y hy => ?_⟩
  · exact (ltb_iff _ _).1 (List.mem_filter.1 hx).2
  · have hx := (ltb_iff _ _).1 (List.mem_filter.1 hx).2
    rcases List.mem_cons.1 hy with rfl | hy
    · exact hx
    · exact Ent.lt_trans hx ((ltb_iff _ _).1 (List.mem_filter.1 hy).2)
theorem mem_insO {L : List Ent} {e x : Ent} (h : ∀ y ∈ L, y.order ≠ e.order) : x ∈ insO e L ↔ x = e ∨ x ∈ L := by
  unfold insO
  rw [List.mem_append, List.mem_cons, List.mem_filter, List.mem_filter]
  constructor
  · rintro (⟨a, _⟩ | a | ⟨a, _⟩)
    · exact .inr a
    · exact .inl a
    · exact .inr a
  · rintro (a | a)
    · exact .inr (.inl a)
    · have hn := h x a
      by_cases c : x.lt e
      · exact .inl ⟨a, (ltb_iff _ _).2 c⟩
      · refine .inr (.inr ⟨a, (ltb_iff _ _).2 ?_⟩)
        unfold Ent.lt at *
        omega
theorem Added.is {L L' : List Ent} {e : Ent} (h : Added L e L') (hr : Rises L) (ho : ∀ y ∈ L, y.order ≠ e.order) : L' = insO e L := h.eq (rises_ins hr e) fun _ => mem_insO ho
theorem due_cut {L : List Ent} {now : Int} {k : Nat} (h : Upto L now k) (hr : Rises L) : (L.take k).map Ent.id = dueIds L now ∧ L.drop k = dueRest L now := by
  have e := List.take_append_drop k L
  have h1 := h.all
  have h2 := h.none hr
  unfold dueIds dueRest
  constructor
  · rw [show L.filter (fun x => decide (x.when ≤ now)) = (L.take k ++ L.drop k).filter (fun x => decide (x.when ≤ now)) by rw [e]]
    rw [List.filter_append, List.filter_eq_self.2 (fun x hx => by simpa using h1 x hx), List.filter_eq_nil_iff.2 (fun x hx => by have := h2 x hx; simp; omega), List.append_nil]
  · rw [show L.filter (fun x => decide (now < x.when)) = (L.take k ++ L.drop k).filter (fun x => decide (now < x.when)) by rw [e]]
    rw [List.filter_append, List.filter_eq_nil_iff.2 (fun x hx => by have := h1 x hx; simp; omega), List.filter_eq_self.2 (fun x hx => by simpa using h2 x hx), List.nil_append]
theorem mrg_rises : ∀ (L1 : List Ent) {L2 : List Ent}, Rises L2 → (L1 ++ L2).Pairwise (fun x y => x.order ≠ y.order) → Rises (mrg L1 L2) ∧ ∀ x, x ∈ mrg L1 L2 ↔ x ∈ L1 ∨ x ∈ L2
  | [], L2, h, _ => ⟨h, fun x => by simp [mrg]⟩
  | e :: l, L2, h, k => by
    rw [List.cons_append, List.pairwise_cons] at k
    obtain ⟨r, m⟩ := mrg_rises l h k.2
    refine ⟨rises_ins r e, fun x => ?_⟩
    show x ∈ insO e (mrg l L2) ↔ _
    rw [mem_insO fun y hy => fun c => k.1 y (List.mem_append.2 ((m y).1 hy)) c.symm, m, List.mem_cons, or_assoc]
theorem mrg_is {L1 L2 M : List Ent} (h2 : Rises L2) (ho : (L1 ++ L2).Pairwise (fun x y => x.order ≠ y.order)) (hm : M.Perm (L1 ++ L2)) (hs : M.Pairwise (fun x y => ¬ y.lt x)) : M = mrg L1 L2 := by
  obtain ⟨r, m⟩ := mrg_rises L1 h2 ho
  have hM : Rises M := by
    have hd : M.Pairwise (fun x y => x.order ≠ y.order) := (hm.pairwise_iff fun h c => h c.symm).2 ho
    refine (hs.and hd).imp ?_
    rintro x y ⟨a, b⟩
    unfold Ent.lt at *
    omega
  exact hM.unique r fun x => by rw [hm.mem_iff, List.mem_append, m]
end Go.Proofs.Ytaloafihbdamiaa
