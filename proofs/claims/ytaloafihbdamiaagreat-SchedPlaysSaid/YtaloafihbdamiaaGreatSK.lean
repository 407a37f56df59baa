/- The scheduler: timers: Add, Due, Move beside the rest; Sleep, isDue, dueElsewhere. -/
import Derived.Test.YtaloafihbdamiaaGreatSJ
namespace Go.Proofs.YtaloafihbdamiaaGreat
open Go.ChangeShapes Go.WideShapes Go.ChangeAt Go.RowKit
section
variable {w w' : World} {F : Nat → Prop} {bs bq bt b3 : Nat} {X : Sx}
theorem P_at {P : List (List Ent)} {p : Nat} (hp : p < P.length) : P[p]? = some (P.getD p []) := by simp [List.getD, hp]
theorem sc_add (h : ScA bs bq bt b3 X w F) (hN : Neat X.P X.a) (p : Nat) (hp : p < X.P.length) (hm : many X.P < 1024) (ha : 0 ≤ X.a) (ha2 : X.a < 2 ^ 63) (t n : Int) :
    Calls Tryz.prog 49 #[.pointer (some ⟨bt, 0, none⟩), .int .i64 (p : Int), .int .u64 t, .int .i64 n] w fun e w' => e = .returned (.int .i64 0) ∧ Goes (ScA bs bq bt b3 { X with P := X.P.set p (insO ⟨t, X.a, n⟩ (X.P.getD p [])), a := X.a + 1 }) w w' F := by
  obtain ⟨F2, bp, lv, q, k, -⟩ := Sc.tim h
  have hpa := P_at hp
  have hr := hN.tidy.up p _ hpa
  have hl := hN.tidy.lo p _ hpa
  refine (tadd_ok p t n q hpa hm ha ha2 fun i j => hr.mono _ i j).mono fun e w' ⟨a1, i, hpl, l⟩ => ⟨a1, ?_⟩
  have hA : Added (X.P.getD p []) ⟨t, X.a, n⟩ ((X.P.getD p []).take i ++ ⟨t, X.a, n⟩ :: (X.P.getD p []).drop i) := ⟨hr.ins (fun x hx => hl x hx) hpl, fun x => mem_ins, len_ins⟩
  rw [hA.is hr fun y hy => by have := hl y hy; show y.order ≠ X.a; omega] at l
  exact k _ _ w' (goes_tleft l)
theorem sc_due (h : ScA bs bq bt b3 X w F) (hN : Neat X.P X.a) (p : Nat) (hp : p < X.P.length) (hm : many X.P ≤ 1024) (now : Int) :
    Calls Tryz.prog 73 #[.pointer (some ⟨bt, 0, none⟩), .int .i64 (p : Int), .int .u64 now] w fun e w' => ∃ v, e = .returned v ∧ Goes (Star (ScA bs bq bt b3 { X with P := X.P.set p (dueRest (X.P.getD p []) now) }) (LiA v (dueIds (X.P.getD p []) now))) w w' F := by
  obtain ⟨F2, bp, lv, q, -, k⟩ := Sc.tim h
  have hpa := P_at hp
  have hr := hN.tidy.up p _ hpa
  have hl := many_at hpa
  refine (tdue_ok p q hpa (by omega)).mono fun e w' ⟨j, v, q1, hu, l, F', lv', q2, c2, n1, n2, m⟩ => ⟨v, q1, ?_⟩
  obtain ⟨e1, e2⟩ := due_cut hu hr
  rw [e1] at l
  rw [e2] at q2
  refine k _ X.a v _ w' ⟨fun i => F' i ∨ v.ownBlock = some i, ⟨F', fun i => v.ownBlock = some i, ⟨bp, lv', q2⟩, ⟨l, fun _ e => e, fun i e => l.lt e⟩, fun i x y => (m i y).1 x, fun _ x => .inl x, fun _ x => .inr x, fun i x => x.elim (q2.old i) fun e => l.lt e⟩, c2, fun i x => x.elim (n2 i) fun e => .inr (m i e).2⟩
theorem sc_move (h : ScA bs bq bt b3 X w F) (hN : Neat X.P X.a) (p q : Nat) (hp : p < X.P.length) (hq : q < X.P.length) (hne : p ≠ q) (hm : many X.P ≤ 1024) :
    Calls Tryz.prog 56 #[.pointer (some ⟨bt, 0, none⟩), .int .i64 (p : Int), .int .i64 (q : Int)] w fun e w' => e = .returned (.int .i64 0) ∧ Goes (ScA bs bq bt b3 { X with P := (X.P.set p []).set q (mrg (X.P.getD p []) (X.P.getD q [])) }) w w' F := by
  obtain ⟨F2, bp, lv, t, k, -⟩ := Sc.tim h
  have hpa := P_at hp
  have hqa := P_at hq
  have h1 := many_at hpa
  have h2 := many_at hqa
  refine (tmove_ok sort_is p q t hpa hqa hne (by omega)).mono fun e w' ⟨a1, M, m1, m2, l⟩ => ⟨a1, ?_⟩
  have ho : ((X.P.getD p []) ++ (X.P.getD q [])).Pairwise (fun x y => x.order ≠ y.order) := by
    rw [List.pairwise_append]
    exact ⟨hN.apart hpa, hN.apart hqa, fun x hx y hy e => hne (hN.own p q _ _ x y hpa hqa hx hy e).1⟩
  rw [mrg_is (hN.tidy.up q _ hqa) ho m1 m2] at l
  exact k _ X.a w' (goes_tleft l)
/-- A processor's goroutine waits for the clock. -/
def Sx.slp (X : Sx) (p : Nat) (t : Int) : Sx := Sx.stp { X with P := X.P.set p (insO ⟨t, X.a, X.on p⟩ (X.P.getD p [])), a := X.a + 1 } p (2, true)
theorem sleep_none (p t : Int) (w : World) : Calls Tryz.prog 26 #[.pointer none, .int .i64 p, .int .u64 t] w fun e w' => e = .returned (.int .i64 5) ∧ w = w' := by
  have C := Lib.hid (busy_none p w)
  go_enter Tryz.func26, Tryz.ntmps26
  go_wp2_with (go_at_call 44; ((with_reducible refine (C.out).mono ?_); rintro e w1 ⟨rfl, rfl⟩))
  go_ret
  exact ⟨rfl, rfl⟩
theorem sleep_bad (h : ScA bs bq bt b3 X w F) (p t : Int) (hp : p < 0 ∨ (X.pr.length : Int) ≤ p) : Calls Tryz.prog 26 #[.pointer (some ⟨bs, 0, none⟩), .int .i64 p, .int .u64 t] w fun e w' => e = .returned (.int .i64 1) ∧ w = w' := by
  have C := Lib.hid (busy_bad h p hp)
  clear h hp
  go_enter Tryz.func26, Tryz.ntmps26
  go_wp2_with (go_at_call 44; ((with_reducible refine (C.out).mono ?_); rintro e w1 ⟨rfl, rfl⟩))
  go_ret
  exact ⟨rfl, rfl⟩
theorem sleep_idle (h : ScA bs bq bt b3 X w F) (p : Nat) (t : Int) (hp : p < X.pr.length) (hn : X.on p = -1) : Calls Tryz.prog 26 #[.pointer (some ⟨bs, 0, none⟩), .int .i64 (p : Int), .int .u64 t] w fun e w' => e = .returned (.int .i64 4) ∧ w = w' := by
  have C := Lib.hid (busy_idle h p hp hn)
  clear h hp hn
  go_enter Tryz.func26, Tryz.ntmps26
  go_wp2_with (go_at_call 44; ((with_reducible refine (C.out).mono ?_); rintro e w1 ⟨rfl, rfl⟩))
  go_ret
  exact ⟨rfl, rfl⟩
theorem sleep_any (h : ScA bs bq bt b3 X w F) (hN : Neat X.P X.a) (p g : Nat) (t : Int) (hp : p < X.pr.length) (hpp : p < X.P.length) (hn : X.on p = (g : Int)) (hg : g < X.gs.length) (hm : many X.P < 1024) (ha : 0 ≤ X.a) (ha2 : X.a < 2 ^ 63) :
    Calls Tryz.prog 26 #[.pointer (some ⟨bs, 0, none⟩), .int .i64 (p : Int), .int .u64 t] w fun e w' => e = .returned (.int .i64 0) ∧ Goes (ScA bs bq bt b3 (X.slp p t)) w w' F := by
  have C := Lib.hid (busy_any h p hp (by show X.on p ≠ -1; omega))
  obtain ⟨F2, gv, o, -, -⟩ := Sc.own h
  obtain ⟨-, c1, -⟩ := o.facts
  obtain ⟨d0, -, -⟩ := Sc.pcs h hp
  have A : Hid (∀ W, Cha (fun _ => False) w W → Calls Tryz.prog 49 #[.pointer (some ⟨bt, 0, none⟩), .int .i64 (p : Int), .int .u64 t, .int .i64 (X.on p)] W fun e w' => e = .returned (.int .i64 0) ∧ w'.cell? ⟨b3, p * 2, none⟩ = some (.int .i64 (X.on p)) ∧ w'.cell? ⟨bs, 1, none⟩ = some (.pointer (some ⟨bt, 0, none⟩)) ∧
      Calls Tryz.prog 48 #[.pointer (some ⟨bs, 0, none⟩), .int .i64 (p : Int), .agg #[.int .i64 2, .bool true]] w' fun e w'' => e = .returned (.int .i64 0) ∧ Goes (ScA bs bq bt b3 (X.slp p t)) w w'' F) := Lib.hid fun W c =>
    (sc_add (fit_sc.same h c) hN p hpp hm ha ha2 t (X.on p)).mono fun e w' ⟨a, G⟩ => by
      have G := G.before c
      obtain ⟨F1, h1, c1, n1⟩ := G
      obtain ⟨_, _, o1, -, -⟩ := Sc.own h1
      exact ⟨a, (Sc.pcs h1 (p := p) hp).1, o1.facts.2.1, Goes.next ⟨F1, h1, c1, n1⟩ fun F3 h3 => stop_any h3 p g 2 true hp hn hg⟩
  clear h o hn
  generalize X.on p = y at *
  go_enter Tryz.func26, Tryz.ntmps26
  go_wp2_with (go_at_call 44; ((with_reducible refine (C.out).mono ?_); rintro e w1 ⟨rfl, rfl⟩))
  go_region_held3 (fun w' => w'.cell? ⟨b3, p * 2, none⟩ = some (.int .i64 y) ∧ w'.cell? ⟨bs, 1, none⟩ = some (.pointer (some ⟨bt, 0, none⟩)))
    (first
      | exact ⟨d0, c1⟩
      | go_keep)
    (first | (go_at_call 49; (with_reducible refine (A.out _ (by first | exact (Cha.refl _ _).drew | exact (Cha.refl _ _).drewN _ | exact Cha.refl _ _)).mono ?_); rintro e w1 ⟨rfl, e0, e1, hG⟩; have HC := Lib.hid hG; clear hG))
  all_goals
    go_wp2_with (go_at_call 48; ((with_reducible refine (HC.out).mono ?_); rintro e w3 ⟨rfl, hG⟩; have HG := Lib.hid hG; clear hG))
    go_ret
    exact ⟨rfl, HG.out⟩
/-- Is a processor's first timer due? -/
def Sx.due (X : Sx) (p : Nat) : Bool := match X.P.getD p [] with
  | [] => false
  | y :: _ => decide (y.when ≤ X.clk)
theorem isdue_any (h : ScA bs bq bt b3 X w F) (p : Nat) (hp : p < X.P.length) : Calls Tryz.prog 76 #[.pointer (some ⟨bs, 0, none⟩), .int .i64 (p : Int)] w fun e w' => e = .returned (.bool (X.due p)) ∧ w = w' := by
  have C := Lib.hid (sc_next h p hp)
  obtain ⟨F2, gv, o, -, -⟩ := Sc.own h
  obtain ⟨-, c1, -, -, c4, -⟩ := o.facts
  have HD : Hid (X.due p = match X.P.getD p [] with | [] => false | y :: _ => decide (y.when ≤ X.clk)) := Lib.hid rfl
  clear h o hp
  generalize X.due p = d at *
  cases hL : X.P.getD p [] with
  | nil =>
    rw [hL] at C HD
    have hd : d = false := HD.out
    subst hd
    clear HD hL
    dsimp only [List.head?_nil, Option.map_none, Option.getD_none, Option.isSome_none] at C
    go_enter Tryz.func76, Tryz.ntmps76
    go_wp2_with (go_at_call 88; ((with_reducible refine (C.out).mono ?_); rintro e w1 ⟨rfl, rfl⟩))
    go_ret
    exact ⟨rfl, rfl⟩
  | cons y l =>
    rw [hL] at C HD
    have hd : d = decide (y.when ≤ X.clk) := HD.out
    subst hd
    clear HD hL
    dsimp only [List.head?_cons, Option.map_some, Option.getD_some, Option.isSome_some] at C
    generalize y.when = t at *
    generalize X.clk = k at *
    by_cases hle : t ≤ k
    · have e : decide (t ≤ k) = true := decide_eq_true hle
      go_enter Tryz.func76, Tryz.ntmps76
      go_wp2_with (go_at_call 88; ((with_reducible refine (C.out).mono ?_); rintro e w1 ⟨rfl, rfl⟩))
      go_ret
      first | exact ⟨rfl, rfl⟩ | exact ⟨by rw [e]; rfl, rfl⟩
    · have e : decide (t ≤ k) = false := decide_eq_false hle
      go_enter Tryz.func76, Tryz.ntmps76
      go_wp2_with (go_at_call 88; ((with_reducible refine (C.out).mono ?_); rintro e w1 ⟨rfl, rfl⟩))
      go_ret
      first | exact ⟨rfl, rfl⟩ | exact ⟨by rw [e]; rfl, rfl⟩
end
end Go.Proofs.YtaloafihbdamiaaGreat
