/- Layer 7's firstOpen. -/
import Derived.Test.YtiboobaggpghjaaDoorDH
import Derived.Test.YtiboobaggpghjaaDoorSS
import Derived.Maps.AppendAt
namespace Go.Proofs.YtiboobaggpghjaaDoor
open Go.RowKit Go.Shelf
attribute [local go_sem] Oper.semAt_some
variable {n pr : Nat} {F : Nat → Prop} {a : Ad} {A : List Bk} {y : Bk}

/-- A block of the class that nobody holds and that has a free cell. -/
def Opn (A : List Bk) (k : Nat) (y : Bk) : Prop := y ∈ A ∧ y.c = (k : Int) ∧ ¬ 0 ≤ y.h ∧ false ∈ y.u
structure Least (A : List Bk) (k : Nat) (y : Bk) : Prop where
  opn : Opn A k y
  le : ∀ z, Opn A k z → y.b ≤ z.b
def NoOpn (A : List Bk) (k : Nat) : Prop := ∀ y, ¬ Opn A k y
def opS (A : List Bk) (k : Nat) (s : Spn) : Prop := ∃ y, Opn A k y ∧ y.b = s.b
/-- What the search has found among the spans ahead. -/
structure Sk (n pr : Nat) (F : Nat → Prop) (a : Ad) (A : List Bk) (k : Nat) (w W : World) {L : List Spn} (pre : List (Su L)) : Prop where
  cl : Cl n pr F a W A
  b0 : Boxed W w.heap.size 33 (.pointer (some ⟨a.bc, 0, none⟩))
  b1 : Boxed W (w.heap.size + 1) 3 (.int .i64 (k : Int))
  b2 : Boxed W (w.heap.size + 1 + 1) 74 (.pointer none)
  b3 : Boxed W (w.heap.size + 1 + 1 + 1) 59 (.pointer (some ⟨a.bt, 0, none⟩))
  no : ∀ s ∈ pre, ¬ opS A k s.1
  cha : Cha (fun _ => False) w W
structure Fo (n pr : Nat) (F : Nat → Prop) (a : Ad) (A : List Bk) (k : Nat) (w W : World) {L : List Spn} (c : Code) (pre ini : List (Su L)) (x : Su L) (y : Bk) : Prop where
  ret : c = .ret
  eq : pre = ini ++ [x]
  no : ∀ s ∈ ini, ¬ opS A k s.1
  opn : Opn A k y
  yb : y.b = x.1.b
  b2 : Boxed W (w.heap.size + 1 + 1) 74 (.pointer (some ⟨a.pb y.b, 0, none⟩))
  cha : Cha (fun _ => False) w W
theorem Cl.from_ {W W' : World} {B : Nat} (h : Cl n pr F a W A) (hB : ∀ i, F i → i < B) (h0 : 0 < B) (c : Cha (fun i => B ≤ i) W W') : Cl n pr F a W' A := h.cha c (fun i hi => by have := hB i hi; omega) (by omega)
theorem sk_own {k B : Nat} {w : World} {L : List Spn} (hB : w.heap.size ≤ B) (hF : ∀ i, F i → i < B) (h0 : 0 < B) : OwnFrom B (fun (pre : List (Su L)) W => Sk n pr F a A k w W pre) :=
  ownFrom_of fun _ _ _ h hk hc => ⟨h.cl.from_ hF h0 hc, (hk _ _ _ _ h.b0).trans h.b0, (hk _ _ _ _ h.b1).trans h.b1, (hk _ _ _ _ h.b2).trans h.b2, (hk _ _ _ _ h.b3).trans h.b3, h.no, h.cha.over hc fun i hi => .inr (by omega)⟩
theorem fo_own {k B : Nat} {w : World} {L : List Spn} (c : Code) (hB : w.heap.size ≤ B) : OwnFrom B (fun (pre : List (Su L)) W => ∃ ini x y, Fo n pr F a A k w W c pre ini x y) :=
  ownFrom_of fun _ _ _ ⟨ini, x, y, h⟩ hk hc => ⟨ini, x, y, h.ret, h.eq, h.no, h.opn, h.yb, (hk _ _ _ _ h.b2).trans h.b2, h.cha.over hc fun i hi => .inr (by omega)⟩

set_option maxRecDepth 100000 in
set_option maxHeartbeats 4000000 in
theorem fopen_in (m k : Nat) (hm : 3 ≤ m) (hk : k < 16) (w : World) (h : Cl n pr F a w A) :
    CallsIn Fence.wide m Tryd.prog 77 #[.pointer (some ⟨a.bc, 0, none⟩), .int .i64 (k : Int)] w fun e W' => ((∃ y, Least A k y ∧ e = .returned (.pointer (some ⟨a.pb y.b, 0, none⟩))) ∨ (NoOpn A k ∧ e = .returned (.pointer none))) ∧ Cha (fun _ => False) w W' := by
  have h1 : 1 ≤ m := by omega
  have C := Lib.hid fun W bt => all_box bt W
  obtain ⟨L, t1, t2⟩ := h.tl
  have c0 := h.c0
  have hbc := h.lt _ h.own.1
  have hlt := t1.2.lt
  have hplt := t1.2.pg.lt
  have hsz0 : 0 < w.heap.size := by omega
  have c0' : (((w.alloc (.cells #[.pointer (some ⟨a.bc, 0, none⟩)] 33)).alloc (.cells #[.int .i64 (k : Int)] 3)).alloc (.cells #[.pointer none] 74)).cell? ⟨a.bc, 0, none⟩ = some (.pointer (some ⟨a.bt, 0, none⟩)) := (h.same (((Cha.refl _ w).alloc _).alloc _ |>.alloc _)).c0
  have H := Lib.hid h
  have HT := Lib.hid t1
  have HK := Lib.hid t2
  clear h t1 t2
  refine callsIn_of_wp_marks Tryd.func77 rfl trivial ?_ rfl
  simp only [Tryd.ntmps77, List.size_toArray, List.length_cons, List.length_nil, Nat.reduceAdd, Nat.reduceSub, Array.replicate_succ, Array.replicate_zero, List.push_toArray, List.append_toArray, List.nil_append, List.cons_append]
  gi_wp2_with (refine ⟨trivial, ?_⟩; gi_at_call 84; refine (callsIn_wide.2 (C.out _ _)).mono ?_; rintro e w1 ⟨rfl, rfl⟩)
  have b0 := Boxed.new w 33 (.pointer (some ⟨a.bc, 0, none⟩))
  have b1 := Boxed.new (w.alloc (.cells #[.pointer (some ⟨a.bc, 0, none⟩)] 33)) 3 (.int .i64 (k : Int))
  have b2 := Boxed.new ((w.alloc (.cells #[.pointer (some ⟨a.bc, 0, none⟩)] 33)).alloc (.cells #[.int .i64 (k : Int)] 3)) 74 (.pointer none)
  have b3 := heap_alloc_new (((w.alloc (.cells #[.pointer (some ⟨a.bc, 0, none⟩)] 33)).alloc (.cells #[.int .i64 (k : Int)] 3)).alloc (.cells #[.pointer none] 74)) (.cells #[.pointer (some ⟨a.bt, 0, none⟩)] 59)
  simp only [World.size_alloc] at b1 b2 b3
  have hC0 : Cha (fun _ => False) w ((((w.alloc (.cells #[.pointer (some ⟨a.bc, 0, none⟩)] 33)).alloc (.cells #[.int .i64 (k : Int)] 3)).alloc (.cells #[.pointer none] 74)).alloc (.cells #[.pointer (some ⟨a.bt, 0, none⟩)] 59)) := (((Cha.refl _ w).alloc _).alloc _).alloc _ |>.alloc _
  refine wpIn_rangeFunc_ownH rfl h1 (gf := 86) (lb := #[.pointer (some ⟨w.heap.size + 1 + 1 + 1, 0, none⟩)]) rfl trivial (enters_of Tryd.func86 (by kernel_rfl) rfl)
    (spans_su (m - 1) (w.heap.size + 1 + 1 + 1) a.bt a.bm a.bp a.bs n L (by omega) _ (FRow.one b3) (HT.out.cha hC0 (fun x => x) (fun x => x) (fun x => x) (fun x => x))) Kp5.trans (Kp5.put (by simp) (by simp; omega) (by simp; omega) (by simp; omega) (by simp; omega)) (Below.refl _ _) (fun _ => rfl)
    (fun pre W => Sk n pr F a A k w W pre)
    (fun c pre W => ∃ ini x y, Fo n pr F a A k w W c pre ini x y)
    (sk_own (by simp; omega) (fun i hi => by have := H.out.lt i hi; simp; omega) (by simp))
    (fun c => fo_own c (by simp; omega))
    ⟨H.out.same hC0, ((b0.alloc _).alloc _).alloc _, (b1.alloc _).alloc _, b2.alloc _, b3, fun _ h => (by cases h), hC0⟩
    (fun x a' W => ∃ Bx, w.heap.size + 1 + 1 < Bx ∧ BoxS W Bx x.1 ∧ a' = { tmps := #[.pointer (some ⟨a.bc, 0, none⟩), .int .i64 (k : Int), .pointer (some ⟨w.heap.size, 0, none⟩), .pointer (some ⟨w.heap.size + 1, 0, none⟩), .pointer (some ⟨w.heap.size + 1 + 1, 0, none⟩), .pointer (some ⟨Bx, 0, none⟩), undef,
      .pointer (some ⟨a.bc, 0, none⟩), .pointer (some ⟨a.bc, 0, none⟩), .pointer (some ⟨a.bc, 0, none⟩), .pointer (some ⟨a.bt, 0, none⟩), .func (.func 86) #[] #[.pointer (some ⟨w.heap.size + 1 + 1 + 1, 0, none⟩)], .agg #[.int .i64 (x.1.b : Int), .int .i64 (x.1.k : Int), .int .i64 x.1.t],
      undef, undef, undef, undef, undef, undef, undef, undef, undef, undef, undef, undef, undef, undef, undef, undef, undef, undef, undef, undef, undef, undef], defers := [] })
    (fun x a' => ownFrom_of fun _ _ _ ⟨Bx, h1, h2, h3⟩ hk _ => ⟨Bx, h1, (hk _ _ _ _ h2).trans h2, h3⟩) ?assign ?body ?done ?stop
  case assign =>
    rintro l pre x W K hS hK
    have hsz := hS.b3.lt
    have hsz2 := hS.cha.size
    unfold sv
    gi_wp2
    refine hK _ _ ((KeepsOthers.alloc _ _).from _) ?_ ⟨hS.cl.same ((Cha.refl _ W).alloc _), hS.b0.alloc _, hS.b1.alloc _, hS.b2.alloc _, hS.b3.alloc _, hS.no, hS.cha.alloc _⟩ ⟨W.heap.size, by omega, heap_alloc_new W _, rfl⟩
    exact ⟨heap_alloc_old _ _ (by omega), heap_alloc_old _ _ (by omega), heap_alloc_old _ _ (by omega), heap_alloc_old _ _ (by omega), heap_alloc_old _ _ (by omega)⟩
  case body =>
    rintro l pre x a' W _ _ hS ⟨Bx, hBx, hX, rfl⟩ hlen
    have c1 := hS.b0.cell
    have c2 := hS.b1.cell
    have c3 := hS.b2.cell
    have f3 := hS.b2.frozen
    have y0 := cell_of_row W Bx 0 _ 78 (0, 0) hX
    have y1 := cell_of_row W Bx 1 _ 78 (0, 0) hX
    have y2 := cell_of_row W Bx 2 _ 78 (0, 0) hX
    simp only [List.getElem?_toArray, List.getElem?_cons_zero, List.getElem?_cons_succ] at y0 y1 y2
    have d1 := hS.cl.c1
    obtain ⟨y, hy, hyx⟩ := (HK.out x.1).1 x.2
    have HS := Lib.hid hS
    have hn := hS.cl.nle
    have hr := hS.cl.inv.rng y hy
    have hW2 := hS.b2.lt
    clear hS hX b0 b1 b2 b3 hC0 c0 c0'
    have ex : x.1.b = y.b ∧ x.1.k = y.k ∧ x.1.t = y.c := by rw [hyx]; exact ⟨rfl, rfl, rfl⟩
    rw [ex.1] at y0
    rw [ex.2.1] at y1
    rw [ex.2.2] at y2
    have stay : ∀ B W', W' = W ∨ (∃ m, W' = W.drewN m) → (¬ opS A k x.1) → KeepsFrom B W W' ∧ Kp5 (w.heap.size + 1 + 1 + 1) a.bt a.bm a.bp a.bs W W' ∧ Sk n pr F a A k w W' (pre ++ [x]) := fun B W' hW' hno => by
      have hno2 : ∀ s ∈ pre ++ [x], ¬ opS A k s.1 := fun s hs => by
        rcases List.mem_append.1 hs with hs | hs
        · exact HS.out.no s hs
        · obtain rfl := List.mem_singleton.1 hs; exact hno
      rcases hW' with rfl | ⟨m, rfl⟩
      · exact ⟨KeepsFrom.refl _ _, ⟨rfl, rfl, rfl, rfl, rfl⟩, HS.out.cl, HS.out.b0, HS.out.b1, HS.out.b2, HS.out.b3, hno2, HS.out.cha⟩
      · exact ⟨⟨Nat.le_refl _, fun _ _ _ h _ => h⟩, ⟨rfl, rfl, rfl, rfl, rfl⟩, HS.out.cl.same ((Cha.refl _ W).drewN m), HS.out.b0, HS.out.b1, HS.out.b2, HS.out.b3, hno2, HS.out.cha.drewN m⟩
    have STAY := Lib.hid stay
    have EX := Lib.hid ex
    have HY := Lib.hid hy
    clear stay ex hyx
    by_cases hck : y.c = (k : Int)
    · rw [hck] at y2
      have hcn : y.c ≠ -2 := by omega
      obtain ⟨m, m1, m2, m3⟩ := HS.out.cl.mp
      have lk := (m1.cha (S := fun _ => False) ((Cha.refl _ W).drew) (fun x => x)).look (x := y.b) (by omega) (m2 y HY.out hcn)
      have B := HS.out.cl.bl y HY.out hcn
      have b6 := B.cells.2.2.2.2
      have HB := Lib.hid (B.cha (S := fun _ => False) ((Cha.refl _ W).drew) (fun x => x) (fun x => x))
      have HCK := Lib.hid hck
      have only : ∀ z, Opn A k z → z.b = x.1.b → z = y := fun z hz e => HS.out.cl.inv.inj hz.1 HY.out (by rw [e, EX.out.1])
      have ONLY := Lib.hid only
      clear m1 m2 m3 B only hck
      generalize hpq : a.pb y.b = pby at *
      have HPQ := Lib.hid hpq
      clear hpq
      by_cases h0 : 0 ≤ y.h
      · rw [decide_eq_true h0] at b6
        gi_wp2
        gi_region
        all_goals
         gi_wp2
         first | refine ⟨trivial, ?_⟩ | refine ⟨fun _ _ => trivial, ?_⟩
         gi_wp2
         exact STAY.out _ _ (.inr ⟨1, rfl⟩) (by
          rintro ⟨z, hz, e⟩
          obtain rfl := ONLY.out z hz e
          exact hz.2.2.1 h0)
      · rw [decide_eq_false h0] at b6
        by_cases hu : false ∈ y.u
        · have FL := Lib.hid (full_no HB.out hu)
          have hopn : Opn A k y := ⟨HY.out, HCK.out, h0, hu⟩
          have HO := Lib.hid hopn
          clear hopn hu
          gi_wp2
          gi_region
          all_goals
            gi_wp2_with (refine ⟨trivial, fun _ => by omega, ?_⟩; gi_at_call 76; refine (CallsIn.inRound l (callsIn_wide.2 FL.out)).mono ?_; rintro e w1 ⟨rfl, mm, rfl⟩)
            refine ⟨(show KeepsFrom _ W (W.drewN (1 + mm)) from ⟨Nat.le_refl _, fun _ _ _ h _ => h⟩).trans ((KeepsOthers.setCell _ _ _).from _), pre, x, y, rfl, rfl, HS.out.no, HO.out, EX.out.1.symm, ?_, ?_⟩
            · rw [HPQ.out]
              exact (show Boxed (W.drewN (1 + mm)) (w.heap.size + 1 + 1) 74 (.pointer none) from HS.out.b2).set _
            · exact (HS.out.cha.drewN (1 + mm)).setCell (p := ⟨w.heap.size + 1 + 1, 0, none⟩) (fun h => absurd h (by simp; omega)) _
        · have FL := Lib.hid (full_yes HB.out hu)
          have HU := Lib.hid hu
          clear hu
          gi_wp2
          gi_region
          all_goals
            gi_wp2_with (refine ⟨trivial, fun _ => by omega, ?_⟩; gi_at_call 76; refine (CallsIn.inRound l (callsIn_wide.2 FL.out)).mono ?_; rintro e w1 ⟨rfl, mm, rfl⟩)
            exact STAY.out _ _ (.inr ⟨_, rfl⟩) (by
              rintro ⟨z, hz, e⟩
              obtain rfl := ONLY.out z hz e
              exact HU.out hz.2.2.2)
    · have q1 : (y.c == (k : Int)) = false := by rw [beq_eq_false_iff_ne]; exact hck
      have HC := Lib.hid hck
      gi_wp2
      exact STAY.out _ _ (.inl rfl) (by
        rintro ⟨z, hz, e⟩
        obtain rfl := HS.out.cl.inv.inj hz.1 HY.out (by rw [e, EX.out.1])
        exact HC.out hz.2.1)
  case done =>
    rintro D ys W hD hys hS hK
    have c2 := hS.b2.cell
    have f2 := hS.b2.frozen
    have HS := Lib.hid hS
    clear hS
    gi_wp2
    have hK' := (KeepsOthers.setCell W ⟨w.heap.size + 1 + 1, 0, none⟩ (.pointer none)).same D _ hK rfl
    refine ⟨by simp, .inl ⟨_, _, rfl, run_takeDeferred hK', ?_⟩⟩
    have B2 := HS.out.b2.set (.pointer none)
    simp at hD
    have g2 := (box_of B2 (World.putObj_heap_other (o := .deferred none) (show w.heap.size + 1 + 1 ≠ D by omega))).cell
    refine ⟨.pointer none, ?_, .inr ⟨?_, rfl⟩, ?_⟩
    · simp [results, Tryd.f77, go_sem, g2]
    · intro y hy
      have hs : (⟨y.b, y.k, y.c⟩ : Spn) ∈ L := (HK.out _).2 ⟨y, hy.1, rfl⟩
      rw [← hys] at hs
      obtain ⟨z, hz, e⟩ := List.mem_map.1 hs
      exact HS.out.no z hz ⟨y, hy, by rw [e]⟩
    · exact (HS.out.cha.setCell (p := ⟨w.heap.size + 1 + 1, 0, none⟩) (fun h => absurd h (by simp; omega)) _).putObj (by omega) _
  case stop =>
    rintro D c pre W hD hpre ⟨ini, x, y, hF⟩ hK
    obtain rfl := hF.ret
    have HF := Lib.hid hF
    clear hF
    gi_wp2
    refine ⟨by simp, .inl ⟨_, _, rfl, run_takeDeferred hK, ?_⟩⟩
    simp at hD
    have g2 := (box_of HF.out.b2 (World.putObj_heap_other (o := .deferred none) (show w.heap.size + 1 + 1 ≠ D by omega))).cell
    refine ⟨.pointer (some ⟨a.pb y.b, 0, none⟩), ?_, .inl ⟨y, ⟨HF.out.opn, fun z hz => ?_⟩, rfl⟩, HF.out.cha.putObj (by omega) _⟩
    · simp [results, Tryd.f77, go_sem, g2]
    · rw [HF.out.eq, List.map_append] at hpre
      obtain ⟨rest, hr⟩ := hpre
      have hs : (⟨z.b, z.k, z.c⟩ : Spn) ∈ L := (HK.out _).2 ⟨z, hz.1, rfl⟩
      have up := HT.out.1.up
      rw [← hr] at hs up
      rw [HF.out.yb]
      rcases List.mem_append.1 hs with hs | hs
      · rcases List.mem_append.1 hs with hs | hs
        · obtain ⟨s, q1, q2⟩ := List.mem_map.1 hs
          exact absurd ⟨z, hz, by rw [q2]⟩ (HF.out.no s q1)
        · have e : (⟨z.b, z.k, z.c⟩ : Spn) = x.1 := by simpa using hs
          rw [← e]; exact Nat.le_refl _
      · have q := (List.pairwise_append.1 up).2.2 x.1 (by simp) _ hs
        have q : x.1.b + x.1.k ≤ z.b := q
        omega
theorem fopen_any (k : Nat) (hk : k < 16) {w : World} (h : Cl n pr F a w A) :
    Calls Tryd.prog 77 #[.pointer (some ⟨a.bc, 0, none⟩), .int .i64 (k : Int)] w fun e W' => ((∃ y, Least A k y ∧ e = .returned (.pointer (some ⟨a.pb y.b, 0, none⟩))) ∨ (NoOpn A k ∧ e = .returned (.pointer none))) ∧ Cha (fun _ => False) w W' :=
  callsIn_wide.1 (fopen_in 3 k (by omega) hk w h)
end Go.Proofs.YtiboobaggpghjaaDoor
