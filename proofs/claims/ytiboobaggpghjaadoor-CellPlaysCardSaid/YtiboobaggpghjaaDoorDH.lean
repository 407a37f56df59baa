/- Contracts of layer 7's newBlock. -/
import Derived.Test.YtiboobaggpghjaaDoorDG
namespace Go.Proofs.YtiboobaggpghjaaDoor
open Go.ChangeShapes Go.WideShapes Go.ChangeAt Go.RowKit
variable {n pr : Nat} {F : Nat → Prop} {a : Ad} {W : World} {A : List Bk} {y : Bk}

/-- A block whose cells are all free, and that nobody holds. -/
def fresh (b k : Nat) (t : Int) (wd len : Nat) : Bk := ⟨b, k, t, wd, List.replicate len false, -1⟩
theorem box_cells' {W : World} {g : Nat} {p q r : Value} (h : W.heap[g]? = some (.cells #[p, q, r] 78 (0, 0))) : W.cell? ⟨g, 0, none⟩ = some p ∧ W.cell? ⟨g, 1, none⟩ = some q ∧ W.cell? ⟨g, 2, none⟩ = some r :=
  ⟨cell_of_row W g 0 _ 78 (0, 0) h, cell_of_row W g 1 _ 78 (0, 0) h, cell_of_row W g 2 _ 78 (0, 0) h⟩
theorem cnt_fresh (len : Nat) : cnt (List.replicate len false) = 0 := by
  unfold cnt; rw [List.count_replicate]; simp
set_option maxHeartbeats 4000000 in
theorem newBlock_ok (h : Cl n pr F a W A) {L : List Spn} (t1 : Tl W a.bt a.bm a.bp a.bs n L) (t2 : Lk (·.c) L A) (b k wd len : Nat) (t : Int) (c : Alc5 n L (k : Int) t ⟨b, k, t⟩ 0 (ins ⟨b, k, t⟩ L)) (ht : t ≠ -2) (hk : k ≤ 4096) (hw : 1 ≤ wd ∧ wd ≤ 262144) (hlen : k * 64 / wd = len)
    (inv' : Inv n pr (A ++ [fresh b k t wd len])) : Calls Tryd.prog 66 #[.pointer (some ⟨a.bc, 0, none⟩), .int .i64 (k : Int), .int .i64 t, .int .i64 (wd : Int)] W fun e w' => ∃ p q, e = .returned (.tuple #[.pointer (some ⟨p, 0, none⟩), .int .i64 0]) ∧
      Cl n pr (grow F W w') (a.put b p q) w' (A ++ [fresh b k t wd len]) ∧ Cha (fun j => j = a.bp ∨ j = a.bs ∨ j = a.mb) W w' := by
  have c0 := h.c0
  have C := alloc5_any c (by omega) t1
  unfold sv at C
  have C := Lib.hid C
  have H := Lib.hid h
  obtain ⟨m, m1, m2, m3⟩ := h.mp
  obtain ⟨es, kk, hmo⟩ := m1.obj
  have hn := h.nle
  have hr : b + k ≤ n := (inv'.rng (fresh b k t wd len) (List.mem_append_right _ (List.mem_singleton.2 rfl))).2
  have hlen2 : len ≤ 262144 := by rw [← hlen]; exact Nat.le_trans (Nat.div_le_self _ _) (by omega)
  have hquo : (k : Int) * 64 / (wd : Int) = (len : Int) := by rw [← hlen, Int.natCast_ediv, Int.natCast_mul]; rfl
  have nmb : a.bc ≠ a.mb ∧ a.bp ≠ a.mb ∧ a.bs ≠ a.mb := ⟨map_ne h.head hmo, map_ne t1.2.pg.body hmo, map_ne t1.2.sp hmo⟩
  have nbc : ¬ (a.bc = a.bp ∨ a.bc = a.bs) := fun e => by
    rcases e with e | e
    · exact ty_ne h.head t1.2.pg.body (by decide) e
    · exact ty_ne h.head t1.2.sp (by decide) e
  have hmb : m b = none := by
    cases hm : m b with
    | none => rfl
    | some p =>
      obtain ⟨z, q1, q2, q3⟩ := m3 b p hm
      have s1 := (List.pairwise_append.1 inv'.apart).2.2 z q1 (fresh b k t wd len) (List.mem_singleton.2 rfl)
      have s2 := h.inv.rng z q1
      have s3 := (inv'.rng (fresh b k t wd len) (List.mem_append_right _ (List.mem_singleton.2 rfl))).1
      have s1 : z.b + z.k ≤ b ∨ b + k ≤ z.b := s1
      have s3 : 1 ≤ k := s3
      omega
  have hfl : (A.filter nb).length ≤ 1000000 := Nat.le_trans (List.length_filter_le _ _) (by omega)
  have e1 : IntKind.i64.wrap ((k : Int) * 64) = (k : Int) * 64 := IntWalk.i64_in _ (by omega)
  have e2 : Int.tdiv ((k : Int) * 64) (wd : Int) = (len : Int) := by rw [Int.tdiv_eq_ediv_of_nonneg (by omega), hquo]
  have e3 : IntKind.i64.wrap (len : Int) = (len : Int) := IntWalk.i64_in _ (by omega)
  have hw0 : ((wd : Int) == 0) = false := by rw [beq_eq_false_iff_ne]; omega
  have hw1 := hw.1
  have hw2 := hw.2
  have M1 := Lib.hid m1
  have hbcl := h.lt _ h.own.1
  clear h t1 c hlen hw m1
  go_enter Tryd.func66, Tryd.ntmps66
  go_wp2_with (go_at_call 55; ((with_reducible refine (C.out).mono ?_); rintro e w1 ⟨rfl, ht, hc⟩; have HT1 := Lib.hid (ht.cha ((Cha.refl (fun _ => False) w1).alloc (.cells #[.int .i64 (b : Int), .int .i64 (k : Int), .int .i64 t] 78)) (fun x => x) (fun x => x) (fun x => x) (fun x => x)); have HC1 := Lib.hid (hc.alloc (.cells #[.int .i64 (b : Int), .int .i64 (k : Int), .int .i64 t] 78)); have hx := heap_alloc_new w1 (.cells #[.int .i64 (b : Int), .int .i64 (k : Int), .int .i64 t] 78); have HX := Lib.hid hx; clear hc ht hx))
  generalize w1.alloc (.cells #[.int .i64 (b : Int), .int .i64 (k : Int), .int .i64 t] 78) = W2 at *
  obtain ⟨x0, x1, x2⟩ := box_cells' HX.out
  have hsb : w1.heap.size < W2.heap.size := (Array.getElem?_eq_some_iff.1 HX.out).1
  generalize w1.heap.size = sb at *
  have hmk := mk_bools len (by omega) W2.drew
  obtain ⟨fc, hfc⟩ : ∃ fc, fc = fcells len (fun _ => Value.bool false) := ⟨_, rfl⟩
  rw [← hfc] at hmk
  have HFC := Lib.hid hfc
  clear hfc
  go_wp2
  go_region
  have n1 : (((W2.alloc (.cells fc 4)).alloc (.cells #[.int .i64 (b : Int), .int .i64 (k : Int), .int .i64 t, .int .i64 (wd : Int), .slice (some ⟨W2.heap.size, 0, none⟩) len len, .int .i64 0, .bool false] 81)).drew).heap[W2.heap.size + 1]? = some (.cells #[.int .i64 (b : Int), .int .i64 (k : Int), .int .i64 t, .int .i64 (wd : Int), .slice (some ⟨W2.heap.size, 0, none⟩) len len, .int .i64 0, .bool false] 81 (0, 0)) := heap_alloc2_new W2 _ _
  have n2 : (((W2.alloc (.cells fc 4)).alloc (.cells #[.int .i64 (b : Int), .int .i64 (k : Int), .int .i64 t, .int .i64 (wd : Int), .slice (some ⟨W2.heap.size, 0, none⟩) len len, .int .i64 0, .bool false] 81)).drew).heap[W2.heap.size]? = some (.cells fc 4 (0, 0)) := heap_alloc2_old W2 _ _
  have cc : Cha (fun _ => False) W2 (((W2.alloc (.cells fc 4)).alloc (.cells #[.int .i64 (b : Int), .int .i64 (k : Int), .int .i64 t, .int .i64 (wd : Int), .slice (some ⟨W2.heap.size, 0, none⟩) len len, .int .i64 0, .bool false] 81)).drew) := (((Cha.refl _ W2).alloc _).alloc _).drew
  obtain ⟨W3, hW3⟩ : ∃ W3, W3 = (((W2.alloc (.cells fc 4)).alloc (.cells #[.int .i64 (b : Int), .int .i64 (k : Int), .int .i64 t, .int .i64 (wd : Int), .slice (some ⟨W2.heap.size, 0, none⟩) len len, .int .i64 0, .bool false] 81)).drew) := ⟨_, rfl⟩
  rw [← hW3] at n1 n2 cc ⊢
  clear hW3 hmk x0 x1 x2
  have C13 := HC1.out.trans cc.wide
  have hg : W2.heap.size < W3.heap.size := (Array.getElem?_eq_some_iff.1 n2).1
  have hg1 : W2.heap.size + 1 < W3.heap.size := (Array.getElem?_eq_some_iff.1 n1).1
  have hgW := HC1.out.size
  generalize hgz : W2.heap.size = g at *
  have d0 := (Cl.c1 (H.out))
  have hbc : W3.heap[a.bc]? = _ := (C13.old _ hbcl nbc).trans H.out.head
  have d1 := cell_of_row W3 a.bc 1 _ 66 (0, 0) hbc
  have y0 := cell_of_row W3 (g + 1) 0 _ 81 (0, 0) n1
  simp only [List.getElem?_toArray, List.getElem?_cons_zero, List.getElem?_cons_succ] at d1 y0
  have M3 := (M1.out.cha C13 (by rintro (e | e); exact nmb.2.1 e.symm; exact nmb.2.2 e.symm)).cha (S := fun _ => False) ((Cha.refl _ W3).drew) (fun x => x)
  obtain ⟨W4, r4, p4, g4⟩ := M3.put (x := b) (p := g + 1) (by omega) hmb hfl
  have c34 : Cha (fun j => j = a.mb) W3 W4 := ((Cha.refl _ W3).drew).trans (turned_cha g4)
  have HN1 := Lib.hid n1
  have HN2 := Lib.hid n2
  have P4 := Lib.hid p4
  have C4 := Lib.hid c34
  have C3 := Lib.hid C13
  have CC := Lib.hid cc
  clear n1 n2 hbc M3 p4 g4 c34 C13 cc d0 c0
  go_wp2
  go_region
  go_wp2
  go_ret2
  have T4 : Tl W4 a.bt a.bm a.bp a.bs n (ins ⟨b, k, t⟩ L) := by
    have t3 := HT1.out.cha CC.out (fun x => x) (fun x => x) (fun x => x) (fun x => x)
    obtain ⟨es, kk, hmo⟩ := P4.out.obj
    have hmo3 : ∃ es kk, W3.heap[a.mb]? = some (.map es kk) := (M1.out.cha C3.out (by rintro (e | e); exact nmb.2.1 e.symm; exact nmb.2.2 e.symm)).obj
    obtain ⟨es3, kk3, hm3⟩ := hmo3
    exact t3.cha C4.out (map_ne t3.2.head hm3) (map_ne t3.2.pg.head hm3) (map_ne t3.2.pg.body hm3) (map_ne t3.2.sp hm3)
  have hall : Cha (fun j => j = a.bp ∨ j = a.bs ∨ j = a.mb) W W4 := (C3.out.mono fun _ _ e => by rcases e with e | e; exact .inl e; exact .inr (.inl e)).trans (C4.out.mono fun _ _ e => .inr (.inr e))
  have hmlt := M1.out.lt
  have ng1 : g + 1 ≠ a.mb := by omega
  have ng2 : g ≠ a.mb := by omega
  have B4 : Bl W4 (g + 1) g (fresh b k t wd len) := by
    refine ⟨?_, ?_⟩
    · rw [C4.out.old _ hg1 ng1, HN1.out]
      unfold bkC fresh
      rw [cnt_fresh]
      simp
    · have q : FRow 4 W3 g len (fun _ => Value.bool false) := by
        unfold FRow; rw [← HFC.out]; exact HN2.out
      have q2 := (C4.out.row q ng2).congr (r' := uV (List.replicate len false)) fun x hx => by
        unfold uV
        rw [List.getD_eq_getElem?_getD, List.getElem?_replicate, if_pos hx]; rfl
      show FRow 4 W4 g (List.replicate len false).length _
      rw [List.length_replicate]
      exact q2
  exact ⟨g + 1, g, rfl, H.out.add inv' ht rfl hall (fun _ e => e) ⟨_, T4, lk_add t2 (fresh b k t wd len)⟩ m2 m3 P4.out B4 (by omega) (by omega), hall⟩
set_option maxHeartbeats 1000000 in
theorem newBlock_no (h : Cl n pr F a W A) {L : List Spn} (t1 : Tl W a.bt a.bm a.bp a.bs n L) (t2 : Lk (·.c) L A) (k wd : Nat) (t : Int) (hk : (k : Int) ≤ 9223372036854775807) (c : Alc5 n L (k : Int) t noS 3 L) : Calls Tryd.prog 66 #[.pointer (some ⟨a.bc, 0, none⟩), .int .i64 (k : Int), .int .i64 t, .int .i64 (wd : Int)] W fun e w' =>
      e = .returned (.tuple #[.pointer none, .int .i64 3]) ∧ Cl n pr F a w' A ∧ Cha (fun j => j = a.bp ∨ j = a.bs ∨ j = a.mb) W w' := by
  have c0 := h.c0
  have C := alloc5_any c hk t1
  unfold sv noS at C
  have C : Hid (Calls Tryd.prog 55 #[.pointer (some ⟨a.bt, 0, none⟩), .int .i64 (k : Int), .int .i64 t] W fun e w' => e = .returned (.tuple #[.agg #[.int .i64 0, .int .i64 0, .int .i64 0], .int .i64 3]) ∧ Cl n pr F a w' A ∧ Cha (fun j => j = a.bp ∨ j = a.bs ∨ j = a.mb) W w') := Lib.hid (C.mono fun e w' ⟨he, ht, hc⟩ => by
    have hc' : Cha (fun j => j = a.bp ∨ j = a.bs ∨ j = a.mb) W w' := hc.mono fun _ _ e => by rcases e with e | e; exact .inl e; exact .inr (.inl e)
    obtain ⟨m, m1, m2, m3⟩ := h.mp
    obtain ⟨es, kk, hmo⟩ := m1.obj
    exact ⟨he, h.sub h.inv (fun z hz _ => hz) (fun _ _ => rfl) hc' (fun _ e => e) ⟨L, ht, t2⟩ ⟨m, m1.cha hc (by rintro (e | e); exact map_ne t1.2.pg.body hmo e.symm; exact map_ne t1.2.sp hmo e.symm), m2, m3⟩, hc'⟩)
  clear h t1 t2 c
  go_enter Tryd.func66, Tryd.ntmps66
  go_wp2_with (go_at_call 55; ((with_reducible refine (C.out).mono ?_); rintro e w1 ⟨rfl, h, hc⟩; have H1 := Lib.hid (h.same ((Cha.refl (fun _ => False) w1).alloc (.cells #[.int .i64 0, .int .i64 0, .int .i64 0] 78))); have C1 := Lib.hid (hc.alloc (.cells #[.int .i64 0, .int .i64 0, .int .i64 0] 78)); clear h hc))
  go_ret2
  exact ⟨rfl, H1.out, C1.out⟩
end Go.Proofs.YtiboobaggpghjaaDoor
