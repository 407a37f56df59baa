/- ScavTurns: the walk. -/
import Derived.Test.YtlpgfdphoiideaaSG
import Derived.Test.YtlpgfdphoiideaaAB
import Derived.Outline
namespace Go.Proofs.Ytlpgfdphoiideaa
open Go.ChangeShapes Go.WideShapes Go.ChangeAt Go.RowKit
theorem giv_one {st : Nat → Int} : ∀ {N : Nat}, (giv st N 1 = [] ∧ giS st N 1 = st) ∨ ∃ p : Nat, p < N ∧ giv st N 1 = [(p : Int)] ∧ st p = 1 ∧ giS st N 1 = fun i => if i = p then 0 else st i
  | 0 => .inl ⟨rfl, rfl⟩
  | N + 1 => by
    by_cases h : st N = 1
    · refine .inr ⟨N, by omega, ?_, h, ?_⟩
      · show (if st N = 1 then (N : Int) :: giv st N 0 else giv st N 1) = _
        rw [if_pos h, giv_none]
      · show (if st N = 1 then fun i => if i = N then 0 else giS st N 0 i else giS st N 1) = _
        rw [if_pos h, giS_none]
    · have e1 : giv st (N + 1) 1 = giv st N 1 := by show (if st N = 1 then (N : Int) :: giv st N 0 else giv st N 1) = _; rw [if_neg h]
      have e2 : giS st (N + 1) 1 = giS st N 1 := by show (if st N = 1 then fun i => if i = N then 0 else giS st N 0 i else giS st N 1) = _; rw [if_neg h]
      rw [e1, e2]
      rcases giv_one (st := st) (N := N) with k | ⟨p, a, b, c, d⟩
      · exact .inl k
      · exact .inr ⟨p, by omega, b, c, d⟩
theorem cn_one (st : Nat → Int) (x : Int) (o : Nat) : cn st x o 1 = if st o = x then 1 else 0 := by
  show 0 + (if st (o + 0) = x then 1 else 0) = _
  rw [Nat.zero_add, Nat.add_zero]
theorem bad_one {N o : Nat} (h : o < N) : bad N o 1 = false := by
  unfold bad
  rw [decide_eq_false (by omega), decide_eq_false (by omega), decide_eq_false (by omega)]; rfl
theorem fre_one {N o : Nat} {st : Nat → Int} (h : o < N) (k : st o = 2) : freR N st o 1 = 0 ∧ freS N st o 1 = fil st o 1 1 := by
  have e : cn st 2 o 1 = 1 := by rw [cn_one, if_pos k]
  have e1 : (o : Int).toNat = o := by omega
  have e2 : (1 : Int).toNat = 1 := rfl
  unfold freR freS
  rw [bad_one h, e1, e2, e, if_neg (by simp), if_pos rfl, if_neg (by simp), if_pos rfl]
  exact ⟨rfl, rfl⟩
theorem use_one {N o : Nat} {st : Nat → Int} (h : o < N) (k : st o ≠ 2) : useR N st o 1 = ((if st o = 0 then 1 else 0), 0) ∧ useS N st o 1 = fil st o 1 2 := by
  have e : cn st 2 o 1 = 0 := by rw [cn_one, if_neg k]
  have e1 : (o : Int).toNat = o := by omega
  have e2 : (1 : Int).toNat = 1 := rfl
  have hb := bad_one h
  have u1 : useR N st o 1 = (((cn st 0 o 1 : Nat) : Int), 0) := by unfold useR; rw [hb, e1, e2, if_neg (by simp), if_pos e]
  have u2 : useS N st o 1 = fil st o 1 2 := by unfold useS; rw [hb, e1, e2, if_neg (by simp), if_pos e]
  rw [u1, u2, cn_one]
  refine ⟨?_, rfl⟩
  by_cases c : st o = 0
  · rw [if_pos c, if_pos c]; rfl
  · rw [if_neg c, if_neg c]; rfl
theorem fil_one (st : Nat → Int) (o : Nat) (x : Int) : (fun i => if i = o then x else st i) = fil st o 1 x := by
  have := fil_succ st o 0 x
  rw [fil_zero] at this
  exact this
/-- A law's map, and its own list of the states. -/
structure Tn (w0 W : World) (bs bp g : Nat) (st : Nat → Int) : Prop where
  lv : Lv w0 W bs bp 64 st
  row : FRow 3 W g 64 (fun i => .int .i64 (st i))
  gp : g ≠ bp
  gs : g ≠ bs
  gn : w0.heap.size ≤ g
  val : ∀ i, i < 64 → st i = 0 ∨ st i = 1 ∨ st i = 2
/-- Between the call and the law's own store. -/
structure Tm (w0 W : World) (bs bp g : Nat) (st st' : Nat → Int) : Prop where
  lv : Lv w0 W bs bp 64 st'
  row : FRow 3 W g 64 (fun i => .int .i64 (st i))
  gp : g ≠ bp
  gs : g ≠ bs
  gn : w0.heap.size ≤ g
  val : ∀ i, i < 64 → st i = 0 ∨ st i = 1 ∨ st i = 2
section
variable {w0 w W W' : World} {bs bp g : Nat} {st st' : Nat → Int}
theorem Tn.same (h : Tn w0 W bs bp g st) (c : Cha (fun _ => False) W W') : Tn w0 W' bs bp g st := { h with lv := h.lv.same c, row := c.row h.row (fun x => x) }
theorem Tn.cha (h : Tn w0 W bs bp g st) : Cha (fun _ => False) w0 W := h.lv.2.1
theorem Tn.call (h : Tn w0 W bs bp g st) (k : SvL W W' bs bp 64 st') : Tm w0 W' bs bp g st st' := { h with lv := h.lv.left k, row := k.2.row h.row h.gp }
theorem Tm.put (h : Tm w0 W bs bp g st st') (p : Nat) (x : Int) (e : ∀ i, (if i = p then x else st i) = st' i) (hx : x = 0 ∨ x = 1 ∨ x = 2) : Tn w0 (W.setCell ⟨g, p, none⟩ (.int .i64 x)) bs bp g st' := by
  have c := Cha.setCell (S := (· = g)) (p := ⟨g, p, none⟩) (Cha.refl _ W) (fun _ => rfl) (.int .i64 x)
  refine ⟨⟨h.lv.1.other c h.gs.symm h.gp.symm, h.lv.2.1.over c fun i hi => .inr (by have := h.gn; omega), h.lv.2.2⟩, (h.row.set (i := p) (.int .i64 x)).congr fun i _ => ?_, h.gp, h.gs, h.gn, fun i hi => ?_⟩
  · rw [← e i]; by_cases c : i = p <;> simp [c]
  · rw [← e i]
    by_cases c : i = p
    · rw [if_pos c]; exact hx
    · rw [if_neg c]; exact h.val i hi
theorem Tn.aside (h : Tn w0 W bs bp g st) {k : Nat} (n : g ≠ k ∧ bs ≠ k ∧ bp ≠ k ∧ w0.heap.size ≤ k) (x : Nat) (v : Value) : Tn w0 (W.setCell ⟨k, x, none⟩ v) bs bp g st := by
  have c := Cha.setCell (S := (· = k)) (p := ⟨k, x, none⟩) (Cha.refl _ W) (fun _ => rfl) v
  exact { h with lv := ⟨h.lv.1.other c n.2.1 n.2.2.1, h.lv.2.1.over c fun i hi => .inr (by have := n.2.2.2; omega), h.lv.2.2⟩, row := c.row h.row n.1 }
theorem Tm.is (h : Tm w0 W bs bp g st st') (e : st' = st) : Tn w0 W bs bp g st := ⟨e ▸ h.lv, h.row, h.gp, h.gs, h.gn, h.val⟩
theorem tn_free (h : Tn w0 W bs bp g st) (o : Nat) (ho : o < 64) (k : st o = 2) :
    Calls Try.prog 35 #[.pointer (some ⟨bs, 0, none⟩), .int .i64 o, .int .i64 1] W fun e w' => e = .returned (.int .i64 0) ∧ Tm w0 w' bs bp g st (fil st o 1 1) :=
  (sfree_any h.lv.1 o 1 ⟨by omega, by omega⟩ ⟨by omega, by omega⟩).mono fun _ _ ⟨x, y⟩ => by
    rw [(fre_one ho k).1] at x; rw [(fre_one ho k).2] at y; exact ⟨x, h.call y⟩
theorem tn_use (h : Tn w0 W bs bp g st) (o : Nat) (ho : o < 64) (k : st o ≠ 2) :
    Calls Try.prog 33 #[.pointer (some ⟨bs, 0, none⟩), .int .i64 o, .int .i64 1] W fun e w' => e = .returned (.tuple #[.int .i64 (if st o = 0 then 1 else 0), .int .i64 0]) ∧ Tm w0 w' bs bp g st (fil st o 1 2) :=
  (use_any h.lv.1 o 1 ⟨by omega, by omega⟩ ⟨by omega, by omega⟩).mono fun _ _ ⟨x, y⟩ => by
    rw [(use_one ho k).1] at x; rw [(use_one ho k).2] at y; exact ⟨x, h.call y⟩
theorem tn_give (h : Tn w0 W bs bp g st) :
    Calls Try.prog 38 #[.pointer (some ⟨bs, 0, none⟩), .int .i64 1] W fun e w' => (∃ a c, e = .returned (.slice a 0 c) ∧ Tn w0 w' bs bp g st) ∨
      ∃ p : Nat, p < 64 ∧ st p = 1 ∧ ∃ b o c, e = .returned (.slice (some ⟨b, o, none⟩) 1 c) ∧ w'.cell? ⟨b, o, none⟩ = some (.int .i64 p) ∧ Tm w0 w' bs bp g st (fun i => if i = p then 0 else st i) :=
  (give_any h.lv.1 1 ⟨by omega, by omega⟩).mono fun _ w' ⟨v, x, m, y⟩ => by
    have e1 : (1 : Int).toNat = 1 := rfl
    rw [e1] at m y
    rcases giv_one (st := st) (N := 64) with ⟨k1, k2⟩ | ⟨p, p1, p2, p3, p4⟩
    · rw [k1] at m; rw [k2] at y
      obtain ⟨a, c, rfl, _⟩ := m.lies.form
      exact .inl ⟨a, c, x, (h.call y).is rfl⟩
    · rw [p2] at m; rw [p4] at y
      obtain ⟨a, c, rfl, _⟩ := m.lies.form
      obtain ⟨b, o, e, hz⟩ := int_at m.lies (by simp)
      subst e
      refine .inr ⟨p, p1, p3, b, o, c, x, ?_, h.call y⟩
      have := hz w' (Cha.refl _ _) 0 (by simp)
      simpa using this
theorem tn_counts (h : Tn w0 W bs bp g st) : Calls Try.prog 40 #[.pointer (some ⟨bs, 0, none⟩)] W fun e w' => e = .returned (.tuple #[.int .i64 (cn st 2 0 64 : Nat), .int .i64 (cn st 1 0 64 : Nat), .int .i64 (cn st 0 0 64 : Nat)]) ∧ Cha (fun _ => False) W w' := scounts_any h.lv.1
theorem arr_at {h : Nat} {x0 x1 x2 : Value} (hA : W.heap[h]? = some (.cells #[x0, x1, x2] 72 (0, 0))) : ∀ W', Cha (fun _ => False) W W' → W'.cell? ⟨h, 0, none⟩ = some x0 ∧ W'.cell? ⟨h, 1, none⟩ = some x1 ∧ W'.cell? ⟨h, 2, none⟩ = some x2 := fun W' c => by
  have hA' := (c.old h (row_lt' hA) (fun x => x)).trans hA
  exact ⟨cell_of_row W' h 0 _ 72 (0, 0) hA', cell_of_row W' h 1 _ 72 (0, 0) hA', cell_of_row W' h 2 _ 72 (0, 0) hA'⟩
set_option maxRecDepth 100000 in
set_option maxHeartbeats 16000000 in
theorem turns_walk (w : World) (a : Option Addr) (len c : Nat) (k : NumsC .u8 w a len c) :
    Calls Try.prog 11 #[.slice a len c] w fun e w' => e = .returned (.bool true) ∧ Cha (fun _ => False) w w' := by
  have AW := Lib.hid sawake
  have N1 : Hid (Calls Try.prog 30 #[.int .i64 64] w fun e w' => e = .returned (.tuple #[.pointer (some ⟨w.heap.size + 1, 0, none⟩), .int .i64 0]) ∧ Lv w w' (w.heap.size + 1) w.heap.size 64 (fun _ => 0)) := Lib.hid (lv_new 64 (by omega) (by omega) (Cha.refl (fun _ => False) w))
  have MK : Hid (∀ W : World, (Instr.makeSlice 65 (.int .i64 64) (.int .i64 64)).run Try.prog W = .ok (.slice (some ⟨W.heap.size, 0, none⟩) 64 64) (W.alloc (.cells (fcells 64 fun _ => .int .i64 0) 3))) := Lib.hid fun W => mk_ints 64 (by omega) W
  obtain ⟨hlc, hcap, hlm, hs⟩ := k
  have HS := Lib.hid hs
  clear hs
  go_enter Try.func11, Try.ntmps11
  go_wp2_with (first
    | (rw [MK.out])
    | (go_at_call 30; (with_reducible refine (N1.out).mono ?_); rintro e w1 ⟨rfl, h1⟩; have H1 := Lib.hid h1; clear h1)
    | (go_at_call 32; (with_reducible refine (AW.out _).mono ?_); rintro e w2 ⟨rfl, h2⟩; have H2 := Lib.hid (H1.out.same h2); clear h2))
  have T0 : Hid (Tn w (w2.alloc (.cells (fcells 64 fun _ => .int .i64 0) 3)) (w.heap.size + 1) w.heap.size w2.heap.size (fun _ => 0)) := Lib.hid
    ⟨H2.out.same ((Cha.refl _ _).alloc _), heap_alloc_new w2 _, by have := H2.out.1.row.lt; omega, by have := H2.out.1.lt; omega, H2.out.2.1.size, fun _ _ => .inl rfl⟩
  clear N1 AW MK H1 H2
  generalize w2.heap.size = g at *
  obtain ⟨bp, hbp⟩ : ∃ x, w.heap.size = x := ⟨_, rfl⟩
  rw [hbp] at T0 ⊢
  clear hbp
  generalize bp + 1 = bs at *
  go_loopw [35] (fun i wr => ∃ j : Nat, j ≤ len ∧ i = .int .i64 (j : Int) ∧ ∃ st : Nat → Int, Tn w wr bs bp g st) (fun i _ => len - (intOf i).toNat)
  case atStart => exact ⟨0, Nat.zero_le _, rfl, _, T0.out⟩
  case round =>
    clear T0
    obtain ⟨j, hj, rfl, st, hT⟩ := hrel
    by_cases hlt : j < len
    · obtain ⟨b, o, z, rfl, hz⟩ := HS.out (by omega)
      obtain ⟨hcell0, hwf⟩ := hz j hlt
      have hcell : wr.cell? ⟨b, o + j, none⟩ = some (.int .u8 (z j)) := by
        have e := hT.cha.old b (block_lt_of_cell hcell0) (fun x => x)
        simpa [World.cell?, e] using hcell0
      clear hcell0
      obtain ⟨z0, z1⟩ := (Lit.wf_int_iff _ _).1 hwf
      have z1 : z j ≤ 255 := z1
      have z0 : 0 ≤ z j := z0
      obtain ⟨q, hq⟩ := Int.eq_ofNat_of_zero_le z0
      rw [hq] at hcell z1
      clear hz hwf z0 hq HS
      obtain ⟨p, hp⟩ : ∃ p, q % 64 = p := ⟨_, rfl⟩
      have hp64 : p < 64 := by omega
      have hm : Int.tmod (q : Int) 64 = (p : Int) := by
        rw [Int.tmod_eq_emod_of_nonneg (by omega)]; omega
      have hw8 : IntKind.u8.wrap (p : Int) = (p : Int) := by unfold IntKind.wrap; simp [IntKind.signed, IntKind.bits]; omega
      have hw64 : IntKind.i64.wrap (p : Int) = (p : Int) := by rw [IntKind.wrap_i64]; omega
      have hmod : Int.tmod (Int.tmod (q : Int) 64) 64 = Int.tmod (q : Int) 64 := by rw [hm]; rw [Int.tmod_eq_emod_of_nonneg (by omega)]; omega
      clear hp hmod
      have HT := Lib.hid hT
      clear hT
      generalize hq2 : (q : Int) = qq at *
      clear hq2 q
      go_upto_block 2 with (fail)
      go_cut [] (fun wx => ∃ sn : Nat → Int, Tn w wx bs bp g sn)
      case first =>
        as_aux_lemma =>
          obtain ⟨v, hv⟩ : ∃ v, st p = v := ⟨_, rfl⟩
          have c1 := HT.out.row.cell hp64
          have hval := HT.out.val p hp64
          have kp : (0 : Int) ≤ (p : Int) := by omega
          have kp2 : (p : Int) < 64 := by omega
          by_cases h2 : v = 2
          · subst h2
            rw [hv] at c1
            have C := Lib.hid (tn_free HT.out p hp64 hv)
            clear hval
            have HV := Lib.hid hv
            clear hv
            go_wp2_with (go_at_call 35; ((with_reducible refine (C.out).mono ?_); rintro e w5 ⟨rfl, h⟩; have cr := h.row.cell hp64; have fr := h.row.free p; rw [HV.out] at cr; have H5 := Lib.hid h; clear h))
            go_meet
            exact ⟨_, H5.out.put p 1 (fun i => congrFun (fil_one st p 1) i) (.inr (.inl rfl))⟩
          · have hn2 : st p ≠ 2 := by rw [hv]; exact h2
            have h21 : (v == 2) = false := by simpa using h2
            by_cases h5 : (j : Int) % 5 = 4
            · have h51 : ((j : Int) % 5 == 4) = true := by simpa using h5
              rw [hv] at c1
              have C := Lib.hid (tn_give HT.out)
              clear hval h5 h2 hn2 hv
              go_upto_region 19 with (go_at_call 38; ((with_reducible refine (C.out).mono ?_); rintro e w5 h; have H5 := Lib.hid h; clear h; rcases H5.out with ⟨a1, c2, rfl, h⟩ | ⟨p2, p64, hp2, b1, o1, c2, rfl, h0, h⟩))
              · have H6 := Lib.hid h
                clear h H5
                go_wp2
                go_meet
                exact ⟨st, H6.out⟩
              · have cr := h.row.cell p64
                have fr := h.row.free p2
                rw [hp2] at cr
                have H6 := Lib.hid h
                clear h H5 hp2
                have kq : (0 : Int) ≤ (p2 : Int) := by omega
                have kq2 : (p2 : Int) < 64 := by omega
                have kq3 : decide ((63 : Int) < (p2 : Int)) = false := decide_eq_false (by omega)
                have kq4 : decide ((p2 : Int) < 0) = false := decide_eq_false (by omega)
                go_wp2
                go_meet
                exact ⟨_, H6.out.put p2 0 (fun i => rfl) (.inl rfl)⟩
            · have h51 : ((j : Int) % 5 == 4) = false := by simpa using h5
              have C := Lib.hid (tn_use HT.out p hp64 hn2)
              rw [hv] at c1
              rw [hv] at C hval
              clear h5 h2
              have HV := Lib.hid hv
              clear hv hn2
              have hv01 : v = 0 ∨ v = 1 := by
                rcases hval with e | e | e
                · exact .inl e
                · exact .inr e
                · subst e; cases h21
              clear hval
              rcases hv01 with rfl | rfl
              all_goals
                go_wp2_with (go_at_call 33; ((with_reducible refine (C.out).mono ?_); rintro e w5 ⟨rfl, h⟩; have cr := h.row.cell hp64; have fr := h.row.free p; rw [HV.out] at cr; have H5 := Lib.hid h; clear h))
                go_meet
                exact ⟨_, H5.out.put p 2 (fun i => congrFun (fil_one st p 2) i) (.inr (.inr rfl))⟩
      case rest =>
        as_aux_lemma =>
          obtain ⟨sn, hS⟩ := hcut
          have T1 : Hid (Tn w (wc.alloc (.cells #[.int .i64 0, .int .i64 0, .int .i64 0] 72)) bs bp g sn) := Lib.hid (hS.same ((Cha.refl _ _).alloc _))
          have A1 : Hid ((wc.alloc (.cells #[.int .i64 0, .int .i64 0, .int .i64 0] 72)).heap[wc.heap.size]? = some (.cells #[.int .i64 (cn sn 0 0 0 : Nat), .int .i64 (cn sn 1 0 0 : Nat), .int .i64 (cn sn 2 0 0 : Nat)] 72 (0, 0))) := Lib.hid (heap_alloc_new wc _)
          have B1 : Hid (g ≠ wc.heap.size ∧ bs ≠ wc.heap.size ∧ bp ≠ wc.heap.size ∧ w.heap.size ≤ wc.heap.size) := Lib.hid (by have := hS.row.lt; have := hS.lv.1.lt; have := hS.lv.1.row.lt; have := hS.cha.size; omega)
          have HLE : Hid (∀ x k, cn sn x 0 k ≤ k) := Lib.hid fun x k => cn_le sn x 0 k
          clear hS HT hcell
          go_wp2
          generalize wc.alloc (.cells #[.int .i64 0, .int .i64 0, .int .i64 0] 72) = W0 at *
          generalize wc.heap.size = h at *
          go_loopw [121] (fun i wx => ∃ k : Nat, k ≤ 64 ∧ i = .int .i64 (k : Int) ∧ wx.heap[h]? = some (.cells #[.int .i64 (cn sn 0 0 k : Nat), .int .i64 (cn sn 1 0 k : Nat), .int .i64 (cn sn 2 0 k : Nat)] 72 (0, 0)) ∧ Tn w wx bs bp g sn) (fun i _ => 64 - (intOf i).toNat)
          case atStart => exact ⟨0, by omega, rfl, A1.out, T1.out⟩
          case round =>
            clear A1 T1
            obtain ⟨k, hk, rfl, hA, hT⟩ := hrel
            by_cases hk64 : k < 64
            · have cr := hT.row.cell hk64
              have hval := hT.val k hk64
              have a0 := cell_of_row _ h 0 _ 72 (0, 0) hA
              have a1 := cell_of_row _ h 1 _ 72 (0, 0) hA
              have a2 := cell_of_row _ h 2 _ 72 (0, 0) hA
              have f0 := frozen_of_row _ h 0 _ 72 hA
              have f1 := frozen_of_row _ h 1 _ 72 hA
              have f2 := frozen_of_row _ h 2 _ 72 hA
              have e0 : cn sn 0 0 (k + 1) = cn sn 0 0 k + if sn k = 0 then 1 else 0 := by show _ + (if sn (0 + k) = 0 then 1 else 0) = _; rw [Nat.zero_add]
              have e1 : cn sn 1 0 (k + 1) = cn sn 1 0 k + if sn k = 1 then 1 else 0 := by show _ + (if sn (0 + k) = 1 then 1 else 0) = _; rw [Nat.zero_add]
              have e2 : cn sn 2 0 (k + 1) = cn sn 2 0 k + if sn k = 2 then 1 else 0 := by show _ + (if sn (0 + k) = 2 then 1 else 0) = _; rw [Nat.zero_add]
              have l0 := HLE.out 0 k
              have l1 := HLE.out 1 k
              have l2 := HLE.out 2 k
              have NX := Lib.hid (hT.aside B1.out)
              have PA := Lib.hid fun (x : Nat) (v : Value) => heap_setCell_same _ h x _ 72 v hA
              clear hT hA
              generalize cn sn 0 0 k = q0 at *
              generalize cn sn 1 0 k = q1 at *
              generalize cn sn 2 0 k = q2 at *
              have E0 := Lib.hid e0
              have E1 := Lib.hid e1
              have E2 := Lib.hid e2
              have HS := Lib.hid hval
              obtain ⟨v, hv⟩ : ∃ v, sn k = v := ⟨_, rfl⟩
              rw [hv] at cr hval
              have HV := Lib.hid hv
              clear e0 e1 e2 hv
              rcases hval with rfl | rfl | rfl
              · go_wp2
                go_roundw
                case rel => exact ⟨k + 1, by omega, by go_num, by
                  rw [E0.out, E1.out, E2.out, HV.out, if_pos rfl, if_neg (by omega), if_neg (by omega)]
                  exact PA.out 0 _, NX.out 0 _⟩
                case measure => simp [intOf]; omega
              · go_wp2
                go_roundw
                case rel => exact ⟨k + 1, by omega, by go_num, by
                  rw [E0.out, E1.out, E2.out, HV.out, if_pos rfl, if_neg (by omega), if_neg (by omega)]
                  exact PA.out 1 _, NX.out 1 _⟩
                case measure => simp [intOf]; omega
              · go_wp2
                go_roundw
                case rel => exact ⟨k + 1, by omega, by go_num, by
                  rw [E0.out, E1.out, E2.out, HV.out, if_pos rfl, if_neg (by omega), if_neg (by omega)]
                  exact PA.out 2 _, NX.out 2 _⟩
                case measure => simp [intOf]; omega
            · obtain rfl : k = 64 := by omega
              have C := Lib.hid (tn_counts hT)
              have HT := Lib.hid hT
              have HA := Lib.hid (arr_at hA)
              clear hT hA
              generalize cn sn 0 0 64 = q0 at *
              generalize cn sn 1 0 64 = q1 at *
              generalize cn sn 2 0 64 = q2 at *
              go_wp2_with (go_at_call 40; ((with_reducible refine (C.out).mono ?_); rintro e w9 ⟨rfl, h9⟩; obtain ⟨a0, a1, a2⟩ := HA.out _ h9; have H9 := Lib.hid (HT.out.same h9); clear h9))
              go_roundw
              case rel => exact ⟨j + 1, by omega, by go_num, sn, H9.out⟩
              case measure => simp [intOf]; omega
    · have HC := Lib.hid hT.cha
      clear hT
      go_wp2
      go_returns
      exact ⟨rfl, HC.out⟩
end
end Go.Proofs.Ytlpgfdphoiideaa
