/- ChansOrder: the walk. -/
import Derived.Test.YtnhjkmkocpjkmaaO
import Derived.Test.YtnhjkmkocpjkmaaQ
namespace Go.Proofs.Ytnhjkmkocpjkmaa
open Go.ChangeShapes Go.WideShapes Go.ChangeAt Go.RowKit
variable {w w' W : World} {bc c : Nat} {s : St} {i S G m : Nat}

/-- A channel behind i calls. -/
def Goes (w0 w : World) (bc c i S G m : Nat) : Prop := ∃ s, Live w0 w bc s ∧ Ord c s i S G m
theorem goes_send (h : Goes w W bc c i S G m) (hi : i < 8796093022208) : (∃ r : Int, 0 ≤ r ∧ r < (i : Int) ∧ S = G ∧ 0 < m ∧ Calls Try.prog 13 #[.pointer (some ⟨bc, 0, none⟩), .int .i64 (i : Int), .int .u64 ((S : Int) + 1), .bool true] W fun e w' => ∃ x, e = .returned (.agg #[.int .i64 2, .int .i64 r, .int .u64 x]) ∧ Goes w w' bc c (i + 1) (S + 1) (G + 1) (m - 1)) ∨
    (∃ t : Int, t ≠ 2 ∧ Calls Try.prog 13 #[.pointer (some ⟨bc, 0, none⟩), .int .i64 (i : Int), .int .u64 ((S : Int) + 1), .bool true] W fun e w' => ∃ r x, e = .returned (.agg #[.int .i64 t, .int .i64 r, .int .u64 x]) ∧ Goes w w' bc c (i + 1) (S + 1) G m) := by
  obtain ⟨s, hL, hO⟩ := h
  have C := live_send hL i ((S : Int) + 1) true (Nat.lt_of_le_of_lt hO.sz hi)
  rcases hO.send with ⟨h1, h2, h3, h4, h5, h6⟩ | ⟨h1, h2⟩
  · exact .inl ⟨_, h3, h4, h2, h5, C.mono fun e w' ⟨a, b⟩ => ⟨(s.send i ((S : Int) + 1) true).1.val, by rw [a]; unfold Res.v; rw [h1], _, b, h6⟩⟩
  · exact .inr ⟨_, h1, C.mono fun e w' ⟨a, b⟩ => ⟨_, _, a, _, b, h2⟩⟩
theorem goes_recv (h : Goes w W bc c i S G m) (hi : i < 8796093022208) : (Calls Try.prog 15 #[.pointer (some ⟨bc, 0, none⟩), .int .i64 (i : Int), .bool true] W fun e w' => ∃ r x, e = .returned (.agg #[.int .i64 3, .int .i64 r, .int .u64 x]) ∧ Goes w w' bc c (i + 1) S G (m + 1)) ∨
    (∃ t : Int, t ≠ 3 ∧ G + 1 ≤ S ∧ Calls Try.prog 15 #[.pointer (some ⟨bc, 0, none⟩), .int .i64 (i : Int), .bool true] W fun e w' => ∃ r, e = .returned (.agg #[.int .i64 t, .int .i64 r, .int .u64 ((G : Int) + 1)]) ∧ Goes w w' bc c (i + 1) S (G + 1) m) := by
  obtain ⟨s, hL, hO⟩ := h
  have C := live_recv hL i true (Nat.lt_of_le_of_lt hO.sz hi)
  rcases hO.recv with ⟨h1, h2⟩ | ⟨h1, h2, h3, h4⟩
  · exact .inl (C.mono fun e w' ⟨a, b⟩ => ⟨(s.recv i true).1.who, (s.recv i true).1.val, by rw [a]; unfold Res.v; rw [h1], _, b, h2⟩)
  · exact .inr ⟨_, h1, h3, C.mono fun e w' ⟨a, b⟩ => ⟨(s.recv i true).1.who, by rw [a]; unfold Res.v; rw [h2], _, b, h4⟩⟩
theorem Goes.le (h : Goes w W bc c i S G m) : G ≤ S ∧ S ≤ i ∧ m ≤ i := by
  obtain ⟨s, hL, hO⟩ := h
  have := hO.sz
  have := hO.rl
  unfold St.size at *
  exact ⟨hO.le, hO.si, by omega⟩
set_option maxRecDepth 100000 in
set_option maxHeartbeats 8000000 in
theorem order_walk (p : Nat) (a : Option Addr) (n cp : Nat) (w : World) (hp : p ≤ 255) (hn : n ≤ 2000000) (hs : Nums .u8 w a n) :
    Calls Try.prog 4 #[.int .u8 (p : Int), .slice a n cp] w fun e w' => e = .returned (.bool true) ∧ Cha (fun _ => False) w w' := by
  obtain ⟨c, hc⟩ : ∃ c, c = p % 5 := ⟨_, rfl⟩
  have hc5 : c < 5 := by omega
  have e0 : (p : Int) % 5 = (c : Int) := by omega
  have C0 : Calls Try.prog 9 #[.int .i64 (c : Int)] w _ := live_new c (by omega) (Cha.refl _ w)
  have C0 := Lib.hid C0
  have AW := Lib.hid awake_any
  have HS := Lib.hid hs.2
  clear hs hc
  go_enter Try.func4, Try.ntmps4
  go_wp2_with (first
    | (go_at_call 9; ((with_reducible refine (C0.out).mono ?_); rintro e w1 ⟨rfl, h⟩; have H1 := Lib.hid h; clear h))
    | (go_at_call 11; ((with_reducible refine (AW.out _).mono ?_); rintro e w2 ⟨rfl, h⟩; have H2 := Lib.hid (H1.out.same h); clear h)))
  have H3 : Hid (Goes w w2 w.heap.size c 0 0 0 0) := Lib.hid ⟨_, H2.out, ord_new c⟩
  generalize w.heap.size = bc at *
  clear H1 H2 C0
  go_loopw [7, 8, 9, 10, 11, 12, 13, 38] (fun sv gv wv _ _ _ _ i wr => ∃ j S G m : Nat, j ≤ n ∧ i = .int .i64 (j : Int) ∧ sv = .int .u64 (S : Int) ∧ gv = .int .u64 (G : Int) ∧ wv = .int .i64 (m : Int) ∧ Goes w wr bc c j S G m) (fun _ _ _ _ _ _ _ i _ => n - (intOf i).toNat)
  case atStart => exact ⟨0, 0, 0, 0, Nat.zero_le _, rfl, rfl, rfl, rfl, H3.out⟩
  case round =>
    clear H3
    obtain ⟨j, S, G, m, hj, rfl, rfl, rfl, rfl, hG⟩ := hrel
    obtain ⟨l1, l2, l3⟩ := hG.le
    by_cases hlt : j < n
    · obtain ⟨b, o, z, rfl, hz⟩ := HS.out (by omega)
      obtain ⟨hz1, hz2⟩ := hz j hlt
      have hb := block_lt_of_cell hz1
      have hcha : Cha (fun _ => False) w wr := by obtain ⟨s, hL, _⟩ := hG; exact hL.cha
      have hz3 : wr.cell? ⟨b, o + j, none⟩ = some (.int .u8 (z j)) := (World.cell?_of_block (hcha.old b hb (fun f => f))).trans hz1
      have y0 := u8_lo hz2
      obtain ⟨y, hy⟩ : ∃ y : Nat, z j = (y : Int) := ⟨(z j).toNat, by omega⟩
      rw [hy] at hz3
      have u1 : IntKind.u64.wrap ((S : Int) + 1) = (S : Int) + 1 := IntWalk.u64_in _ (by omega)
      have u2 : IntKind.u64.wrap ((G : Int) + 1) = (G : Int) + 1 := IntWalk.u64_in _ (by omega)
      have u3 : IntKind.i64.wrap ((m : Int) + 1) = (m : Int) + 1 := IntWalk.i64_in _ (by omega)
      have u4 : IntKind.i64.wrap ((m : Int) - 1) = (m : Int) - 1 := IntWalk.i64_in _ (by omega)
      clear hz hz1 hz2 hcha y0 hy
      by_cases hy2 : y % 2 = 0
      · have q0 : (y : Int) % 2 = 0 := by omega
        clear hy2
        rcases goes_send hG (by omega) with ⟨r, r0, r1, hSG, hm0, hD⟩ | ⟨t, t2, hD⟩
        · have D := Lib.hid hD
          subst hSG
          clear hD hG
          go_wp2_with (go_at_call 13; ((with_reducible refine (D.out).mono ?_); rintro e w3 ⟨x, rfl, h⟩; have H4 := Lib.hid h; clear h))
          go_roundw
          case rel => exact ⟨j + 1, S + 1, S + 1, m - 1, by omega, by go_num, by go_num, by go_num, by congr 1; omega, by obtain ⟨s, hL, hO⟩ := H4.out; exact ⟨s, hL.same ((Cha.refl _ w3).alloc _), hO⟩⟩
          case measure => simp [intOf]; omega
        · have D := Lib.hid hD
          have t3 : (t == 2) = false := by simpa using t2
          clear hD hG t2
          go_wp2_with (go_at_call 13; ((with_reducible refine (D.out).mono ?_); rintro e w3 ⟨r, x, rfl, h⟩; have H4 := Lib.hid h; clear h))
          go_roundw
          case rel => exact ⟨j + 1, S + 1, G, m, by omega, by go_num, by go_num, rfl, rfl, by obtain ⟨s, hL, hO⟩ := H4.out; exact ⟨s, hL.same ((Cha.refl _ w3).alloc _), hO⟩⟩
          case measure => simp [intOf]; omega
      · have q0 : (y : Int) % 2 = 1 := by omega
        clear hy2
        rcases goes_recv hG (by omega) with hD | ⟨t, t2, hGS, hD⟩
        · have D := Lib.hid hD
          clear hD hG
          go_wp2_with (go_at_call 15; ((with_reducible refine (D.out).mono ?_); rintro e w3 ⟨r, x, rfl, h⟩; have H4 := Lib.hid h; clear h))
          go_roundw
          case rel => exact ⟨j + 1, S, G, m + 1, by omega, by go_num, rfl, rfl, by go_num, by obtain ⟨s, hL, hO⟩ := H4.out; exact ⟨s, hL.same ((Cha.refl _ w3).alloc _), hO⟩⟩
          case measure => simp [intOf]; omega
        · have D := Lib.hid hD
          have t3 : (t == 3) = false := by simpa using t2
          clear hD hG t2
          go_wp2_with (go_at_call 15; ((with_reducible refine (D.out).mono ?_); rintro e w3 ⟨r, rfl, h⟩; have H4 := Lib.hid h; clear h))
          go_roundw
          case rel => exact ⟨j + 1, S, G + 1, m, by omega, by go_num, rfl, by go_num, rfl, by obtain ⟨s, hL, hO⟩ := H4.out; exact ⟨s, hL.same ((Cha.refl _ w3).alloc _), hO⟩⟩
          case measure => simp [intOf]; omega
    · obtain rfl : j = n := by omega
      obtain ⟨s, hL, hO⟩ := hG
      obtain ⟨f1, f2, f3, f4⟩ := hO.fin
      have hsz : s.size < 8796093022208 := Nat.lt_of_le_of_lt hO.sz (by omega)
      have D := Lib.hid (live_counts hL)
      have e : s.close = ((s.rcvs ++ s.snds.map Snd.id, true), { s with shut := true, snds := [], rcvs := [] }) := by unfold St.close; rw [if_neg (by simp [hO.op])]
      have K1 : Hid (∀ W, Live w W bc s → Calls Try.prog 18 #[.pointer (some ⟨bc, 0, none⟩)] W fun e w' => ∃ a cp, e = .returned (.tuple #[.slice a (s.snds.length + m) cp, .bool true]) ∧ Live w w' bc { s with shut := true, snds := [], rcvs := [] }) := Lib.hid fun W h => by
        have := live_close h hsz
        rw [e] at this
        refine this.mono fun e w' ⟨v, a, b, d⟩ => ?_
        obtain ⟨a', c', e', _, _⟩ := b.form
        rw [List.length_append, List.length_map, f3, Nat.add_comm] at e'
        exact ⟨a', c', by rw [a, e'], d⟩
      have S1 : Hid (∀ W, Live w W bc { s with shut := true, snds := [], rcvs := [] } → Calls Try.prog 13 #[.pointer (some ⟨bc, 0, none⟩), .int .i64 0, .int .u64 1, .bool true] W fun e w' => e = .returned (.agg #[.int .i64 4, .int .i64 0, .int .u64 0]) ∧ Live w w' bc { s with shut := true, snds := [], rcvs := [] }) := Lib.hid fun W h => live_send h 0 1 true (by have h2 := hsz; unfold St.size at h2 ⊢; simp; omega)
      rw [f3] at D
      clear e hL hO f3
      generalize s.vals.length = nv at *
      generalize s.snds.length = ns at *
      have F0 := field0
      have u1 : IntKind.i64.wrap ((nv : Int) + (ns : Int)) = (nv : Int) + (ns : Int) := IntWalk.i64_in _ (by omega)
      have u2 : IntKind.u64.wrap ((nv : Int) + (ns : Int)) = (nv : Int) + (ns : Int) := IntWalk.u64_in _ (by omega)
      have u3 : IntKind.u64.wrap ((S : Int) - (G : Int)) = (nv : Int) + (ns : Int) := by rw [IntWalk.u64_in _ (by omega)]; omega
      have u4 : IntKind.i64.wrap ((ns : Int) + (m : Int)) = (ns : Int) + (m : Int) := IntWalk.i64_in _ (by omega)
      have u5 : ¬ (c < nv) := by omega
      have u6 : ¬ ((c : Int) < (nv : Int)) := by omega
      clear hsz
      have f5 : (nv = 0 ∧ ns = 0) ∨ (m = 0 ∧ 0 < ns) ∨ (m = 0 ∧ ns = 0 ∧ 0 < nv) := by omega
      clear f4
      have u8 : IntKind.u64.wrap ((S : Int) - (G : Int)) = (S : Int) - (G : Int) := IntWalk.u64_in _ (by omega)
      rcases f5 with ⟨rfl, rfl⟩ | ⟨rfl, h0⟩ | ⟨rfl, rfl, h0⟩
      · have v1 : IntKind.i64.wrap (m : Int) = (m : Int) := IntWalk.i64_in _ (by omega)
        have v2 : IntKind.u64.wrap ((S : Int) - (G : Int)) = 0 := u3
        rw [Nat.zero_add] at K1
        clear u1 u2 u3 u4 u5 u6 u8 f1 f2 l1 l2 l3
        go_wp2_with (first
          | (go_at_call 23; ((with_reducible refine (D.out).mono ?_); rintro e w3 ⟨rfl, h⟩; have H4 := Lib.hid h; clear h))
          | (go_at_call 18; ((with_reducible refine (K1.out _ H4.out).mono ?_); rintro e w4 ⟨a4, c4, rfl, h⟩; have H5 := Lib.hid h; clear h))
          | (go_at_call 13; ((with_reducible refine (S1.out _ H5.out).mono ?_); rintro e w5 ⟨rfl, h⟩; have H6 := Lib.hid h.cha; clear h)))
        go_ret
        exact ⟨rfl, H6.out⟩
      · have h1 : ¬ (ns = 0) := by omega
        have h2 : (0 : Int) < (ns : Int) := by omega
        have v1 : IntKind.i64.wrap (ns : Int) = (ns : Int) := IntWalk.i64_in _ (by omega)
        obtain ⟨q, hq⟩ : ∃ q, q = nv + ns := ⟨_, rfl⟩
        have w1 : IntKind.i64.wrap ((nv : Int) + (ns : Int)) = (q : Int) := by rw [u1]; omega
        have w2 : IntKind.u64.wrap (q : Int) = (q : Int) := IntWalk.u64_in _ (by omega)
        have w3 : IntKind.u64.wrap ((S : Int) - (G : Int)) = (q : Int) := by rw [u3]; omega
        rw [Nat.add_zero] at K1
        clear u1 u2 u3 u4 u8 hq f1 f2 l1 l2 l3
        go_wp2_with (first
          | (go_at_call 23; ((with_reducible refine (D.out).mono ?_); rintro e w3a ⟨rfl, h⟩; have H4 := Lib.hid h; clear h))
          | (go_at_call 18; ((with_reducible refine (K1.out _ H4.out).mono ?_); rintro e w4 ⟨a4, c4, rfl, h⟩; have H5 := Lib.hid h; clear h))
          | (go_at_call 13; ((with_reducible refine (S1.out _ H5.out).mono ?_); rintro e w5 ⟨rfl, h⟩; have H6 := Lib.hid h.cha; clear h)))
        go_ret
        exact ⟨rfl, H6.out⟩
      · have h1 : ¬ (nv = 0) := by omega
        have h2 : (0 : Int) < (nv : Int) := by omega
        clear u8 f1 f2 l1 l2 l3
        go_wp2_with (first
          | (go_at_call 23; ((with_reducible refine (D.out).mono ?_); rintro e w3 ⟨rfl, h⟩; have H4 := Lib.hid h; clear h))
          | (go_at_call 18; ((with_reducible refine (K1.out _ H4.out).mono ?_); rintro e w4 ⟨a4, c4, rfl, h⟩; have H5 := Lib.hid h; clear h))
          | (go_at_call 13; ((with_reducible refine (S1.out _ H5.out).mono ?_); rintro e w5 ⟨rfl, h⟩; have H6 := Lib.hid h.cha; clear h)))
        go_ret
        exact ⟨rfl, H6.out⟩
end Go.Proofs.Ytnhjkmkocpjkmaa
