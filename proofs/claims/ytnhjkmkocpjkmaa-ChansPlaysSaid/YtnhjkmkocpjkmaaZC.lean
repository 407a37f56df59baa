/- ChansPlays: the walk. -/
import Derived.Test.YtnhjkmkocpjkmaaZB
import Derived.Test.YtnhjkmkocpjkmaaAB
import Derived.Deep.CutBlock
namespace Go.Proofs.Ytnhjkmkocpjkmaa
open Go.ChangeShapes Go.WideShapes Go.ChangeAt Go.RowKit
variable {w0 w w' W : World} {F U : Nat → Prop} {bc bd gb : Nat} {s t : St} {cs : Array Value} {v : Value} {L : List Int}

set_option maxRecDepth 100000 in
theorem plays_bad (p : Int) (v : Value) (w : World) (hp : p < 0 ∨ 16 < p) : Calls Try.prog 3 #[.int .i64 p, v] w fun e w' => e = .returned (.bool true) ∧ Cha (fun _ => False) w w' := by
  have A9 := Lib.hid (new_bad p w hp)
  have A10 := Lib.hid fun w => dnew_bad p w hp
  have A11 := Lib.hid awake_any
  clear hp
  go_enter Try.func3, Try.ntmps3
  go_wp2_with (first
    | (go_at_call 9; ((with_reducible refine (A9.out).mono ?_); rintro e w1 ⟨rfl, h⟩; have H1 := Lib.hid h; clear h))
    | (go_at_call 10; ((with_reducible refine (A10.out _).mono ?_); rintro e w2 ⟨rfl, h⟩; have H2 := Lib.hid (H1.out.trans h); clear h))
    | (go_at_call 11; ((with_reducible refine (A11.out _).mono ?_); rintro e w3 ⟨rfl, h⟩; have H3 := Lib.hid (H2.out.trans h); clear h)))
  go_ret
  exact ⟨rfl, H3.out⟩
/-- Behind a round. -/
def Next (w0 : World) (bc bd n : Nat) (w : World) : Prop := ∃ s, Duo w0 w bc bd s s ∧ s.size ≤ n
/-- Behind a round's calls. -/
def Mid (w0 : World) (bc bd gb : Nat) (cs : Array Value) (n : Nat) (w : World) : Prop := ∃ s, Both w0 w bc bd gb cs s s ∧ s.size ≤ n
theorem decide_same {α : Type} [DecidableEq α] (a : α) : decide (a = a) = true := by simp
set_option maxRecDepth 100000 in
set_option maxHeartbeats 8000000 in
theorem plays_walk (p : Nat) (s : Option Addr) (len c : Nat) (w : World) (hp : p ≤ 16) (hlen : len * 32 ≤ 140737488351232)
    (hs : 0 < len → ∃ (b o : Nat), s = some ⟨b, o, none⟩ ∧ ∀ i, i < len → ∃ z0 z1 z2 f, OpAt w b (o + i * 4) z0 z1 z2 f) :
    Calls Try.prog 3 #[.int .i64 (p : Int), .slice s len c] w fun e w' => e = .returned (.bool true) ∧ Cha (fun _ => False) w w' := by
  have A9 := Lib.hid (new_ok p w hp)
  have A10 := Lib.hid fun w => dnew_ok p w hp
  have A11 := Lib.hid awake_any
  have A0 : Hid (∀ W, Cha (fun _ => False) ((w.alloc (.cells #[.int .i64 (p : Int), .bool false, .slice none 0 0, .slice none 0 0, .slice none 0 0] 65)).alloc (.cells #[.slice none 0 0, .int .i64 (p : Int), .bool false, .slice none 0 0, .slice none 0 0] 53)) W → Duo w W w.heap.size (w.heap.size + 1) (St.new p) (St.new p)) := Lib.hid fun W c => (duo_new hp).same c
  have hz1 : (w.alloc (.cells #[.int .i64 (p : Int), .bool false, .slice none 0 0, .slice none 0 0, .slice none 0 0] 65)).heap.size = w.heap.size + 1 := World.size_alloc ..
  have HS := Lib.hid hs
  clear hs hp
  go_enter Try.func3, Try.ntmps3
  go_wp2_with (first
    | (go_at_call 9; ((with_reducible refine (A9.out).mono ?_); rintro e w1 ⟨rfl, rfl⟩))
    | (go_at_call 10; ((with_reducible refine (A10.out _).mono ?_); rintro e w2 ⟨rfl, rfl⟩))
    | (go_at_call 11; ((with_reducible refine (A11.out _).mono ?_); rintro e w3 ⟨rfl, h⟩; have H11 := Lib.hid (A0.out _ h); clear h)))
  clear A9 A10 A11 A0 hz1
  generalize w.heap.size + 1 = bd at *
  generalize w.heap.size = bc at *
  have H12 := Lib.hid H11.out
  clear H11
  go_loopw [52] (fun i wr => ∃ j : Nat, j ≤ len ∧ i = .int .i64 (j : Int) ∧ Next w bc bd j wr) (fun i _ => len - (intOf i).toNat)
  case atStart => exact ⟨0, Nat.zero_le _, rfl, St.new p, H12.out, Nat.le_refl _⟩
  case round =>
    clear H12
    obtain ⟨j, hj, rfl, st, hD, hG⟩ := hrel
    by_cases hlt : j < len
    · obtain ⟨b, o, rfl, hz⟩ := HS.out (by omega)
      obtain ⟨z0, z1, z2, f, hop⟩ := hz j hlt
      have hc : Cha (fun _ => False) w wr := by obtain ⟨F, U, T⟩ := hD; exact T.c
      have hop := hop.cha hc
      have HR := Lib.hid hop.cells
      have HB := Lib.hid (hD.box #[.int .i64 z0, .int .i64 z1, .int .u64 z2, .bool f])
      have hA : st.size < 8796093022208 := by omega
      have HA := Lib.hid hA
      have HG := Lib.hid hG
      clear hz hop hD hG hc hA
      have KX : Hid (∀ W s' t', Both w W bc bd wr.heap.size #[.int .i64 z0, .int .i64 z1, .int .u64 z2, .bool f] s' t' → W.cell? ⟨wr.heap.size, 1, none⟩ = some (.int .i64 z1) ∧ W.cell? ⟨wr.heap.size, 2, none⟩ = some (.int .u64 z2) ∧ W.cell? ⟨wr.heap.size, 3, none⟩ = some (.bool f)) := Lib.hid fun W s' t' h => ⟨h.cell 1, h.cell 2, h.cell 3⟩
      go_upto_block 2 with (refine wpList_load_mid rfl 33 (.tmp 54) rfl b (o + j * 4) rfl _ _ HR.out Try.underlying33 rfl (by kernel_rfl) ?_)
      go_cut [11] (fun v wx => v = .bool true ∧ Mid w bc bd wr.heap.size #[.int .i64 z0, .int .i64 z1, .int .u64 z2, .bool f] (j + 1) wx)
      case first =>
        as_aux_lemma =>
          generalize hWb : wr.alloc (.cells #[.int .i64 z0, .int .i64 z1, .int .u64 z2, .bool f] 33) = Wb at *
          clear hWb HR
          obtain ⟨k1, k2, k3⟩ := KX.out _ _ _ HB.out
          generalize wr.heap.size = g at *
          by_cases h0 : z0 = 0
          · subst h0
            obtain ⟨⟨⟨r1, r2, r3⟩, sn⟩, hr⟩ : ∃ r, r = st.send z1 z2 f := ⟨_, rfl⟩
            have hv := send_val st z1 z2 f
            have hsz := st.size_send z1 z2 f
            have C12 : Hid (∀ W, Both w W bc bd g #[.int .i64 0, .int .i64 z1, .int .u64 z2, .bool f] st st → Calls Try.prog 12 #[.pointer (some ⟨bd, 0, none⟩), .int .i64 z1, .int .u64 z2, .bool f] W fun e w' => e = .returned (.tuple #[.int .i64 r1, .int .i64 r2]) ∧ Both w w' bc bd g #[.int .i64 0, .int .i64 z1, .int .u64 z2, .bool f] st sn) := Lib.hid fun W h => by have := b12 h z1 z2 f HA.out; rw [← hr] at this; exact this
            have C13 : Hid (∀ W s', Both w W bc bd g #[.int .i64 0, .int .i64 z1, .int .u64 z2, .bool f] st s' → Calls Try.prog 13 #[.pointer (some ⟨bc, 0, none⟩), .int .i64 z1, .int .u64 z2, .bool f] W fun e w' => e = .returned (.agg #[.int .i64 r1, .int .i64 r2, .int .u64 0]) ∧ Both w w' bc bd g #[.int .i64 0, .int .i64 z1, .int .u64 z2, .bool f] sn s') := Lib.hid fun W s' h => by have := b13 h z1 z2 f HA.out; rw [← hr] at this hv; dsimp only at hv; subst hv; exact this
            have HS2 : Hid (sn.size ≤ j + 1) := Lib.hid (by rw [← hr] at hsz; dsimp only at hsz; have := HG.out; omega)
            clear hr hv hsz
            go_wp2_with (first
              | (go_at_call 12; ((with_reducible refine (C12.out _ HB.out).mono ?_); rintro e w5 ⟨rfl, h⟩; have H5 := Lib.hid h; obtain ⟨k4, k5, k6⟩ := KX.out _ _ _ h; clear h))
              | (go_at_call 13; ((with_reducible refine (C13.out _ _ H5.out).mono ?_); rintro e w6 ⟨rfl, h⟩; have H6 := Lib.hid h; clear h)))
            go_meet
            exact ⟨by first | rfl | simp, sn, H6.out, HS2.out⟩
          · have h01 : (z0 == 0) = false := by simpa using h0
            by_cases h1 : z0 = 1
            · subst h1
              clear h0 h01
              obtain ⟨⟨⟨r1, r2, r3⟩, sn⟩, hr⟩ : ∃ r, r = st.recv z1 f := ⟨_, rfl⟩
              have hsz := st.size_recv z1 f
              have C14 : Hid (∀ W, Both w W bc bd g #[.int .i64 1, .int .i64 z1, .int .u64 z2, .bool f] st st → Calls Try.prog 14 #[.pointer (some ⟨bd, 0, none⟩), .int .i64 z1, .bool f] W fun e w' => e = .returned (.tuple #[.int .i64 r1, .int .i64 r2, .int .u64 r3]) ∧ Both w w' bc bd g #[.int .i64 1, .int .i64 z1, .int .u64 z2, .bool f] st sn) := Lib.hid fun W h => by have := b14 h z1 f HA.out; rw [← hr] at this; exact this
              have C15 : Hid (∀ W s', Both w W bc bd g #[.int .i64 1, .int .i64 z1, .int .u64 z2, .bool f] st s' → Calls Try.prog 15 #[.pointer (some ⟨bc, 0, none⟩), .int .i64 z1, .bool f] W fun e w' => e = .returned (.agg #[.int .i64 r1, .int .i64 r2, .int .u64 r3]) ∧ Both w w' bc bd g #[.int .i64 1, .int .i64 z1, .int .u64 z2, .bool f] sn s') := Lib.hid fun W s' h => by have := b15 h z1 f HA.out; rw [← hr] at this; exact this
              have HS2 : Hid (sn.size ≤ j + 1) := Lib.hid (by rw [← hr] at hsz; dsimp only at hsz; have := HG.out; omega)
              clear hr hsz
              go_wp2_with (first
                | (go_at_call 14; ((with_reducible refine (C14.out _ HB.out).mono ?_); rintro e w5 ⟨rfl, h⟩; have H5 := Lib.hid h; obtain ⟨k4, k5, k6⟩ := KX.out _ _ _ h; clear h))
                | (go_at_call 15; ((with_reducible refine (C15.out _ _ H5.out).mono ?_); rintro e w6 ⟨rfl, h⟩; have H6 := Lib.hid h; clear h)))
              go_meet
              exact ⟨by first | rfl | simp, sn, H6.out, HS2.out⟩
            · have h11 : (z0 == 1) = false := by simpa using h1
              by_cases h2 : z0 = 2
              · subst h2
                clear h0 h01 h1 h11
                have hsz := st.size_queue z1 z2 f
                obtain ⟨sn, hr⟩ : ∃ r, r = st.queue z1 z2 f := ⟨_, rfl⟩
                have C16 : Hid (∀ W, Both w W bc bd g #[.int .i64 2, .int .i64 z1, .int .u64 z2, .bool f] st st → Calls Try.prog 16 #[.pointer (some ⟨bc, 0, none⟩), .int .i64 z1, .int .u64 z2, .bool f] W fun e w' => e = .returned (.tuple #[]) ∧ Both w w' bc bd g #[.int .i64 2, .int .i64 z1, .int .u64 z2, .bool f] sn st) := Lib.hid fun W h => by have := b16 h z1 z2 f HA.out; rw [← hr] at this; exact this
                have C17 : Hid (∀ W s', Both w W bc bd g #[.int .i64 2, .int .i64 z1, .int .u64 z2, .bool f] s' st → Calls Try.prog 17 #[.pointer (some ⟨bd, 0, none⟩), .int .i64 z1, .int .u64 z2, .bool f] W fun e w' => e = .returned (.tuple #[]) ∧ Both w w' bc bd g #[.int .i64 2, .int .i64 z1, .int .u64 z2, .bool f] s' sn) := Lib.hid fun W s' h => by have := b17 h z1 z2 f HA.out; rw [← hr] at this; exact this
                have HS2 : Hid (sn.size ≤ j + 1) := Lib.hid (by rw [hr]; have := HG.out; omega)
                clear hr hsz
                go_wp2_with (first
                  | (go_at_call 16; ((with_reducible refine (C16.out _ HB.out).mono ?_); rintro e w5 ⟨rfl, h⟩; have H5 := Lib.hid h; obtain ⟨k4, k5, k6⟩ := KX.out _ _ _ h; clear h))
                  | (go_at_call 17; ((with_reducible refine (C17.out _ _ H5.out).mono ?_); rintro e w6 ⟨rfl, h⟩; have H6 := Lib.hid h; clear h)))
                go_meet
                exact ⟨rfl, sn, H6.out, HS2.out⟩
              · have h21 : (z0 == 2) = false := by simpa using h2
                by_cases h3 : z0 = 3
                · subst h3
                  clear h0 h01 h1 h11 h2 h21
                  obtain ⟨⟨⟨l, b⟩, sn⟩, hr⟩ : ∃ r, r = st.close := ⟨_, rfl⟩
                  have hsz := st.size_close
                  have C18 : Hid (∀ W, Both w W bc bd g #[.int .i64 3, .int .i64 z1, .int .u64 z2, .bool f] st st → Calls Try.prog 18 #[.pointer (some ⟨bc, 0, none⟩)] W fun e w' => ∃ a n c, e = .returned (.tuple #[.slice a n c, .bool b]) ∧ Pair w w' bc bd g #[.int .i64 3, .int .i64 z1, .int .u64 z2, .bool f] (.slice a n c) l sn st) := Lib.hid fun W h => by have := b18 h HA.out; rw [← hr] at this; exact this
                  have C19 : Hid (∀ W s' v, Pair w W bc bd g #[.int .i64 3, .int .i64 z1, .int .u64 z2, .bool f] v l s' st → Calls Try.prog 19 #[.pointer (some ⟨bd, 0, none⟩)] W fun e w' => ∃ a n c, e = .returned (.tuple #[.slice a n c, .bool b]) ∧ Lies intE w' v l ∧ Lies intE w' (.slice a n c) l ∧ Both w w' bc bd g #[.int .i64 3, .int .i64 z1, .int .u64 z2, .bool f] s' sn) := Lib.hid fun W s' v h => by have := b19 h HA.out; rw [← hr] at this; exact this
                  have C20 : Hid (∀ (W : World) (x y : Option Addr) (n c m d : Nat), Lies intE W (.slice x n c) l → Lies intE W (.slice y m d) l → Calls Try.prog 20 #[.slice x n c, .slice y m d] W fun e w' => e = .returned (.bool true) ∧ Cha (fun _ => False) W w') := Lib.hid fun W x y n c m d l1 l2 => by have := same_ints l1 l2; rw [decide_same] at this; exact this
                  have HS2 : Hid (sn.size ≤ j + 1) := Lib.hid (by rw [← hr] at hsz; dsimp only at hsz; have := HG.out; omega)
                  clear hr hsz
                  cases b
                  all_goals
                    go_wp2_with (first
                      | (go_at_call 18; ((with_reducible refine (C18.out _ HB.out).mono ?_); rintro e w5 ⟨x1, x2, x3, rfl, h⟩; have H5 := Lib.hid h; clear h))
                      | (go_at_call 19; ((with_reducible refine (C19.out _ _ _ H5.out).mono ?_); rintro e w6 ⟨y1, y2, y3, rfl, l1, l2, h⟩; have H6 := Lib.hid h; have L1 := Lib.hid l1; have L2 := Lib.hid l2; clear h l1 l2))
                      | (go_at_call 20; ((with_reducible refine (C20.out _ _ _ _ _ _ _ L1.out L2.out).mono ?_); rintro e w7 ⟨rfl, h⟩; have H7 := Lib.hid (H6.out.same h); clear h)))
                    go_meet
                    exact ⟨by first | rfl | simp, sn, H7.out, HS2.out⟩
                · have h31 : (z0 == 3) = false := by simpa using h3
                  by_cases h4 : z0 = 4
                  · subst h4
                    clear h0 h01 h1 h11 h2 h21 h3 h31
                    have hsz := st.size_leave z1
                    obtain ⟨sn, hr⟩ : ∃ r, r = st.leave z1 := ⟨_, rfl⟩
                    have C21 : Hid (∀ W, Both w W bc bd g #[.int .i64 4, .int .i64 z1, .int .u64 z2, .bool f] st st → Calls Try.prog 21 #[.pointer (some ⟨bc, 0, none⟩), .int .i64 z1] W fun e w' => e = .returned (.tuple #[]) ∧ Both w w' bc bd g #[.int .i64 4, .int .i64 z1, .int .u64 z2, .bool f] sn st) := Lib.hid fun W h => by have := b21 h z1; rw [← hr] at this; exact this
                    have C22 : Hid (∀ W s', Both w W bc bd g #[.int .i64 4, .int .i64 z1, .int .u64 z2, .bool f] s' st → Calls Try.prog 22 #[.pointer (some ⟨bd, 0, none⟩), .int .i64 z1] W fun e w' => e = .returned (.tuple #[]) ∧ Both w w' bc bd g #[.int .i64 4, .int .i64 z1, .int .u64 z2, .bool f] s' sn) := Lib.hid fun W s' h => by have := b22 h z1 HA.out; rw [← hr] at this; exact this
                    have HS2 : Hid (sn.size ≤ j + 1) := Lib.hid (by rw [hr]; have := HG.out; omega)
                    clear hr hsz
                    go_wp2_with (first
                      | (go_at_call 21; ((with_reducible refine (C21.out _ HB.out).mono ?_); rintro e w5 ⟨rfl, h⟩; have H5 := Lib.hid h; obtain ⟨k4, k5, k6⟩ := KX.out _ _ _ h; clear h))
                      | (go_at_call 22; ((with_reducible refine (C22.out _ _ H5.out).mono ?_); rintro e w6 ⟨rfl, h⟩; have H6 := Lib.hid h; clear h)))
                    go_meet
                    exact ⟨rfl, sn, H6.out, HS2.out⟩
                  · have h41 : (z0 == 4) = false := by simpa using h4
                    have HS2 : Hid (st.size ≤ j + 1) := Lib.hid (by have := HG.out; omega)
                    go_wp2
                    go_meet
                    exact ⟨rfl, st, HB.out, HS2.out⟩
      case rest =>
        as_aux_lemma =>
          obtain ⟨rfl, sn, hB, hsz⟩ := hcut
          have HB2 := Lib.hid hB
          have HS2 := Lib.hid hsz
          have HA2 : Hid (sn.size < 8796093022208) := Lib.hid (by omega)
          clear hB hsz HB HA HG KX HR
          generalize wr.heap.size = g at *
          generalize (#[.int .i64 z0, .int .i64 z1, .int .u64 z2, .bool f] : Array Value) = cs at *
          go_wp2_with (go_at_call 23; ((with_reducible refine (b23 HB2.out).mono ?_); rintro e w7 ⟨rfl, h⟩; have H7 := Lib.hid h; clear h))
          obtain ⟨a1, c1, a2, c2, a3, c3, hh⟩ := H7.out.heads
          have KY : Hid (∀ W, Cha (fun _ => False) w7 W → (W.cell? ⟨bd, 0, none⟩ = some (.slice a1 sn.vals.length c1) ∧ W.cell? ⟨bd, 2, none⟩ = some (.bool sn.shut) ∧ W.cell? ⟨bd, 3, none⟩ = some (.slice a2 sn.snds.length c2) ∧ W.cell? ⟨bd, 4, none⟩ = some (.slice a3 sn.rcvs.length c3))) := Lib.hid hh
          clear hh
          have C25 : Hid (∀ W, Both w W bc bd g cs sn sn → Calls Try.prog 25 #[.pointer (some ⟨bc, 0, none⟩)] W fun e w' => ∃ a n c, e = .returned (.slice a n c) ∧ Lies u64E w' (.slice a n c) sn.values ∧ Cha (fun _ => False) W w') := Lib.hid fun W h => b25 h HA2.out
          have C26 : Hid (∀ W, Both w W bc bd g cs sn sn → Calls Try.prog 26 #[.pointer (some ⟨bd, 0, none⟩)] W fun e w' => ∃ a n c, e = .returned (.slice a n c) ∧ Lies u64E w' (.slice a n c) sn.values ∧ Cha (fun _ => False) W w') := Lib.hid fun W h => b26 h HA2.out
          have C24 : Hid (∀ (W : World) (x y : Option Addr) (n c m d : Nat), Lies u64E W (.slice x n c) sn.values → Lies u64E W (.slice y m d) sn.values → Calls Try.prog 24 #[.slice x n c, .slice y m d] W fun e w' => e = .returned (.bool true) ∧ Cha (fun _ => False) W w') := Lib.hid fun W x y n c m d l1 l2 => by have := same_words l1 l2; rw [decide_same] at this; exact this
          have C27 : Hid (∀ W, Both w W bc bd g cs sn sn → Calls Try.prog 27 #[.pointer (some ⟨bc, 0, none⟩)] W fun e w' => e = .returned (.bool sn.shut) ∧ W = w') := Lib.hid fun W h => b27 h
          have C28 : Hid (∀ W b, Both w W bc bd g cs sn sn → Calls Try.prog 28 #[.pointer (some ⟨bc, 0, none⟩), .bool b] W fun e w' => e = .returned (.bool (sn.ready b)) ∧ Cha (fun _ => False) W w') := Lib.hid fun W b h => b28 h b
          have C29 : Hid (∀ W b, Both w W bc bd g cs sn sn → Calls Try.prog 29 #[.pointer (some ⟨bd, 0, none⟩), .bool b] W fun e w' => e = .returned (.bool (sn.ready b)) ∧ Cha (fun _ => False) W w') := Lib.hid fun W b h => b29 h b
          have H8 := Lib.hid (H7.out.same ((Cha.refl _ w7).drew))
          have H9 : Hid (∀ W, Cha (fun _ => False) w7.drew W → Both w W bc bd g cs sn sn) := Lib.hid fun W c => H8.out.same c
          have KZ : Hid (∀ W, Cha (fun _ => False) w7.drew W → (W.cell? ⟨bd, 0, none⟩ = some (.slice a1 sn.vals.length c1) ∧ W.cell? ⟨bd, 2, none⟩ = some (.bool sn.shut) ∧ W.cell? ⟨bd, 3, none⟩ = some (.slice a2 sn.snds.length c2) ∧ W.cell? ⟨bd, 4, none⟩ = some (.slice a3 sn.rcvs.length c3))) := Lib.hid fun W c => KY.out W (((Cha.refl _ w7).drew).trans c)
          obtain ⟨k0, k2, k3, k4⟩ := KY.out _ ((Cha.refl _ w7).drew)
          obtain ⟨b0, hb0⟩ : ∃ b, b = sn.shut := ⟨_, rfl⟩
          obtain ⟨b1, hb1⟩ : ∃ b, b = sn.ready true := ⟨_, rfl⟩
          obtain ⟨b2, hb2⟩ : ∃ b, b = sn.ready false := ⟨_, rfl⟩
          have C28t : Hid (∀ W, Both w W bc bd g cs sn sn → Calls Try.prog 28 #[.pointer (some ⟨bc, 0, none⟩), .bool true] W fun e w' => e = .returned (.bool b1) ∧ Cha (fun _ => False) W w') := Lib.hid fun W h => by rw [hb1]; exact C28.out W true h
          have C28f : Hid (∀ W, Both w W bc bd g cs sn sn → Calls Try.prog 28 #[.pointer (some ⟨bc, 0, none⟩), .bool false] W fun e w' => e = .returned (.bool b2) ∧ Cha (fun _ => False) W w') := Lib.hid fun W h => by rw [hb2]; exact C28.out W false h
          have C29t : Hid (∀ W, Both w W bc bd g cs sn sn → Calls Try.prog 29 #[.pointer (some ⟨bd, 0, none⟩), .bool true] W fun e w' => e = .returned (.bool b1) ∧ Cha (fun _ => False) W w') := Lib.hid fun W h => by rw [hb1]; exact C29.out W true h
          have C29f : Hid (∀ W, Both w W bc bd g cs sn sn → Calls Try.prog 29 #[.pointer (some ⟨bd, 0, none⟩), .bool false] W fun e w' => e = .returned (.bool b2) ∧ Cha (fun _ => False) W w') := Lib.hid fun W h => by rw [hb2]; exact C29.out W false h
          rw [← hb0] at KZ k2 C27
          clear hb0 hb1 hb2 C28 C29 KY H7 HB2
          generalize sn.vals.length = n1 at *
          generalize sn.snds.length = n2 at *
          generalize sn.rcvs.length = n3 at *
          generalize sn.values = vs at *
          go_region_held3 (fun w' => w'.cell? ⟨bd, 0, none⟩ = some (.slice a1 n1 c1) ∧ w'.cell? ⟨bd, 2, none⟩ = some (.bool b0) ∧ w'.cell? ⟨bd, 3, none⟩ = some (.slice a2 n2 c2) ∧ w'.cell? ⟨bd, 4, none⟩ = some (.slice a3 n3 c3))
            (first
              | go_keep
              | exact ⟨k0, k2, k3, k4⟩
              | exact KZ.out _ (by assumption))
            (first
              | (go_at_call 25; refine (C25.out _ H8.out).mono ?_; rintro e5 w5 ⟨x1, x2, x3, rfl, l5, e5⟩)
              | (go_at_call 26; refine (C26.out _ (H9.out w5 e5)).mono ?_; rintro e6 w6 ⟨y1, y2, y3, rfl, l6, e6⟩; have e61 := e5.trans e6; have l61 := l5.same e6)
              | (go_at_call 24; refine (C24.out _ _ _ _ _ _ _ l61 l6).mono ?_; rintro e7 w7 ⟨rfl, e7⟩; have e71 := e61.trans e7)
              | (go_at_call 27; refine (C27.out _ (H9.out w7 e71)).mono ?_; rintro e8 w8 ⟨rfl, rfl⟩)
              | (go_at_call 28; (with_reducible refine (C28t.out _ (H9.out w7 e71)).mono ?_); rintro e9 w9 ⟨rfl, e9⟩; have e91 := e71.trans e9)
              | (go_at_call 29; (with_reducible refine (C29t.out _ (H9.out w9 e91)).mono ?_); rintro e10 w10 ⟨rfl, e10⟩; have e101 := e91.trans e10)
              | (go_at_call 28; (with_reducible refine (C28f.out _ (H9.out w10 e101)).mono ?_); rintro e11 w11 ⟨rfl, e11⟩; have e111 := e101.trans e11)
              | (go_at_call 29; (with_reducible refine (C29f.out _ (H9.out w11 e111)).mono ?_); rintro e12 w12 ⟨rfl, e12⟩; have e121 := e111.trans e12))
          all_goals
            have HN := Lib.hid (H9.out _ e121).duo
            clear e5 e6 e61 l5 l6 l61 e7 e71 e9 e91 e10 e101 e11 e111 e12 e121
            go_wp2
            go_roundw
            case rel => exact ⟨j + 1, by omega, by go_num, _, HN.out, HS2.out⟩
            case measure => simp [intOf]; omega
    · obtain rfl : j = len := by omega
      have HC : Hid (Cha (fun _ => False) w wr) := Lib.hid (by obtain ⟨F, U, T⟩ := hD; exact T.c)
      clear hD hG
      go_wp2
      go_ret
      exact ⟨rfl, HC.out⟩
end Go.Proofs.Ytnhjkmkocpjkmaa
