/- The reader: a text's first number, a number. -/
import Derived.Test.YtpdjbhnpahkbpaaI
import Derived.Test.YtpdjbhnpahkbpaaK
namespace Go.Proofs.Ytpdjbhnpahkbpaa
open Go.ChangeShapes Go.WideShapes Go.ChangeAt Go.RowKit

def RdU8 (_ : Nat → Prop) (W : World) (b o : Nat) (x : Nat) : Prop := W.cell? ⟨b, o, none⟩ = some (.int .u8 (x : Int)) ∧ x < 256
section
variable {B B' S : Nat → Prop} {W W' : World} {v : Value} {T : List Nat}
theorem RdS.bytes (h : RdS 1 RdU8 B W v T) (c : Cha S W W') (hS : ∀ i, S i → ¬ B i) (hB : ∀ i, B i → B' i) : RdS 1 RdU8 B' W' v T := h.map hB c.size fun _ _ _ hb h => ⟨cell_cha c hS hb h.1, h.2⟩
theorem RdS.small (h : RdS 1 RdU8 B W v T) : ∀ x ∈ T, x < 256 := fun x hx => by
  obtain ⟨b, o, _, h⟩ := h.all hx
  exact h.2
/-- The text from k on. -/
theorem sub_text {a : Option Addr} {n c : Nat} (h : RdS 1 RdU8 B W (.slice a n c) T) (hc : n ≤ c) {k : Nat} (hk : k ≤ T.length) : RdS 1 RdU8 B W (sliced a k n c 1) (T.drop k) := by
  obtain ⟨a', c', e, hl, h⟩ := h
  injection e with e1 e2 e3
  subst e1 e2 e3
  unfold sliced
  refine ⟨_, c - k, by rw [List.length_drop], by rw [List.length_drop]; omega, fun h0 => ?_⟩
  rw [List.length_drop] at h0
  obtain ⟨b, o, rfl, hb, hbs, h⟩ := h (by omega)
  refine ⟨b, o + k, by rw [if_neg (by omega)]; simp [Addr.add], hb, hbs, fun i x hi => ?_⟩
  rw [List.getElem?_drop] at hi
  have := h (k + i) x hi
  rw [Nat.mul_one] at this ⊢
  rw [Nat.add_assoc]
  exact this
end
theorem or_add (n m k : Nat) (hn : n < 2 ^ k) (h : n + m * 2 ^ k < 18446744073709551616) : bits .or .u64 (n : Int) ((m * 2 ^ k : Nat) : Int) = ((n + m * 2 ^ k : Nat) : Int) := by
  rw [u64_or_nat _ _ (by omega) (by omega), Nat.or_comm, Nat.mul_comm m, ← Nat.two_pow_add_eq_or_of_lt hn, Nat.add_comm]
set_option maxRecDepth 100000 in
set_option maxHeartbeats 1000000 in
theorem first_any {B : Nat → Prop} {W : World} {v : Value} {T : List Nat} (h : RdS 1 RdU8 B W v T) :
    Calls Try.prog 112 #[v] W fun e w' => e = .returned (.tuple #[.int .u64 ((fw T 0 0).1 : Int), .int .i64 ((fw T 0 0).2.1 : Int), .int .i64 (fw T 0 0).2.2]) ∧ W = w' := by
  have hlen := h.len
  have H := Lib.hid h
  obtain ⟨a, c, rfl, _, _⟩ := h
  obtain ⟨n, hn⟩ : ∃ n, n = T.length := ⟨_, rfl⟩
  rw [← hn] at hlen ⊢
  have HN := Lib.hid hn
  clear hn
  go_enter Try.func112, Try.ntmps112
  go_wp2
  go_loop [5, 10] (fun x i => ∃ (k N : Nat), k ≤ n ∧ k ≤ 9 ∧ i = .int .i64 (k : Int) ∧ x = .int .u64 (N : Int) ∧ N < 2 ^ (7 * k) ∧ fw (T.drop k) k N = fw T 0 0) (fun _ i => n - (intOf i).toNat)
  case atStart => exact ⟨0, 0, Nat.zero_le _, by omega, rfl, rfl, by simp, rfl⟩
  case round =>
    obtain ⟨k, N, hk, hk9, rfl, rfl, hN, hf⟩ := hrel
    have HF := Lib.hid hf
    have HP := Lib.hid hN
    clear hf hN
    by_cases hlt : k < n
    · obtain ⟨b, hb⟩ : ∃ b, T[k]? = some b := ⟨_, List.getElem?_eq_getElem (by have := HN.out; omega)⟩
      obtain ⟨g, o, _, he, _, _, hx⟩ := H.out.at hb
      obtain rfl : a = some ⟨g, o, none⟩ := by injection he
      have hc := hx.1
      rw [Nat.mul_one] at hc
      have hb256 := hx.2
      have HB := Lib.hid hb
      clear he hx hb
      have hfd : fw (T.drop k) k N = fw (b :: T.drop (k + 1)) k N := by
        have hb := HB.out
        have hkl : k < T.length := by have := HN.out; omega
        rw [List.getElem?_eq_getElem hkl] at hb
        injection hb with hb
        rw [List.drop_eq_getElem_cons hkl, hb]
      have HFD := Lib.hid hfd
      clear hfd
      by_cases h9 : k = 9 ∧ 1 < b
      · obtain ⟨h9a, h9b⟩ := h9
        have HE : Hid (fw T 0 0 = (0, 0, 8)) := Lib.hid (by rw [← HF.out, HFD.out, fw_long ⟨h9a, h9b⟩])
        have h9c : ((k : Int) == 9) = true := by simp; omega
        have h9d : (1 : Int) < (b : Int) := by omega
        clear h9a h9b
        go_wp2
        go_ret3
        exact ⟨by rw [HE.out]; rfl, rfl⟩
      · have hor : Hid (bits .or .u64 (N : Int) (IntKind.u64.wrap ((b : Int) % 128 * 2 ^ (7 * k))) = ((N + b % 128 * 2 ^ (7 * k) : Nat) : Int)) := Lib.hid (by
          have hP := HP.out
          have e1 : ((b : Int) % 128 * 2 ^ (7 * k)) = ((b % 128 * 2 ^ (7 * k) : Nat) : Int) := by simp
          have hb1 : N + b % 128 * 2 ^ (7 * k) < 18446744073709551616 := by
            by_cases c9 : k = 9
            · subst c9
              have : b % 128 * 2 ^ (7 * 9) ≤ 1 * 2 ^ (7 * 9) := Nat.mul_le_mul_right _ (by omega)
              have e1 : (2 : Nat) ^ (7 * 9) = 9223372036854775808 := by decide
              omega
            · have : (2 : Nat) ^ (7 * (k + 1)) ≤ 2 ^ 63 := Nat.pow_le_pow_right (by omega) (by omega)
              have e1 : (2 : Nat) ^ 63 = 9223372036854775808 := by decide
              have e2 := digs_pow (i := k)
              have : b % 128 * 2 ^ (7 * k) ≤ 127 * 2 ^ (7 * k) := Nat.mul_le_mul_right _ (by omega)
              omega
          rw [e1, show IntKind.u64.wrap ((b % 128 * 2 ^ (7 * k) : Nat) : Int) = ((b % 128 * 2 ^ (7 * k) : Nat) : Int) by rw [IntKind.wrap_u64]; omega]
          exact or_add N (b % 128) (7 * k) hP hb1)
        have hN2 : Hid (N + b % 128 * 2 ^ (7 * k) < 2 ^ (7 * (k + 1))) := Lib.hid (by
          have hP := HP.out
          have e2 := digs_pow (i := k)
          have : b % 128 * 2 ^ (7 * k) ≤ 127 * 2 ^ (7 * k) := Nat.mul_le_mul_right _ (by omega)
          omega)
        by_cases h128 : 128 ≤ b
        · have hk8 : ¬ k = 9 := fun c => h9 ⟨c, by omega⟩
          have HE : Hid (fw T 0 0 = fw (T.drop (k + 1)) (k + 1) (N + b % 128 * 2 ^ (7 * k))) := Lib.hid (by rw [← HF.out, HFD.out, fw_more h9 h128])
          have h1 : (128 : Int) ≤ (b : Int) := by omega
          have h2 : ¬ (k : Int) = 9 := by omega
          have hk' : k + 1 ≤ n ∧ k + 1 ≤ 9 := by omega
          clear h9 h128 hk8
          go_wp2
          go_round
          case rel => exact ⟨k + 1, N + b % 128 * 2 ^ (7 * k), hk'.1, hk'.2, by go_num, by rw [hor.out], hN2.out, HE.out.symm⟩
          case measure => simp [intOf]; omega
        · have h1 : ¬ (128 : Int) ≤ (b : Int) := by omega
          by_cases h0 : b = 0 ∧ 0 < k
          · have HE : Hid (fw T 0 0 = (0, 0, 8)) := Lib.hid (by rw [← HF.out, HFD.out, fw_zero h0.1 h0.2])
            obtain ⟨h01, h02⟩ := h0
            have h2 : ¬ 1 < (b : Int) := by omega
            clear h9 h128
            go_wp2
            all_goals
              go_ret3
              exact ⟨by rw [HE.out]; rfl, rfl⟩
          · have HE : Hid (fw T 0 0 = (N + b % 128 * 2 ^ (7 * k), k + 1, 0)) := Lib.hid (by rw [← HF.out, HFD.out, fw_last h9 h128 h0])
            have H9 := Lib.hid h9
            have H0 := Lib.hid h0
            clear h9 h128 h0
            by_cases hb0 : b = 0
            · have hk0 : ¬ 0 < k := fun c => H0.out ⟨by omega, c⟩
              have hk1 : ((k : Int) == 9) = false := by simp; omega
              have hk2 : ((b : Int) == 0) = true := by simp; omega
              clear hb0
              go_wp2
              go_ret3
              exact ⟨by rw [HE.out, hor.out]; simp, rfl⟩
            · have hk2 : ((b : Int) == 0) = false := by simp; omega
              clear hb0
              by_cases hk9 : k = 9
              · have hb1 : ¬ (1 : Int) < (b : Int) := by have a := H9.out; omega
                have hk1 : ((k : Int) == 9) = true := by simp; omega
                clear hk9
                go_wp2
                go_ret3
                exact ⟨by rw [HE.out, hor.out]; simp, rfl⟩
              · have hk1 : ((k : Int) == 9) = false := by simp; omega
                clear hk9
                go_wp2
                go_ret3
                exact ⟨by rw [HE.out, hor.out]; simp, rfl⟩
    · have HE : Hid (fw T 0 0 = (0, 0, 7)) := Lib.hid (by rw [← HF.out, List.drop_of_length_le (by have := HN.out; omega), fw_nil])
      go_wp2
      go_ret3
      exact ⟨by rw [HE.out]; rfl, rfl⟩
end Go.Proofs.Ytpdjbhnpahkbpaa

namespace Go.Proofs.Ytpdjbhnpahkbpaa
open Go.ChangeShapes Go.WideShapes Go.ChangeAt Go.RowKit

/-- The reader at block br over the text T, which lies in blocks of B. -/
structure Rd (B : Nat → Prop) (W : World) (br : Nat) (T : List Nat) (s : RSt) : Prop where
  head : ∃ a c, W.heap[br]? = some (.cells #[.slice a T.length c, .int .i64 (s.at_ : Int), .int .i64 s.e, .int .i64 s.fn, .int .i64 (s.fa : Int)] 81 (0, 0)) ∧ RdS 1 RdU8 B W (.slice a T.length c) T ∧ T.length ≤ c
  low : ∀ i, B i → i < br
  ok : s.ok T
section
variable {B : Nat → Prop} {br : Nat} {S : Nat → Prop} {W W' : World} {T : List Nat} {s : RSt}
theorem Rd.far (h : Rd B W br T s) : ¬ B br := fun c => by have := h.low br c; omega
theorem Rd.lt (h : Rd B W br T s) : br < W.heap.size := by
  obtain ⟨a, c, h1, _⟩ := h.head
  exact (Array.getElem?_eq_some_iff.1 h1).1
theorem Rd.cha (h : Rd B W br T s) (c : Cha S W W') (hs : ¬ S br) (hB : ∀ i, S i → ¬ B i) : Rd B W' br T s := by
  obtain ⟨a, k, h1, h2, h3⟩ := h.head
  exact ⟨⟨a, k, (c.old br h.lt hs).trans h1, h2.bytes c hB (fun _ h => h), h3⟩, h.low, h.ok⟩
theorem Rd.alloc (h : Rd B W br T s) (o : Obj) : Rd B (W.alloc o) br T s := h.cha ((Cha.refl (fun _ => False) W).alloc o) (fun f => f) (fun _ f => f.elim)
theorem Rd.err (h : Rd B W br T s) : W.cell? ⟨br, 2, none⟩ = some (.int .i64 s.e) := by
  obtain ⟨a, c, h1, _⟩ := h.head
  exact cell_of_row W br 2 _ 81 (0, 0) h1
theorem Rd.pos (h : Rd B W br T s) : W.cell? ⟨br, 1, none⟩ = some (.int .i64 (s.at_ : Int)) := by
  obtain ⟨a, c, h1, _⟩ := h.head
  exact cell_of_row W br 1 _ 81 (0, 0) h1
theorem Rd.cell3 (h : Rd B W br T s) : W.cell? ⟨br, 3, none⟩ = some (.int .i64 s.fn) := by
  obtain ⟨a, c, h1, _⟩ := h.head
  exact cell_of_row W br 3 _ 81 (0, 0) h1
theorem Rd.cell4 (h : Rd B W br T s) : W.cell? ⟨br, 4, none⟩ = some (.int .i64 (s.fa : Int)) := by
  obtain ⟨a, c, h1, _⟩ := h.head
  exact cell_of_row W br 4 _ 81 (0, 0) h1
theorem Rd.free (h : Rd B W br T s) (i : Nat) : W.frozen? ⟨br, i, none⟩ = false := by
  obtain ⟨a, c, h1, _⟩ := h.head
  exact frozen_of_row W br i _ 81 h1
theorem Rd.move (h : Rd B W br T s) (n : Nat) (s' : RSt) (hs : s' = ⟨n, s.e, s.fa⟩) (ho : s'.ok T) : Rd B (W.setCell ⟨br, 1, none⟩ (.int .i64 (n : Int))) br T s' ∧ Cha (fun i => i = br) W (W.setCell ⟨br, 1, none⟩ (.int .i64 (n : Int))) := by
  obtain ⟨a, c, h1, h2, h3⟩ := h.head
  have k : Cha (fun i => i = br) W (W.setCell ⟨br, 1, none⟩ (.int .i64 (n : Int))) := (Cha.refl (fun i => i = br) W).setCell (p := ⟨br, 1, none⟩) (fun _ => rfl) _
  subst hs
  exact ⟨⟨⟨a, c, heap_setCell_same W br 1 _ 81 _ h1, h2.bytes k (fun i e hb => by have e : i = br := e; subst e; exact h.far hb) (fun _ h => h), h3⟩, h.low, ho⟩, k⟩
theorem Rd.fail (h : Rd B W br T s) (e : Int) (f : Nat) (s' : RSt) (hs : s' = ⟨s.at_, e, f⟩) (he : e ≠ 0) (ho : s'.ok T) :
    Rd B (((W.setCell ⟨br, 2, none⟩ (.int .i64 e)).setCell ⟨br, 3, none⟩ (.int .i64 (-1))).setCell ⟨br, 4, none⟩ (.int .i64 (f : Int))) br T s' ∧ Cha (fun i => i = br) W (((W.setCell ⟨br, 2, none⟩ (.int .i64 e)).setCell ⟨br, 3, none⟩ (.int .i64 (-1))).setCell ⟨br, 4, none⟩ (.int .i64 (f : Int))) := by
  obtain ⟨a, c, h1, h2, h3⟩ := h.head
  have k : Cha (fun i => i = br) W (((W.setCell ⟨br, 2, none⟩ (.int .i64 e)).setCell ⟨br, 3, none⟩ (.int .i64 (-1))).setCell ⟨br, 4, none⟩ (.int .i64 (f : Int))) :=
    (((Cha.refl (fun i => i = br) W).setCell (p := ⟨br, 2, none⟩) (fun _ => rfl) _).setCell (p := ⟨br, 3, none⟩) (fun _ => rfl) _).setCell (p := ⟨br, 4, none⟩) (fun _ => rfl) _
  have e1 := heap_setCell_same W br 2 _ 81 (.int .i64 e) h1
  have e2 := heap_setCell_same _ br 3 _ 81 (.int .i64 (-1)) e1
  have e3 := heap_setCell_same _ br 4 _ 81 (.int .i64 (f : Int)) e2
  subst hs
  refine ⟨⟨⟨a, c, ?_, h2.bytes k (fun i e hb => by have e : i = br := e; subst e; exact h.far hb) (fun _ h => h), h3⟩, h.low, ho⟩, k⟩
  rw [e3]
  have hf : RSt.fn ⟨s.at_, e, f⟩ = -1 := by unfold RSt.fn; rw [if_neg he]
  rw [hf]
  rfl
/-- What a call of the reader's leaves. -/
def Read (B : Nat → Prop) (br : Nat) (T : List Nat) (v : Value) (s : RSt) (W : World) : Ending → World → Prop := fun e w' => e = .returned v ∧ Rd B w' br T s ∧ Cha (fun i => i = br) W w'
theorem Read.of {v v' : Value} {s s' : RSt} {e : Ending} {w' : World} (h : Read B br T v s W e w') (hv : v = v') (hs : s = s') : Read B br T v' s' W e w' := hv ▸ hs ▸ h
theorem rword_stopped (lim : Nat) (ab : Int) (h : Rd B W br T s) (he : s.e ≠ 0) :
    Calls Try.prog 77 #[.pointer (some ⟨br, 0, none⟩), .int .u64 (lim : Int), .int .i64 ab] W (Read B br T (.int .u64 0) s W) := by
  have h1 := h.err
  have H := Lib.hid h
  have he1 : (s.e == 0) = false := by simpa using he
  have he2 : (s.e != 0) = true := by simpa using he
  clear h
  obtain ⟨E, hE⟩ : ∃ E, E = s.e := ⟨_, rfl⟩
  rw [← hE] at h1 he1 he2
  clear hE he
  go_enter Try.func77, Try.ntmps77
  go_wp2
  go_ret
  exact ⟨rfl, H.out, Cha.refl _ _⟩
theorem fault_any (e : Int) (at_ : Int) (W : World) : Calls Try.prog 33 #[.int .i64 e, .int .i64 at_] W fun o w' => o = .returned (.agg #[.int .i64 e, .int .i64 (-1), .int .i64 at_]) ∧ Cha (fun _ => False) W w' := by
  go_enter Try.func33, Try.ntmps33
  go_wp2
  exact bodyPost_ret (v := .agg #[.int .i64 e, .int .i64 (-1), .int .i64 at_]) (by simp [results, Try.results33, go_sem]) rfl ⟨rfl, (Cha.refl _ _).alloc _⟩
set_option maxRecDepth 100000 in
set_option maxHeartbeats 1000000 in
theorem rword_goes (lim : Nat) (ab : Int) (h : Rd B W br T s) (he : s.e = 0) (hab : ab ≠ 0) :
    Calls Try.prog 77 #[.pointer (some ⟨br, 0, none⟩), .int .u64 (lim : Int), .int .i64 ab] W (Read B br T (.int .u64 ((rWord T lim ab s).1 : Int)) (rWord T lim ab s).2 W) := by
  have hT : ∀ x ∈ T, x < 256 := by obtain ⟨_, _, _, h, _⟩ := h.head; exact h.small
  have HO := Lib.hid (rWord_ok (lim := lim) hT h.ok hab)
  have HW : Hid (rWord T lim ab s = if rErr lim ab (fw (T.drop s.at_) 0 0) ≠ 0 then (0, ⟨s.at_, rErr lim ab (fw (T.drop s.at_) 0 0), s.at_⟩) else ((fw (T.drop s.at_) 0 0).1, ⟨s.at_ + (fw (T.drop s.at_) 0 0).2.1, 0, 0⟩)) := Lib.hid (by
    conv => lhs; unfold rWord
    rw [if_neg (fun c => c he)])
  have c2 := h.err
  rw [he] at c2
  have c1 := h.pos
  have hat := h.ok.le
  have hfb := fw_bound (T.drop s.at_) 0 0 (by omega) (by simp) fun x hx => hT x (List.mem_of_mem_drop hx)
  have f1 := h.free 1
  have f2 := h.free 2
  have f3 := h.free 3
  have f4 := h.free 4
  have hbr := h.lt
  obtain ⟨a, c, h1, h2, h3⟩ := h.head
  have c0 : W.cell? ⟨br, 0, none⟩ = some (.slice a T.length c) := cell_of_row W br 0 _ 81 (0, 0) h1
  have hl := h2.len
  have hsub := sub_text h2 h3 hat
  have hsl : ∀ w, (Instr.slice 27 (.slice a T.length c) (some (.int .i64 (s.at_ : Int))) none none).run Try.prog w = .ok (sliced a s.at_ T.length c 1) w := by
    intro w
    have := run_slice_l (P := Try.prog) w 27 a T.length c Try.underlying27 .i64 (s.at_ : Int) (by omega) (by omega)
    rw [this]
    rfl
  have HF := Lib.hid h
  have CF := Lib.hid (fun N => (first_any (hsub.bytes ((Cha.refl (fun _ => False) W).drewN N) (fun _ f => f.elim) (fun _ h => h))).mono fun e w' (k : _ ∧ W.drewN N = w') => (⟨k.1, k.2.symm⟩ : _ ∧ w' = W.drewN N))
  obtain ⟨at_, hat0⟩ : ∃ x, x = s.at_ := ⟨_, rfl⟩
  rw [← hat0] at c1 hsl CF HW hfb hat
  obtain ⟨V, hV⟩ : ∃ V, V = sliced a at_ T.length c 1 := ⟨_, rfl⟩
  rw [← hV] at hsl CF
  obtain ⟨m, hm⟩ : ∃ m, m = T.length := ⟨_, rfl⟩
  rw [← hm] at hsl c0 hl hat
  obtain ⟨r, hr⟩ : ∃ r, r = fw (T.drop at_) 0 0 := ⟨_, rfl⟩
  rw [← hr] at CF HW hfb
  obtain ⟨n, sz, e⟩ := r
  have HA := Lib.hid hat0
  have HM := Lib.hid hm
  have hszb : e = 0 → at_ + sz ≤ m := fun ce => by
    have := hfb.2.1 ce
    simp only [List.length_drop] at this
    omega
  clear hat0 hV hm hr h hT hfb h1 h2 h3 hsub
  by_cases ce : e = 0
  · subst ce
    have he1 : ((0 : Int) == 0) = true := rfl
    by_cases cl : lim < n
    · have HE : Hid (rWord T lim ab s = (0, ⟨at_, ab, at_⟩)) := Lib.hid (by
        have e1 : rErr lim ab (n, sz, 0) = ab := by unfold rErr; rw [if_pos ⟨rfl, cl⟩]
        rw [HW.out, e1, if_pos hab])
      have HL := Lib.hid (fun W2 (h2 : Rd B W2 br T s) => h2.fail ab at_ ⟨at_, ab, at_⟩ (by rw [HA.out]) hab (by have := HO.out.1; rw [HE.out] at this; exact this))
      have hab1 : (ab != 0) = true := by simpa using hab
      have hab2 : (ab == 0) = false := by simpa using hab
      clear HW hab
      go_enter Try.func77, Try.ntmps77
      go_wp2
      go_quiet ((go_at_call 112; exact Calls.quiet_of_same (CF.out _)))
      have HC1 : Hid (Cha (fun i => i = br) W (W.drewN nq)) := Lib.hid ((Cha.refl _ W).drewN nq)
      have HF1 := Lib.hid (HF.out.cha ((Cha.refl (fun _ => False) W).drewN nq) (fun f => f) (fun _ f => f.elim))
      generalize W.drewN nq = W1 at *
      have c1 := HF1.out.pos
      rw [← HA.out] at c1
      have f1 := HF1.out.free 1
      clear CF HF hsl
      go_wp2_with (go_at_call 33; ((with_reducible refine (fault_any _ _ _).mono ?_); rintro e w2 ⟨rfl, kc⟩; have HC2 : Hid (Cha (fun i => i = br) W w2) := Lib.hid (HC1.out.trans (Cha.wide kc)); have HF2 := Lib.hid (HF1.out.cha kc (fun f => f) (fun _ f => f.elim)); clear kc; have f2 := HF2.out.free 2; have f3 := HF2.out.free 3; have f4 := HF2.out.free 4; have g2 := HF2.out.err; have g3 := HF2.out.cell3; have g4 := HF2.out.cell4))
      go_ret
      exact Read.of ⟨rfl, (HL.out _ HF2.out).1, HC2.out.trans (HL.out _ HF2.out).2⟩ (by rw [HE.out]; rfl) (by rw [HE.out])
    · have HE : Hid (rWord T lim ab s = (n, ⟨at_ + sz, 0, 0⟩)) := Lib.hid (by
        have e1 : rErr lim ab (n, sz, 0) = 0 := by unfold rErr; rw [if_neg (fun c => cl c.2)]
        rw [HW.out, e1, if_neg (fun c => c rfl)])
      have HL := Lib.hid (fun W2 (h2 : Rd B W2 br T s) => h2.move (at_ + sz) ⟨at_ + sz, 0, 0⟩ (by rw [he, h2.ok.z he]) (by have := HO.out.1; rw [HE.out] at this; exact this))
      have hsz := hszb rfl
      clear HW hab hszb
      go_enter Try.func77, Try.ntmps77
      go_wp2
      go_quiet ((go_at_call 112; exact Calls.quiet_of_same (CF.out _)))
      have HC1 : Hid (Cha (fun i => i = br) W (W.drewN nq)) := Lib.hid ((Cha.refl _ W).drewN nq)
      have HF1 := Lib.hid (HF.out.cha ((Cha.refl (fun _ => False) W).drewN nq) (fun f => f) (fun _ f => f.elim))
      generalize W.drewN nq = W1 at *
      have c1 := HF1.out.pos
      rw [← HA.out] at c1
      have f1 := HF1.out.free 1
      clear CF HF hsl
      go_wp2
      go_ret
      exact Read.of ⟨rfl, (HL.out _ HF1.out).1, HC1.out.trans (HL.out _ HF1.out).2⟩ (by rw [HE.out]; rfl) (by rw [HE.out])
  · have HE : Hid (rWord T lim ab s = (0, ⟨at_, e, at_⟩)) := Lib.hid (by
      have e1 : rErr lim ab (n, sz, e) = e := by unfold rErr; rw [if_neg (fun c => ce c.1)]
      rw [HW.out, e1, if_pos ce])
    have HL := Lib.hid (fun W2 (h2 : Rd B W2 br T s) => h2.fail e at_ ⟨at_, e, at_⟩ (by rw [HA.out]) ce (by have := HO.out.1; rw [HE.out] at this; exact this))
    have he1 : (e != 0) = true := by simpa using ce
    have he2 : (e == 0) = false := by simpa using ce
    clear HW hab ce hszb
    go_enter Try.func77, Try.ntmps77
    go_wp2
    go_quiet ((go_at_call 112; exact Calls.quiet_of_same (CF.out _)))
    have HC1 : Hid (Cha (fun i => i = br) W (W.drewN nq)) := Lib.hid ((Cha.refl _ W).drewN nq)
    have HF1 := Lib.hid (HF.out.cha ((Cha.refl (fun _ => False) W).drewN nq) (fun f => f) (fun _ f => f.elim))
    generalize W.drewN nq = W1 at *
    have c1 := HF1.out.pos
    rw [← HA.out] at c1
    have f1 := HF1.out.free 1
    clear CF HF hsl
    go_wp2_with (go_at_call 33; ((with_reducible refine (fault_any _ _ _).mono ?_); rintro e w2 ⟨rfl, kc⟩; have HC2 : Hid (Cha (fun i => i = br) W w2) := Lib.hid (HC1.out.trans (Cha.wide kc)); have HF2 := Lib.hid (HF1.out.cha kc (fun f => f) (fun _ f => f.elim)); clear kc; have f2 := HF2.out.free 2; have f3 := HF2.out.free 3; have f4 := HF2.out.free 4; have g2 := HF2.out.err; have g3 := HF2.out.cell3; have g4 := HF2.out.cell4))
    go_ret
    exact Read.of ⟨rfl, (HL.out _ HF2.out).1, HC2.out.trans (HL.out _ HF2.out).2⟩ (by rw [HE.out]; rfl) (by rw [HE.out])
theorem rword_any (lim : Nat) (ab : Int) (h : Rd B W br T s) (hab : ab ≠ 0) :
    Calls Try.prog 77 #[.pointer (some ⟨br, 0, none⟩), .int .u64 (lim : Int), .int .i64 ab] W (Read B br T (.int .u64 ((rWord T lim ab s).1 : Int)) (rWord T lim ab s).2 W) := by
  by_cases he : s.e = 0
  · exact rword_goes lim ab h he hab
  · have e : rWord T lim ab s = (0, s) := by unfold rWord; rw [if_pos he]
    rw [e]
    exact rword_stopped lim ab h he
theorem rnum_any (h : Rd B W br T s) : Calls Try.prog 78 #[.pointer (some ⟨br, 0, none⟩)] W (Read B br T (.int .i64 (rNum T s).1) (rNum T s).2 W) := by
  have C : Hid (Calls Try.prog 77 #[.pointer (some ⟨br, 0, none⟩), .int .u64 65535, .int .i64 1] W (Read B br T (.int .u64 ((rWord T 65535 1 s).1 : Int)) (rWord T 65535 1 s).2 W)) := Lib.hid (rword_any 65535 1 h (by decide))
  have hT : ∀ x ∈ T, x < 256 := by obtain ⟨_, _, _, h, _⟩ := h.head; exact h.small
  have hO := (rWord_ok (lim := 65535) (ab := 1) hT h.ok (by decide)).2.1
  unfold rNum
  generalize rWord T 65535 1 s = r at *
  obtain ⟨n, s'⟩ := r
  simp only at hO C ⊢
  have hw : IntKind.i64.wrap (n : Int) = (n : Int) := by rw [IntKind.wrap_i64]; omega
  clear h hT
  go_enter Try.func78, Try.ntmps78
  go_wp2_with (go_at_call 77; ((with_reducible refine (C.out).mono ?_); rintro e w1 ⟨rfl, k1, k2⟩; have K1 := Lib.hid k1; have K2 := Lib.hid k2; clear k1 k2))
  go_ret
  exact ⟨rfl, K1.out, K2.out⟩
theorem rkind_any (h : Rd B W br T s) : Calls Try.prog 57 #[.pointer (some ⟨br, 0, none⟩)] W (Read B br T (.int .i64 (rNum T s).1) (rNum T s).2 W) := by
  have C := Lib.hid (rnum_any h)
  clear h
  go_enter Try.func57, Try.ntmps57
  go_wp2_with (go_at_call 78; ((with_reducible refine (C.out).mono ?_); rintro e w1 ⟨rfl, k1, k2⟩; have K1 := Lib.hid k1; have K2 := Lib.hid k2; clear k1 k2))
  go_ret
  exact ⟨rfl, K1.out, K2.out⟩
end
end Go.Proofs.Ytpdjbhnpahkbpaa
