/- Layer 7's Alloc: its contract. -/
import Derived.Test.YtiboobaggpghjaaDoorDM
namespace Go.Proofs.YtiboobaggpghjaaDoor
open Go.ChangeShapes Go.WideShapes Go.ChangeAt Go.RowKit
variable {n pr : Nat} {F : Nat → Prop} {a : Ad} {W : World} {A : List Bk} {y : Bk}

theorem fi_repl (m : Nat) (hm : 1 ≤ m) : fi (List.replicate m false) = 0 := by
  cases m with
  | zero => omega
  | succ m => rfl
theorem mem_repl {m : Nat} (hm : 1 ≤ m) : false ∈ List.replicate m false := List.mem_replicate.2 ⟨by omega, rfl⟩
theorem Alo.split (hi : Inv n pr A) {p m x r : Int} {A' : List Bk} (c : Alo n pr A p m A' x r) :
    ((p < 0 ∨ (pr : Int) ≤ p ∨ m < 1) ∧ A' = A ∧ x = 0 ∧ r = 1) ∨ (0 ≤ p ∧ p < pr ∧ 1024 < m ∧ A' = A ∧ x = 0 ∧ r = 2) ∨
    ∃ q : Nat, p = (q : Int) ∧ q < pr ∧ 1 ≤ m ∧ m ≤ 1024 ∧ ((∃ A1 y, Bfo n pr A q m A1 (some y) 0 ∧ y ∈ A1 ∧ y.c ≠ -2 ∧ false ∈ y.u ∧ A' = upd A1 y.b useB ∧ x = cellAt y ∧ r = 0) ∨ (Bfo n pr A q m A' none 3 ∧ x = 0 ∧ r = 3)) := by
  cases c with
  | arg h => exact .inl ⟨h, rfl, rfl, rfl⟩
  | long h1 h2 h3 => exact .inr (.inl ⟨h1, h2, h3, rfl, rfl, rfl⟩)
  | great b k h1 h2 h3 h4 h5 h6 =>
    refine .inr (.inr ⟨p.toNat, by omega, by omega, by omega, h4, .inl ⟨_, _, .great b k h3 h4 h5 h6, List.mem_append_right _ (List.mem_singleton.2 rfl), by show (-1 : Int) ≠ -2; omega, List.mem_singleton.2 rfl, ?_, ?_, rfl⟩⟩)
    · rw [upd_last (grt_inv hi h6)]
      rfl
    · show _ = ((b * 64 + 0 * (k * 64) : Nat) : Int)
      rw [Nat.zero_mul, Nat.add_zero]
  | gfull k h1 h2 h3 h4 h5 h6 => exact .inr (.inr ⟨p.toNat, by omega, by omega, by omega, h4, .inr ⟨.gfull k h3 h4 h5 h6, rfl, rfl⟩⟩)
  | held q k y h1 h2 h3 h4 h5 h6 h7 h8 h9 => exact .inr (.inr ⟨q, h1, h2, h3, by omega, .inl ⟨_, _, .held k y h3 h4 h5 h6 h7 h8 h9, h6, by omega, h9, rfl, rfl, rfl⟩⟩)
  | opn q k y h1 h2 h3 h4 h5 h6 h7 =>
    obtain ⟨o1, o2, o3, o4⟩ := h7.opn
    refine .inr (.inr ⟨q, h1, h2, h3, by omega, .inl ⟨_, holdB q y, .opn k y h3 h4 h5 h6 h7, mem_upd.2 ⟨y, o1, by rw [if_pos rfl]⟩, by show y.c ≠ -2; omega, o4, ?_, rfl, rfl⟩⟩)
    exact (upd_upd (f := holdB q) (g := useB) (holdB_keeps q) y.b).symm
  | new q k b h1 h2 h3 h4 h5 h6 h7 h8 =>
    obtain ⟨c1, _⟩ := cof_ok m.toNat (by omega) (by omega)
    obtain ⟨_, _, _, _, k5, _⟩ := cw_ok k (by rw [h5]; exact c1)
    have inv' := newB_inv (unh_inv (p := q) (k := k) hi) (by rw [h5]; exact c1) (by omega) h8.unh
    refine .inr (.inr ⟨q, h1, h2, h3, by omega, .inl ⟨_, holdB q (newB k b), .new k b h3 h4 h5 h6 h7 h8, mem_upd.2 ⟨newB k b, List.mem_append_right _ (List.mem_singleton.2 rfl), (if_pos rfl).symm⟩, by show (k : Int) ≠ -2; omega, mem_repl k5, ?_, ?_, rfl⟩⟩)
    · have e1 := upd_upd (A := unh A q k ++ [newB k b]) (f := holdB q) (g := useB) (holdB_keeps q) b
      have e2 := upd_last (f := fun y => useB (holdB q y)) inv'
      exact (e1.trans e2).symm
    · show _ = ((b * 64 + fi (List.replicate (ccl k) false) * cw k : Nat) : Int)
      rw [fi_repl _ k5, Nat.zero_mul, Nat.add_zero]
  | full q k h1 h2 h3 h4 h5 h6 h7 h8 => exact .inr (.inr ⟨q, h1, h2, h3, by omega, .inr ⟨.full k h3 h4 h5 h6 h7 h8, rfl, rfl⟩⟩)
/-- A place and an error are answered, and the blocks are turned. -/
def Ares (n pr : Nat) (F : Nat → Prop) (a : Ad) (W : World) (A' : List Bk) (x r : Int) (e : Ending) (w' : World) : Prop :=
  e = .returned (.tuple #[.int .i64 x, .int .i64 r]) ∧ ∃ F' a', Got n pr F a W w' A' F' a'
set_option maxHeartbeats 2000000 in
theorem alloc7_any (h : Cl n pr F a W A) (hl : Live A) {p m x r : Int} {A' : List Bk} (c : Alo n pr A p m A' x r) (hm : m ≤ 9223372036854775807) : Calls Tryd.prog 31 #[.pointer (some ⟨a.bc, 0, none⟩), .int .i64 p, .int .i64 m] W (Ares n pr F a W A' x r) := by
  have h8 := h.prr
  rcases c.split h.inv with ⟨hb, rfl, rfl, rfl⟩ | ⟨h1, h2, h3, rfl, rfl, rfl⟩ | ⟨q, rfl, hq, hm1, hm2, ⟨A1, y, hbf, hy, hyc, hyu, rfl, rfl, rfl⟩ | ⟨hbf, rfl, rfl⟩⟩
  · have H := Lib.hid (show Ares n pr F a W A' 0 1 (.returned (.tuple #[.int .i64 0, .int .i64 1])) W from ⟨rfl, F, a, Got.of h (Cha.refl _ _)⟩)
    by_cases hp : 0 ≤ p ∧ p < pr
    · obtain ⟨q, rfl⟩ : ∃ q : Nat, p = (q : Int) := ⟨p.toNat, by omega⟩
      have C50 := Lib.hid (isProc_yes h q (by omega))
      have hm0 : decide (m < 1) = true := by simp; omega
      clear h hl hb hp c
      go_enter Tryd.func31, Tryd.ntmps31
      go_wp2_with (go_at_call 50; ((with_reducible refine (C50.out).mono ?_); rintro e w1 ⟨rfl, rfl⟩))
      go_ret2
      exact H.out
    · have C50 := Lib.hid (isProc_no h p (by omega))
      clear h hl hb hp c
      go_enter Tryd.func31, Tryd.ntmps31
      go_wp2_with (go_at_call 50; ((with_reducible refine (C50.out).mono ?_); rintro e w1 ⟨rfl, rfl⟩))
      go_ret2
      exact H.out
  · obtain ⟨q, rfl⟩ : ∃ q : Nat, p = (q : Int) := ⟨p.toNat, by omega⟩
    have H := Lib.hid (show Ares n pr F a W A' 0 2 (.returned (.tuple #[.int .i64 0, .int .i64 2])) W from ⟨rfl, F, a, Got.of h (Cha.refl _ _)⟩)
    have C50 := Lib.hid (isProc_yes h q (by omega))
    have hm0 : decide (m < 1) = false := by simp; omega
    clear h hl c h1 h2
    go_enter Tryd.func31, Tryd.ntmps31
    go_wp2_with (go_at_call 50; ((with_reducible refine (C50.out).mono ?_); rintro e w1 ⟨rfl, rfl⟩))
    go_ret2
    exact H.out
  · have C50 := Lib.hid (isProc_yes h q hq)
    have hm0 : decide (m < 1) = false := by simp; omega
    have hm3 : ¬ 1024 < m := by omega
    have C51 : Hid (Calls Tryd.prog 51 #[.pointer (some ⟨a.bc, 0, none⟩), .int .i64 (q : Int), .int .i64 m] W fun e w' => ∃ p', e = .returned (.tuple #[.pointer (some ⟨p', 0, none⟩), .int .i64 0]) ∧ ∃ F' a', p' = a'.pb y.b ∧ Got n pr F a W w' A1 F' a') := Lib.hid ((blockFor_any h hl q hq m hbf).mono fun e w' ⟨F', a', he, hg⟩ => ⟨a'.pb y.b, he, F', a', rfl, hg⟩)
    have U : Hid (∀ W1 F' a', Got n pr F a W W1 A1 F' a' → Calls Tryd.prog 52 #[.pointer (some ⟨a'.pb y.b, 0, none⟩)] W1 fun e w' => e = .returned (.int .i64 (cellAt y)) ∧ ∃ F' a', Got n pr F a W w' (upd A1 y.b useB) F' a') := Lib.hid fun W1 F' a' hg => (hg.cl.used hy hyc hyu).mono fun e w' ⟨he, hc, hch⟩ => ⟨he, F', a', hc, hg.bc, hg.cha.over hch fun i hi => hg.sub i hi, hg.sub, hg.sup⟩
    clear h hl c hbf hy hyc hyu
    generalize cellAt y = x at *
    go_enter Tryd.func31, Tryd.ntmps31
    go_wp2_with (first
      | (go_at_call 50; ((with_reducible refine (C50.out).mono ?_); rintro e w1 ⟨rfl, rfl⟩))
      | (go_at_call 51; ((with_reducible refine (C51.out).mono ?_); rintro e w1 ⟨p', rfl, F', a', hp', hg⟩; have HU := U.out _ _ _ hg; rw [← hp'] at HU; have HU2 := Lib.hid HU; clear HU hp' hg))
      | (go_at_call 52; ((with_reducible refine (HU2.out).mono ?_); rintro e w2 ⟨rfl, hg⟩; have HG := Lib.hid hg; clear hg)))
    go_ret2
    exact ⟨rfl, HG.out⟩
  · have C50 := Lib.hid (isProc_yes h q hq)
    have hm0 : decide (m < 1) = false := by simp; omega
    have hm3 : ¬ 1024 < m := by omega
    have C51 : Hid (Calls Tryd.prog 51 #[.pointer (some ⟨a.bc, 0, none⟩), .int .i64 (q : Int), .int .i64 m] W fun e w' => e = .returned (.tuple #[.pointer none, .int .i64 3]) ∧ ∃ F' a', Got n pr F a W w' A' F' a') := Lib.hid ((blockFor_any h hl q hq m hbf).mono fun e w' ⟨F', a', he, hg⟩ => ⟨he, F', a', hg⟩)
    clear h hl c hbf
    go_enter Tryd.func31, Tryd.ntmps31
    go_wp2_with (first
      | (go_at_call 50; ((with_reducible refine (C50.out).mono ?_); rintro e w1 ⟨rfl, rfl⟩))
      | (go_at_call 51; ((with_reducible refine (C51.out).mono ?_); rintro e w1 ⟨rfl, hg⟩; have HG := Lib.hid hg; clear hg)))
    go_ret2
    exact ⟨rfl, HG.out⟩
/-- No block is left empty that nobody holds. -/
theorem Alo.live (hi : Inv n pr A) (hl : Live A) {p m x r : Int} {A' : List Bk} (c : Alo n pr A p m A' x r) : Live A' := by
  have used : ∀ {B : List Bk} {z : Bk} {f : Bk → Bk}, Live B → Inv n pr B → z ∈ B → keep (f z) = true → Live (upd B z.b f) := fun {B z f} hB hBi hz hk w hw => by
    rcases of_upd hBi hz hw with rfl | ⟨h1, _⟩
    · exact hk
    · exact hB w h1
  have ku : ∀ {u : List Bool} {i : Nat}, i < u.length → 0 < cnt (u.set i true) := fun {u i} h => by
    unfold cnt
    exact List.count_pos_iff.2 (List.mem_set h true)
  cases c with
  | arg h => exact hl
  | long h1 h2 h3 => exact hl
  | great b k h1 h2 h3 h4 h5 h6 =>
    intro z hz
    rcases List.mem_append.1 hz with hz | hz
    · exact hl z hz
    · obtain rfl := List.mem_singleton.1 hz
      exact keep_iff.2 (.inr (.inr (by show 0 < cnt [true]; decide)))
  | gfull k h1 h2 h3 h4 h5 h6 => exact hl
  | held q k y h1 h2 h3 h4 h5 h6 h7 h8 h9 => exact used hl hi h6 (keep_iff.2 (.inr (.inl (by show 0 ≤ y.h; omega))))
  | opn q k y h1 h2 h3 h4 h5 h6 h7 =>
    exact used (letgo_unh hi hl h6).2 (unh_inv hi) h7.opn.1 (keep_iff.2 (.inr (.inl (by show (0 : Int) ≤ q; omega))))
  | new q k b h1 h2 h3 h4 h5 h6 h7 h8 =>
    intro z hz
    rcases List.mem_append.1 hz with hz | hz
    · exact (letgo_unh hi hl h6).2 z hz
    · obtain rfl := List.mem_singleton.1 hz
      exact keep_iff.2 (.inr (.inl (by show (0 : Int) ≤ q; omega)))
  | full q k h1 h2 h3 h4 h5 h6 h7 h8 => exact (letgo_unh hi hl h6).2
end Go.Proofs.YtiboobaggpghjaaDoor
