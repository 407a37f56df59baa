/- The program's pacer: reckon. -/
import Derived.Test.YtlpgfdphoiideaaPA
namespace Go.Proofs.Ytlpgfdphoiideaa
open Go.ChangeShapes Go.WideShapes Go.ChangeAt Go.RowKit
def PS.gset (s : PS) (x : Int) : PS := { s with goal := x }
set_option maxHeartbeats 4000000 in
theorem reckon_any {w : World} {b : Nat} {s : PS} (h : PP w b s) (o : s.Ok) (live : Int) (hl : isW live) :
    Calls Try.prog 42 #[.pointer (some ⟨b, 0, none⟩), .int .u64 live] w fun e w' => e = .returned (.tuple #[]) ∧ PP w' b ({ s with live := live } : PS).aim ∧ Cha (· = b) w w' := by
  have OW := Lib.hid (own_any h o live hl)
  have og := ownG_ok (g := s.g) hl o.roots
  have gg := goalG_ok (g := s.g) o.lim hl o.roots
  have hG : goalG s.g s.lim live s.roots = if s.lim = 0 then ownG s.g live s.roots else min (ownG s.g live s.roots) (max s.lim live) := rfl
  have fin : ∀ W : World, PP W b (s.gset (goalG s.g s.lim live s.roots)) → Cha (· = b) w W →
      PP (W.setCell ⟨b, 5, none⟩ (.int .u64 (trigG (goalG s.g s.lim live s.roots) live))) b ({ s with live := live } : PS).aim ∧ Cha (· = b) w (W.setCell ⟨b, 5, none⟩ (.int .u64 (trigG (goalG s.g s.lim live s.roots) live))) :=
    fun W hW c => ⟨PP.put hW rfl, Cha.setCell (S := (· = b)) (p := ⟨b, 5, none⟩) c (fun _ => rfl) _⟩
  have FIN := Lib.hid fin
  generalize goalG s.g s.lim live s.roots = G at *
  generalize ownG s.g live s.roots = X at *
  have tg := trigG_ok gg hl
  have dg := isW_dif gg hl
  have SB := Lib.hid fun w => sub_c w G live gg hl
  have SB2 := Lib.hid fun w => sub_c w G (M.dif G live / 4) gg (by unfold isW at *; omega)
  have HT : M.dif G (M.dif G live / 4) = trigG G live := rfl
  rw [HT] at SB2
  generalize trigG G live = tr at *
  have hr : IntKind.u64.wrap (Int.tdiv (M.dif G live) 4) = M.dif G live / 4 := by
    rw [Int.tdiv_eq_ediv_of_nonneg dg.1, IntKind.wrap_u64]; unfold isW at dg; omega
  generalize M.dif G live = dd at *
  have lim0 := o.lim
  have TAIL : Hid (∀ (W : World) (x : Int), PP W b (s.gset x) → Cha (· = b) w W → W.cell? ⟨b, 1, none⟩ = some (.int .u64 s.lim) ∧ W.cell? ⟨b, 4, none⟩ = some (.int .u64 x) ∧ W.cell? ⟨b, 5, none⟩ = some (.int .u64 s.trig) ∧ W.frozen? ⟨b, 4, none⟩ = false ∧ W.frozen? ⟨b, 5, none⟩ = false ∧
      ∀ y, PP (W.setCell ⟨b, 4, none⟩ (.int .u64 y)) b (s.gset y) ∧ Cha (· = b) w (W.setCell ⟨b, 4, none⟩ (.int .u64 y))) :=
    Lib.hid fun W x hW c => ⟨hW.cells.2.1, hW.cells.2.2.2.2.1, hW.cells.2.2.2.2.2.1, hW.free 4, hW.free 5, fun y => ⟨PP.put hW rfl, Cha.setCell (S := (· = b)) (p := ⟨b, 4, none⟩) c (fun _ => rfl) _⟩⟩
  have H5 : Hid (∀ w5, Cha (fun _ => False) w w5 → w5.cell? ⟨b, 1, none⟩ = some (.int .u64 s.lim) ∧ w5.cell? ⟨b, 4, none⟩ = some (.int .u64 s.goal) ∧ w5.frozen? ⟨b, 4, none⟩ = false ∧
      ∀ x, PP (w5.setCell ⟨b, 4, none⟩ (.int .u64 x)) b (s.gset x) ∧ Cha (· = b) w (w5.setCell ⟨b, 4, none⟩ (.int .u64 x))) :=
    Lib.hid fun w5 c => ⟨(h.same c).cells.2.1, (h.same c).cells.2.2.2.2.1, (h.same c).free 4, fun x => ⟨PP.put (h.same c) rfl, Cha.setCell (S := (· = b)) (p := ⟨b, 4, none⟩) c.wide (fun _ => rfl) _⟩⟩
  clear fin h o HT
  generalize s.lim = lm at *
  generalize s.goal = gl at *
  generalize s.trig = sg at *
  by_cases hz : lm = 0
  · rw [if_pos hz] at hG
    subst hz
    subst hG
    go_enter Try.func42, Try.ntmps42
    go_upto_region 3 with (go_at_call 56; refine OW.out.mono ?_; rintro e5 w5 ⟨rfl, hc5⟩; obtain ⟨y1, y2, y3, y4⟩ := H5.out w5 hc5; have Y4 := Lib.hid y4; clear y4)
    refine (?_ : ∀ W : World, PP W b (s.gset G) → Cha (· = b) w W → Code.wp Try.prog _ _ _ W) _ (Y4.out G).1 (Y4.out G).2
    intro W hW hc
    obtain ⟨z0, z1, z2, z3, z4, z5⟩ := TAIL.out W G hW hc
    have HW := Lib.hid hW
    have HC := Lib.hid hc
    clear hW hc hc5 Y4 y1 y2 y3 z5
    go_region_law (first
        | (go_simp; go_at_call 46; (with_reducible refine (SB.out _).mono ?_); rintro e5 w5 ⟨rfl, rfl⟩)
        | (go_simp; go_at_call 46; (with_reducible refine (SB2.out _).mono ?_); rintro e5 w5 ⟨rfl, rfl⟩))
    all_goals
      go_returns
      exact ⟨rfl, (FIN.out _ HW.out HC.out).1, (FIN.out _ HW.out HC.out).2.drew⟩
  · rw [if_neg hz] at hG
    have hz1 : (lm != 0) = true := by simpa using hz
    have hm : isW (max lm live) := by unfold isW at *; omega
    subst hG
    go_enter Try.func42, Try.ntmps42
    go_upto_region 2 with (go_at_call 56; refine OW.out.mono ?_; rintro e5 w5 ⟨rfl, hc5⟩; obtain ⟨y1, y2, y3, y4⟩ := H5.out w5 hc5; have Y4 := Lib.hid y4; clear y4)
    have p1 := (Y4.out X).1
    have p2 := (Y4.out X).2
    generalize w5.setCell ⟨b, 4, none⟩ (.int .u64 X) = W5 at *
    obtain ⟨z0, z1, z2, z3, z4, z5⟩ := TAIL.out W5 X p1 p2
    have HP := Lib.hid (z5 (min X (max lm live)))
    clear p1 p2 hc5 y1 y2 y3 Y4 z5
    go_region_law (fail)
    all_goals
      go_upto_region 3 with (fail)
      refine (?_ : ∀ W : World, PP W b (s.gset (min X (max lm live))) → Cha (· = b) w W → Code.wp Try.prog _ _ _ W) _ HP.out.1 HP.out.2.drew
      intro W hW hc
      obtain ⟨u0, u1, u2, u3, u4, u5⟩ := TAIL.out W _ hW hc
      have HW := Lib.hid hW
      have HC := Lib.hid hc
      clear hW hc z0 z1 z2 z3 z4 u5
      generalize min X (max lm live) = G at *
      go_region_law (first
        | (go_simp; go_at_call 46; (with_reducible refine (SB.out _).mono ?_); rintro e5 w5 ⟨rfl, rfl⟩)
        | (go_simp; go_at_call 46; (with_reducible refine (SB2.out _).mono ?_); rintro e5 w5 ⟨rfl, rfl⟩))
      all_goals
        go_returns
        exact ⟨rfl, (FIN.out _ HW.out HC.out).1, (FIN.out _ HW.out HC.out).2.drew⟩
end Go.Proofs.Ytlpgfdphoiideaa
