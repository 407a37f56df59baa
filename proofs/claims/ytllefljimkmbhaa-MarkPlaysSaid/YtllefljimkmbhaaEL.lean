/- The document's Work: off; a root is shaded; marking ends. -/
import Derived.Test.YtllefljimkmbhaaEK
namespace Go.Proofs.Ytllefljimkmbhaa
open Go.ChangeShapes Go.WideShapes Go.ChangeAt Go.RowKit
variable {w w' w1 w2 W W' : World} {F S : Nat → Prop} {bd : Nat} {vo vr vq : Value} {f T : Nat → Nat} {g g' : Gr} {sw : Int} {K : Nat → Prop}

set_option maxRecDepth 100000 in
set_option maxHeartbeats 4000000 in
theorem dwork_off (h : Dm W F bd vo vr vq f T g sw) (hp : g.ph = 0) : Calls Try.prog 23 #[.pointer (some ⟨bd, 0, none⟩)] W fun e W' => e = .returned (.tuple #[.int .i64 0, .int .i64 5]) ∧ Goes (DmA bd g) W W' F := by
  obtain ⟨x0, x1, x2, x3, x4, x5, x6, xf⟩ := h.facts
  have HG0 := Lib.hid h.goes0
  rw [hp] at x3
  clear h hp
  go_enter Try.func23, Try.ntmps23
  go_wp2
  go_returns
  exact ⟨rfl, HG0.out⟩
theorem dscan_kit (q : Goes (DmA bd g) W w1 F) (h1 : g.ph = 1) : w1.cell? ⟨bd, 4, none⟩ = some (.int .i64 g.thr) ∧ w1.frozen? ⟨bd, 4, none⟩ = false ∧ Goes (DmA bd g.scan) W (w1.setCell ⟨bd, 4, none⟩ (.int .i64 ((g.thr : Int) + 1))) F := by
  obtain ⟨F1, ⟨vo, vr, vq, f, T, sw, d⟩, c, n⟩ := q
  obtain ⟨_, _, _, _, x4, _, _, xf⟩ := d.facts
  have c4 := Cha.at w1 bd 4 (.int .i64 ((g.thr : Int) + 1))
  have d2 := d.header (g' := g.scan) (vq' := vq) (sw' := sw) c4 (by rw [heap_setCell_same w1 bd 4 _ 52 _ d.head]; rfl) rfl rfl rfl rfl (.inl ⟨rfl, rfl⟩) (fun e => by have e : g.ph = 2 := e; omega)
  exact ⟨x4, xf 4, F1, d2.a, c.over (c4.mono (T := F1) fun i _ e => e ▸ d.tg.2) n, n⟩
set_option maxRecDepth 100000 in
set_option maxHeartbeats 4000000 in
theorem dwork_root (h : Dm W F bd vo vr vq f T g sw) (hi : Inv g K) (hp : g.ph = 1) (ht : g.thr < g.roots.length) : Calls Try.prog 23 #[.pointer (some ⟨bd, 0, none⟩)] W fun e W' => e = .returned (.tuple #[.int .i64 0, .int .i64 0]) ∧ Goes (DmA bd (g.shade (g.roots.getD g.thr 0)).scan) W W' F := by
  obtain ⟨x0, x1, x2, x3, x4, x5, x6, xf⟩ := h.facts
  obtain ⟨ar, cr, er, hr1, hr2, hr3⟩ := h.lr.ints
  obtain ⟨br, or, rfl, hc⟩ := hr3 (by omega)
  have y0 := (hc g.thr ht).1
  have e : g.roots.getD g.thr 0 = g.roots[g.thr] := by simp [ht]
  have hn : g.roots.getD g.thr 0 ≤ g.n := by rw [e]; exact (hi.kroot _ (List.getElem_mem ht)).2.2
  have hq := hi.greys_le
  have h8 := hi.r8
  have h4 := hi.n4
  have C38 : Hid (∀ W1, Cha (fun _ => False) W W1 → Calls Try.prog 38 #[.pointer (some ⟨bd, 0, none⟩), .int .i64 ((g.roots.getD g.thr 0 : Nat) : Int)] W1 fun e w1 => e = .returned (.tuple #[]) ∧ Goes (DmA bd (g.shade (g.roots.getD g.thr 0))) W w1 F) :=
    Lib.hid fun W1 c => (dshade_any (h.same c) _ hn hi.n4 (by omega)).mono fun _ _ ⟨a, b⟩ => ⟨a, b.before c⟩
  have sp : (g.shade (g.roots.getD g.thr 0)).ph = 1 := (shade_ph _).trans hp
  have st : (g.shade (g.roots.getD g.thr 0)).thr = g.thr := shade_thr _
  have SK : Hid (∀ w1, Goes (DmA bd (g.shade (g.roots.getD g.thr 0))) W w1 F → w1.cell? ⟨bd, 4, none⟩ = some (.int .i64 g.thr) ∧ w1.frozen? ⟨bd, 4, none⟩ = false ∧ Goes (DmA bd (g.shade (g.roots.getD g.thr 0)).scan) W (w1.setCell ⟨bd, 4, none⟩ (.int .i64 ((g.thr : Int) + 1))) F) := Lib.hid fun w1 q => by
    have := dscan_kit q sp
    rw [st] at this
    exact this
  rw [hp] at x3
  have k1 : (g.thr : Int) < (g.roots.length : Int) := by omega
  have e1 : IntKind.i64.wrap ((g.thr : Int) + 1) = (g.thr : Int) + 1 := IntWalk.i64_in _ (by omega)
  clear h hi hp hc hr3 xf e hn hq sp st
  generalize (g.shade (g.roots.getD g.thr 0)) = g1 at *
  generalize g.roots.getD g.thr 0 = t at *
  generalize g.roots.length = m at *
  generalize g.thr = th at *
  go_enter Try.func23, Try.ntmps23
  go_wp2
  go_quiet (fail)
  go_wp2
  go_region_law (go_simp; go_at_call 38; (with_reducible refine (C38.out _ ((Cha.refl (fun _ => False) W).drewN _)).mono ?_); rintro e w1 ⟨rfl, hG⟩; obtain ⟨m1, m2, m3⟩ := SK.out _ hG; have M3 := Lib.hid m3; clear hG m3)
  all_goals
    go_wp2
    go_returns
    exact ⟨rfl, M3.out⟩
theorem dturn_goes (h : Dm W F bd vo vr vq f T g sw) : Goes (DmA bd g.turn) W ((W.setCell ⟨bd, 3, none⟩ (.int .i64 2)).setCell ⟨bd, 5, none⟩ (.int .i64 1)) F := by
  have c4 := (Cha.at W bd 3 (.int .i64 2)).trans (Cha.at _ bd 5 (.int .i64 1))
  have d2 := h.header (g' := g.turn) (vq' := vq) (sw' := 1) c4 (by rw [heap_setCell_same _ bd 5 _ 52 _ (heap_setCell_same W bd 3 _ 52 _ h.head)]; rfl) rfl rfl rfl rfl (.inl ⟨rfl, rfl⟩) (fun _ => rfl)
  exact ⟨F, d2.a, c4.mono fun i _ e => e ▸ h.tg.2, fun i x => .inl x⟩
set_option maxRecDepth 100000 in
set_option maxHeartbeats 4000000 in
theorem dwork_turn (h : Dm W F bd vo vr vq f T g sw) (hi : Inv g K) (hp : g.ph = 1) (ht : ¬ g.thr < g.roots.length) (hg : g.greys = []) : Calls Try.prog 23 #[.pointer (some ⟨bd, 0, none⟩)] W fun e W' => e = .returned (.tuple #[.int .i64 0, .int .i64 0]) ∧ Goes (DmA bd g.turn) W W' F := by
  obtain ⟨x0, x1, x2, x3, x4, x5, x6, xf⟩ := h.facts
  obtain ⟨ar, cr, er, hr1, hr2, hr3⟩ := h.lr.ints
  obtain ⟨aq, cq, eq, hq1, hq2, hq3⟩ := h.lq.ints
  have HG : Hid (∀ W1, Cha (fun _ => False) W W1 → Goes (DmA bd g.turn) W ((W1.setCell ⟨bd, 3, none⟩ (.int .i64 2)).setCell ⟨bd, 5, none⟩ (.int .i64 1)) F) := Lib.hid fun W1 c => (dturn_goes (h.same c)).before c
  have h8 := hi.r8
  have h4 := hi.n4
  have ht8 := hi.thr
  rw [hp] at x3
  rw [hg] at eq
  subst er eq
  have f3 := xf 3
  have f5 := xf 5
  have k1 : ¬ (g.thr : Int) < (g.roots.length : Int) := by omega
  clear h hi hp ht hg hr3 hq3 xf
  go_enter Try.func23, Try.ntmps23
  go_wp2
  go_quiet (fail)
  go_wp2
  go_returns
  exact ⟨rfl, HG.out _ ((Cha.refl (fun _ => False) W).drewN _)⟩
end Go.Proofs.Ytllefljimkmbhaa
