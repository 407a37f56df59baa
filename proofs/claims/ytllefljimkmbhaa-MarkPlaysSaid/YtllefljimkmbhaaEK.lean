/- The document's Add. -/
import Derived.Test.YtllefljimkmbhaaEJ
namespace Go.Proofs.Ytllefljimkmbhaa
open Go.ChangeShapes Go.WideShapes Go.ChangeAt Go.RowKit
variable {w w' w1 w2 W W' : World} {F S : Nat → Prop} {bd : Nat} {vo vr vq : Value} {f T : Nat → Nat} {g g' : Gr} {sw : Int} {K : Nat → Prop}

/-- What a list of objects takes. -/
theorem dmore_kit (h : Dm W F bd vo vr vq f T g sw) (k c : Nat) (hc : c ≠ 0) (hout : ∀ id, g.col id ≠ 0 → 1 ≤ id ∧ id ≤ g.n) :
    ∀ (Wx w3 : World) b' o' cap', App obE Wx w3 vo (obs g f) [(some W.heap.size, k, c)] b' o' cap' →
      Wx.heap = ((W.alloc (.cells (fcells k (rowV (List.replicate k 0))) 3)).alloc (.cells #[.slice (some ⟨W.heap.size, 0, none⟩) k k, .int .i64 (c : Int)] 77)).heap → Wx.os = W.os → Wx.output = W.output →
      w3.cell? ⟨bd, 0, none⟩ = some vo ∧ w3.frozen? ⟨bd, 0, none⟩ = false ∧ Goes (DmA bd (g.more k c)) W (w3.setCell ⟨bd, 0, none⟩ (.slice (some ⟨b', o', none⟩) (g.n + 1 + 1) cap')) F := by
  intro Wx w3 b' o' cap' hA q1 q2 q3
  have cWx : Cha (fun _ => False) W Wx := by
    have c := ((Cha.refl (fun _ => False) W).alloc (.cells (fcells k (rowV (List.replicate k 0))) 3)).alloc (.cells #[.slice (some ⟨W.heap.size, 0, none⟩) k k, .int .i64 (c : Int)] 77)
    exact ⟨q2, q3, by rw [q1]; exact c.size, fun i hi hs => by rw [q1]; exact c.old i hi hs⟩
  have h1 := h.same cWx
  have hv := hA.v
  rw [obs_len] at hv
  have e3 : w3.heap[bd]? = _ := (hA.cha.old bd (h1.old _ h1.tg.2) (fun e => (h1.bv e).1 rfl)).trans h1.head
  obtain ⟨F', f', T', r1, r2, r3⟩ := h.more hc hout (k := k) (by
    show Wx.heap[W.heap.size]? = _
    rw [q1, heap_alloc_old _ _ (by rw [World.size_alloc]; omega)]
    exact heap_alloc_new W _) cWx hv
  exact ⟨cell_of_row w3 bd 0 _ 52 (0, 0) e3, frozen_of_row w3 bd 0 _ 52 e3, F', r1.a, r2, r3⟩
/-- What a list of roots takes, the lists' heaps alone. -/
theorem dlay_kit2 (h : Goes (DmA bd g) W w1 F) (t : Nat) : ∃ (ar : Option Addr) (cr : Nat) (bo oo co : Nat), w1.cell? ⟨bd, 1, none⟩ = some (.slice ar g.roots.length cr) ∧ w1.cell? ⟨bd, 0, none⟩ = some (.slice (some ⟨bo, oo, none⟩) (g.n + 1) co) ∧ bd < w1.heap.size ∧
    (∀ w', Cha (fun _ => False) w1 w' → Lies inE w' (.slice ar g.roots.length cr) g.roots) ∧
    ∀ Wx w3 b' o' cap', App inE Wx w3 (.slice ar g.roots.length cr) g.roots [t] b' o' cap' → Cha (fun _ => False) w1 Wx →
      w3.cell? ⟨bd, 1, none⟩ = some (.slice ar g.roots.length cr) ∧ w3.frozen? ⟨bd, 1, none⟩ = false ∧
      (w3.setCell ⟨bd, 1, none⟩ (.slice (some ⟨b', o', none⟩) (g.roots.length + 1) cap')).cell? ⟨bd, 0, none⟩ = some (.slice (some ⟨bo, oo, none⟩) (g.n + 1) co) ∧ Goes (DmA bd (g.lay t)) W (w3.setCell ⟨bd, 1, none⟩ (.slice (some ⟨b', o', none⟩) (g.roots.length + 1) cap')) F := by
  obtain ⟨F1, ⟨vo, vr, vq, f, T, sw, d⟩, c, n⟩ := h
  obtain ⟨ar, cr, er, _, _, _⟩ := d.lr.ints
  obtain ⟨bo, oo, co, ev, _, _, _⟩ := d.objs
  subst er ev
  obtain ⟨x0, x1, _⟩ := d.facts
  refine ⟨ar, cr, bo, oo, co, x1, x0, d.old _ d.tg.2, fun w' c' => d.lr.same c', fun Wx w3 b' o' cap' hA cx => ?_⟩
  have h6 := d.same cx
  have hv := hA.v
  obtain ⟨F', T', r1, r2, r3⟩ := h6.onRoots hv.lies hv.cha hv.at'
  have e3 : w3.heap[bd]? = _ := (hA.cha.old bd (h6.old _ h6.tg.2) (fun e => (h6.br e).1 rfl)).trans h6.head
  obtain ⟨y0, _⟩ := r1.facts
  refine ⟨cell_of_row w3 bd 1 _ 52 (0, 0) e3, frozen_of_row w3 bd 1 _ 52 e3, y0, ?_⟩
  have c2 : Cha F1 w1 (w3.setCell ⟨bd, 1, none⟩ (.slice (some ⟨b', o', none⟩) (g.roots.length + 1) cap')) := cx.wide.trans r2
  refine ⟨F', r1.a, c.over c2 n, fun i hi => ?_⟩
  rcases r3 i hi with e | e
  · exact n i e
  · exact .inr (Nat.le_trans c.size (Nat.le_trans cx.size e))
set_option maxRecDepth 100000 in
set_option maxHeartbeats 8000000 in
theorem dadd_ok (h : Dm W F bd vo vr vq f T g sw) (hi : Inv g K) (k : Nat) (hk : k ≤ 16) (hn : g.n < 4096) : Calls Try.prog 13 #[.pointer (some ⟨bd, 0, none⟩), .int .i64 (k : Int)] W fun e W' => e = .returned (.tuple #[.int .i64 ((g.n + 1 : Nat) : Int), .int .i64 0]) ∧ Goes (DmA bd (g.add k)) W W' F := by
  obtain ⟨x0, x1, x2, x3, x4, x5, x6, xf⟩ := h.facts
  obtain ⟨b, o, cap, ev, hv1, hv2, _⟩ := h.objs
  have r8 := hi.r8
  have HL : Hid (∀ w', Cha (fun _ => False) W w' → Lies obE w' vo (obs g f)) := Lib.hid fun w' c => h.lo.same c
  have LBD := Lib.hid (h.old _ h.tg.2)
  have HN := Lib.hid (obs_len g f)
  have hmk := mk_ints k hk
  have key : ∀ c : Nat, c ≠ 0 → c = (if g.ph = 0 then 1 else 3) → Hid (∀ (Wx w3 : World) b' o' cap', App obE Wx w3 vo (obs g f) [(some W.heap.size, k, c)] b' o' cap' →
      Wx.heap = ((W.alloc (.cells (fcells k (rowV (List.replicate k 0))) 3)).alloc (.cells #[.slice (some ⟨W.heap.size, 0, none⟩) k k, .int .i64 (c : Int)] 77)).heap → Wx.os = W.os → Wx.output = W.output →
      w3.cell? ⟨bd, 0, none⟩ = some vo ∧ w3.frozen? ⟨bd, 0, none⟩ = false ∧
      ∃ (ar : Option Addr) (cr : Nat) (bo oo co : Nat), (w3.setCell ⟨bd, 0, none⟩ (.slice (some ⟨b', o', none⟩) (g.n + 1 + 1) cap')).cell? ⟨bd, 1, none⟩ = some (.slice ar g.roots.length cr) ∧ (w3.setCell ⟨bd, 0, none⟩ (.slice (some ⟨b', o', none⟩) (g.n + 1 + 1) cap')).cell? ⟨bd, 0, none⟩ = some (.slice (some ⟨bo, oo, none⟩) (g.n + 1 + 1) co) ∧
        bd < (w3.setCell ⟨bd, 0, none⟩ (.slice (some ⟨b', o', none⟩) (g.n + 1 + 1) cap')).heap.size ∧
        (∀ w', Cha (fun _ => False) (w3.setCell ⟨bd, 0, none⟩ (.slice (some ⟨b', o', none⟩) (g.n + 1 + 1) cap')) w' → Lies inE w' (.slice ar g.roots.length cr) g.roots) ∧
        ∀ Wx w5 b2 o2 cap2, App inE Wx w5 (.slice ar g.roots.length cr) g.roots [g.n + 1] b2 o2 cap2 → Cha (fun _ => False) (w3.setCell ⟨bd, 0, none⟩ (.slice (some ⟨b', o', none⟩) (g.n + 1 + 1) cap')) Wx →
          w5.cell? ⟨bd, 1, none⟩ = some (.slice ar g.roots.length cr) ∧ w5.frozen? ⟨bd, 1, none⟩ = false ∧
          (w5.setCell ⟨bd, 1, none⟩ (.slice (some ⟨b2, o2, none⟩) (g.roots.length + 1) cap2)).cell? ⟨bd, 0, none⟩ = some (.slice (some ⟨bo, oo, none⟩) (g.n + 1 + 1) co) ∧ Goes (DmA bd (g.add k)) W (w5.setCell ⟨bd, 1, none⟩ (.slice (some ⟨b2, o2, none⟩) (g.roots.length + 1) cap2)) F) := fun c c0 ec => Lib.hid fun Wx w3 b' o' cap' hA q1 q2 q3 => by
    obtain ⟨y0, y1, y2⟩ := dmore_kit h k c c0 hi.out Wx w3 b' o' cap' hA q1 q2 q3
    have e := add_more (g := g) k
    rw [← ec] at e
    rw [e]
    exact ⟨y0, y1, dlay_kit2 y2 (g.n + 1)⟩
  have B3 : Hid (g.roots.length + [g.n + 1].length ≤ maxLen) := Lib.hid (by unfold maxLen; simp only [List.length_singleton]; omega)
  have B4 : Hid ((g.roots.length + [g.n + 1].length) * inE.b ≤ 140737488355328) := Lib.hid (by show _ * 8 ≤ _; simp only [List.length_singleton]; omega)
  have e7 : IntKind.i64.wrap ((g.n : Int) + 1 + 1 - 1) = (g.n : Int) + 1 := by rw [IntWalk.i64_in _ (by omega)]; omega
  have e8 : IntKind.i64.wrap ((g.n : Int) + 1) = (g.n : Int) + 1 := IntWalk.i64_in _ (by omega)
  have k16 : (k : Int) ≤ 16 := by omega
  have kn : (g.n : Int) + 1 ≤ 4096 := by omega
  unfold maxLen at hv2
  clear h hi
  by_cases hp : g.ph = 0
  · rw [hp] at x3
    have HK := key 1 (by decide) (by rw [if_pos hp])
    have NN : Hid (∀ x u, (obE.cs [(some W.heap.size, k, 1)])[x]? = some u → ((W.alloc (.cells (fcells k (rowV (List.replicate k 0))) 3)).alloc (.cells #[.slice (some ⟨W.heap.size, 0, none⟩) k k, .int .i64 1] 77)).cell? ((⟨W.heap.size + 1, 0, none⟩ : Addr).add x) = some u) := Lib.hid (by
      have r := just_new obE (W.alloc (.cells (fcells k (rowV (List.replicate k 0))) 3)) (some W.heap.size, k, 1) 77
      rw [World.size_alloc] at r
      exact r)
    have B1 : Hid ((obs g f).length + [(some W.heap.size, k, 1)].length ≤ maxLen) := Lib.hid (by rw [obs_len]; unfold maxLen; simp only [List.length_singleton]; omega)
    have B2 : Hid (((obs g f).length + [(some W.heap.size, k, 1)].length) * obE.b ≤ 140737488355328) := Lib.hid (by rw [obs_len]; show _ * 32 ≤ _; simp only [List.length_singleton]; omega)
    clear key hp
    subst ev
    have lbd := LBD.out
    go_enter Try.func13, Try.ntmps13
    go_wp2
    go_region_law (refine step_app obE_ok rfl (.tmp 28) (.tmp 33) rfl (v := .slice (some ⟨b, o, none⟩) (g.n + 1) cap) (A := obs g f) rfl (HL.out _ ((((Cha.refl (fun _ => False) _).alloc _).alloc _).drew)) ⟨W.heap.size + 1, 0, none⟩ 1 1 [(some W.heap.size, k, 1)] rfl rfl NN.out Nat.zero_lt_one B1.out B2.out ?_; intro g3 o3 cap3 w3 hA3; rw [HN.out]; obtain ⟨k5, k6, ar, cr, bo, oo, co, k7, k8, k9, hL2, hK2⟩ := HK.out _ w3 _ _ _ hA3 rfl rfl rfl; have L2 := Lib.hid hL2; have K2 := Lib.hid hK2; clear hA3 hL2 hK2)
    all_goals
      go_upto_region 9 with (fail)
      have NN2 : Hid (∀ j u, (inE.cs [g.n + 1])[j]? = some u → ((w3.setCell ⟨bd, 0, none⟩ (.slice (some ⟨g3, o3, none⟩) (g.n + 1 + 1) cap3)).alloc (.cells #[.int .i64 ((g.n : Int) + 1)] 3)).cell? ((⟨(w3.setCell ⟨bd, 0, none⟩ (.slice (some ⟨g3, o3, none⟩) (g.n + 1 + 1) cap3)).heap.size, 0, none⟩ : Addr).add j) = some u) := Lib.hid (just_new inE (w3.setCell ⟨bd, 0, none⟩ (.slice (some ⟨g3, o3, none⟩) (g.n + 1 + 1) cap3)) (g.n + 1) 3)
      have CX := Lib.hid (Cha.refl (fun _ => False) (w3.setCell ⟨bd, 0, none⟩ (.slice (some ⟨g3, o3, none⟩) (g.n + 1 + 1) cap3)))
      clear HK NN HL B1 B2 hmk x0 x1 x2 x3 x4 x5 x6 xf k5 k6 lbd
      generalize (w3.setCell ⟨bd, 0, none⟩ (.slice (some ⟨g3, o3, none⟩) (g.n + 1 + 1) cap3)) = W4 at *
      go_region_law (refine step_app inE_ok rfl (.tmp 41) (.tmp 48) rfl (v := .slice ar g.roots.length cr) (A := g.roots) rfl (L2.out _ ((CX.out.alloc _).drew)) ⟨W4.heap.size, 0, none⟩ 1 1 [g.n + 1] rfl rfl NN2.out Nat.zero_lt_one B3.out B4.out ?_; intro g4 o4 cap4 w5 hB; obtain ⟨m5, m6, m7, hG5⟩ := K2.out _ _ _ _ _ hB ((CX.out.alloc _).drew); have G5 := Lib.hid hG5; clear hB hG5)
      all_goals
        go_wp2
        go_returns
        exact ⟨by simp, G5.out⟩
  · have hp2 : ((g.ph : Int) == 0) = false := by simpa using hp
    have HK := key 3 (by decide) (by rw [if_neg hp])
    have NN : Hid (∀ x u, (obE.cs [(some W.heap.size, k, 3)])[x]? = some u → ((W.alloc (.cells (fcells k (rowV (List.replicate k 0))) 3)).alloc (.cells #[.slice (some ⟨W.heap.size, 0, none⟩) k k, .int .i64 3] 77)).cell? ((⟨W.heap.size + 1, 0, none⟩ : Addr).add x) = some u) := Lib.hid (by
      have r := just_new obE (W.alloc (.cells (fcells k (rowV (List.replicate k 0))) 3)) (some W.heap.size, k, 3) 77
      rw [World.size_alloc] at r
      exact r)
    have B1 : Hid ((obs g f).length + [(some W.heap.size, k, 3)].length ≤ maxLen) := Lib.hid (by rw [obs_len]; unfold maxLen; simp only [List.length_singleton]; omega)
    have B2 : Hid (((obs g f).length + [(some W.heap.size, k, 3)].length) * obE.b ≤ 140737488355328) := Lib.hid (by rw [obs_len]; show _ * 32 ≤ _; simp only [List.length_singleton]; omega)
    clear key hp
    subst ev
    have lbd := LBD.out
    go_enter Try.func13, Try.ntmps13
    go_wp2
    go_region_law (refine step_app obE_ok rfl (.tmp 28) (.tmp 33) rfl (v := .slice (some ⟨b, o, none⟩) (g.n + 1) cap) (A := obs g f) rfl (HL.out _ ((((Cha.refl (fun _ => False) _).alloc _).alloc _).drew)) ⟨W.heap.size + 1, 0, none⟩ 1 1 [(some W.heap.size, k, 3)] rfl rfl NN.out Nat.zero_lt_one B1.out B2.out ?_; intro g3 o3 cap3 w3 hA3; rw [HN.out]; obtain ⟨k5, k6, ar, cr, bo, oo, co, k7, k8, k9, hL2, hK2⟩ := HK.out _ w3 _ _ _ hA3 rfl rfl rfl; have L2 := Lib.hid hL2; have K2 := Lib.hid hK2; clear hA3 hL2 hK2)
    all_goals
      go_upto_region 9 with (fail)
      have NN2 : Hid (∀ j u, (inE.cs [g.n + 1])[j]? = some u → ((w3.setCell ⟨bd, 0, none⟩ (.slice (some ⟨g3, o3, none⟩) (g.n + 1 + 1) cap3)).alloc (.cells #[.int .i64 ((g.n : Int) + 1)] 3)).cell? ((⟨(w3.setCell ⟨bd, 0, none⟩ (.slice (some ⟨g3, o3, none⟩) (g.n + 1 + 1) cap3)).heap.size, 0, none⟩ : Addr).add j) = some u) := Lib.hid (just_new inE (w3.setCell ⟨bd, 0, none⟩ (.slice (some ⟨g3, o3, none⟩) (g.n + 1 + 1) cap3)) (g.n + 1) 3)
      have CX := Lib.hid (Cha.refl (fun _ => False) (w3.setCell ⟨bd, 0, none⟩ (.slice (some ⟨g3, o3, none⟩) (g.n + 1 + 1) cap3)))
      clear HK NN HL B1 B2 hmk x0 x1 x2 x3 x4 x5 x6 xf k5 k6 lbd
      generalize (w3.setCell ⟨bd, 0, none⟩ (.slice (some ⟨g3, o3, none⟩) (g.n + 1 + 1) cap3)) = W4 at *
      go_region_law (refine step_app inE_ok rfl (.tmp 41) (.tmp 48) rfl (v := .slice ar g.roots.length cr) (A := g.roots) rfl (L2.out _ ((CX.out.alloc _).drew)) ⟨W4.heap.size, 0, none⟩ 1 1 [g.n + 1] rfl rfl NN2.out Nat.zero_lt_one B3.out B4.out ?_; intro g4 o4 cap4 w5 hB; obtain ⟨m5, m6, m7, hG5⟩ := K2.out _ _ _ _ _ hB ((CX.out.alloc _).drew); have G5 := Lib.hid hG5; clear hB hG5)
      all_goals
        go_wp2
        go_returns
        exact ⟨by simp, G5.out⟩
theorem dadd_any (h : Dm W F bd vo vr vq f T g sw) (hi : Inv g K) (a : Int) : Calls Try.prog 13 #[.pointer (some ⟨bd, 0, none⟩), .int .i64 a] W fun e W' => e = .returned (.tuple #[.int .i64 (g.addR a).1.1, .int .i64 (g.addR a).1.2]) ∧ Goes (DmA bd (g.addR a).2) W W' F := by
  have HG0 := Lib.hid h.goes0
  unfold Gr.addR
  by_cases hb : a < 0 ∨ 16 < a
  · rw [if_pos hb]
    clear h hi
    by_cases h0 : a < 0
    · clear hb
      go_enter Try.func13, Try.ntmps13
      go_wp2
      go_returns
      exact ⟨rfl, HG0.out⟩
    · have h1 : 16 < a := by omega
      clear hb
      go_enter Try.func13, Try.ntmps13
      go_wp2
      go_returns
      exact ⟨rfl, HG0.out⟩
  · rw [if_neg hb]
    by_cases hn : g.n = 4096
    · rw [if_pos hn]
      obtain ⟨x0, _⟩ := h.facts
      obtain ⟨b, o, cap, ev, _, _, _⟩ := h.objs
      rw [hn] at ev
      subst ev
      have h0 : ¬ a < 0 := fun e => hb (.inl e)
      have h1 : ¬ 16 < a := fun e => hb (.inr e)
      clear h hi hb hn
      go_enter Try.func13, Try.ntmps13
      go_wp2
      go_returns
      exact ⟨rfl, HG0.out⟩
    · rw [if_neg hn]
      obtain ⟨k, rfl⟩ : ∃ k : Nat, a = k := ⟨a.toNat, by omega⟩
      rw [Int.toNat_natCast]
      exact dadd_ok h hi k (by omega) (by have := hi.n4; omega)
end Go.Proofs.Ytllefljimkmbhaa
