/- Contracts of mark: Add. -/
import Derived.Test.YtllefljimkmbhaaJ
namespace Go.Proofs.Ytllefljimkmbhaa
open Go.ChangeShapes Go.WideShapes Go.ChangeAt Go.RowKit
variable {w w' w1 w2 w3 W W' : World} {F S : Nat → Prop} {bg : Nat} {vo vr vq : Value} {q f T : Nat → Nat} {g g' : Gr} {lv : Int} {rt rt' : Nat → Int} {K : Nat → Prop}

theorem made_ints (k : Nat) : madeCells (Value.int .i64 0).cells (k * 1) = fcells k (rowV (List.replicate k 0)) := by
  rw [Nat.mul_one]
  unfold madeCells fcells
  congr 1
  funext x
  show (#[Value.int .i64 0])[x % 1]! = .int .i64 (((List.replicate k 0).getD x 0 : Nat) : Int)
  have e : (List.replicate k 0).getD x 0 = 0 := by
    unfold List.getD
    rw [List.getElem?_replicate]
    split <;> rfl
  rw [Nat.mod_one, e]
  rfl
theorem mk_ints (k : Nat) (hk : k ≤ 16) (W : World) : (Instr.makeSlice 50 (.int .i64 (k : Int)) (.int .i64 (k : Int))).run Try.prog W = .ok (.slice (some ⟨W.heap.size, 0, none⟩) k k) (W.alloc (.cells (fcells k (rowV (List.replicate k 0))) 3)) := by
  obtain ⟨i, hi, hz, hs, hb⟩ := info_parts inE_ok.inf
  have hb : i.bytes = 8 := hb
  have hs : i.size = 1 := hs
  have h := run_make (P := Try.prog) W 50 3 i _ Try.underlying50 hi hz .i64 .i64 (k : Int) (k : Int) (by omega) (by omega) (by rw [hb]; omega) (by omega)
  have e : madeCells inE.z.cells (k * 1) = fcells k (rowV (List.replicate k 0)) := made_ints k
  rw [hs, Int.toNat_natCast, e] at h
  exact h
theorem add_none (a : Int) (W : World) : Calls Try.prog 12 #[.pointer none, .int .i64 a] W fun e W' => e = .returned (.tuple #[.int .i64 0, .int .i64 5]) ∧ W = W' := by
  go_enter Try.func12, Try.ntmps12
  go_wp2
  go_returns
  exact ⟨rfl, rfl⟩
set_option maxRecDepth 100000 in
theorem add_bad (h : Pm W F bg vo vr vq q f T g lv rt) (a : Int) (R : Int) (hR : ((a < 0 ∨ 16 < a) ∧ R = 1) ∨ (0 ≤ a ∧ a ≤ 16 ∧ g.n = 4096 ∧ R = 3)) :
    Calls Try.prog 12 #[.pointer (some ⟨bg, 0, none⟩), .int .i64 a] W fun e W' => e = .returned (.tuple #[.int .i64 0, .int .i64 R]) ∧ W = W' := by
  obtain ⟨_, _, c2, _⟩ := h.facts
  obtain ⟨a0, cap, rfl, hc1, hc2, _⟩ := h.pts
  clear h
  rcases hR with ⟨c, rfl⟩ | ⟨x1, x2, x3, rfl⟩
  · by_cases d : a < 0
    · clear c
      go_enter Try.func12, Try.ntmps12
      go_wp2
      go_returns
      exact ⟨rfl, rfl⟩
    · have c := c.resolve_left d
      go_enter Try.func12, Try.ntmps12
      go_wp2
      go_returns
      exact ⟨rfl, rfl⟩
  · rw [x3] at c2
    have y1 : ¬ a < 0 := by omega
    have y2 : ¬ 16 < a := by omega
    clear x1 x2 x3
    go_enter Try.func12, Try.ntmps12
    go_wp2
    go_returns
    exact ⟨rfl, rfl⟩
set_option maxRecDepth 100000 in
set_option maxHeartbeats 1000000 in
theorem add_in (h : Pm W F bg vo vr vq q f T g g.live (cntI g.roots)) (hi : Inv g K) (k : Nat) (hk : k ≤ 16) (hn : g.n < 4096) :
    Calls Try.prog 12 #[.pointer (some ⟨bg, 0, none⟩), .int .i64 (k : Int)] W fun e W' => e = .returned (.tuple #[.int .i64 ((g.n + 1 : Nat) : Int), .int .i64 0]) ∧ Goes (PgA bg (g.add k)) W W' F := by
  obtain ⟨c0, _, c2, c3, _, _, _, _, cf⟩ := h.facts
  obtain ⟨a0, cap, eo, hc1, hc2, _⟩ := h.pts
  have hI := hi.add hk hn
  have hr8 := hi.r8
  have hbl := h.old _ h.tg.2
  have hlive : g.live ≤ g.n := live_le
  have hph := h.sz.ph
  have hmk := mk_ints k hk
  have hr0 : cntI g.roots (g.n + 1) = 0 := by
    unfold cntI
    rw [List.count_eq_zero.2 fun m => by have := (hi.kroot _ m).2.2; omega]
    rfl
  obtain ⟨c, hc⟩ : ∃ c : Nat, c = if g.ph = 0 then 1 else 3 := ⟨_, rfl⟩
  have HX : Hid (∀ (W2 w3 : World) b' o' cap', W2.heap = ((W.alloc (.cells (fcells k (rowV (List.replicate k 0))) 3)).alloc (.cells #[.int .i64 ((c - 1 : Nat) : Int), .slice (some ⟨W.heap.size, 0, none⟩) k k, .int .i64 0] 74)).heap → W2.os = W.os → W2.output = W.output →
      App ptE (W2.alloc (.cells #[.pointer (some ⟨W.heap.size + 1, 0, none⟩)] 72)) w3 vo (ptrs g.n g.col q) [some (W.heap.size + 1)] b' o' cap' →
      w3.cell? ⟨bg, 2, none⟩ = some vo ∧ w3.frozen? ⟨bg, 2, none⟩ = false ∧ w3.cell? ⟨bg, 3, none⟩ = some (.int .i64 g.live) ∧ w3.frozen? ⟨bg, 3, none⟩ = false ∧
      Calls Try.prog 35 #[.pointer (some ⟨bg, 0, none⟩), .int .i64 ((g.n : Int) + 1)] ((w3.setCell ⟨bg, 2, none⟩ (.slice (some ⟨b', o', none⟩) (g.n + 1) cap')).setCell ⟨bg, 3, none⟩ (.int .i64 ((g.live : Int) + 1))) fun e w4 => e = .returned (.tuple #[]) ∧ Goes (PgA bg (g.add k)) W w4 F) := Lib.hid fun W2 w3 b' o' cap' q1 q2 q3 hA => by
    have hsz : W2.heap.size = W.heap.size + 2 := by rw [q1, World.size_alloc, World.size_alloc]
    have cW2 : Cha (fun _ => False) W W2 := by
      have c := ((Cha.refl (fun _ => False) W).alloc (.cells (fcells k (rowV (List.replicate k 0))) 3)).alloc (.cells #[.int .i64 ((c - 1 : Nat) : Int), .slice (some ⟨W.heap.size, 0, none⟩) k k, .int .i64 0] 74)
      exact ⟨q2, q3, by rw [q1]; exact c.size, fun i hi hs => by rw [q1]; exact c.old i hi hs⟩
    have cW3 : Cha (fun _ => False) W (W2.alloc (.cells #[.pointer (some ⟨W.heap.size + 1, 0, none⟩)] 72)) := cW2.alloc _
    have hb := h.same cW3
    have e3 : w3.heap[bg]? = _ := (hA.cha.old bg (hb.old _ hb.tg.2) (fun e => (hb.bo e).1 rfl)).trans hb.head
    refine ⟨cell_of_row w3 bg 2 _ 71 (0, 0) e3, frozen_of_row w3 bg 2 _ 71 e3, cell_of_row w3 bg 3 _ 71 (0, 0) e3, frozen_of_row w3 bg 3 _ 71 e3, ?_⟩
    have hv := hA.v
    rw [ptrs_len] at hv
    have hv2 : AppV ptE W2 w3 vo (ptrs g.n g.col q ++ [some (W.heap.size + 1)]) (.slice (some ⟨b', o', none⟩) (g.n + 1) cap') := by
      refine ⟨hv.lies, ((Cha.refl _ W2).alloc _).trans hv.cha, fun i e => (hv.at' i e).imp id fun z => ?_⟩
      rw [World.size_alloc] at z
      omega
    obtain ⟨F3, T3, h3, d3, n3⟩ := h.push (c := c) hk (by rw [hc]; split <;> omega) (by rw [hc]; split <;> omega) hn cW2 hsz (by
        show W2.heap[W.heap.size]? = _
        rw [q1, heap_alloc_old _ _ (by rw [World.size_alloc]; omega)]
        exact heap_alloc_new W _) (by
        rw [q1, hr0]
        have := heap_alloc_new (W.alloc (.cells (fcells k (rowV (List.replicate k 0))) 3)) (.cells #[.int .i64 ((c - 1 : Nat) : Int), .slice (some ⟨W.heap.size, 0, none⟩) k k, .int .i64 0] 74)
        rw [World.size_alloc] at this
        exact this) hv2
    have s := h3.sz
    obtain ⟨h4, d4⟩ := h3.put (g' := g.born k c) (lv' := (g.live : Int) + 1) 3 (.int .i64 ((g.live : Int) + 1)) rfl rfl rfl rfl rfl rfl s
    have hz : (g.born k c).col (g.n + 1) ≠ 0 := by show up g.col (g.n + 1) c (g.n + 1) ≠ 0; rw [up_same, hc]; split <;> omega
    refine (lay_any h4 (g.n + 1) hz (by show g.roots.length < 8192; omega) (by rw [hr0]; exact Int.le_refl _) (by rw [hr0]; omega)).mono fun e w4 ⟨he, hT⟩ => ⟨he, ?_⟩
    obtain ⟨F5, vr5, vq5, T5, h5, d5, n5⟩ := hT
    have eg : (g.born k c).lay (g.n + 1) = g.add k := by subst hc; rfl
    have hlv : (g.live : Int) + 1 = (g.add k).live := by rw [live_add]; rfl
    have hrt : up (cntI g.roots) (g.n + 1) (cntI g.roots (g.n + 1) + 1) = cntI (g.add k).roots := (cnt_lay (g.n + 1)).symm
    rw [eg, hlv, hrt] at h5
    refine ⟨F5, ⟨⟨K, hI⟩, _, _, _, _, _, _, h5⟩, (d3.over d4 n3).over d5 n3, fun i hi => ?_⟩
    rcases n5 i hi with z | z
    · exact n3 i z
    · exact .inr (Nat.le_trans (d3.over d4 n3).size z)
  have HL : Hid (∀ W2 : World, W2.heap = ((W.alloc (.cells (fcells k (rowV (List.replicate k 0))) 3)).alloc (.cells #[.int .i64 ((c - 1 : Nat) : Int), .slice (some ⟨W.heap.size, 0, none⟩) k k, .int .i64 0] 74)).heap → W2.os = W.os → W2.output = W.output → Lies ptE (W2.alloc (.cells #[.pointer (some ⟨W.heap.size + 1, 0, none⟩)] 72)) vo (ptrs g.n g.col q)) := Lib.hid fun W2 q1 q2 q3 => by
    have c := ((Cha.refl (fun _ => False) W).alloc (.cells (fcells k (rowV (List.replicate k 0))) 3)).alloc (.cells #[.int .i64 ((c - 1 : Nat) : Int), .slice (some ⟨W.heap.size, 0, none⟩) k k, .int .i64 0] 74)
    have cW2 : Cha (fun _ => False) W W2 := ⟨q2, q3, by rw [q1]; exact c.size, fun i hi hs => by rw [q1]; exact c.old i hi hs⟩
    exact h.los.same (cW2.alloc _)
  have HN : Hid (∀ W2 : World, W2.heap = ((W.alloc (.cells (fcells k (rowV (List.replicate k 0))) 3)).alloc (.cells #[.int .i64 ((c - 1 : Nat) : Int), .slice (some ⟨W.heap.size, 0, none⟩) k k, .int .i64 0] 74)).heap → ∀ x u, (ptE.cs [some (W.heap.size + 1)])[x]? = some u → (W2.alloc (.cells #[.pointer (some ⟨W.heap.size + 1, 0, none⟩)] 72)).cell? ((⟨W.heap.size + 2, 0, none⟩ : Addr).add x) = some u) := Lib.hid fun W2 q1 => by
    have hsz : W2.heap.size = W.heap.size + 2 := by rw [q1, World.size_alloc, World.size_alloc]
    have r := just_new ptE W2 (some (W.heap.size + 1)) 72
    rw [hsz] at r
    exact r
  have LP : (ptrs g.n g.col q).length = g.n := ptrs_len _ _ _
  have B1 : Hid ((ptrs g.n g.col q).length + [some (W.heap.size + 1)].length ≤ maxLen) := Lib.hid (by rw [LP]; unfold maxLen; simp only [List.length_singleton]; omega)
  have B2 : Hid (((ptrs g.n g.col q).length + [some (W.heap.size + 1)].length) * ptE.b ≤ 140737488355328) := Lib.hid (by rw [LP]; show _ * 8 ≤ _; simp only [List.length_singleton]; omega)
  have k1 : ¬ ((k : Int) < 0) := by omega
  have k2 : ¬ (16 < (k : Int)) := by omega
  have k3 : ((g.n : Int) == 4096) = false := by simp; omega
  have k4 : ¬ (g.n = 4096) := by omega
  have e1 : IntKind.i64.wrap ((g.live : Int) + 1) = (g.live : Int) + 1 := IntWalk.i64_in _ (by omega)
  have cf2 := cf 2
  have cf3 := cf 3
  have hne1 : bg ≠ W.heap.size := by omega
  have hne2 : bg ≠ W.heap.size + 1 := by omega
  have HPL := Lib.hid LP
  clear h hi hI hr8 hr0 hlive cf LP
  by_cases hp : g.ph = 0
  · rw [if_pos hp] at hc
    subst hc
    rw [hp] at c0
    subst eo
    clear hp hph
    go_enter Try.func12, Try.ntmps12
    go_wp2_with (first
      | (at_builtin; refine wpList_app ptE_ok rfl (.tmp 38) (.tmp 40) rfl rfl (HL.out _ rfl rfl rfl) ⟨W.heap.size + 2, 0, none⟩ 1 1 [some (W.heap.size + 1)] rfl rfl (HN.out _ rfl) Nat.zero_lt_one B1.out B2.out ?_; intro g3 o3 cap3 w3 hA3; obtain ⟨k5, k6, k7, k8, kk⟩ := HX.out _ w3 _ _ _ rfl rfl rfl hA3; rw [HPL.out]; have A3 := Lib.hid kk; clear kk hA3)
      | (go_at_call 35; ((with_reducible refine (A3.out).mono ?_); rintro e w4 ⟨rfl, hG⟩; have HG := Lib.hid hG; clear hG)))
    go_returns
    exact ⟨rfl, HG.out⟩
  · rw [if_neg hp] at hc
    subst hc
    have kp : ((g.ph : Int) == 0) = false := by simp; exact hp
    have kp2 : ((g.ph : Int) != 0) = true := by simp; exact hp
    subst eo
    clear hp hph
    go_enter Try.func12, Try.ntmps12
    go_wp2_with (first
      | (at_builtin; refine wpList_app ptE_ok rfl (.tmp 38) (.tmp 40) rfl rfl (HL.out _ rfl rfl rfl) ⟨W.heap.size + 2, 0, none⟩ 1 1 [some (W.heap.size + 1)] rfl rfl (HN.out _ rfl) Nat.zero_lt_one B1.out B2.out ?_; intro g3 o3 cap3 w3 hA3; obtain ⟨k5, k6, k7, k8, kk⟩ := HX.out _ w3 _ _ _ rfl rfl rfl hA3; rw [HPL.out]; have A3 := Lib.hid kk; clear kk hA3)
      | (go_at_call 35; ((with_reducible refine (A3.out).mono ?_); rintro e w4 ⟨rfl, hG⟩; have HG := Lib.hid hG; clear hG)))
    go_returns
    exact ⟨rfl, HG.out⟩
theorem add_any (h : PgA bg g W F) (a : Int) : Calls Try.prog 12 #[.pointer (some ⟨bg, 0, none⟩), .int .i64 a] W fun e W' => e = .returned (pairV (g.addR a).1) ∧ Goes (PgA bg (g.addR a).2) W W' F := by
  have h0 := h
  obtain ⟨K, vo, vr, vq, q, f, T, hi, h⟩ := h.open
  unfold Gr.addR
  have hn := hi.n4
  by_cases c : a < 0 ∨ 16 < a
  · rw [if_pos c]
    exact (add_bad h a 1 (.inl ⟨c, rfl⟩)).mono fun _ _ ⟨a, b⟩ => ⟨a, b ▸ .refl h0⟩
  · rw [if_neg c]
    by_cases d : g.n = 4096
    · rw [if_pos d]
      exact (add_bad h a 3 (.inr ⟨by omega, by omega, d, rfl⟩)).mono fun _ _ ⟨a, b⟩ => ⟨a, b ▸ .refl h0⟩
    · rw [if_neg d]
      obtain ⟨n, rfl⟩ : ∃ n : Nat, a = n := ⟨a.toNat, by omega⟩
      rw [Int.toNat_natCast]
      exact add_in h hi n (by omega) (by omega)
end Go.Proofs.Ytllefljimkmbhaa
