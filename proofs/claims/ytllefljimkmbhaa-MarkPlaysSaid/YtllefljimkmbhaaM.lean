/- Contracts of mark: blacken, mark. -/
import Derived.Test.YtllefljimkmbhaaL
namespace Go.Proofs.Ytllefljimkmbhaa
open Go.ChangeShapes Go.WideShapes Go.ChangeAt Go.RowKit
variable {w w' w1 w2 w3 W W' : World} {F S : Nat → Prop} {bg : Nat} {vo vr vq : Value} {q f T : Nat → Nat} {g g' : Gr} {lv : Int} {rt rt' : Nat → Int} {K : Nat → Prop}

theorem shades_zero_iff (L : List Nat) (j : Nat) : (g.shades L).col j = 0 ↔ g.col j = 0 := by
  unfold Gr.shades
  induction L generalizing g with
  | nil => rfl
  | cons a l ih => rw [List.foldl_cons, ih, shade_zero_iff]
theorem shades_live (L : List Nat) : (g.shades L).live = g.live := by
  unfold Gr.shades
  induction L generalizing g with
  | nil => rfl
  | cons a l ih => rw [List.foldl_cons, ih, shade_live]
theorem shade_len (id : Nat) : (g.shade id).greys.length ≤ g.greys.length + 1 := by
  unfold Gr.shade
  split
  · show (g.greys ++ [id]).length ≤ _; simp
  · omega
theorem shades_len (L : List Nat) : (g.shades L).greys.length ≤ g.greys.length + L.length := by
  unfold Gr.shades
  induction L generalizing g with
  | nil => simp
  | cons a l ih =>
    rw [List.foldl_cons, List.length_cons]
    have h1 := ih (g := g.shade a)
    have h2 := shade_len (g := g) a
    omega
theorem shades_snoc (L : List Nat) (t : Nat) : g.shades (L ++ [t]) = (g.shades L).shade t := by unfold Gr.shades; rw [List.foldl_append]; rfl
/-- The head of the grey ones is taken. -/
theorem Pm.pop (h : Pm W F bg vo vr vq q f T g lv rt) {x : Nat} {l : List Nat} {b o n cap : Nat} (hg : g.greys = x :: l) (e : vq = .slice (some ⟨b, o, none⟩) n cap) :
    ∃ F' T', Pm (W.setCell ⟨bg, 6, none⟩ (.slice (some ⟨b, if cap = 1 then o else o + 1, none⟩) (n - 1) (cap - 1))) F' bg vo vr (.slice (some ⟨b, if cap = 1 then o else o + 1, none⟩) (n - 1) (cap - 1)) q f T' { g with greys := l } lv rt ∧ Cha F W (W.setCell ⟨bg, 6, none⟩ (.slice (some ⟨b, if cap = 1 then o else o + 1, none⟩) (n - 1) (cap - 1))) ∧ ∀ i, F' i → F i ∨ W.heap.size ≤ i := by
  have hl := h.lqs
  rw [hg, e] at hl
  have ht := hl.tail inE_ok
  have s := h.sz
  have hq := s.q
  rw [hg, List.length_cons] at hq
  exact h.onGreys (w1 := W) ⟨ht, Cha.refl _ _, fun i k => .inl (by rw [e]; exact k)⟩ ⟨s.n, s.r, by show l.length ≤ 4200; omega, s.f, s.thr, s.swp, s.ph, s.c3, s.out⟩
theorem blacken_kit (h : Pm W F bg vo vr vq q f T g g.live (cntI g.roots)) (hi : Inv g K) {x : Nat} {l : List Nat} (hI : Inv (g.blacken x l) K) (hg : g.greys = x :: l) {bq oq m capq : Nat} (eq : vq = .slice (some ⟨bq, oq, none⟩) m capq) (W1 : World)
    (hW1 : W1 = W.setCell ⟨bg, 6, none⟩ (.slice (some ⟨bq, if capq = 1 then oq else oq + 1, none⟩) (m - 1) (capq - 1))) :
    ∃ F1, W1.cell? ⟨q x, 1, none⟩ = some (.slice (some ⟨f x, 0, none⟩) (g.fs x).length (g.fs x).length) ∧ Shd W1 W1 F1 bg vo q f (({ g with greys := l } : Gr).shades ((g.fs x).take 0)) g.live (cntI g.roots) ∧
      (∀ wr i (hi : i < (g.fs x).length), Shd W1 wr F1 bg vo q f (({ g with greys := l } : Gr).shades ((g.fs x).take i)) g.live (cntI g.roots) → wr.cell? ⟨f x, i, none⟩ = some (.int .i64 ((g.fs x)[i] : Nat)) ∧
        Calls Try.prog 36 #[.pointer (some ⟨bg, 0, none⟩), .int .i64 ((g.fs x)[i] : Nat)] wr fun e w2 => e = .returned (.tuple #[]) ∧ Shd W1 w2 F1 bg vo q f (({ g with greys := l } : Gr).shades ((g.fs x).take (i + 1))) g.live (cntI g.roots)) ∧
      (∀ wr, Shd W1 wr F1 bg vo q f (({ g with greys := l } : Gr).shades ((g.fs x).take (g.fs x).length)) g.live (cntI g.roots) → (∃ v, wr.cell? ⟨q x, 0, none⟩ = some v) ∧ wr.frozen? ⟨q x, 0, none⟩ = false ∧ Goes (PgA bg (g.blacken x l)) W (wr.setCell ⟨q x, 0, none⟩ (.int .i64 2)) F) := by
  have hx : g.col x = 2 := (hi.gry x).1 (by rw [hg]; simp)
  have hz : g.col x ≠ 0 := by omega
  obtain ⟨hx1, hx2⟩ := hi.out x hz
  have hn4 := hi.n4
  obtain ⟨F1, T1, h1, d1, n1⟩ := h.pop hg eq
  rw [← hW1] at h1 d1
  obtain ⟨G0, hG0⟩ : ∃ G0 : Gr, G0 = { g with greys := l } := ⟨_, rfl⟩
  rw [← hG0] at h1
  have ec : G0.col = g.col := by rw [hG0]
  have efs : G0.fs = g.fs := by rw [hG0]
  have ero : G0.roots = g.roots := by rw [hG0]
  have eli : G0.live = g.live := by rw [hG0]; rfl
  have egr : G0.greys = l := by rw [hG0]
  have hzz : ∀ (L : List Nat) t, (G0.shades L).col t = 0 → g.col t = 0 := fun L t z => by have := (shades_zero_iff L t).1 z; rwa [ec] at this
  have hz1 : G0.col x ≠ 0 := by rw [ec]; exact hz
  obtain ⟨_, y1, _, yf⟩ := h1.oc hz1
  obtain ⟨L, hL⟩ : ∃ L, L = g.fs x := ⟨_, rfl⟩
  have hL16 : L.length ≤ 16 := by rw [hL]; exact hi.f16 _
  replace y1 : W1.cell? ⟨q x, 1, none⟩ = some (.slice (some ⟨f x, 0, none⟩) L.length L.length) := by rw [efs, ← hL] at y1; exact y1
  have hgl := hi.greys_le
  rw [hg, List.length_cons] at hgl
  have kj : K x := by
    by_cases c : g.ph = 1
    · exact hi.dark (by omega) _ (by omega)
    · have := hi.off c; rw [hg] at this; cases this
  have HLK : (∀ t ∈ L, t = 0 ∨ g.col t ≠ 0) := fun t ht => by
    by_cases z : t = 0
    · exact .inl z
    · have := hi.kfs _ kj hx2 t (hL ▸ ht) z
      exact .inr (hi.kin t this.1 (by omega) this.2)
  -- a round
  have HR : (∀ wr i (hi : i < L.length), Shd W1 wr F1 bg vo q f (G0.shades (L.take i)) g.live (cntI g.roots) → wr.cell? ⟨f x, i, none⟩ = some (.int .i64 (L[i] : Nat)) ∧
      Calls Try.prog 36 #[.pointer (some ⟨bg, 0, none⟩), .int .i64 (L[i] : Nat)] wr fun e w2 => e = .returned (.tuple #[]) ∧ Shd W1 w2 F1 bg vo q f (G0.shades (L.take (i + 1))) g.live (cntI g.roots)) := fun wr i hil hS => by
    have hS0 := hS
    obtain ⟨F2, vr2, vq2, T2, p2, d2, n2⟩ := hS
    have hz2 : (G0.shades (L.take i)).col x ≠ 0 := fun z => hz (hzz _ _ z)
    have ef : (G0.shades (L.take i)).fs x = L := by rw [shades_fs, efs, hL]
    have y := (p2.fc (i := i) hz2 (by rw [ef]; exact hil)).1
    rw [ef] at y
    have e3 : L.getD i 0 = L[i] := by simp [hil]
    rw [e3] at y
    refine ⟨y, (shade_any p2 L[i] ((HLK _ (List.getElem_mem hil)).imp _root_.id fun z c => z (hzz _ _ c)) (by
      have := shades_len (g := G0) (L.take i)
      rw [List.length_take, egr] at this
      omega)).mono fun e w2 ⟨he, hT⟩ => ⟨he, ?_⟩⟩
    have hT2 : Shd wr w2 F2 bg vo q f (G0.shades (L.take (i + 1))) g.live (cntI g.roots) := by
      rw [← List.take_append_getElem hil, shades_snoc]; exact hT
    obtain ⟨F3, vr3, vq3, T3, p3, d3, n3⟩ := hT2
    exact ⟨F3, vr3, vq3, T3, p3, d2.over d3 n2, fun i hi => by
      rcases n3 i hi with k | k
      · exact n2 i k
      · exact .inr (Nat.le_trans d2.size k)⟩
  have HE : (∀ wr, Shd W1 wr F1 bg vo q f (G0.shades L) g.live (cntI g.roots) → (∃ v, wr.cell? ⟨q x, 0, none⟩ = some v) ∧ wr.frozen? ⟨q x, 0, none⟩ = false ∧ Goes (PgA bg (g.blacken x l)) W (wr.setCell ⟨q x, 0, none⟩ (.int .i64 2)) F) := fun wr hS => by
    obtain ⟨F2, vr2, vq2, T2, p2, d2, n2⟩ := hS
    have hz2 : (G0.shades L).col x ≠ 0 := fun z => hz (hzz _ _ z)
    obtain ⟨x0, _, _, xf⟩ := p2.oc hz2
    obtain ⟨p3, d3⟩ := p2.paint (c := 3) hz2 (by decide) (by decide)
    have eg : ({ (G0.shades L) with col := up (G0.shades L).col x 3 } : Gr) = g.blacken x l := by unfold Gr.blacken; rw [← hL, ← hG0]; rfl
    rw [eg] at p3
    have hlv : (g.live : Int) = (g.blacken x l).live := by
      unfold Gr.blacken
      rw [← hL, ← hG0]
      have := live_black (g := G0.shades L) x (G0.shades L).greys hz2
      rw [shades_live, eli] at this
      exact congrArg Int.ofNat this.symm
    have hrt : cntI g.roots = cntI (g.blacken x l).roots := by
      unfold Gr.blacken
      show _ = cntI (Gr.shades _ _).roots
      rw [shades_roots]
    rw [hlv, hrt] at p3
    refine ⟨⟨_, x0⟩, xf 0, F2, ⟨⟨K, hI⟩, _, _, _, _, _, _, p3⟩, (d1.over (d2.over d3 n2) (fun i hi => ?_)), fun i hi => ?_⟩
    · exact n1 i hi
    · rcases n2 i hi with k | k
      · exact n1 i k
      · exact .inr (Nat.le_trans d1.size k)
  rw [← hG0, ← hL]
  refine ⟨F1, y1, h1.shd, HR, fun wr hS => ?_⟩
  rw [List.take_length] at hS
  exact HE wr hS
set_option maxHeartbeats 1000000 in
theorem blacken_any (h : Pm W F bg vo vr vq q f T g g.live (cntI g.roots)) (hi : Inv g K) {x : Nat} {l : List Nat} (hI : Inv (g.blacken x l) K) (hg : g.greys = x :: l) :
    Calls Try.prog 46 #[.pointer (some ⟨bg, 0, none⟩)] W fun e W' => e = .returned (.tuple #[]) ∧ Goes (PgA bg (g.blacken x l)) W W' F := by
  obtain ⟨_, _, c2, _, _, _, c6, _, cf⟩ := h.facts
  obtain ⟨a0, cap, eo, hc1, hc2, hp⟩ := h.pts
  have hx : g.col x = 2 := (hi.gry x).1 (by rw [hg]; simp)
  have hz : g.col x ≠ 0 := by omega
  obtain ⟨hx1, hx2⟩ := hi.out x hz
  have hn4 := hi.n4
  obtain ⟨b, o, rfl, -⟩ := hp (by omega)
  obtain ⟨-, y1, -, -⟩ := h.oc hz
  have hne : bg ≠ q x := fun e => h.bgq hz e.symm
  have yp := (h.ptr eo hz).1
  obtain ⟨aq, capq, eq, hq1, hq2, hr⟩ := h.lqs.ints
  obtain ⟨bq, oq, rfl, hrc⟩ := hr (by rw [hg]; simp)
  have yq := (hrc 0 (by rw [hg]; simp)).1
  have e0 : g.greys.getD 0 0 = x := by rw [hg]; rfl
  rw [e0, Nat.add_zero] at yq
  obtain ⟨m, hm⟩ : ∃ m, m = g.greys.length := ⟨_, rfl⟩
  have hm1 : m = l.length + 1 := by rw [hm, hg]; rfl
  have hgl := hi.greys_le
  rw [← hm] at eq hq1 hgl
  have KIT : Hid (∀ (k : Nat) (W1 : World), W1 = (W.drewN k).setCell ⟨bg, 6, none⟩ (.slice (some ⟨bq, if capq = 1 then oq else oq + 1, none⟩) (m - 1) (capq - 1)) → _) := Lib.hid fun k W1 e => blacken_kit (h.same ((Cha.refl (fun _ => False) W).drewN k)) hi hI hg eq W1 e
  obtain ⟨j, rfl⟩ : ∃ j, x = j + 1 := ⟨x - 1, by omega⟩
  rw [Nat.add_sub_cancel] at yp
  have hL16 := hi.f16 (j + 1)
  generalize q (j + 1) = Q at *
  generalize f (j + 1) = B at *
  generalize g.fs (j + 1) = L at *
  have e1 : IntKind.i64.wrap ((j : Int) + 1 - 1) = (j : Int) := by rw [IntWalk.i64_in _ (by omega)]; omega
  have hjn : j < g.n := by omega
  have hm0 : 0 < m := by omega
  unfold maxLen at hc2 hq2
  have cf6 := cf 6
  clear h hi hI hg hp hr hrc hx hz hx1 hm hm1 e0 cf hgl
  subst eo eq
  go_enter Try.func46, Try.ntmps46
  go_wp2
  go_quiet (fail)
  obtain ⟨W1, hW1⟩ : ∃ W1, W1 = (W.drewN nq).setCell ⟨bg, 6, none⟩ (.slice (some ⟨bq, if capq = 1 then oq else oq + 1, none⟩) (m - 1) (capq - 1)) := ⟨_, rfl⟩
  obtain ⟨F1, -, hS, HR, HE⟩ := KIT.out nq W1 hW1
  have HS := Lib.hid hS
  have HRR := Lib.hid HR
  have HEE := Lib.hid HE
  have HW := Lib.hid hW1
  clear hS hW1 KIT HR HE
  have HF : Hid (∀ w2, Goes (PgA bg (g.blacken (j + 1) l)) (W.drewN nq) w2 F → Goes (PgA bg (g.blacken (j + 1) l)) W w2 F) := Lib.hid fun w2 k => k.before ((Cha.refl _ W).drewN nq)
  by_cases kc : capq = 1
  · subst kc
    obtain rfl : m = 1 := by omega
    rw [if_pos rfl] at HW
    replace HW : Hid (W1 = (W.drewN nq).setCell ⟨bg, 6, none⟩ (.slice (some ⟨bq, oq, none⟩) 0 0)) := HW
    go_wp2
    go_loopw [4, 31] (fun _ k wr => ∃ i : Nat, k = .int .i64 (i : Int) ∧ i ≤ L.length ∧ Shd W1 wr F1 bg (.slice (some ⟨b, o, none⟩) g.n cap) q f (({ g with greys := l } : Gr).shades (L.take i)) g.live (cntI g.roots)) (fun _ k _ => L.length - (intOf k).toNat)
    case atStart => exact ⟨0, rfl, Nat.zero_le _, by rw [← HW.out]; exact HS.out⟩
    case round =>
      obtain ⟨i, rfl, hi, hT⟩ := hrel
      clear HS HW
      by_cases hlt : i < L.length
      · obtain ⟨y, C⟩ := HRR.out wr i hlt hT
        have CC := Lib.hid C
        generalize L[i] = t at *
        clear hT C HEE
        go_wp2_with (go_at_call 36; ((with_reducible refine (CC.out).mono ?_); rintro e w2 ⟨rfl, hS⟩; have H2 := Lib.hid hS; clear hS))
        go_roundw
        case rel => exact ⟨i + 1, rfl, hlt, H2.out⟩
        case measure => simp [intOf]; omega
      · obtain rfl : i = L.length := by omega
        obtain ⟨⟨v, z1⟩, z2, hG⟩ := HEE.out wr hT
        have HG := Lib.hid hG
        clear hT hG HRR
        go_wp2
        go_returns
        exact ⟨rfl, HF.out _ HG.out⟩
  · rw [if_neg kc] at HW
    go_wp2
    go_loopw [4, 31] (fun _ k wr => ∃ i : Nat, k = .int .i64 (i : Int) ∧ i ≤ L.length ∧ Shd W1 wr F1 bg (.slice (some ⟨b, o, none⟩) g.n cap) q f (({ g with greys := l } : Gr).shades (L.take i)) g.live (cntI g.roots)) (fun _ k _ => L.length - (intOf k).toNat)
    case atStart => exact ⟨0, rfl, Nat.zero_le _, by rw [← HW.out]; exact HS.out⟩
    case round =>
      obtain ⟨i, rfl, hi, hT⟩ := hrel
      clear HS HW
      by_cases hlt : i < L.length
      · obtain ⟨y, C⟩ := HRR.out wr i hlt hT
        have CC := Lib.hid C
        generalize L[i] = t at *
        clear hT C HEE
        go_wp2_with (go_at_call 36; ((with_reducible refine (CC.out).mono ?_); rintro e w2 ⟨rfl, hS⟩; have H2 := Lib.hid hS; clear hS))
        go_roundw
        case rel => exact ⟨i + 1, rfl, hlt, H2.out⟩
        case measure => simp [intOf]; omega
      · obtain rfl : i = L.length := by omega
        obtain ⟨⟨v, z1⟩, z2, hG⟩ := HEE.out wr hT
        have HG := Lib.hid hG
        clear hT hG HRR
        go_wp2
        go_returns
        exact ⟨rfl, HF.out _ HG.out⟩
end Go.Proofs.Ytllefljimkmbhaa
