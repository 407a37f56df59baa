/- The document's cells: Free of a cell. -/
import Derived.Test.YtiboobaggpghjaaDoorFS
import Derived.Test.YtiboobaggpghjaaDoorFK
namespace Go.Proofs.YtiboobaggpghjaaDoor
open Go.ChangeShapes Go.WideShapes Go.ChangeAt Go.RowKit
section
variable {n pr dc rt : Nat} {F S : Nat → Prop} {W W' : World} {v : Value} {D : List Bq} {y : Bk} {m : Nat}
set_option maxRecDepth 100000 in
set_option maxHeartbeats 4000000 in
theorem dfree_yes {x : Int} (h : Ce n pr F W dc rt v D) (hx : x ≤ 9223372036854775807) (hh : Hit (bks D) x y m) (hc0 : ((begAt y m) != x) = false) :
    Calls Tryd.prog 39 #[.pointer (some ⟨dc, 0, none⟩), .int .i64 x] W fun e w' => e = .returned (.int .i64 0) ∧ DL2 n pr F W dc rt w' ((upd (bks D) y.b (freeB m)).filter keep) := by
  have C := Lib.hid (findx_yes h hx hh)
  have H := Lib.hid h
  have HU := Lib.hid hh.used
  have HINV := Lib.hid (freeB_inv h.inv hh)
  have hml := hh.lt
  obtain ⟨P, hP⟩ : ∃ P, P = m * y.wd := ⟨_, rfl⟩
  have hfit := h.inv.fits hh.mem
  have hrng := h.inv.rng _ hh.mem
  have hlen := h.len
  have hPl : P ≤ 262144 := by
    have h1 := hfit.2.2.2 m hml
    omega
  have hmw1 : IntKind.i64.wrap ((m : Int) * (y.wd : Int)) = (P : Int) := by
    have e : (m : Int) * (y.wd : Int) = (P : Int) := by rw [hP]; simp
    rw [e]; exact IntWalk.i64_in _ (by omega)
  have hcmp : (((y.b : Int) * 64 + (P : Int)) != x) = false := by
    rw [← hc0]
    unfold begAt
    rw [hP]
    congr 1
  have hyb : y.b ≤ 4096 := by omega
  have hcmp2 : (IntKind.i64.wrap (IntKind.i64.wrap ((y.b : Int) * 64) + (P : Int)) != x) = false := by
    rw [IntWalk.i64_in ((y.b : Int) * 64) (by omega), IntWalk.i64_in _ (by omega)]
    exact hcmp
  have hyu : y.u.length ≤ 64 := hfit.2.1
  obtain ⟨a, cap, rfl⟩ := h.form
  clear h hh hc0 hP hfit hrng
  go_enter Tryd.func39, Tryd.ntmps39
  go_wp2_with (go_at_call 45; ((with_reducible refine (C.out).mono ?_); rintro e w1 ⟨k, hk, hy, rfl, hc⟩; have HC := Lib.hid hc; have H1 := Lib.hid (H.out.same hc); have d1 := H1.out.c1; obtain ⟨g, o, cap', e, _, _, hA, _⟩ := H1.out.at hk; cases e; have hkl : k < D.length := hk; have hk0 : decide ((k : Int) < 0) = false := (by rw [decide_eq_false]; omega); obtain ⟨q0, q1, q2, q3, q4⟩ := hA; rw [hy] at q0 q2 q3; have HY := Lib.hid hy; obtain ⟨yq, hyq⟩ : ∃ yq, yq = D[k].2 := ⟨_, rfl⟩; rw [← hyq] at q3; have YQ := Lib.hid hyq; clear hc hyq hy q1 q4))
  have P1 := Lib.hid (H1.out.put (c := false) (m := m) hk (by rw [HY.out]; exact hml) (freeB_keeps m) rfl rfl (by rw [HY.out]; exact HINV.out))
  have m0 := H1.out.mark (List.getElem_mem hk) (i := m) (b := true) (by rw [HY.out]; exact HU.out)
  have f0 := (H1.out.mrk _ (List.getElem_mem hk)).free m
  rw [← YQ.out] at P1 m0 f0
  have BK : Hid (bks (D.set k (freeB m D[k].1, yq)) = upd (bks D) y.b (freeB m)) := Lib.hid (by rw [bks_set H1.out.inv hk, HY.out])
  have HDR : Hid (∀ w', Cha (fun _ => False) (w1.setCell ⟨yq, m, none⟩ (.bool false)) w' → Calls Tryd.prog 62 #[.pointer (some ⟨dc, 0, none⟩)] w' fun e w'' => e = .returned (.tuple #[]) ∧ DL2 n pr F W dc rt w'' ((upd (bks D) y.b (freeB m)).filter keep)) := Lib.hid fun w' c => by
    refine (ddrop_any (P1.out.1.same c)).mono fun e w'' ⟨he, F', v', hce, hch, hF'⟩ => ⟨he, _, ?_, F', v', hce, ?_, fun i hi => ?_⟩
    · rw [bks_filter, BK.out]
    · exact HC.out.wide.trans (P1.out.2.trans (c.wide.trans hch))
    · have s1 := HC.out.size
      have s2 := P1.out.2.size
      have s3 := c.size
      exact (hF' i hi).imp id fun e => by omega
  go_quiet (fail)
  all_goals
    go_wp2_with (go_at_call 62; (refine (HDR.out _ ((Cha.refl _ _).drewN _)).mono ?_; rintro e w5 ⟨rfl, hL⟩; have HL := Lib.hid hL; clear hL))
    go_ret
    exact ⟨rfl, HL.out⟩
end
end Go.Proofs.YtiboobaggpghjaaDoor

namespace Go.Proofs.YtiboobaggpghjaaDoor
open Go.ChangeShapes Go.WideShapes Go.ChangeAt Go.RowKit
section
variable {n pr dc rt : Nat} {F S : Nat → Prop} {W W' : World} {v : Value} {D : List Bq} {y : Bk} {m : Nat}
set_option maxRecDepth 100000 in
set_option maxHeartbeats 4000000 in
theorem dfree_mid {x : Int} (h : Ce n pr F W dc rt v D) (hx : x ≤ 9223372036854775807) (hh : Hit (bks D) x y m) (hc0 : ((begAt y m) != x) = true) :
    Calls Tryd.prog 39 #[.pointer (some ⟨dc, 0, none⟩), .int .i64 x] W fun e w' => e = .returned (.int .i64 4) ∧ DL2 n pr F W dc rt w' (bks D) := by
  have C := Lib.hid (findx_yes h hx hh)
  have H := Lib.hid h
  have HU := Lib.hid hh.used
  have HINV := Lib.hid (freeB_inv h.inv hh)
  have hml := hh.lt
  obtain ⟨P, hP⟩ : ∃ P, P = m * y.wd := ⟨_, rfl⟩
  have hfit := h.inv.fits hh.mem
  have hrng := h.inv.rng _ hh.mem
  have hlen := h.len
  have hPl : P ≤ 262144 := by
    have h1 := hfit.2.2.2 m hml
    omega
  have hmw1 : IntKind.i64.wrap ((m : Int) * (y.wd : Int)) = (P : Int) := by
    have e : (m : Int) * (y.wd : Int) = (P : Int) := by rw [hP]; simp
    rw [e]; exact IntWalk.i64_in _ (by omega)
  have hcmp : (((y.b : Int) * 64 + (P : Int)) != x) = true := by
    rw [← hc0]
    unfold begAt
    rw [hP]
    congr 1
  have hyb : y.b ≤ 4096 := by omega
  have hcmp2 : (IntKind.i64.wrap (IntKind.i64.wrap ((y.b : Int) * 64) + (P : Int)) != x) = true := by
    rw [IntWalk.i64_in ((y.b : Int) * 64) (by omega), IntWalk.i64_in _ (by omega)]
    exact hcmp
  have hyu : y.u.length ≤ 64 := hfit.2.1
  obtain ⟨a, cap, rfl⟩ := h.form
  clear h hh hc0 hP hfit hrng
  go_enter Tryd.func39, Tryd.ntmps39
  go_wp2_with (go_at_call 45; ((with_reducible refine (C.out).mono ?_); rintro e w1 ⟨k, hk, hy, rfl, hc⟩; have HC := Lib.hid hc; have H1 := Lib.hid (H.out.same hc); have d1 := H1.out.c1; obtain ⟨g, o, cap', e, _, _, hA, _⟩ := H1.out.at hk; cases e; have hkl : k < D.length := hk; have hk0 : decide ((k : Int) < 0) = false := (by rw [decide_eq_false]; omega); obtain ⟨q0, q1, q2, q3, q4⟩ := hA; rw [hy] at q0 q2 q3; have HY := Lib.hid hy; obtain ⟨yq, hyq⟩ : ∃ yq, yq = D[k].2 := ⟨_, rfl⟩; rw [← hyq] at q3; have YQ := Lib.hid hyq; clear hc hyq hy q1 q4))
  have HL : Hid (∀ w, Cha (fun _ => False) w1 w → DL2 n pr F W dc rt w (bks D)) := Lib.hid fun w c => ⟨D, rfl, DLeft.same H.out (HC.out.trans c)⟩
  go_quiet (fail)
  all_goals
    go_wp2
    go_ret
    exact ⟨rfl, HL.out _ ((Cha.refl _ _).drewN _)⟩
end
end Go.Proofs.YtiboobaggpghjaaDoor

namespace Go.Proofs.YtiboobaggpghjaaDoor
open Go.ChangeShapes Go.WideShapes Go.ChangeAt Go.RowKit
theorem dnew_procs (m p : Int) (w : World) (hp : p < 1 ∨ 8 < p) : Calls Tryd.prog 22 #[.int .i64 m, .int .i64 p] w fun e w' => e = .returned (.tuple #[.pointer none, .int .i64 1]) ∧ w = w' := by
  by_cases h : p < 1
  · clear hp
    go_enter Tryd.func22, Tryd.ntmps22
    go_wp2
    go_ret2
    exact ⟨rfl, rfl⟩
  · have h2 : 8 < p := by omega
    clear hp
    go_enter Tryd.func22, Tryd.ntmps22
    go_wp2
    go_ret2
    exact ⟨rfl, rfl⟩
theorem dnew_pages (m p : Int) (w : World) (hp1 : 1 ≤ p) (hp2 : p ≤ 8) (hm : m < 1 ∨ 4096 < m) : Calls Tryd.prog 22 #[.int .i64 m, .int .i64 p] w fun e w' => e = .returned (.tuple #[.pointer none, .int .i64 1]) ∧ w = w' := by
  have C := Lib.hid (rnew5_bad m w hm)
  have h1 : ¬ p < 1 := by omega
  have h2 : ¬ 8 < p := by omega
  clear hm
  go_enter Tryd.func22, Tryd.ntmps22
  go_wp2_with (go_at_call 37; ((with_reducible refine (C.out).mono ?_); rintro e w1 ⟨rfl, rfl⟩))
  go_ret2
  exact ⟨rfl, rfl⟩
theorem dnew_ok (n p : Nat) (w : World) (hn1 : 1 ≤ n) (hn2 : n ≤ 4096) (hp1 : 1 ≤ p) (hp2 : p ≤ 8) : Calls Tryd.prog 22 #[.int .i64 (n : Int), .int .i64 (p : Int)] w fun e w' => ∃ dc rt F, e = .returned (.tuple #[.pointer (some ⟨dc, 0, none⟩), .int .i64 0]) ∧ Ce n p F w' dc rt (.slice none 0 0) [] ∧ Cha (fun _ => False) w w' ∧ ∀ i, F i → w.heap.size ≤ i := by
  have C := Lib.hid (rnew5_ok n w hn1 hn2)
  have h1 : ¬ (p : Int) < 1 := by omega
  have h2 : ¬ 8 < (p : Int) := by omega
  have HF : Hid (∀ w1, Rt w1 (w.heap.size + 3) (w.heap.size + 2) (w.heap.size + 1) w.heap.size n (.slice none 0 0) [] → Cha (fun _ => False) w w1 → w1.heap.size = w.heap.size + 3 → Ce n p (fun i => w.heap.size ≤ i ∧ i < w.heap.size + 4) (w1.alloc (.cells #[.pointer (some ⟨w.heap.size + 2, 0, none⟩), .slice none 0 0, .int .i64 (p : Int)] 72)) w1.heap.size (w.heap.size + 2) (.slice none 0 0) [] ∧ Cha (fun _ => False) w (w1.alloc (.cells #[.pointer (some ⟨w.heap.size + 2, 0, none⟩), .slice none 0 0, .int .i64 (p : Int)] 72))) := Lib.hid fun w1 hR hc hs => by
    have c2 : Cha (fun _ => False) w1 (w1.alloc (.cells #[.pointer (some ⟨w.heap.size + 2, 0, none⟩), .slice none 0 0, .int .i64 (p : Int)] 72)) := (Cha.refl _ w1).alloc _
    refine ⟨⟨inv_nil n p, ⟨hp1, hp2⟩, heap_alloc_new w1 _, ⟨w.heap.size + 3, w.heap.size + 1, w.heap.size, _, [], hR.same c2, fun s => by simp [bks], by rw [World.size_alloc]; omega, by omega, by omega, by omega, fun g hg => by (cases hg), fun x hx => by cases hx⟩, En.Lies.nil _ _, fun x hx => by (cases hx), List.Pairwise.nil, by omega, fun g hg => by (cases hg), fun x hx => by (cases hx), fun i hi => by rw [World.size_alloc]; omega⟩, hc.trans c2⟩
  clear hn1 hn2 hp1 hp2
  go_enter Tryd.func22, Tryd.ntmps22
  go_wp2_with (go_at_call 37; ((with_reducible refine (C.out).mono ?_); rintro e w1 ⟨rfl, hR, hc, hs⟩; have HR := Lib.hid hR; have HC := Lib.hid hc; have HS := Lib.hid hs; clear hR hc hs))
  go_ret2
  exact ⟨_, _, _, rfl, (HF.out w1 HR.out HC.out HS.out).1, (HF.out w1 HR.out HC.out HS.out).2, fun i hi => hi.1⟩
end Go.Proofs.YtiboobaggpghjaaDoor

namespace Go.Proofs.YtiboobaggpghjaaDoor
open Go.ChangeShapes Go.WideShapes Go.ChangeAt Go.RowKit
section
variable {n pr dc rt : Nat} {F S : Nat → Prop} {W W' w w' : World} {v q : Value} {D : List Bq} {y : Bk} {x : Int} {k : Nat}
/-- Is kept when x is given back. -/
def kp (x : Int) (z : Bq) : Bool := !(decide ((z.1.b : Int) = x) && decide (z.1.c = -2))
def gpt (x : Int) (D : List Bq) (k : Nat) : List Bq := (D.take k).filter (kp x)
theorem gpt_yes (hk : k < D.length) (h : kp x D[k] = true) : gpt x D (k + 1) = gpt x D k ++ [D[k]] := by
  unfold gpt
  rw [List.take_add_one, List.getElem?_eq_getElem hk, Option.toList_some, List.filter_append, List.filter_cons_of_pos h, List.filter_nil]
theorem gpt_no (hk : k < D.length) (h : kp x D[k] = false) : gpt x D (k + 1) = gpt x D k := by
  unfold gpt
  rw [List.take_add_one, List.getElem?_eq_getElem hk, Option.toList_some, List.filter_append, List.filter_cons_of_neg (by simp [h]), List.filter_nil, List.append_nil]
theorem gpt_len (x : Int) (D : List Bq) (k : Nat) : (gpt x D k).length ≤ k := by
  unfold gpt
  have := List.length_filter_le (kp x) (D.take k)
  rw [List.length_take] at this
  omega
theorem gpt_all (x : Int) (D : List Bq) : gpt x D D.length = D.filter (kp x) := by unfold gpt; rw [List.take_length]
theorem gpt_rem (hi : Inv n pr (bks D)) (hy : y ∈ bks D) (h1 : (y.b : Int) = x) (h2 : y.c = -2) : bks (D.filter (kp x)) = rem (bks D) y.b := by
  unfold rem bks
  rw [List.filter_map]
  congr 1
  refine List.filter_congr fun z hz => ?_
  show kp x z = !decide (z.1.b = y.b)
  unfold kp
  by_cases e : z.1.b = y.b
  · have := hi.inj (bks_mem hz) hy e
    rw [this, h2, ← h1]
    simp
  · have : ¬ ((z.1.b : Int) = x) := by omega
    simp [e, this]
/-- So far: the first k looked at. -/
structure Gd (W : World) (D : List Bq) (x : Int) (k : Nat) (q : Value) (f : Bool) (w : World) : Prop where
  ch : Cha (fun _ => False) W w
  own : w.ownsRow W.heap.size 83 5 q (gpt x D k).length (bE.cs (gpt x D k))
  fnd : f = !(D.take k).all (kp x)
theorem all_step (hk : k < D.length) : (D.take (k + 1)).all (kp x) = ((D.take k).all (kp x) && kp x D[k]) := by
  rw [List.take_add_one, List.getElem?_eq_getElem hk, Option.toList_some, List.all_append]
  simp
theorem Gd.keep {f : Bool} (d : Gd W D x k q f w) (hk : k < D.length) (hy : kp x D[k] = true) {w6 : World} {v' : Value}
    (hown : w6.ownsRow W.heap.size 83 5 v' ((gpt x D k).length + 1) (bE.cs (gpt x D k) ++ bcs D[k])) (c : Cha (fun i => q.ownBlock = some i) w w6) : Gd W D x (k + 1) v' f w6 := by
  refine ⟨d.ch.over c fun i e => .inr (own_base d.own i e), ?_, by rw [all_step hk, hy, Bool.and_true]; exact d.fnd⟩
  rw [gpt_yes hk hy, List.length_append, En.Enc.cs_app]
  have e : bE.cs [D[k]] = bcs D[k] := by unfold En.Enc.cs; simp [bE]
  rw [e]
  exact hown
theorem Gd.drop {f : Bool} (d : Gd W D x k q f w) (hk : k < D.length) (hy : kp x D[k] = false) (c : Cha (fun _ => False) w w') : Gd W D x (k + 1) q true w' :=
  ⟨d.ch.trans c, by rw [gpt_no hk hy]; exact own_far d.own c (fun _ _ f => f), by rw [all_step hk, hy]; simp⟩
theorem give_fin (h : Ce n pr F W dc rt v D) {f : Bool} (d : Gd W D x D.length q f w) (hy : y ∈ bks D) (h1 : (y.b : Int) = x) (h2 : y.c = -2) :
    Calls Tryd.prog 63 #[.pointer (some ⟨rt, 0, none⟩), .int .i64 x] (w.setCell ⟨dc, 1, none⟩ q) fun e w' => e = .returned (.int .i64 0) ∧ DL2 n pr F W dc rt w' (rem (bks D) y.b) := by
  have H1 := h.same d.ch
  obtain ⟨B, rm, rq, tv, L, hR, hL, hB, hF1, hF2, hF3, hF4, hq⟩ := H1.tab
  have c5 : Cha (fun i => i = dc) w (w.setCell ⟨dc, 1, none⟩ q) := (Cha.refl (fun i => i = dc) w).setCell (p := ⟨dc, 1, none⟩) (fun _ => rfl) _
  have sz : (w.setCell ⟨dc, 1, none⟩ q).heap.size = w.heap.size := by simp [World.setCell]
  have hR5 : Rt (w.setCell ⟨dc, 1, none⟩ q) B rt rm rq n tv L := by
    refine hR.cha2 c5 (fun e => ty_ne hR.head H1.head (by decide) e) (fun e => ty_ne hR.pg.head H1.head (by decide) e) (fun e => ty_ne hR.pg.body H1.head (by decide) e) fun g hg e => ?_
    rcases hR.lst.2 with ⟨e2, _⟩ | ⟨g2, cap2, cur, e2, _, k, _⟩
    · rw [e2] at hg; cases hg
    · obtain rfl : g2 = g := by rw [e2] at hg; exact Option.some.inj hg
      exact ty_ne k H1.head (by decide) e
  have hs : (⟨y.b, y.k, 0⟩ : Spn) ∈ L := (hL _).2 ⟨y, hy, rfl⟩
  have hown := d.own
  rw [gpt_all] at hown
  have hqk : ∀ g, q.ownBlock = some g → W.heap.size ≤ g ∧ g < w.heap.size := fun g hg => by
    refine ⟨own_base hown g hg, ?_⟩
    rcases hown.2 with ⟨e, _⟩ | ⟨g2, cap2, cur, e, _, k, _⟩
    · rw [e] at hg; cases hg
    · obtain rfl : g2 = g := by rw [e] at hg; exact Option.some.inj hg
      exact (Array.getElem?_eq_some_iff.1 k).1
  have hsub : (D.filter (kp x)).Sublist D := List.filter_sublist
  have hdc := h.lt _ h.odc
  have hsz := d.ch.size
  have b5 : Cb pr (fun i => F i ∨ (W.heap.size ≤ i ∧ i < w.heap.size)) (w.setCell ⟨dc, 1, none⟩ q) dc rt q (D.filter (kp x)) := by
    refine ⟨heap_setCell_same w dc 1 _ 72 _ H1.head, (En.Lies.of_own hown).cha c5 fun g hg e => ?_, fun z hz => c5.row (H1.mrk z (hsub.subset hz)) (H1.cb.nv.2 z (hsub.subset hz)).2, h.dif.sublist hsub, .inl h.odc, fun g hg => .inr (hqk g hg), fun z hz => .inl (h.om z (hsub.subset hz)), fun i hi => ?_⟩
    · have := (hqk g hg).1; have e : g = dc := e; omega
    · rw [sz]
      rcases hi with hi | hi
      · have := h.lt i hi; omega
      · exact hi.2
  refine (rfree5_any x hR5 (by rw [sz]; omega)).mono fun e w' hh => ?_
  rcases hh with ⟨hb, _⟩ | ⟨s, hsL, hsb, tv', he, hR', hc⟩
  · have := begP_hit hR.good hs
    rw [← h1] at hb
    rw [show ((⟨y.b, y.k, 0⟩ : Spn).b : Int) = (y.b : Int) from rfl] at this
    rw [this] at hb
    exact absurd (congrArg Prod.snd hb) (by simp)
  · have hsb' : s.b = y.b := by omega
    rw [hsb'] at hR'
    have hl := lk_rem hL y.b
    rw [← gpt_rem h.inv hy h1 h2] at hl
    have sc := hc.size
    rw [sz] at sc
    have b6 : Cb pr (fun i => F i ∨ (W.heap.size ≤ i ∧ i < w'.heap.size)) w' dc rt q (D.filter (kp x)) := by
      refine (b5.tab hR5 (fun z hz => hq z (hsub.subset hz)) hc).more (fun i hi => hi.imp id fun e => ⟨e.1, by omega⟩) fun i hi => ?_
      rcases hi with hi | hi
      · have := h.lt i hi; omega
      · exact hi.2
    refine ⟨he, D.filter (kp x), gpt_rem h.inv hy h1 h2, _, q, b6.ce (inv_sub h.inv (hsub.map _)) h.prr ⟨_, rm, rq, tv', _, hR', hl, hc.size, .inl hF1, .inl hF2, .inl hF3, fun g hg => .inr ⟨?_, ?_⟩, fun z hz => hq z (hsub.subset hz)⟩, ?_, fun i hi => hi.imp id fun e => e.1⟩
    · have := own_base hR'.lst g hg
      omega
    · rcases hR'.lst.2 with ⟨e2, _⟩ | ⟨g2, cap2, cur, e2, _, k, _⟩
      · rw [e2] at hg; cases hg
      · obtain rfl : g2 = g := by rw [e2] at hg; exact Option.some.inj hg
        exact (Array.getElem?_eq_some_iff.1 k).1
    · refine (d.ch.wide.trans (c5.mono fun i _ e => by have e : i = dc := e; subst e; exact h.odc)).trans (hc.mono fun i _ e => ?_)
      rcases e with rfl | rfl
      · exact hF1
      · exact hF3
end
end Go.Proofs.YtiboobaggpghjaaDoor

namespace Go.Proofs.YtiboobaggpghjaaDoor
open Go.ChangeShapes Go.WideShapes Go.ChangeAt Go.RowKit
section
variable {n pr dc rt : Nat} {F S : Nat → Prop} {W W' : World} {v : Value} {D : List Bq} {A' : List Bk}
set_option maxRecDepth 100000 in
set_option maxHeartbeats 8000000 in
theorem dgive_any {x r : Int} (h : Ce n pr F W dc rt v D) (c : Giv7 (bks D) x A' r) : Calls Tryd.prog 42 #[.pointer (some ⟨dc, 0, none⟩), .int .i64 x] W fun e w' => e = .returned (.int .i64 r) ∧ DL2 n pr F W dc rt w' A' := by
  have H := Lib.hid h
  have hlen := h.len
  have G0 : Hid (Gd W D x 0 (.slice none 0 0) false W) := Lib.hid ⟨Cha.refl _ _, World.ownsRow_nil _ _ _ _, rfl⟩
  have FIN : Hid (∀ q f w, Gd W D x D.length q f w → (f = false ∧ r = 4 ∧ DL2 n pr F W dc rt w A') ∨ (f = true ∧ ∀ w2, Cha (fun _ => False) w w2 → Calls Tryd.prog 63 #[.pointer (some ⟨rt, 0, none⟩), .int .i64 x] (w2.setCell ⟨dc, 1, none⟩ q) fun e w' => e = .returned (.int .i64 r) ∧ DL2 n pr F W dc rt w' A')) := Lib.hid fun q f w d => by
    have hf := d.fnd
    rw [List.take_length] at hf
    cases c with
    | no hno =>
      refine .inl ⟨?_, rfl, D, rfl, DLeft.same h d.ch⟩
      have : D.all (kp x) = true := List.all_eq_true.2 fun z hz => by
        have := hno z.1 (bks_mem hz)
        unfold kp
        by_cases e1 : (z.1.b : Int) = x
        · have e2 : ¬ z.1.c = -2 := fun e2 => this ⟨e1, e2⟩
          simp [e2]
        · simp [e1]
      rw [hf, this]
      rfl
    | yes y hy h1 h2 =>
      refine .inr ⟨?_, fun w2 c2 => give_fin h (d := ⟨d.ch.trans c2, own_far d.own c2 (fun _ _ f => f), d.fnd⟩) hy h1 h2⟩
      obtain ⟨z, hz, rfl⟩ := List.mem_map.1 hy
      have : ¬ D.all (kp x) = true := fun e => by
        have := List.all_eq_true.1 e z hz
        unfold kp at this
        rw [h2, ← h1] at this
        simp at this
      rw [hf]
      simpa using this
  obtain ⟨i0, hi, hz0, hz1, hz2⟩ := info_parts bE_ok.inf
  obtain ⟨a, cap, rfl⟩ := h.form
  clear h c
  go_enter Tryd.func42, Tryd.ntmps42
  go_wp2
  go_loopw [5, 6, 7] (fun q f i wr => ∃ (qv : Value) (fv : Bool) (k : Nat), qv = q ∧ f = .bool fv ∧ k ≤ D.length ∧ i = .int .i64 (k : Int) ∧ Gd W D x k qv fv wr) (fun _ _ i _ => D.length - (intOf i).toNat)
  case atStart => exact ⟨_, _, 0, rfl, rfl, Nat.zero_le _, rfl, G0.out⟩
  case round =>
    obtain ⟨qv, fv, k, rfl, rfl, hk, rfl, hD⟩ := hrel
    have HD := Lib.hid hD
    have H1 := Lib.hid (H.out.same hD.ch)
    have d1 := H1.out.c1
    by_cases hlt : k < D.length
    · obtain ⟨g, o, cap', e, _, _, hA, _⟩ := H1.out.at hlt
      cases e
      obtain ⟨q0, q1, q2, q3, q4⟩ := hA
      have KL := Lib.hid (Nat.lt_of_le_of_lt (gpt_len x D k) hlt)
      have HK6 : Hid (∀ w, Cha (fun _ => False) wr w → kp x D[k] = true → ∀ w6 v', w6.ownsRow W.heap.size 83 5 v' ((gpt x D k).length + 1) (bE.cs (gpt x D k) ++ bcs D[k]) → Cha (fun i => qv.ownBlock = some i) w w6 → Gd W D x (k + 1) v' fv w6) := Lib.hid fun w c hy w6 v' h1 h2 => HD.out.keep hlt hy h1 (c.wide.trans h2)
      have HK5 : Hid (kp x D[k] = false → ∀ w, Cha (fun _ => False) wr w → Gd W D x (k + 1) qv true w) := Lib.hid fun hy w c => HD.out.drop hlt hy c
      clear hD
      obtain ⟨z, hz⟩ : ∃ z, z = D[k] := ⟨_, rfl⟩
      rw [← hz] at q0 q1 q2 q3 q4
      rw [← hz] at HK5 HK6
      obtain ⟨⟨yb, yk, yc, yw, yu, yh⟩, yq⟩ := z
      simp only at q0 q1 q2 q3 q4
      have KE : Hid (kp x ((⟨yb, yk, yc, yw, yu, yh⟩, yq) : Bq) = !(decide ((yb : Int) = x) && decide (yc = -2))) := Lib.hid rfl
      clear hz
      have HN : Hid (∀ w, ∀ j u, (bcs (⟨yb, yk, yc, yw, yu, yh⟩, yq))[j]? = some u → (World.alloc w (.cells #[.int .i64 (yb : Int), .int .i64 yc, .int .i64 (yw : Int), .slice (some ⟨yq, 0, none⟩) yu.length yu.length, .int .i64 yh] 83)).cell? ((⟨w.heap.size, 0, none⟩ : Addr).add j) = some u) := Lib.hid fun w j u hu => by
        have q := En.just_new bE w (⟨yb, yk, yc, yw, yu, yh⟩, yq) 83 j u (by unfold En.Enc.cs; simpa [bE] using hu)
        have e : (bE.ce ((⟨yb, yk, yc, yw, yu, yh⟩, yq) : Bq)).toArray = #[.int .i64 (yb : Int), .int .i64 yc, .int .i64 (yw : Int), .slice (some ⟨yq, 0, none⟩) yu.length yu.length, .int .i64 yh] := by
          show (bcs _).toArray = _
          unfold bcs
          simp
        rw [e] at q
        exact q
      have D2 := HD
      by_cases c1 : (yb : Int) = x
      · have c1b : ((yb : Int) == x) = true := by rw [c1]; simp
        by_cases c2 : yc = -2
        · have c2b : (yc == -2) = true := by rw [c2]; rfl
          have EK : Hid (Gd W D x (k + 1) qv true wr) := Lib.hid (HK5.out (by rw [KE.out, decide_eq_true c1, decide_eq_true c2]; rfl) _ (Cha.refl _ _))
          clear c1 c2
          go_wp2
          go_roundw
          case rel => exact ⟨_, _, k + 1, rfl, rfl, by omega, by go_num, EK.out⟩
          case measure => simp [intOf]; omega
        · have c2b : (yc == -2) = false := beq_eq_false_iff_ne.2 c2
          have EK : Hid (kp x ((⟨yb, yk, yc, yw, yu, yh⟩, yq) : Bq) = true) := Lib.hid (by rw [KE.out, decide_eq_false c2, Bool.and_false]; rfl)
          clear c1 c2
          go_wp2_with (at_builtin; refine wpList_append_own _ rfl _ _ 70 rfl W.heap.size 83 i0 (.agg #[.int .i64 0, .int .i64 0, .int .i64 0, .slice none 0 0, .int .i64 0]) 5 56 Tryd.underlying70 hi hz0 hz1 hz2 rfl (by decide) _ _ _ rfl (own_far D2.out.own ((Cha.refl (fun _ => False) wr).alloc _) (fun _ _ f => f)) ⟨wr.heap.size, 0, none⟩ 1 1 (bcs (⟨yb, yk, yc, yw, yu, yh⟩, yq)) rfl rfl (HN.out wr) (bE_ok.one _) (by unfold maxLen; have := KL.out; omega) (by have := KL.out; omega) (by rw [World.size_alloc]; have := D2.out.ch.size; omega) ?_; intro v' w6 hown' hgrow hnil; clear hnil; have N6 := Lib.hid (HK6.out _ ((Cha.refl _ wr).alloc _) EK.out w6 v' hown' (Cha.of_grownBy (S := fun i => qv.ownBlock = some i) hgrow (fun k e => e))); clear hown' hgrow)
          go_roundw
          case rel => exact ⟨_, _, k + 1, rfl, rfl, by omega, by go_num, N6.out⟩
          case measure => simp [intOf]; omega
      · have c1b : ((yb : Int) == x) = false := beq_eq_false_iff_ne.2 c1
        have EK : Hid (kp x ((⟨yb, yk, yc, yw, yu, yh⟩, yq) : Bq) = true) := Lib.hid (by rw [KE.out, decide_eq_false c1]; rfl)
        clear c1
        go_wp2_with (at_builtin; refine wpList_append_own _ rfl _ _ 70 rfl W.heap.size 83 i0 (.agg #[.int .i64 0, .int .i64 0, .int .i64 0, .slice none 0 0, .int .i64 0]) 5 56 Tryd.underlying70 hi hz0 hz1 hz2 rfl (by decide) _ _ _ rfl (own_far D2.out.own ((Cha.refl (fun _ => False) wr).alloc _) (fun _ _ f => f)) ⟨wr.heap.size, 0, none⟩ 1 1 (bcs (⟨yb, yk, yc, yw, yu, yh⟩, yq)) rfl rfl (HN.out wr) (bE_ok.one _) (by unfold maxLen; have := KL.out; omega) (by have := KL.out; omega) (by rw [World.size_alloc]; have := D2.out.ch.size; omega) ?_; intro v' w6 hown' hgrow hnil; clear hnil; have N6 := Lib.hid (HK6.out _ ((Cha.refl _ wr).alloc _) EK.out w6 v' hown' (Cha.of_grownBy (S := fun i => qv.ownBlock = some i) hgrow (fun k e => e))); clear hown' hgrow)
        go_roundw
        case rel => exact ⟨_, _, k + 1, rfl, rfl, by omega, by go_num, N6.out⟩
        case measure => simp [intOf]; omega
    · obtain rfl : k = D.length := by omega
      rcases FIN.out _ _ _ hD with ⟨rfl, rfl, hl⟩ | ⟨rfl, hc⟩
      · have HL := Lib.hid hl
        clear hl hD
        go_wp2
        go_ret
        exact ⟨rfl, HL.out⟩
      · obtain ⟨sa, sn, sc, rfl⟩ : ∃ sa sn sc, qv = .slice sa sn sc := by
          rcases hD.own.2 with ⟨e, _⟩ | ⟨g, cap, cur, e, _⟩
          · exact ⟨_, _, _, e⟩
          · exact ⟨_, _, _, e⟩
        have HC := Lib.hid (hc wr (Cha.refl _ _))
        have c0 := H1.out.c0
        have f1 := H1.out.free 1
        clear hc hD
        go_wp2_with (go_at_call 63; ((with_reducible refine (HC.out).mono ?_); rintro e w3 ⟨rfl, hl⟩; have HL := Lib.hid hl; clear hl))
        go_ret
        exact ⟨rfl, HL.out⟩
end
end Go.Proofs.YtiboobaggpghjaaDoor

namespace Go.Proofs.YtiboobaggpghjaaDoor
open Go.ChangeShapes Go.WideShapes Go.ChangeAt Go.RowKit
section
variable {n pr dc rt q k j m g o cap N : Nat} {F S : Nat → Prop} {W W' w w' : World} {v : Value} {D : List Bq} {y : Bk} {b : Int}
/-- A block that p held of class k is let go. -/
def unq (q k : Nat) (z : Bq) : Bq := (if z.1.h = (q : Int) ∧ z.1.c = (k : Int) then unhold z.1 else z.1, z.2)
def stg (q k : Nat) (D : List Bq) (j : Nat) : List Bq := (D.take j).map (unq q k) ++ D.drop j
theorem stg_zero : stg q k D 0 = D := by unfold stg; simp
theorem stg_len : (stg q k D j).length = D.length := by
  unfold stg
  rw [List.length_append, List.length_map, List.length_take, List.length_drop]
  omega
theorem stg_pre (hj : j ≤ D.length) : ((D.take j).map (unq q k)).length = j := by
  rw [List.length_map, List.length_take]
  omega
theorem stg_get (hj : j < D.length) (h : j < (stg q k D j).length) : (stg q k D j)[j] = D[j] := by
  have e : (stg q k D j)[j]? = D[j]? := by
    unfold stg
    rw [List.getElem?_append_right (by rw [stg_pre (by omega)]; exact Nat.le_refl _), stg_pre (by omega), Nat.sub_self, List.getElem?_drop, Nat.add_zero]
  rw [List.getElem?_eq_getElem h, List.getElem?_eq_getElem hj] at e
  exact Option.some.inj e
theorem stg_next (hj : j < D.length) : stg q k D (j + 1) = (stg q k D j).set j (unq q k D[j]) := by
  unfold stg
  rw [List.set_append_right _ _ (by rw [stg_pre (by omega)]; exact Nat.le_refl _), stg_pre (by omega), Nat.sub_self, List.drop_eq_getElem_cons hj, List.set_cons_zero, List.take_add_one, List.getElem?_eq_getElem hj, Option.toList_some, List.map_append, List.append_assoc]
  rfl
theorem stg_same (hj : j < D.length) (hn : ¬ (D[j].1.h = (q : Int) ∧ D[j].1.c = (k : Int))) : stg q k D (j + 1) = stg q k D j := by
  rw [stg_next hj]
  have e : unq q k D[j] = (stg q k D j)[j]'(by rw [stg_len]; exact hj) := by
    rw [stg_get hj]
    unfold unq
    rw [if_neg hn]
  rw [e, List.set_getElem_self]
theorem stg_all : stg q k D D.length = D.map (unq q k) := by unfold stg; rw [List.take_length, List.drop_length, List.append_nil]
theorem bks_unq : bks (D.map (unq q k)) = unh (bks D) q k := by
  unfold bks unh
  rw [List.map_map, List.map_map]
  rfl
theorem stg_none (h : ∀ z ∈ D.take j, ¬ (z.1.h = (q : Int) ∧ z.1.c = (k : Int))) : stg q k D j = D := by
  unfold stg
  have : (D.take j).map (unq q k) = D.take j := by
    rw [List.map_congr_left (g := id) fun z hz => by unfold unq; rw [if_neg (h z hz)]; rfl, List.map_id]
  rw [this, List.take_append_drop]
theorem Ce.let_go (h : Ce n pr F W dc rt (.slice (some ⟨g, o, none⟩) N cap) (stg q k D j)) (hN : N = D.length) (hj : j < D.length) (hc : D[j].1.h = (q : Int) ∧ D[j].1.c = (k : Int)) :
    Ce n pr F (W.setCell ⟨g, o + j * 5 + 4, none⟩ (.int .i64 (-1))) dc rt (.slice (some ⟨g, o, none⟩) N cap) (stg q k D (j + 1)) ∧ Cha F W (W.setCell ⟨g, o + j * 5 + 4, none⟩ (.int .i64 (-1))) := by
  have hl : j < (stg q k D j).length := by rw [stg_len]; exact hj
  rw [show N = (stg q k D j).length by rw [stg_len]; exact hN] at h ⊢
  have hm : (stg q k D j)[j].1 ∈ bks (stg q k D j) := bks_mem (List.getElem_mem hl)
  have hi : Inv n pr (upd (bks (stg q k D j)) (stg q k D j)[j].1.b unhold) := unhold_inv h.inv hm (k := k) (by rw [stg_get hj]; exact hc.2)
  have := h.hold hl unhold_keeps rfl rfl hi
  rw [stg_next hj]
  have e : unq q k D[j] = (unhold (stg q k D j)[j].1, (stg q k D j)[j].2) := by
    rw [stg_get hj]
    unfold unq
    rw [if_pos hc]
  rw [e]
  exact this
/-- A block of class k that nobody holds and that has a free cell. -/
def op (k : Nat) (y : Bk) : Prop := y.c = (k : Int) ∧ ¬ 0 ≤ y.h ∧ false ∈ y.u
/-- The best of the first j. -/
def Bst (D : List Bq) (k j : Nat) (b : Int) : Prop := (b = -1 ∧ ∀ z ∈ D.take j, ¬ op k z.1) ∨ ∃ m z, D[m]? = some z ∧ m < j ∧ b = (m : Int) ∧ op k z.1 ∧ ∀ x ∈ D.take j, op k x.1 → z.1.b ≤ x.1.b
theorem take_mem (hj : j < D.length) {z : Bq} (h : z ∈ D.take (j + 1)) : z ∈ D.take j ∨ z = D[j] := by
  rw [List.take_add_one, List.getElem?_eq_getElem hj, Option.toList_some] at h
  rcases List.mem_append.1 h with h | h
  · exact .inl h
  · exact .inr (List.mem_singleton.1 h)
theorem Bst.skip (h : Bst D k j b) (hj : j < D.length) (hn : ¬ op k D[j].1) : Bst D k (j + 1) b := by
  rcases h with ⟨e, h⟩ | ⟨m, z, hz, hm, e, ho, h⟩
  · refine .inl ⟨e, fun z hz => ?_⟩
    rcases take_mem hj hz with hz | rfl
    · exact h z hz
    · exact hn
  · refine .inr ⟨m, z, hz, by omega, e, ho, fun x hx hox => ?_⟩
    rcases take_mem hj hx with hx | rfl
    · exact h x hx hox
    · exact absurd hox hn
theorem Bst.first (h : Bst D k j (-1)) (hj : j < D.length) (ho : op k D[j].1) : Bst D k (j + 1) (j : Int) := by
  rcases h with ⟨e, h⟩ | ⟨m, z, hz, hm, e, _⟩
  · refine .inr ⟨j, D[j], List.getElem?_eq_getElem hj, by omega, rfl, ho, fun x hx hox => ?_⟩
    rcases take_mem hj hx with hx | rfl
    · exact absurd hox (h x hx)
    · exact Nat.le_refl _
  · omega
theorem Bst.less (h : Bst D k j (m : Int)) (hj : j < D.length) (ho : op k D[j].1) {z : Bq} (hz : D[m]? = some z) (hl : D[j].1.b < z.1.b) : Bst D k (j + 1) (j : Int) := by
  rcases h with ⟨e, h⟩ | ⟨m', z', hz', hm, e, _, h⟩
  · omega
  · obtain rfl : m = m' := by omega
    rw [hz] at hz'
    cases hz'
    refine .inr ⟨j, D[j], List.getElem?_eq_getElem hj, by omega, rfl, ho, fun x hx hox => ?_⟩
    rcases take_mem hj hx with hx | rfl
    · have := h x hx hox; omega
    · exact Nat.le_refl _
theorem Bst.more (h : Bst D k j (m : Int)) (hj : j < D.length) {z : Bq} (hz : D[m]? = some z) (hl : ¬ D[j].1.b < z.1.b) : Bst D k (j + 1) (m : Int) := by
  rcases h with ⟨e, h⟩ | ⟨m', z', hz', hm, e, ho, h⟩
  · omega
  · obtain rfl : m = m' := by omega
    rw [hz] at hz'
    cases hz'
    refine .inr ⟨m, z, hz, by omega, rfl, ho, fun x hx hox => ?_⟩
    rcases take_mem hj hx with hx | rfl
    · exact h x hx hox
    · omega
theorem Bst.fin (h : Bst D k D.length b) : (b = -1 ∧ NoOpn (bks D) k) ∨ ∃ (m : Nat) (hm : m < D.length), b = (m : Int) ∧ Least (bks D) k D[m].1 := by
  rcases h with ⟨e, h⟩ | ⟨m, z, hz, hm, e, ho, h⟩
  · refine .inl ⟨e, fun y hy => ?_⟩
    obtain ⟨z, hz, rfl⟩ := List.mem_map.1 hy.1
    exact h z (by rw [List.take_length]; exact hz) hy.2
  · obtain ⟨hm2, rfl⟩ := List.getElem?_eq_some_iff.1 hz
    refine .inr ⟨m, hm2, e, ⟨bks_mem (List.getElem_mem hm2), ho⟩, fun y hy => ?_⟩
    obtain ⟨z, hz, rfl⟩ := List.mem_map.1 hy.1
    exact h z (by rw [List.take_length]; exact hz) hy.2
theorem fre_yes {u : List Bool} (h : false ∈ u) : fre u = (fi u : Int) := by unfold fre; rw [if_pos h]
theorem fre_no {u : List Bool} (h : false ∉ u) : fre u = -1 := by unfold fre; rw [if_neg h]
/-- What pick answers: the blocks behind it, the block. -/
inductive Pk (n : Nat) (A : List Bk) (q k : Nat) : List Bk → Bk → Prop where
  | held (y : Bk) : y ∈ A → y.h = (q : Int) → y.c = (k : Int) → false ∈ y.u → Pk n A q k A y
  | opn (y : Bk) : NoHeld A q k → Least (unh A q k) k y → Pk n A q k (upd (unh A q k) y.b (holdB q)) (holdB q y)
  | new (b : Nat) : NoHeld A q k → NoOpn (unh A q k) k → Row n A (cpg k) b → Pk n A q k (unh A q k ++ [holdB q (newB k b)]) (holdB q (newB k b))
/-- What pick leaves. -/
def PickD (n pr : Nat) (F : Nat → Prop) (W : World) (dc rt : Nat) (D : List Bq) (q k : Nat) (e : Ending) (w' : World) : Prop :=
  (∃ (i : Nat) (D' : List Bq) (F' : Nat → Prop) (v' : Value), e = .returned (.tuple #[.int .i64 (i : Int), .int .i64 0]) ∧ (∃ hi : i < D'.length, Pk n (bks D) q k (bks D') D'[i].1) ∧ Ce n pr F' w' dc rt v' D' ∧ Cha F W w' ∧ ∀ i, F' i → F i ∨ W.heap.size ≤ i) ∨
  (e = .returned (.tuple #[.int .i64 0, .int .i64 3]) ∧ NoHeld (bks D) q k ∧ NoOpn (unh (bks D) q k) k ∧ NoRow n (bks D) (cpg k) ∧ DL2 n pr F W dc rt w' (unh (bks D) q k))
theorem take_mono {x : Bq} (h : x ∈ D.take j) : x ∈ D := List.mem_of_mem_take h
/-- Found among the first loop's. -/
theorem pick_held (h : Ce n pr F W dc rt v D) (hj : j < D.length) (h1 : D[j].1.h = (q : Int)) (h2 : D[j].1.c = (k : Int)) (h3 : false ∈ D[j].1.u) (hn : ∀ z ∈ D.take j, ¬ (z.1.h = (q : Int) ∧ z.1.c = (k : Int) ∧ false ∈ z.1.u)) : stg q k D j = D ∧ Pk n (bks D) q k (bks D) D[j].1 := by
  have hm := bks_mem (List.getElem_mem hj)
  refine ⟨stg_none fun z hz ⟨e1, e2⟩ => hn z hz ⟨e1, e2, ?_⟩, .held _ hm h1 h2 h3⟩
  have hz' := bks_mem (take_mono hz)
  have e := h.inv.one z.1 hz' D[j].1 hm (by omega) (by omega) (by omega)
  rw [h.inv.inj hz' hm e]
  exact h3
/-- An open block is held. -/
theorem pick_opn (h : Ce n pr F W dc rt (.slice (some ⟨g, o, none⟩) N cap) (D.map (unq q k))) (hN : N = D.length) (hq : q < pr) (hno : NoHeld (bks D) q k) (hm : m < (D.map (unq q k)).length) (hl : Least (unh (bks D) q k) k (D.map (unq q k))[m].1) :
    ∃ D', (∃ hi : m < D'.length, Pk n (bks D) q k (bks D') D'[m].1) ∧ Ce n pr F (W.setCell ⟨g, o + m * 5 + 4, none⟩ (.int .i64 (q : Int))) dc rt (.slice (some ⟨g, o, none⟩) N cap) D' ∧ Cha F W (W.setCell ⟨g, o + m * 5 + 4, none⟩ (.int .i64 (q : Int))) := by
  rw [show N = (D.map (unq q k)).length by rw [List.length_map]; exact hN] at h ⊢
  have hi : Inv n pr (upd (bks (D.map (unq q k))) (D.map (unq q k))[m].1.b (holdB q)) := hold_inv (k := k) h.inv (bks_mem (List.getElem_mem hm)) hq hl.opn.2.1 fun z hz => by rw [bks_unq] at hz; exact unh_not hz
  have := h.hold hm (holdB_keeps q) rfl rfl hi
  refine ⟨_, ⟨by rw [List.length_set]; exact hm, ?_⟩, this⟩
  rw [bks_set h.inv hm, bks_unq, List.getElem_set, if_pos rfl]
  exact .opn _ hno hl
/-- A new block is held. -/
theorem pick_new {b qb : Nat} (h : Ce n pr F W dc rt (.slice (some ⟨g, o, none⟩) N cap) (D.map (unq q k) ++ [(newB k b, qb)])) (hN : N = D.length + 1) (hq : q < pr) (hno : NoHeld (bks D) q k) (hop : NoOpn (unh (bks D) q k) k) (hr : Row n (bks D) (cpg k) b) :
    ∃ D', (∃ hi : D.length < D'.length, Pk n (bks D) q k (bks D') D'[D.length].1) ∧ Ce n pr F (W.setCell ⟨g, o + D.length * 5 + 4, none⟩ (.int .i64 (q : Int))) dc rt (.slice (some ⟨g, o, none⟩) N cap) D' ∧ Cha F W (W.setCell ⟨g, o + D.length * 5 + 4, none⟩ (.int .i64 (q : Int))) := by
  have hll : (D.map (unq q k) ++ [(newB k b, qb)]).length = D.length + 1 := by simp
  rw [show N = (D.map (unq q k) ++ [(newB k b, qb)]).length by rw [hll]; exact hN] at h ⊢
  have hm : D.length < (D.map (unq q k) ++ [(newB k b, qb)]).length := by omega
  have hg : (D.map (unq q k) ++ [(newB k b, qb)])[D.length] = (newB k b, qb) := by
    rw [List.getElem_append_right (by simp)]
    simp
  have hi : Inv n pr (upd (bks (D.map (unq q k) ++ [(newB k b, qb)])) (D.map (unq q k) ++ [(newB k b, qb)])[D.length].1.b (holdB q)) := by
    refine hold_inv (k := k) h.inv (bks_mem (List.getElem_mem hm)) hq (by rw [hg]; rfl) fun z hz => ?_
    rw [bks_app, bks_unq] at hz
    rcases List.mem_append.1 hz with hz | hz
    · exact unh_not hz
    · obtain rfl := List.mem_singleton.1 hz
      rintro ⟨e, _⟩
      have e : (-1 : Int) = q := e
      omega
  have := h.hold hm (holdB_keeps q) rfl rfl hi
  refine ⟨_, ⟨by rw [List.length_set]; exact hm, ?_⟩, this⟩
  have e2 : bks ((D.map (unq q k) ++ [(newB k b, qb)]).set D.length (holdB q (D.map (unq q k) ++ [(newB k b, qb)])[D.length].1, (D.map (unq q k) ++ [(newB k b, qb)])[D.length].2)) = unh (bks D) q k ++ [holdB q (newB k b)] := by
    rw [hg, List.set_append_right _ _ (by simp)]
    simp only [List.length_map, Nat.sub_self, List.set_cons_zero]
    rw [bks_app, bks_unq]
    rfl
  rw [e2, List.getElem_set, if_pos rfl, hg]
  exact .new b hno hop hr
end
end Go.Proofs.YtiboobaggpghjaaDoor
