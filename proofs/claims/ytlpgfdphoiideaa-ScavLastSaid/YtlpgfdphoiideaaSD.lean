/- The program's Give. -/
import Derived.Test.YtlpgfdphoiideaaSC
import Derived.Deep.RegionLaw
namespace Go.Proofs.Ytlpgfdphoiideaa
open Go.ChangeShapes Go.WideShapes Go.ChangeAt Go.RowKit
section
variable {w w' : World} {bs bp N : Nat} {st st' : Nat → Int}
/-- A list of ints that was made since. -/
structure Made (w w' : World) (v : Value) (L : List Int) : Prop where
  lies : Lies intE w' v L
  new : ∀ g, v.ownBlock = some g → w.heap.size ≤ g
theorem giv_step {st : Nat → Int} {p q : Nat} : giv st (p + 1) (q + 1) = if st p = 1 then (p : Int) :: giv st p q else giv st p (q + 1) := rfl
theorem giS_step {st : Nat → Int} {p q : Nat} : giS st (p + 1) (q + 1) = if st p = 1 then fun i => if i = p then 0 else giS st p q i else giS st p (q + 1) := rfl
/-- Where the loop stands: p pages are left, l are told, the states are sc. -/
structure Giv (w wr : World) (bs bp N : Nat) (st : Nat → Int) (q p : Nat) (v : Value) (l : List Int) (sc : Nat → Int) : Prop where
  sv : Sv 79 85 wr bs bp N sc
  cha : Cha (· = bp) w wr
  made : Made w wr v l
  ll : l.length ≤ q
  lp : l.length + p ≤ N
  pn : p ≤ N
  same : ∀ i, i < p → sc i = st i
  out : l ++ giv sc p (q - l.length) = giv st N q
  stt : ∀ i, i < N → giS sc p (q - l.length) i = giS st N q i
theorem Giv.start (h : Sv 79 85 w bs bp N st) (q : Nat) : Giv w w bs bp N st q N (.slice none 0 0) [] st :=
  ⟨h, Cha.refl _ _, ⟨Lies.nil _ _, fun g e => by cases e⟩, Nat.zero_le _, by simp, Nat.le_refl _, fun _ _ => rfl, rfl, fun _ _ => rfl⟩
theorem Giv.skip {wr : World} {q p : Nat} {v : Value} {l : List Int} {sc : Nat → Int} (h : Giv w wr bs bp N st q (p + 1) v l sc) (hq : l.length < q) (h1 : sc p ≠ 1) : Giv w wr bs bp N st q p v l sc := by
  obtain ⟨k, hk⟩ : ∃ k, q - l.length = k + 1 := ⟨q - l.length - 1, by omega⟩
  have o := h.out
  have s := h.stt
  rw [hk, giv_step, if_neg h1, ← hk] at o
  rw [hk, giS_step, if_neg h1, ← hk] at s
  exact ⟨h.sv, h.cha, h.made, h.ll, by have := h.lp; omega, by have := h.pn; omega, fun i hi => h.same i (by omega), o, s⟩
theorem Giv.take {wr w2 : World} {q p : Nat} {v v2 : Value} {l : List Int} {sc : Nat → Int} (h : Giv w wr bs bp N st q (p + 1) v l sc) (hq : l.length < q) (h1 : sc p = 1)
    (sv : Sv 79 85 w2 bs bp N (fun i => if i = p then 0 else sc i)) (cha : Cha (· = bp) w w2) (made : Made w w2 v2 (l ++ [(p : Int)])) : Giv w w2 bs bp N st q p v2 (l ++ [(p : Int)]) (fun i => if i = p then 0 else sc i) := by
  obtain ⟨k, hk⟩ : ∃ k, q - l.length = k + 1 := ⟨q - l.length - 1, by omega⟩
  have o := h.out
  have s := h.stt
  rw [hk, giv_step, if_pos h1] at o
  rw [hk, giS_step, if_pos h1] at s
  have hl : (l ++ [(p : Int)]).length = l.length + 1 := by simp
  have e : q - (l ++ [(p : Int)]).length = k := by rw [hl]; omega
  have hc : ∀ i, i < p → (fun i => if i = p then 0 else sc i) i = sc i := fun i hi => if_neg (by omega)
  refine ⟨sv, cha, made, by rw [hl]; omega, by rw [hl]; have := h.lp; omega, by have := h.pn; omega, fun i hi => (hc i hi).trans (h.same i (by omega)), ?_, fun i hi => ?_⟩
  · rw [e, giv_congr hc, List.append_assoc]; exact o
  · rw [e, ← s i hi]
    by_cases c : i < p
    · rw [giS_congr hc i c]; exact (if_neg (by omega)).symm
    · rw [giS_old _ _ _ _ (by omega)]
      show (if i = p then 0 else sc i) = (if i = p then 0 else giS sc p k i)
      by_cases c2 : i = p
      · rw [if_pos c2, if_pos c2]
      · rw [if_neg c2, if_neg c2, giS_old _ _ _ _ (by omega)]
theorem Giv.fin {wr : World} {q p : Nat} {v : Value} {l : List Int} {sc : Nat → Int} (h : Giv w wr bs bp N st q p v l sc) (hq : p = 0 ∨ l.length = q) : l = giv st N q ∧ ∀ i, i < N → sc i = giS st N q i := by
  have o := h.out
  have s := h.stt
  rcases hq with rfl | e
  · refine ⟨?_, s⟩
    have z : giv sc 0 (q - l.length) = [] := rfl
    rw [z, List.append_nil] at o
    exact o
  · rw [e, Nat.sub_self] at o s
    rw [giv_none, List.append_nil] at o
    rw [giS_none] at s
    exact ⟨o, s⟩
theorem give_none (n : Int) (w : World) : Calls Try.prog 38 #[.pointer none, .int .i64 n] w fun e w' => e = .returned (.slice none 0 0) ∧ w = w' := by
  go_enter Try.func38, Try.ntmps38
  go_wp2
  go_returns
  exact ⟨rfl, rfl⟩
theorem new_int (W : World) (t : Int) : ∀ j u, (intE.cs [t])[j]? = some u → (W.alloc (.cells #[.int .i64 t] 3)).cell? ((⟨W.heap.size, 0, none⟩ : Addr).add j) = some u := just_new intE W t 3
set_option maxRecDepth 100000 in
set_option maxHeartbeats 8000000 in
theorem give_any (h : Sv 79 85 w bs bp N st) (n : Int) (hn : isI n) :
    Calls Try.prog 38 #[.pointer (some ⟨bs, 0, none⟩), .int .i64 n] w fun e w' => ∃ v, e = .returned v ∧ Made w w' v (giv st N n.toNat) ∧ SvL w w' bs bp N (giS st N n.toNat) := by
  have H0 := Lib.hid (Giv.start h n.toNat)
  have c0 := h.cell
  have n2 := h.n2
  have HB : Hid (bs < w.heap.size ∧ bp < w.heap.size) := Lib.hid ⟨h.lt, h.row.lt⟩
  obtain ⟨q, hq⟩ : ∃ q, n.toNat = q := ⟨_, rfl⟩
  rw [hq] at H0 ⊢
  have hw0 : IntKind.i64.wrap ((N : Int) - 1) = (N : Int) - 1 := by rw [IntKind.wrap_i64]; omega
  obtain ⟨hn0, hn1⟩ := hn
  have HQ := Lib.hid hq
  clear h hq
  go_enter Try.func38, Try.ntmps38
  go_wp2
  go_loopw [5, 6] (fun v i wr => ∃ p : Nat, i = .int .i64 ((p : Int) - 1) ∧ ∃ l sc, Giv w wr bs bp N st q p v l sc) (fun _ i _ => (intOf i + 1).toNat)
  case atStart => exact ⟨N, rfl, _, _, H0.out⟩
  case round =>
    clear H0 c0
    obtain ⟨p, rfl, l, sc, hg⟩ := hrel
    have c0 := hg.sv.cell
    have HG := Lib.hid hg
    obtain ⟨a, cap, rfl, hc1, hc2⟩ := hg.made.lies.form
    have hpn := hg.pn
    have hlp := hg.lp
    by_cases hlt : 1 ≤ p ∧ (l.length : Int) < n
    · obtain ⟨hp, hl⟩ := hlt
      obtain ⟨p, rfl⟩ : ∃ k, p = k + 1 := ⟨p - 1, by omega⟩
      have hpe : ((p + 1 : Nat) : Int) - 1 = (p : Int) := by omega
      rw [hpe]
      have ck := hg.sv.at (i := p) (by omega)
      have fk := hg.sv.row.free p
      have hlq : Hid (l.length < q) := Lib.hid (by have := HQ.out; omega)
      have hwp : IntKind.i64.wrap ((p : Int) - 1) = (p : Int) - 1 := by rw [IntKind.wrap_i64]; omega
      have d1 : decide (0 ≤ (p : Int)) = true := decide_eq_true (by omega)
      have d2 : decide ((l.length : Int) < n) = true := decide_eq_true hl
      clear hg hpe
      by_cases h1 : sc p = 1
      · rw [h1] at ck
        have HL : Hid (Lies intE wr (.slice a l.length cap) l) := Lib.hid HG.out.made.lies
        have HNW : Hid (∀ g, (Value.slice a l.length cap).ownBlock = some g → w.heap.size ≤ g) := Lib.hid HG.out.made.new
        have C1 : Hid (Cha (· = bp) wr (wr.setCell ⟨bp, p, none⟩ (.int .i64 0))) := Lib.hid (Cha.setCell (S := (· = bp)) (p := ⟨bp, p, none⟩) (Cha.refl _ _) (fun _ => rfl) _)
        have L1 : Hid (Lies intE (wr.setCell ⟨bp, p, none⟩ (.int .i64 0)) (.slice a l.length cap) l) := Lib.hid (HL.out.cha C1.out fun g hg e => by have := HNW.out g hg; have := HB.out.2; omega)
        have S1 : Hid (Sv 79 85 (wr.setCell ⟨bp, p, none⟩ (.int .i64 0)) bs bp N (fun i => if i = p then 0 else sc i)) := Lib.hid (HG.out.sv.put C1.out ((HG.out.sv.row.set (i := p) (.int .i64 0)).congr fun i _ => by by_cases e : i = p <;> simp [e]))
        have B1 : Hid (l.length + [(p : Int)].length ≤ maxLen) := Lib.hid (by unfold maxLen; simp only [List.length_singleton]; omega)
        have B2 : Hid ((l.length + [(p : Int)].length) * intE.b ≤ 140737488355328) := Lib.hid (by show _ * 8 ≤ _; simp only [List.length_singleton]; omega)
        have H1 := Lib.hid h1
        clear h1
        have NB : Hid (∀ o : Obj, ∀ j u, (intE.cs [(p : Int)])[j]? = some u → ((wr.setCell ⟨bp, p, none⟩ (.int .i64 0)).alloc (.cells #[.int .i64 (p : Int)] 3)).cell? ((⟨wr.heap.size, 0, none⟩ : Addr).add j) = some u) := Lib.hid fun _ => by
          have k := new_int (wr.setCell ⟨bp, p, none⟩ (.int .i64 0)) p
          have e : (wr.setCell ⟨bp, p, none⟩ (.int .i64 0)).heap.size = wr.heap.size := by simp [World.setCell]
          rwa [e] at k
        have SS : Hid (∀ g o cap2 w3, App intE ((wr.setCell ⟨bp, p, none⟩ (.int .i64 0)).alloc (.cells #[.int .i64 (p : Int)] 3)) w3 (.slice a l.length cap) l [(p : Int)] g o cap2 → Giv w w3 bs bp N st q p (.slice (some ⟨g, o, none⟩) (l.length + 1) cap2) (l ++ [(p : Int)]) (fun i => if i = p then 0 else sc i)) := Lib.hid fun g o cap2 w3 hA => by
          have ca : Cha (fun _ => False) (wr.setCell ⟨bp, p, none⟩ (.int .i64 0)) ((wr.setCell ⟨bp, p, none⟩ (.int .i64 0)).alloc (.cells #[.int .i64 (p : Int)] 3)) := (Cha.refl _ _).alloc _
          have hno : ∀ b, b < w.heap.size → ¬ (Value.slice a l.length cap).ownBlock = some b := fun b hb e => by have := HNW.out b e; omega
          have hw : w.heap.size ≤ (wr.setCell ⟨bp, p, none⟩ (.int .i64 0)).heap.size := Nat.le_trans HG.out.cha.size C1.out.size
          have c3 : Cha (· = bp) w w3 := by
            refine Cha.over ((HG.out.cha.trans C1.out).trans ca.wide) hA.cha fun b hb => .inr (HNW.out b hb)
          refine HG.out.take hlq.out H1.out ((S1.out.same ca).other hA.cha (hno _ HB.out.1) (hno _ HB.out.2)) c3 ⟨hA.lies, fun b hb => ?_⟩
          cases hb
          rcases hA.at' with e | e
          · exact HNW.out _ e
          · exact Nat.le_trans (Nat.le_trans hw ca.size) e
        go_wp2_with (refine wpList_app intE_ok rfl (.tmp 40) (.tmp 42) rfl rfl (L1.out.same ((Cha.refl (fun _ => False) _).alloc _)) ⟨wr.heap.size, 0, none⟩ 1 1 [(p : Int)] rfl rfl (NB.out (.cells #[] 3)) Nat.zero_lt_one B1.out B2.out ?_; intro g3 o3 cap3 w3 hA3; have HA3 := Lib.hid hA3; clear hA3)
        go_roundw
        case rel => exact ⟨p, rfl, _, _, SS.out _ _ _ _ HA3.out⟩
        case measure => simp [intOf]
      · have hk1 : (sc p == 1) = false := by simpa using h1
        have H1 := Lib.hid h1
        clear h1
        go_wp2
        go_roundw
        case rel => exact ⟨p, rfl, l, sc, HG.out.skip hlq.out H1.out⟩
        case measure => simp [intOf]
    · have FIN : Hid (SvL w wr bs bp N (giS st N q) ∧ Made w wr (.slice a l.length cap) (giv st N q)) := Lib.hid (by
        have hq := HQ.out
        obtain ⟨e1, e2⟩ := HG.out.fin (by have := HG.out.ll; omega)
        exact ⟨⟨HG.out.sv.congr e2, HG.out.cha⟩, e1 ▸ HG.out.made⟩)
      by_cases hp : 1 ≤ p
      · have hl : ¬ ((l.length : Int) < n) := fun e => hlt ⟨hp, e⟩
        clear hg hlt
        have d1 : decide (0 ≤ (p : Int) - 1) = true := decide_eq_true (by omega)
        have d2 : decide ((l.length : Int) < n) = false := decide_eq_false hl
        go_wp2
        go_returns
        exact ⟨_, rfl, FIN.out.2, FIN.out.1⟩
      · have d1 : decide (0 ≤ (p : Int) - 1) = false := decide_eq_false (by omega)
        clear hg hlt
        go_wp2
        go_returns
        exact ⟨_, rfl, FIN.out.2, FIN.out.1⟩
end
end Go.Proofs.Ytlpgfdphoiideaa
