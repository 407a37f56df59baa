/- Contracts: pick, Reach. -/
import Derived.Test.YtllefljimkmbhaaXA
namespace Go.Proofs.Ytllefljimkmbhaa
open Go.ChangeShapes Go.WideShapes Go.ChangeAt Go.RowKit
variable {w w' w1 w2 w3 W W' : World} {F S : Nat → Prop} {bd : Nat} {vf vr : Value} {f T : Nat → Nat} {n : Nat} {fs : Nat → List Nat} {R : List Nat}

/-- A number modulo k, never below 0. -/
def rem0 (z : Int) (k : Nat) : Nat := (Int.tmod (Int.tmod z k + k) k).toNat
theorem tmod_bound (z : Int) {k : Nat} (hk : 0 < k) : -(k : Int) < Int.tmod z k ∧ Int.tmod z k < (k : Int) := by
  have h1 := Int.tmod_lt_of_pos z (show (0 : Int) < (k : Int) by omega)
  have h2 := Int.lt_tmod_of_pos z (show (0 : Int) < (k : Int) by omega)
  omega
theorem rem0_eq (z : Int) {k : Nat} (hk : 0 < k) : Int.tmod (Int.tmod z k + k) k = (rem0 z k : Int) ∧ rem0 z k < k := by
  obtain ⟨a, b⟩ := tmod_bound z hk
  have h0 : 0 ≤ Int.tmod (Int.tmod z k + k) k := Int.tmod_nonneg _ (by omega)
  have h1 := (tmod_bound (Int.tmod z k + k) hk).2
  unfold rem0
  omega
theorem pick_any (h : Im W F bd vf vr f T n fs R) (z : Int) (hr : 0 < R.length) :
    Calls Try.prog 45 #[.pointer (some ⟨bd, 0, none⟩), .int .i64 z] W fun e W' => e = .returned (.int .i64 ((R.getD (rem0 z R.length) 0 : Nat) : Int)) ∧ ∃ m, W' = W.drewN m := by
  obtain ⟨_, c1, _⟩ := h.facts
  obtain ⟨a, ca, rfl, h1, h2, h3⟩ := h.lr.ints
  obtain ⟨b, o, rfl, hc⟩ := h3 hr
  obtain ⟨e0, e1⟩ := rem0_eq z hr
  obtain ⟨t0, t1⟩ := tmod_bound z hr
  have y := (hc _ e1).1
  have r8 := h.r8
  generalize R.getD (rem0 z R.length) 0 = V at *
  generalize rem0 z R.length = x at *
  have e3 : IntKind.i64.wrap (Int.tmod z (R.length : Int) + (R.length : Int)) = Int.tmod z (R.length : Int) + (R.length : Int) := IntWalk.i64_in _ (by omega)
  have k0 : ((R.length : Int) == 0) = false := beq_eq_false_iff_ne.2 (by omega)
  have k2 : ¬ (R.length = 0) := by omega
  unfold maxLen at h2
  clear h h3 hc
  go_enter Try.func45, Try.ntmps45
  go_wp2
  go_quiet (fail)
  go_wp2
  go_returns
  exact ⟨rfl, _, rfl⟩
def boE : Enc Bool := ⟨63, 4, 1, 1, .bool false, fun a => [.bool a]⟩
theorem boE_ok : boE.Ok := ⟨Try.underlying63, by kernel_rfl, rfl, by decide, fun _ => rfl, fun a u h => by simp [boE] at h; subst h; rfl⟩
theorem made_bools (k : Nat) : madeCells (Value.bool false).cells (k * 1) = fcells k (fun _ => .bool false) := by
  rw [Nat.mul_one]
  unfold madeCells fcells
  congr 1
  funext x
  show (#[Value.bool false])[x % 1]! = _
  rw [Nat.mod_one]
  rfl
theorem mk_bools (k : Nat) (hk : k ≤ 100000) (W : World) : (Instr.makeSlice 63 (.int .i64 (k : Int)) (.int .i64 (k : Int))).run Try.prog W = .ok (.slice (some ⟨W.heap.size, 0, none⟩) k k) (W.alloc (.cells (fcells k (fun _ => .bool false)) 4)) := by
  obtain ⟨i, hi, hz, hs, hb⟩ := info_parts boE_ok.inf
  have hb : i.bytes = 1 := hb
  have hs : i.size = 1 := hs
  have h := run_make (P := Try.prog) W 63 4 i _ Try.underlying63 hi hz .i64 .i64 (k : Int) (k : Int) (by omega) (by omega) (by rw [hb]; omega) (by omega)
  have e : madeCells boE.z.cells (k * 1) = fcells k (fun _ => .bool false) := made_bools k
  rw [hs, Int.toNat_natCast, e] at h
  exact h
theorem FRow.lies {w : World} {b : Nat} {L : List Nat} (h : FRow 3 w b L.length (rowV L)) (hm : L.length ≤ maxLen) : Lies inE w (.slice (some ⟨b, 0, none⟩) L.length L.length) L := by
  refine .inr ⟨b, 0, L.length, _, rfl, Nat.le_refl _, hm, h, by show 0 + L.length * 1 ≤ _; rw [size_fcells]; omega, fun i hi => ?_⟩
  have hi : i < L.length := by have : L.length * inE.k = L.length := Nat.mul_one _; omega
  have := inE_ok.cs_get L (i := i) (j := 0) hi (by decide)
  have ek : i * inE.k + 0 = i := Nat.mul_one _
  rw [ek] at this
  rw [Nat.zero_add, get_fcells, if_pos hi, this]
  unfold rowV
  simp [inE, hi]
def vlen : Value → Nat
  | .slice _ n _ => n
  | _ => 0
/-- How many have not been seen. -/
def unseen (w : World) (b n : Nat) : Nat := cnt (fun i => match w.cell? ⟨b, i, none⟩ with | some (.bool x) => !x | _ => false) n
theorem unseen_eq {w : World} {b n m : Nat} {X : Nat → Bool} (h : FRow 4 w b (m + 1) (fun i => .bool (X i))) (hn : n ≤ m) : unseen w b n = cnt (fun i => !X i) n := by
  unfold unseen
  refine cnt_congr fun i _ hi => ?_
  rw [h.cell (i := i) (by omega)]
structure Sees (W w : World) (bs : Nat) (g : Gr) (v : Value) (X : Nat → Bool) (L : List Nat) : Prop where
  row : FRow 4 w bs (g.n + 1) (fun i => .bool (X i))
  td : Lies inE w v L
  dfs : Dfs g X L
  b0 : W.heap.size ≤ bs
  own : ∀ b, v.ownBlock = some b → W.heap.size ≤ b ∧ b ≠ bs
  cha : Cha (fun _ => False) W w
  x0 : X 0 = false
  len : L.length + 16 * cnt (fun i => !X i) g.n ≤ 100000
/-- The list that Reach answers. -/
def Seen (W w : World) (g : Gr) (v : Value) : Prop := ∃ (bs : Nat) (X : Nat → Bool), v = .slice (some ⟨bs, 0, none⟩) (g.n + 1) (g.n + 1) ∧ FRow 4 w bs (g.n + 1) (fun i => .bool (X i)) ∧ W.heap.size ≤ bs ∧ Cha (fun _ => False) W w ∧ X 0 = false ∧ ∀ id, X id = true ↔ Reach g id
set_option maxHeartbeats 4000000 in
theorem reach_any {g : Gr} {K : Nat → Prop} (h : Im W F bd vf vr f T g.n g.fs g.roots) (hi : Inv g K) : Calls Try.prog 33 #[.pointer (some ⟨bd, 0, none⟩)] W fun e W' => ∃ v, e = .returned v ∧ Seen W W' g v := by
  obtain ⟨c0, c1, _⟩ := h.facts
  obtain ⟨bv, ov, cv, ev, hv1, hv2, hv3⟩ := h.sls
  obtain ⟨ar, cr, er, -, -, -⟩ := h.lr.ints
  have hbd := h.old _ h.tg.2
  have hn4 := hi.n4
  have r8 := h.r8
  have hmk : ∀ W, (Instr.makeSlice 63 (.int .i64 ((g.n : Int) + 1)) (.int .i64 ((g.n : Int) + 1))).run Try.prog W = .ok (.slice (some ⟨W.heap.size, 0, none⟩) (g.n + 1) (g.n + 1)) (W.alloc (.cells (fcells (g.n + 1) (fun _ => .bool false)) 4)) := mk_bools (g.n + 1) (by omega)
  obtain ⟨W1, hW1⟩ : ∃ W1, W1 = W.alloc (.cells (fcells (g.n + 1) (fun _ => Value.bool false)) 4) := ⟨_, rfl⟩
  have cW1 : Cha (fun _ => False) W W1 := by rw [hW1]; exact (Cha.refl _ W).alloc _
  have HLR : Hid (Lies inE W1 vr g.roots) := Lib.hid (h.lr.same cW1)
  have hrn : ∀ r ∈ g.roots, r ≠ 0 := fun r hr => by have := (hi.kroot r hr).2.1; omega
  have HST : Hid (∀ v' w', AppV inE W1 w' (.slice none 0 0) ([] ++ g.roots) v' → ∃ a n c, v' = .slice a n c ∧ n = g.roots.length ∧ ∃ X, Sees W w' W.heap.size g (.slice a n c) X g.roots) := Lib.hid fun v' w' hA => by
    obtain ⟨a, c, e, _⟩ := hA.lies.form
    subst e
    refine ⟨a, _, c, rfl, rfl, fun _ => false, ?_⟩
    have row : FRow 4 W1 W.heap.size (g.n + 1) (fun _ => Value.bool false) := by rw [hW1]; exact heap_alloc_new W _
    have sz : W1.heap.size = W.heap.size + 1 := by rw [hW1, World.size_alloc]
    have hc := cnt_le (fun _ => !false) g.n
    exact ⟨hA.cha.row row (fun e => by cases e), hA.lies, Dfs.begin, Nat.le_refl _, fun b e => by
      rcases hA.at' b e with k | k
      · cases k
      · omega, cW1.trans (hA.cha.mono fun i _ e => by cases e), rfl, by omega⟩
  have B1 : Hid (([] : List Nat).length + g.roots.length ≤ maxLen) := Lib.hid (by unfold maxLen; simp only [List.length_nil]; omega)
  have B2 : Hid ((([] : List Nat).length + g.roots.length) * inE.b ≤ 140737488355328) := Lib.hid (by show _ * 8 ≤ _; simp only [List.length_nil]; omega)
  have H := Lib.hid h
  have HI := Lib.hid hi
  have HR := Lib.hid hrn
  have HW := Lib.hid hW1
  have e1 : IntKind.i64.wrap ((g.n : Int) + 1) = (g.n : Int) + 1 := IntWalk.i64_in _ (by omega)
  clear h hi hrn hW1 cW1 hv3
  subst ev er
  go_enter Try.func33, Try.ntmps33
  go_wp2_with (at_builtin; rw [← HW.out]; refine wpList_any inE_ok rfl (.tmp 12) (.tmp 16) rfl (v := .slice none 0 0) (A := []) rfl rfl (Lies.nil _ _) HLR.out B1.out B2.out ?_; intro v' w' hA; obtain ⟨a', n', c', rfl, rfl, X, hS⟩ := HST.out _ _ hA; have HS := Lib.hid hS; clear hA hS)
  go_loopw [4, 5] (fun v _ wr => ∃ a c X L, v = .slice a (List.length L) c ∧ Sees W wr W.heap.size g (.slice a (List.length L) c) X L) (fun v _ wr => unseen wr W.heap.size g.n * 17 + vlen v)
  case atStart => exact ⟨_, _, _, _, rfl, HS.out⟩
  case round =>
    clear HS HST HLR B1 B2 HW
    obtain ⟨a, c, X, L, rfl, hS⟩ := hrel
    by_cases hl : L = []
    · subst hl
      have HE : Hid (Seen W wr g (.slice (some ⟨W.heap.size, 0, none⟩) (g.n + 1) (g.n + 1))) := Lib.hid ⟨W.heap.size, X, rfl, hS.row, Nat.le_refl _, hS.cha, hS.x0, hS.dfs.done⟩
      clear hS
      go_wp2
      go_returns
      exact ⟨_, rfl, HE.out⟩
    · obtain ⟨M, t, hL⟩ : ∃ M t, L = M ++ [t] := ⟨L.dropLast, L.getLast hl, (List.dropLast_concat_getLast hl).symm⟩
      have hlen : L.length = M.length + 1 := by rw [hL]; simp
      obtain ⟨a', c', ea, q1, q2, q3⟩ := hS.td.ints
      injection ea with ea1 ea2 ea3
      subst ea1 ea3
      obtain ⟨b, o, rfl, hc⟩ := q3 (by omega)
      have y := (hc M.length (by omega)).1
      have et : L.getD M.length 0 = t := by rw [hL]; simp
      rw [et] at y
      have htr : t = 0 ∨ Reach g t := hS.dfs.td t (by rw [hL]; simp)
      have htn : t ≤ g.n := by
        rcases htr with z | z
        · omega
        · exact (HI.out.reach z).2.2
      have hX := hS.row.cell (i := t) (by omega)
      have hXf := hS.row.free t
      have hln := hS.len
      have hbs := hS.b0
      have HU : Hid (unseen wr W.heap.size g.n = cnt (fun i => !X i) g.n) := Lib.hid (unseen_eq hS.row (Nat.le_refl _))
      have HD : Hid (Dfs g X (M ++ [t])) := Lib.hid (hL ▸ hS.dfs)
      have htk : Lies inE wr (.slice (some ⟨b, o, none⟩) M.length c) M := by
        have := hS.td.take inE_ok (i := M.length) (by omega)
        have e : L.take M.length = M := by rw [hL]; simp
        rwa [e] at this
      have HS := Lib.hid hS
      have HT := Lib.hid htk
      have e2 : IntKind.i64.wrap ((L.length : Int) - 1) = (M.length : Int) := by rw [IntWalk.i64_in _ (by omega)]; omega
      have l1 : (0 : Int) < (L.length : Int) := by omega
      have l2 : 0 < L.length := by omega
      have l3 : M.length < L.length := by omega
      have l4 : M.length ≤ c := by omega
      have l5 : (M.length : Int) ≤ (c : Int) := by omega
      have HLEN := Lib.hid hlen
      unfold maxLen at q2
      clear hS hc htk hL hl q3 et hlen ea2
      by_cases hp : t = 0 ∨ X t = true
      · have HN : Hid (Sees W wr W.heap.size g (.slice (some ⟨b, o, none⟩) M.length c) X M) := Lib.hid
          ⟨HS.out.row, HT.out, HD.out.pass hp HR.out, hbs, fun b' e => HS.out.own b' (by cases e; rfl), HS.out.cha, HS.out.x0, by have := HLEN.out; omega⟩
        have fin : (unseen wr W.heap.size g.n * 17 + vlen (.slice (some ⟨b, o, none⟩) M.length c)) < (unseen wr W.heap.size g.n * 17 + vlen (.slice (some ⟨b, o, none⟩) L.length c)) := by show _ + M.length < _ + L.length; omega
        have HFIN := Lib.hid fin
        clear fin HS HT HD hbs hln HLEN HU htr
        by_cases h0 : t = 0
        · subst h0
          clear hp hX hXf htn
          go_wp2
          go_roundw
          case rel => exact ⟨_, _, _, _, rfl, HN.out⟩
          case measure => exact HFIN.out
        · have hx := hp.resolve_left h0
          rw [hx] at hX
          have k1 : ¬ ((t : Int) ≤ 0) := by omega
          have k2 : ¬ ((g.n : Int) + 1 ≤ (t : Int)) := by omega
          have k3 : t < g.n + 1 := by omega
          have k4 : ¬ (g.n + 1 ≤ t) := by omega
          clear hp hx h0 htn
          go_wp2
          go_roundw
          case rel => exact ⟨_, _, _, _, rfl, HN.out⟩
          case measure => exact HFIN.out
      · have h0 : t ≠ 0 := fun z => hp (.inl z)
        have hx : X t = false := by
          have := fun z => hp (.inr z)
          simpa using this
        rw [hx] at hX
        have hI := H.out.same HS.out.cha
        obtain ⟨d0, d1, _⟩ := hI.facts
        have hbd2 := H.out.old _ H.out.tg.2
        obtain ⟨bv', ov', cv', ev', s1, s2, s3⟩ := hI.sls
        injection ev' with ev1 ev2 ev3
        injection ev1 with ev1
        injection ev1 with ev1 ev4 _
        subst ev1 ev4 ev3
        have z1 := s3 t (by omega) htn
        have hbv : bv ≠ W.heap.size := fun e => by have := H.out.old _ (H.out.tv bv rfl).2; omega
        have hft : f t ≠ W.heap.size := fun e => by have := H.out.old _ (H.out.tf t (by omega) htn).2; omega
        have hbdn : bd ≠ W.heap.size := by omega
        have cS := Cha.at wr W.heap.size t (.bool true)
        have h16 := HI.out.f16 t
        have rowt : FRow 3 (wr.setCell ⟨W.heap.size, t, none⟩ (.bool true)) (f t) (g.fs t).length (rowV (g.fs t)) := cS.row (hI.fld t (by omega) htn) hft
        have HLT : Hid (Lies inE (wr.setCell ⟨W.heap.size, t, none⟩ (.bool true)) (.slice (some ⟨f t, 0, none⟩) (g.fs t).length (g.fs t).length) (g.fs t)) := Lib.hid (rowt.lies (by unfold maxLen; omega))
        have hob : W.heap.size ≤ b ∧ b ≠ W.heap.size := HS.out.own b rfl
        have HLM : Hid (Lies inE (wr.setCell ⟨W.heap.size, t, none⟩ (.bool true)) (.slice (some ⟨b, o, none⟩) M.length c) M) := Lib.hid (HT.out.cha cS fun b' e z => by cases e; exact hob.2 z)
        have hcu : cnt (fun i => !X i) g.n = cnt (fun i => !up X t true i) g.n + 1 := cnt_up (x := t) (by omega) htn (by simp [hx]) (by simp [up_same]) fun i hi => by rw [up_other _ _ hi]
        have C1 : Hid (M.length + (g.fs t).length ≤ maxLen) := Lib.hid (by have := HLEN.out; unfold maxLen; omega)
        have C2 : Hid ((M.length + (g.fs t).length) * inE.b ≤ 140737488355328) := Lib.hid (by have := HLEN.out; show _ * 8 ≤ _; omega)
        have HA : Hid (∀ v' w', AppV inE (wr.setCell ⟨W.heap.size, t, none⟩ (.bool true)) w' (.slice (some ⟨b, o, none⟩) M.length c) (M ++ g.fs t) v' → ∃ a2 c2, v' = .slice a2 (List.length (M ++ g.fs t)) c2 ∧ Sees W w' W.heap.size g (.slice a2 (List.length (M ++ g.fs t)) c2) (up X t true) (M ++ g.fs t) ∧
            unseen w' W.heap.size g.n * 17 + vlen (.slice a2 (List.length (M ++ g.fs t)) c2) < unseen wr W.heap.size g.n * 17 + vlen (.slice (some ⟨b, o, none⟩) L.length c)) := Lib.hid fun v' w' hA => by
          obtain ⟨a2, c2, e, _⟩ := hA.lies.form
          subst e
          have row2 : FRow 4 w' W.heap.size (g.n + 1) (fun i => .bool (up X t true i)) := by
            have r0 : FRow 4 (wr.setCell ⟨W.heap.size, t, none⟩ (.bool true)) W.heap.size (g.n + 1) (fun i => .bool (up X t true i)) := (HS.out.row.set (i := t) (.bool true)).congr fun x _ => by unfold up; split <;> rfl
            exact hA.cha.row r0 (fun e => by cases e; exact hob.2 rfl)
          have hll := HLEN.out
          have hla : (M ++ g.fs t).length = M.length + (g.fs t).length := List.length_append
          refine ⟨a2, c2, rfl, ⟨row2, hA.lies, HD.out.take h0, Nat.le_refl _, fun b' e => ?_, ?_, ?_, by omega⟩, ?_⟩
          · rcases hA.at' b' e with k | k
            · cases k; exact hob
            · have k1 : (wr.setCell ⟨W.heap.size, t, none⟩ (.bool true)).heap.size = wr.heap.size := by simp [World.setCell]
              have k2 := HS.out.row.lt
              omega
          · exact (HS.out.cha.over (cS.mono (T := fun i => W.heap.size ≤ i) fun i _ e => by omega) (fun i e => .inr e)).over (hA.cha.mono (T := fun i => W.heap.size ≤ i) fun i _ e => by cases e; exact hob.1) fun i e => .inr e
          · rw [up_other _ _ (Ne.symm h0)]; exact HS.out.x0
          · rw [HU.out, unseen_eq row2 (Nat.le_refl _), hcu]
            show _ + (M ++ g.fs t).length < _ + L.length
            omega
        have k1 : ¬ ((t : Int) ≤ 0) := by omega
        have k2 : ¬ ((g.n : Int) + 1 ≤ (t : Int)) := by omega
        have k3 : t < g.n + 1 := by omega
        have k4 : ¬ (g.n + 1 ≤ t) := by omega
        clear hp hx h0 htn hI s1 s2 s3 hbd2 cS rowt h16 hcu hob HS HT HD hbs hln HLEN HU htr
        generalize f t = ft at *
        go_wp2_with (at_builtin; refine wpList_any inE_ok rfl (.tmp 49) (.tmp 56) rfl rfl rfl HLM.out HLT.out C1.out C2.out ?_; intro v' w' hA; obtain ⟨a2, c2, rfl, hS2, hm2⟩ := HA.out _ _ hA; have S2 := Lib.hid hS2; have M2 := Lib.hid hm2; clear hA hS2 hm2)
        go_roundw
        case rel => exact ⟨a2, c2, _, M ++ g.fs t, by rw [List.length_append], S2.out⟩
        case measure => have := M2.out; rwa [List.length_append] at this
end Go.Proofs.Ytllefljimkmbhaa
