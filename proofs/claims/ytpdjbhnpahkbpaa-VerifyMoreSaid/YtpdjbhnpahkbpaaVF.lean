/- Check, plainly: the error of an instruction; the first fault of a program. -/
import Derived.Test.YtpdjbhnpahkbpaaVD
import Derived.Handy
namespace Go.Proofs.Ytpdjbhnpahkbpaa
set_option linter.unusedVariables false
open Go.ChangeShapes Go.WideShapes Go.ChangeAt Go.RowKit
/-- The error of asking for a slot, and its kind. -/
def kdE (sl : List Int) (s : Int) : Int := if 0 ≤ s ∧ s < sl.length then 0 else 11
def kdK (sl : List Int) (s : Int) : Int := if 0 ≤ s ∧ s < sl.length then (sl[s.toNat]?).getD 0 else 0
/-- Slots that are looked at together. -/
def wantsZ (sl : List Int) (ws : List (Int × Int)) : Int :=
  if ∀ w ∈ ws, kdE sl w.1 = 0 then (if ∀ w ∈ ws, kdK sl w.1 = w.2 then 0 else 10) else 11
def orZ (a b : Int) : Int := if a = 0 then b else a
def alikeE (sl : List Int) (x y : Int) : Int := orZ (kdE sl x) (wantsZ sl [(y, kdK sl x)])
def carE (sl : List Int) (s : Int) : Int := if kdE sl s = 0 then (if 64 ≤ kdK sl s then 0 else 10) else 11
def carK (sl : List Int) (s : Int) : Int := if kdE sl s = 0 then (if 64 ≤ kdK sl s then kdK sl s - 64 else 0) else 0
def carriesZ (sl : List Int) (c v : Int) : Int := orZ (carE sl c) (wantsZ sl [(v, carK sl c)])
def typZ (ty : List TZ) (k : Int) : TZ := (ty[(k - 16).toNat]?).getD ⟨false, []⟩
def objE (ty : List TZ) (sl : List Int) (s : Int) (array : Bool) : Int :=
  if kdE sl s = 0 then (if 16 ≤ kdK sl s ∧ kdK sl s < 64 then (if (typZ ty (kdK sl s)).ar = array then 0 else 14) else 10) else 11
def fieldZ (ty : List TZ) (sl : List Int) (c o v : Int) : Int :=
  if objE ty sl o false = 0 then
    (if 0 ≤ c ∧ c < (typZ ty (kdK sl o)).fi.length then wantsZ sl [(v, ((typZ ty (kdK sl o)).fi[c.toNat]?).getD 0)] else 14)
  else objE ty sl o false
def elementZ (ty : List TZ) (sl : List Int) (c o v : Int) : Int :=
  if objE ty sl o true = 0 then wantsZ sl [(v, ((typZ ty (kdK sl o)).fi[0]?).getD 0), (c, 0)] else objE ty sl o true
def globalZ (gl sl : List Int) (g s : Int) : Int := if 0 ≤ g ∧ g < gl.length then wantsZ sl [(s, (gl[g.toNat]?).getD 0)] else 15
def targetZ (n : Nat) (at_ : Int) : Int := if 0 ≤ at_ ∧ at_ < n then 0 else 12
def listZ (sl li ks : List Int) : Int := if li.length = ks.length then wantsZ sl (li.zip ks) else 16
def numberZ (sl : List Int) (a : Int) : Int := if kdE sl a = 0 then (if kdK sl a = 0 ∨ kdK sl a = 1 then 0 else 10) else 11
def peqZ (sl : List Int) (a b c : Int) : Int :=
  if wantsZ sl [(a, 0)] = 0 then (if alikeE sl b c = 0 then (if 16 ≤ kdK sl b then 0 else 10) else alikeE sl b c) else wantsZ sl [(a, 0)]
def newZ (ty : List TZ) (sl : List Int) (array : Bool) (a b c : Int) : Int :=
  if 0 ≤ b ∧ b < ty.length ∧ ((ty[b.toNat]?).getD ⟨false, []⟩).ar = array then wantsZ sl (if array then [(a, 16 + b), (c, 0)] else [(a, 16 + b)]) else 14
def fnZ (fu : List FZ) (a : Int) : FZ := (fu[a.toNat]?).getD ⟨0, [], [], []⟩
def callZ (fu : List FZ) (sl li : List Int) (a : Int) : Int :=
  if 0 ≤ a ∧ a < fu.length then listZ sl li ((fnZ fu a).sl.take (fnZ fu a).pa.toNat ++ (fnZ fu a).re) else 13
def begunZ (fu : List FZ) (sl li : List Int) (a : Int) : Int :=
  if 0 ≤ a ∧ a < fu.length then
    (if 0 < (fnZ fu a).re.length then 13
     else if (2 : Int) ∈ (fnZ fu a).sl.take (fnZ fu a).pa.toNat then 10
     else listZ sl li ((fnZ fu a).sl.take (fnZ fu a).pa.toNat))
  else 13
def chanZ (sl : List Int) (im : Nat) (a : Int) : Int := if 16 < im then 16 else carE sl a
def caseZ (sl : List Int) (s c v : Int) : Int := if 0 ≤ s ∧ s ≤ 1 then carriesZ sl c v else 8
/-- The error of the first case that has one. -/
def casesZ (sl : List Int) : List Int → Int
  | s :: c :: v :: l => orZ (caseZ sl s c v) (casesZ sl l)
  | _ => 0
def selectZ (sl li : List Int) (a b : Int) : Int :=
  if 0 ≤ b ∧ b ≤ 1 ∧ li.length % 3 = 0 then orZ (casesZ sl li) (wantsZ sl [(a, 0)]) else 16
/-- Which fields an instruction uses: 1 A, 2 B, 4 C, 8 Imm, 16 List. -/
def usesZ (op : Int) : Nat :=
  if op = 47 then 0
  else if op = 24 ∨ op = 39 ∨ op = 44 ∨ op = 46 ∨ op = 48 ∨ op = 52 then 1
  else if op = 1 ∨ op = 41 then 9
  else if op = 2 ∨ op = 21 ∨ op = 22 ∨ op = 25 ∨ op = 26 ∨ op = 28 ∨ op = 33 ∨ op = 34 ∨ op = 40 ∨ op = 42 ∨ op = 49 ∨ op = 50 ∨ op = 51 then 3
  else if op = 36 then 16
  else if op = 35 ∨ op = 37 ∨ op = 38 then 17
  else if op = 45 then 19
  else 7
def bitZ (b : Bool) (n : Nat) : Nat := if b then n else 0
/-- Which fields aren't zero. -/
def hasZ (i : IZ) : Nat := bitZ (i.a != 0) 1 + bitZ (i.b != 0) 2 + bitZ (i.c != 0) 4 + bitZ (i.imm != 0) 8 + bitZ (decide (0 < i.l.length)) 16
def formZ (i : IZ) : Bool := (hasZ i &&& usesZ i.op) == hasZ i
def fixedZ (op a b c : Int) : List (Int × Int) :=
  if op = 15 ∨ op = 16 ∨ op = 17 ∨ op = 18 then [(a, 1), (b, 1), (c, 1)]
  else if op = 19 ∨ op = 20 then [(a, 0), (b, 1), (c, 1)]
  else if op = 21 then [(a, 1), (b, 0)]
  else if op = 22 then [(a, 0), (b, 1)]
  else if op = 40 then [(a, 0), (b, 0)]
  else if op = 39 ∨ op = 46 ∨ op = 52 then [(a, 0)]
  else if op = 49 ∨ op = 51 then [(a, 2), (b, 0)]
  else if op = 50 then [(a, 0), (b, 2)]
  else if op = 47 then []
  else [(a, 0), (b, 0), (c, 0)]
/-- The error of what an instruction's fields name. -/
def namedZ (p : PZ) (f : FZ) (i : IZ) : Int :=
  if i.op = 1 ∨ i.op = 48 then numberZ f.sl i.a
  else if i.op = 2 then alikeE f.sl i.a i.b
  else if i.op = 23 then peqZ f.sl i.a i.b i.c
  else if i.op = 24 then targetZ f.co.length i.a
  else if i.op = 25 then orZ (wantsZ f.sl [(i.a, 0)]) (targetZ f.co.length i.b)
  else if i.op = 26 then newZ p.ty f.sl false i.a i.b i.c
  else if i.op = 27 then newZ p.ty f.sl true i.a i.b i.c
  else if i.op = 28 then orZ (objE p.ty f.sl i.b true) (wantsZ f.sl [(i.a, 0)])
  else if i.op = 29 then fieldZ p.ty f.sl i.c i.b i.a
  else if i.op = 30 then fieldZ p.ty f.sl i.c i.a i.b
  else if i.op = 31 then elementZ p.ty f.sl i.c i.b i.a
  else if i.op = 32 then elementZ p.ty f.sl i.c i.a i.b
  else if i.op = 33 then globalZ p.gl f.sl i.b i.a
  else if i.op = 34 then globalZ p.gl f.sl i.a i.b
  else if i.op = 35 then callZ p.fu f.sl i.l i.a
  else if i.op = 36 then listZ f.sl i.l f.re
  else if i.op = 37 ∨ i.op = 38 then begunZ p.fu f.sl i.l i.a
  else if i.op = 41 ∨ i.op = 44 then chanZ f.sl i.imm i.a
  else if i.op = 42 then carriesZ f.sl i.a i.b
  else if i.op = 43 then orZ (carE f.sl i.b) (wantsZ f.sl [(i.a, carK f.sl i.b), (i.c, 0)])
  else if i.op = 45 then selectZ f.sl i.l i.a i.b
  else wantsZ f.sl (fixedZ i.op i.a i.b i.c)
/-- The error of an instruction. -/
def insZ (p : PZ) (f : FZ) (i : IZ) : Int :=
  if i.op < 1 ∨ 52 < i.op then 9
  else if formZ i = false then 8
  else if 24 < i.l.length then 16
  else namedZ p f i
/-- The first fault of the heads of functions, from the k-th on; of their instructions. -/
def headsZ (n : Int) : List FZ → Nat → Option FT
  | [], _ => none
  | f :: fs, k => if headZ f (k == 0) n = 0 then headsZ n fs (k + 1) else some ⟨headZ f (k == 0) n, k, 0⟩
def codesZ (p : PZ) : List FZ → Nat → Option FT
  | [], _ => none
  | f :: fs, k => match fstBad (insZ p f) f.co 0 with
    | some (e, a) => some ⟨e, k, a⟩
    | none => codesZ p fs (k + 1)
/-- The first fault of a program. -/
def chkZ (p : PZ) : FT :=
  if (partsZ p).e = 0 then
    match headsZ p.ty.length p.fu 0 with
    | some t => t
    | none => match codesZ p p.fu 0 with
      | some t => t
      | none => ⟨0, 0, 0⟩
  else partsZ p
end Go.Proofs.Ytpdjbhnpahkbpaa

namespace Go.Proofs.Ytpdjbhnpahkbpaa
set_option linter.unusedVariables false
open Go.ChangeShapes Go.WideShapes Go.ChangeAt Go.RowKit
/-! ### Plainly -/
theorem kdE_in {sl : List Int} {k : Nat} {z : Int} (h : sl[k]? = some z) : kdE sl k = 0 := by
  have := (List.getElem?_eq_some_iff.1 h).1
  unfold kdE; rw [if_pos (by omega)]
theorem kdK_in {sl : List Int} {k : Nat} {z : Int} (h : sl[k]? = some z) : kdK sl k = z := by
  have := (List.getElem?_eq_some_iff.1 h).1
  unfold kdK; rw [if_pos (by omega), Int.toNat_natCast, h]; rfl
theorem kdE_out {sl : List Int} {s : Int} (h : ¬ (0 ≤ s ∧ s < sl.length)) : kdE sl s = 11 := if_neg h
theorem kdK_out {sl : List Int} {s : Int} (h : ¬ (0 ≤ s ∧ s < sl.length)) : kdK sl s = 0 := if_neg h
theorem kd_cases (sl : List Int) (s : Int) : (∃ k z, s = ((k : Nat) : Int) ∧ sl[k]? = some z ∧ k < sl.length) ∨ ¬ (0 ≤ s ∧ s < sl.length) := by
  by_cases h : 0 ≤ s ∧ s < sl.length
  · exact .inl ⟨s.toNat, sl[s.toNat]'(by omega), by omega, List.getElem?_eq_getElem (by omega), by omega⟩
  · exact .inr h
/-- What a look at the first k slots has missed. -/
def missZ (sl : List Int) (ws : List (Int × Int)) (k : Nat) : Int := if ∀ w ∈ ws.take k, kdK sl w.1 = w.2 then 0 else 10
theorem miss_zero (sl : List Int) (ws : List (Int × Int)) : missZ sl ws 0 = 0 := if_pos (by simp)
theorem miss_eq {sl : List Int} {ws : List (Int × Int)} {k : Nat} {w : Int × Int} (h : ws[k]? = some w) (he : kdK sl w.1 = w.2) : missZ sl ws (k + 1) = missZ sl ws k := by
  have hm : ∀ y, y ∈ ws.take (k + 1) ↔ y ∈ ws.take k ∨ y = w := fun y => by rw [List.take_add_one, h]; simp
  unfold missZ
  by_cases c : ∀ x ∈ ws.take k, kdK sl x.1 = x.2
  · rw [if_pos c]
    refine if_pos fun y hy => ?_
    rcases (hm y).1 hy with hy | rfl
    · exact c y hy
    · exact he
  · rw [if_neg c]
    exact if_neg fun d => c fun y hy => d y ((hm y).2 (.inl hy))
theorem miss_ne {sl : List Int} {ws : List (Int × Int)} {k : Nat} {w : Int × Int} (h : ws[k]? = some w) (he : kdK sl w.1 ≠ w.2) : missZ sl ws (k + 1) = 10 :=
  if_neg fun d => he (d w (by rw [List.take_add_one, h]; simp))
theorem wants_bad {sl : List Int} {ws : List (Int × Int)} {k : Nat} {w : Int × Int} (h : ws[k]? = some w) (he : kdE sl w.1 ≠ 0) : wantsZ sl ws = 11 :=
  if_neg fun d => he (d w (List.mem_of_getElem? h))
theorem wants_all {sl : List Int} {ws : List (Int × Int)} {k : Nat} (hk : k = ws.length) (h : ∀ j, j < k → ∀ w, ws[j]? = some w → kdE sl w.1 = 0) : missZ sl ws k = wantsZ sl ws := by
  unfold missZ wantsZ
  rw [hk, List.take_length]
  exact (if_pos fun w hw => by
    obtain ⟨j, hj⟩ := List.getElem?_of_mem hw
    exact h j (by have := (List.getElem?_eq_some_iff.1 hj).1; omega) w hj).symm
/-! ### In memory -/
/-- Where a site's lists lie. -/
structure SV where
  aT : Option Addr
  nT : Nat
  cT : Nat
  aG : Option Addr
  nG : Nat
  cG : Nat
  aF : Option Addr
  nF : Nat
  cF : Nat
  aS : Option Addr
  nS : Nat
  cS : Nat
  aR : Option Addr
  nR : Nat
  cR : Nat
  aC : Option Addr
  nC : Nat
  cC : Nat
  aL : Option Addr
  nL : Nat
  cL : Nat
abbrev SV.v (x : SV) (f : FZ) (i : IZ) : Value := .agg #[.slice x.aT x.nT x.cT, .slice x.aG x.nG x.cG, .slice x.aF x.nF x.cF, .int .i64 f.pa, .slice x.aS x.nS x.cS, .slice x.aR x.nR x.cR, .slice x.aC x.nC x.cC, .int .i64 i.op, .int .i64 i.a, .int .i64 i.b, .int .i64 i.c, .int .u64 (i.imm : Int), .slice x.aL x.nL x.cL]
/-- What a site's lists read as. -/
structure Sit (W : World) (x : SV) (p : PZ) (f : FZ) (i : IZ) : Prop where
  ty : RdS 2 RdTy (· < W.heap.size) W (.slice x.aT x.nT x.cT) p.ty
  gl : RdS 1 RdI (· < W.heap.size) W (.slice x.aG x.nG x.cG) p.gl
  fu : RdS 4 RdFn (· < W.heap.size) W (.slice x.aF x.nF x.cF) p.fu
  sl : RdS 1 RdI (· < W.heap.size) W (.slice x.aS x.nS x.cS) f.sl
  re : RdS 1 RdI (· < W.heap.size) W (.slice x.aR x.nR x.cR) f.re
  co : RdS 6 RdIns (· < W.heap.size) W (.slice x.aC x.nC x.cC) f.co
  li : RdS 1 RdI (· < W.heap.size) W (.slice x.aL x.nL x.cL) i.l
  eT : x.nT = p.ty.length
  eG : x.nG = p.gl.length
  eF : x.nF = p.fu.length
  eS : x.nS = f.sl.length
  eR : x.nR = f.re.length
  eC : x.nC = f.co.length
  eL : x.nL = i.l.length
  ka : I64 i.a
  kb : I64 i.b
  kc : I64 i.c
section
variable {W w w' : World} {x : SV} {p : PZ} {f : FZ} {i : IZ}
theorem Sit.cha (h : Sit W x p f i) (c : Cha (fun _ => False) W w) : Sit w x p f i :=
  { h with
    ty := h.ty.tys c (fun _ f => f.elim) fun _ hi => Nat.lt_of_lt_of_le hi c.size
    gl := h.gl.ints c (fun _ f => f.elim) fun _ hi => Nat.lt_of_lt_of_le hi c.size
    fu := h.fu.fns c (fun _ f => f.elim) fun _ hi => Nat.lt_of_lt_of_le hi c.size
    sl := h.sl.ints c (fun _ f => f.elim) fun _ hi => Nat.lt_of_lt_of_le hi c.size
    re := h.re.ints c (fun _ f => f.elim) fun _ hi => Nat.lt_of_lt_of_le hi c.size
    co := h.co.inss c (fun _ f => f.elim) fun _ hi => Nat.lt_of_lt_of_le hi c.size
    li := h.li.ints c (fun _ f => f.elim) fun _ hi => Nat.lt_of_lt_of_le hi c.size }
/-- A block that has just been made is kept. -/
theorem box_keep {cs : Array Value} {t : TypeId} (h : Cha (fun _ => False) (W.alloc (.cells cs t)) w) (k : Nat) : w.cell? ⟨W.heap.size, k, none⟩ = cs[k]? :=
  cell_of_row w W.heap.size k cs t (0, 0) ((h.old W.heap.size (by rw [World.size_alloc]; omega) (fun f => f)).trans (heap_alloc_new W _))
/-- A slot and its kind. -/
def RdW (_ : Nat → Prop) (W : World) (b o : Nat) (x : Int × Int) : Prop := W.cell? ⟨b, o, none⟩ = some (.int .i64 x.1) ∧ W.cell? ⟨b, o + 1, none⟩ = some (.int .i64 x.2)
theorem RdS.wants {B B' : Nat → Prop} {S : Nat → Prop} {v : Value} {ws : List (Int × Int)} (h : RdS 2 RdW B W v ws) (c : Cha S W w) (hS : ∀ i, S i → ¬ B i) (hB : ∀ i, B i → B' i) : RdS 2 RdW B' w v ws :=
  h.map hB c.size fun _ _ _ hb h => ⟨cell_cha c hS hb h.1, cell_cha c hS hb h.2⟩
/-- What a call leaves that answers a kind and an error. -/
def SaysK (W : World) (k e : Int) : Ending → World → Prop := fun r w' => r = .returned (.tuple #[.int .i64 k, .int .i64 e]) ∧ Cha (fun _ => False) W w'
theorem kindof_any (h : Sit W x p f i) (s : Int) : Calls Try.prog 114 #[x.v f i, .int .i64 s] W (SaysK W (kdK f.sl s) (kdE f.sl s)) := by
  have HS := Lib.hid h.sl
  have hn := h.eS
  clear h
  obtain ⟨aT, nT, cT, aG, nG, cG, aF, nF, cF, aS, nS, cS, aR, nR, cR, aC, nC, cC, aL, nL, cL⟩ := x
  obtain ⟨pa, sl, re, co⟩ := f
  obtain ⟨op, a, b, c, im, li⟩ := i
  dsimp only [SV.v] at *
  rcases kd_cases sl s with ⟨k, z, rfl, hz, hlt⟩ | ho
  · rw [kdE_in hz, kdK_in hz]
    rw [← hn] at hlt
    obtain ⟨b, o, _, he, hb, hbs, hx⟩ := HS.out.at hz
    obtain rfl : aS = some ⟨b, o, none⟩ := by injection he
    have hc := hx.1
    rw [Nat.mul_one] at hc
    clear he hx hz hb hn
    go_enter Try.func114, Try.ntmps114
    go_wp2
    go_returns
    exact ⟨rfl, cha_box⟩
  · rw [kdE_out ho, kdK_out ho]
    rw [← hn] at ho
    clear hn
    by_cases h0 : s < 0
    · clear ho
      go_enter Try.func114, Try.ntmps114
      go_wp2
      go_returns
      exact ⟨rfl, cha_box⟩
    · have h1 : (nS : Int) ≤ s := by omega
      clear ho
      go_enter Try.func114, Try.ntmps114
      go_wp2
      go_returns
      exact ⟨rfl, cha_box⟩
set_option maxRecDepth 100000 in
set_option maxHeartbeats 1000000 in
theorem slots_any (h : Sit W x p f i) {aW : Option Addr} {nW cW : Nat} {ws : List (Int × Int)} (hw : RdS 2 RdW (· < W.heap.size) W (.slice aW nW cW) ws) (hnW : nW = ws.length) : Calls Try.prog 89 #[x.v f i, .slice aW nW cW] W (Says W (.int .i64 (wantsZ f.sl ws))) := by
  have CK : Hid (∀ w s, Cha (fun _ => False) W w → Calls Try.prog 114 #[x.v f i, .int .i64 s] w (SaysK w (kdK f.sl s) (kdE f.sl s))) := Lib.hid fun w s c => kindof_any (h.cha c) s
  have HW := Lib.hid hw
  have hlen := hw.len
  rw [← hnW] at hlen
  clear h hw
  obtain ⟨aT, nT, cT, aG, nG, cG, aF, nF, cF, aS, nS, cS, aR, nR, cR, aC, nC, cC, aL, nL, cL⟩ := x
  obtain ⟨pa, sl, re, co⟩ := f
  obtain ⟨op, a, b, c, im, li⟩ := i
  dsimp only [SV.v] at *
  obtain ⟨R, hR⟩ : ∃ R, R = wantsZ sl ws := ⟨_, rfl⟩
  have R11 : Hid (∀ k (w : Int × Int), ws[k]? = some w → kdE sl w.1 ≠ 0 → R = 11) := Lib.hid fun k w h he => hR ▸ wants_bad h he
  have RA : Hid ((∀ j, j < nW → ∀ w, ws[j]? = some w → kdE sl w.1 = 0) → missZ sl ws nW = R) := Lib.hid fun h => hR ▸ wants_all hnW h
  rw [← hR]
  clear hR
  have HN := Lib.hid hnW
  clear hnW
  have M0 := Lib.hid (miss_zero sl ws)
  have KB : Hid (∀ w, Cha (fun _ => False) (W.alloc (.cells #[.slice aT nT cT, .slice aG nG cG, .slice aF nF cF, .int .i64 pa, .slice aS nS cS, .slice aR nR cR, .slice aC nC cC, .int .i64 op, .int .i64 a, .int .i64 b, .int .i64 c, .int .u64 (im : Int), .slice aL nL cL] 92)) w → ∀ k, w.cell? ⟨W.heap.size, k, none⟩ = (#[.slice aT nT cT, .slice aG nG cG, .slice aF nF cF, .int .i64 pa, .slice aS nS cS, .slice aR nR cR, .slice aC nC cC, .int .i64 op, .int .i64 a, .int .i64 b, .int .i64 c, .int .u64 (im : Int), .slice aL nL cL] : Array Value)[k]?) := Lib.hid fun w h k => box_keep h k
  obtain ⟨W0, hW0⟩ : ∃ w, w = W.alloc (.cells #[.slice aT nT cT, .slice aG nG cG, .slice aF nF cF, .int .i64 pa, .slice aS nS cS, .slice aR nR cR, .slice aC nC cC, .int .i64 op, .int .i64 a, .int .i64 b, .int .i64 c, .int .u64 (im : Int), .slice aL nL cL] 92) := ⟨_, rfl⟩
  have C0 : Hid (Cha (fun _ => False) W W0) := Lib.hid (hW0 ▸ cha_box)
  have C00 : Hid (Cha (fun _ => False) W0 (W.alloc (.cells #[.slice aT nT cT, .slice aG nG cG, .slice aF nF cF, .int .i64 pa, .slice aS nS cS, .slice aR nR cR, .slice aC nC cC, .int .i64 op, .int .i64 a, .int .i64 b, .int .i64 c, .int .u64 (im : Int), .slice aL nL cL] 92))) := Lib.hid (hW0 ▸ Cha.refl _ _)
  rw [← hW0] at KB
  clear hW0
  go_enter Try.func89, Try.ntmps89
  go_wp2
  go_loopw [5, 12] (fun m i wr => ∃ k : Nat, k ≤ nW ∧ i = .int .i64 (k : Int) ∧ m = .int .i64 (missZ sl ws k) ∧ Cha (fun _ => False) W0 wr ∧ ∀ j, j < k → ∀ z, ws[j]? = some z → kdE sl z.1 = 0) (fun _ i _ => nW - (intOf i).toNat)
  case atStart => exact ⟨0, Nat.zero_le _, rfl, by rw [M0.out], C00.out, fun j hj => by omega⟩
  case round =>
    obtain ⟨k, hk, rfl, rfl, hC, hA⟩ := hrel
    have C := Lib.hid hC
    have A := Lib.hid hA
    have b0 := KB.out _ hC 0
    have b1 := KB.out _ hC 1
    have b2 := KB.out _ hC 2
    have b3 := KB.out _ hC 3
    have b4 := KB.out _ hC 4
    have b5 := KB.out _ hC 5
    have b6 := KB.out _ hC 6
    have b7 := KB.out _ hC 7
    have b8 := KB.out _ hC 8
    have b9 := KB.out _ hC 9
    have b10 := KB.out _ hC 10
    have b11 := KB.out _ hC 11
    have b12 := KB.out _ hC 12
    simp only [List.getElem?_toArray, List.getElem?_cons_zero, List.getElem?_cons_succ] at b0 b1 b2 b3 b4 b5 b6 b7 b8 b9 b10 b11 b12
    have s0 : W.heap.size < wr.heap.size := block_lt_of_cell b0
    clear hC hA
    obtain ⟨M, hM⟩ : ∃ M, M = missZ sl ws k := ⟨_, rfl⟩
    by_cases hlt : k < nW
    · obtain ⟨⟨y, z⟩, hz⟩ : ∃ z, ws[k]? = some z := ⟨_, List.getElem?_eq_getElem (by have := HN.out; omega)⟩
      obtain ⟨bw, o, _, he, hb, hbs, hx⟩ := (HW.out.wants (C0.out.trans C.out) (fun _ f => f.elim) (fun _ h => h) (B' := (· < W.heap.size))).at hz
      obtain rfl : aW = some ⟨bw, o, none⟩ := by injection he
      have q0 := hx.1
      have q1 := hx.2
      dsimp only at q0 q1
      have CZ : Hid (∀ ob, Calls Try.prog 114 #[.agg #[.slice aT nT cT, .slice aG nG cG, .slice aF nF cF, .int .i64 pa, .slice aS nS cS, .slice aR nR cR, .slice aC nC cC, .int .i64 op, .int .i64 a, .int .i64 b, .int .i64 c, .int .u64 (im : Int), .slice aL nL cL], .int .i64 y] (wr.alloc ob) (SaysK (wr.alloc ob) (kdK sl y) (kdE sl y))) := Lib.hid fun ob => CK.out _ y ((C0.out.trans C.out).alloc ob)
      have HK := Lib.hid hz
      have EQ : Hid (kdK sl y = z → missZ sl ws (k + 1) = M) := Lib.hid fun h => by rw [hM]; exact miss_eq (w := (y, z)) HK.out h
      have NE : Hid (kdK sl y ≠ z → missZ sl ws (k + 1) = 10) := Lib.hid fun h => miss_ne (w := (y, z)) HK.out h
      have BAD : Hid (kdE sl y ≠ 0 → R = 11 ∧ kdE sl y = 11) := Lib.hid fun h => ⟨R11.out k (y, z) HK.out h, by unfold kdE at h ⊢; by_cases c : 0 ≤ y ∧ y < sl.length; exact absurd (if_pos c) h; exact if_neg c⟩
      have HH : Hid (kdE sl y = 0 → ∀ j, j < k + 1 → ∀ x, ws[j]? = some x → kdE sl x.1 = 0) := Lib.hid fun h0 j hj xx hxx => by
        by_cases c : j = k
        · rw [c, HK.out] at hxx
          cases hxx
          exact h0
        · exact A.out j (by omega) xx hxx
      rw [← hM]
      clear he hx hz hb hM
      obtain ⟨E, hE⟩ : ∃ E, E = kdE sl y := ⟨_, rfl⟩
      obtain ⟨K, hK⟩ : ∃ K, K = kdK sl y := ⟨_, rfl⟩
      rw [← hE, ← hK] at CZ
      rw [← hE] at BAD HH
      rw [← hK] at EQ NE
      clear hE hK
      by_cases h0 : E = 0
      · have HH' := Lib.hid (HH.out h0)
        subst h0
        by_cases h1 : K = z
        · have e := Lib.hid (EQ.out h1)
          subst h1
          go_wp2_with (go_at_call 114; ((with_reducible refine (CZ.out _).mono ?_); rintro e w2 ⟨rfl, k2⟩; have C2 := Lib.hid ((C.out.alloc _).trans k2); have q3 := box_keep k2 1; simp only [List.getElem?_toArray, List.getElem?_cons_zero, List.getElem?_cons_succ] at q3; clear k2))
          go_roundw
          case rel => exact ⟨k + 1, by omega, by go_num, by rw [e.out], C2.out, HH'.out⟩
          case measure => simp [intOf]; omega
        · have e := Lib.hid (NE.out h1)
          have h1' : (K == z) = false := by simpa using h1
          have h1'' : (K != z) = true := by simpa using h1
          clear h1
          go_wp2_with (go_at_call 114; ((with_reducible refine (CZ.out _).mono ?_); rintro e w2 ⟨rfl, k2⟩; have C2 := Lib.hid ((C.out.alloc _).trans k2); have q3 := box_keep k2 1; simp only [List.getElem?_toArray, List.getElem?_cons_zero, List.getElem?_cons_succ] at q3; clear k2))
          go_roundw
          case rel => exact ⟨k + 1, by omega, by go_num, by rw [e.out], C2.out, HH'.out⟩
          case measure => simp [intOf]; omega
      · have hB := BAD.out h0
        have e := Lib.hid hB.1
        have e2 := Lib.hid hB.2
        have h0' : (E == 0) = false := by simpa using h0
        have h0'' : (E != 0) = true := by simpa using h0
        clear hB h0
        go_wp2_with (go_at_call 114; ((with_reducible refine (CZ.out _).mono ?_); rintro e w2 ⟨rfl, k2⟩; have C2 := Lib.hid ((C.out.alloc _).trans k2); have q3 := box_keep k2 1; simp only [List.getElem?_toArray, List.getElem?_cons_zero, List.getElem?_cons_succ] at q3; clear k2))
        go_ret
        exact ⟨by first | (rw [e.out, e2.out]; done) | (rw [e.out, e2.out]; rfl), C0.out.trans C2.out⟩
    · obtain rfl : k = nW := by omega
      have e := Lib.hid (RA.out A.out)
      clear hM
      go_wp2
      go_ret
      exact ⟨by first | rfl | (rw [e.out]; rfl) | (rw [← e.out]; rfl), C0.out.trans C.out⟩
theorem or_any {g : Nat} {E1 E2 : Int} {t : TypeId} (h : W.heap[g]? = some (.cells #[.int .i64 E1, .int .i64 E2] t (0, 0))) : Calls Try.prog 88 #[.slice (some ⟨g, 0, none⟩) 2 2] W fun e w' => e = .returned (.int .i64 (orZ E1 E2)) ∧ W = w' := by
  have c0 := cell_of_row W g 0 _ t (0, 0) h
  have c1 := cell_of_row W g 1 _ t (0, 0) h
  simp only [List.getElem?_toArray, List.getElem?_cons_zero, List.getElem?_cons_succ] at c0 c1
  obtain ⟨R, hR⟩ : ∃ R, R = orZ E1 E2 := ⟨_, rfl⟩
  rw [← hR]
  have O0 : Hid (E1 ≠ 0 → R = E1) := Lib.hid fun e => by rw [hR]; exact if_neg e
  have O1 : Hid (E1 = 0 → R = E2) := Lib.hid fun e => by rw [hR]; exact if_pos e
  clear h hR
  go_enter Try.func88, Try.ntmps88
  go_wp2
  go_loopw [8] (fun i wr => ∃ k : Nat, k ≤ 2 ∧ i = .int .i64 (k : Int) ∧ (0 < k → E1 = 0) ∧ (k = 2 → E2 = 0) ∧ W = wr) (fun i _ => 2 - (intOf i).toNat)
  case atStart => exact ⟨0, by omega, rfl, by omega, by omega, rfl⟩
  case round =>
    obtain ⟨k, hk, rfl, k1, k2, rfl⟩ := hrel
    by_cases hk0 : k = 0
    · subst hk0
      clear k1 k2
      by_cases hE : E1 = 0
      · subst hE
        go_wp2
        go_roundw
        case rel => exact ⟨1, by omega, rfl, by simp, by omega, by first | rfl | trivial⟩
        case measure => simp [intOf]
      · have e := Lib.hid (O0.out hE)
        have h1 : (E1 == 0) = false := by simpa using hE
        have h2 : (E1 != 0) = true := by simpa using hE
        clear hE
        go_wp2
        go_ret
        exact ⟨by first | (rw [e.out]; done) | (rw [e.out]; rfl), rfl⟩
    · obtain rfl := k1 (by omega)
      have e := Lib.hid (O1.out rfl)
      by_cases hk1 : k = 1
      · subst hk1
        clear k1 k2
        by_cases hE : E2 = 0
        · subst hE
          go_wp2
          go_roundw
          case rel => exact ⟨2, by omega, rfl, by simp, by simp, by first | rfl | trivial⟩
          case measure => simp [intOf]
        · have h1 : (E2 == 0) = false := by simpa using hE
          have h2 : (E2 != 0) = true := by simpa using hE
          clear hE
          go_wp2
          go_ret
          exact ⟨by first | (rw [e.out]; done) | (rw [e.out]; rfl), rfl⟩
      · obtain rfl : k = 2 := by omega
        obtain rfl := k2 rfl
        go_wp2
        go_ret
        exact ⟨by first | (rw [e.out]; done) | (rw [e.out]; rfl), rfl⟩
end
end Go.Proofs.Ytpdjbhnpahkbpaa
