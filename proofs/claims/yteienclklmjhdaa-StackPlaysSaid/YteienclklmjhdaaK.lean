/- Contracts of stack: lay. -/
import Derived.Test.YteienclklmjhdaaJ
import Derived.Lib.SliceRun
import Derived.Laws.CopyOwn
namespace Go.Proofs.Yteienclklmjhdaa
open Go.ChangeShapes Go.WideShapes Go.ChangeAt Go.RowKit
variable {W W' : World} {F : Nat → Prop} {bs bw bm : Nat} {s : St}

theorem size_setCells (b : Nat) : ∀ (vs : List Value) (o : Nat) (w : World), (w.setCells b o vs).heap.size = w.heap.size
  | [], _, _ => rfl
  | v :: r, o, w => by rw [World.setCells, size_setCells b r]; simp [World.setCell]
theorem heap_setCells_other (b k : Nat) (hk : k ≠ b) : ∀ (vs : List Value) (o : Nat) (w : World), (w.setCells b o vs).heap[k]? = w.heap[k]?
  | [], _, _ => rfl
  | v :: r, o, w => by rw [World.setCells, heap_setCells_other b k hk r, heap_setCell_other _ _ _ _ hk]
theorem out_setCells (b : Nat) : ∀ (vs : List Value) (o : Nat) (w : World), (w.setCells b o vs).os = w.os ∧ (w.setCells b o vs).output = w.output
  | [], _, _ => ⟨rfl, rfl⟩
  | v :: r, o, w => by rw [World.setCells]; exact out_setCells b r (o + 1) _
theorem Cha.setCells {S : Nat → Prop} {a b : World} (h : Cha S a b) {g : Nat} (hp : g < a.heap.size → S g) (o : Nat) (vs : List Value) : Cha S a (b.setCells g o vs) :=
  ⟨(out_setCells g vs o b).1.trans h.os, (out_setCells g vs o b).2.trans h.out, by rw [size_setCells]; exact h.size, fun i hi hs => (heap_setCells_other g i (fun e => hs (e ▸ hp (e ▸ hi))) vs o b).trans (h.old i hi hs)⟩
theorem Cha.off {S : Nat → Prop} {a b : World} (h : Cha S a.drew.drew b) : Cha S a b := ⟨h.os, h.out, h.size, h.old⟩
theorem FRow.fill {t : TypeId} {g k : Nat} (z : Value) : ∀ (n o : Nat) {w : World} {r : Nat → Value}, FRow t w g k r → FRow t (w.setCells g o (List.replicate n z)) g k (fun i => if o ≤ i ∧ i < o + n then z else r i)
  | 0, o, w, r, h => h.congr fun i _ => by rw [if_neg (by omega)]
  | n + 1, o, w, r, h => by
    rw [List.replicate_succ, World.setCells]
    refine (FRow.fill z n (o + 1) (h.set (i := o) z)).congr fun i _ => ?_
    by_cases c : i = o
    · rw [if_neg (by omega), if_pos c, if_pos (by omega)]
    · rw [if_neg c]
      by_cases c2 : o + 1 ≤ i ∧ i < o + 1 + n
      · rw [if_pos c2, if_pos (by omega)]
      · rw [if_neg c2, if_neg (by omega)]
theorem zero28 (w : World) : (zeroValue 28).run Try.prog w = .ok (.int .u64 0) w := by kernel_rfl
theorem run_clear_zero (w : World) (ty : TypeId) (a : Option Addr) (c : Nat) : (Builtin.clear_ #[50] ty #[.slice a 0 c]).run Try.prog w = .ok (.tuple #[]) w := by
  have hu := run_underlying (w := w) Try.underlying50
  cases a <;> simp [Builtin.clear_, hu, Result.andThen]
theorem step_clear {ops : Array Oper} {o : Oper} {a : Act} {w : World} {K : Act → World → Prop} {Q : Exit → Act → World → Prop} {E : Prop} (hgd : o.guard = none) (d : Operand)
    (ho : o.op = .call { callee := .builtin .clear, args := #[d], argTypes := #[50] }) (sp : Option Addr) (n c : Nat) (hd : a.eval d = .slice sp n c)
    (g off k : Nat) (r : Nat → Value) (hpos : 0 < n → sp = some ⟨g, off, none⟩) (hg : FRow 28 w g k r) (hfit : off + n ≤ k)
    (h : ∀ w', FRow 28 w' g k (fun i => if off ≤ i ∧ i < off + n then .int .u64 0 else r i) → Cha (fun i => i = g) w w' → K (a.put o.dst (.tuple #[])) w') :
    if Region.wanted o (yielded ops a.tmps) = true then Oper.wp Try.prog o a w K Q else E := by
  have hw : Region.wanted o (yielded ops a.tmps) = true := by simp [Region.wanted, hgd]
  rw [if_pos hw]
  by_cases h0 : n = 0
  · subst h0
    have hrun := run_clear_zero w o.type sp c
    unfold Oper.wp
    simp [execOp, ho, resolve, invoke, builtin, hd, hrun, Result.andThen]
    exact h w (hg.congr fun i _ => by rw [if_neg (by omega)]) (Cha.refl _ _)
  · obtain rfl := hpos (by omega)
    have hrun := Lib.run_clear_slice (P := Try.prog) w 50 28 o.type (.int .u64 0) Try.underlying50 zero28 rfl rfl g off n c (by omega) (fun j hj => by rw [hg.cell (by omega)]; rfl) (fun j _ => hg.free _)
    unfold Oper.wp
    simp [execOp, ho, resolve, invoke, builtin, hd, hrun, Result.andThen]
    exact h _ (FRow.fill _ n off hg) ((Cha.refl (fun i => i = g) w).setCells (fun _ => rfl) _ _)
set_option maxHeartbeats 2000000 in
theorem lay_any (h : Sk W F bs bw bm s) (n : Nat) (hn : n ≤ 32) (hl : s.fs.length < 64) (hf : pos s.fs + (n + 1) ≤ s.n) :
    Calls Try.prog 29 #[.pointer (some ⟨bs, 0, none⟩), .int .i64 (n : Int)] W fun e W' => e = .returned (.tuple #[]) ∧ Left W W' F bs (s.lay n) := by
  obtain ⟨c0, c1, c2, c3, c4⟩ := h.facts
  obtain ⟨r, r1, r2⟩ := h.row
  have hN := h.ok.n_le
  have hne := h.ne
  have H := Lib.hid h
  have f1 := h.free
  obtain ⟨q, hq⟩ : ∃ q, q = s.n - (pos s.fs + (n + 1)) := ⟨_, rfl⟩
  obtain ⟨t, ht⟩ : ∃ t, t = s.n - pos s.fs := ⟨_, rfl⟩
  have htq : (t : Int) - (1 + (n : Int)) = (q : Int) := by omega
  have HT := Lib.hid ht
  have HQ := Lib.hid hq
  rw [← ht] at c1
  have hqn : q < s.n := by omega
  have hq1 : q + 1 + n ≤ s.n := by omega
  have htq2 : q + 1 + n = t := by omega
  have HROW : Hid (FRow 28 ((W.setCell ⟨bs, 1, none⟩ (.int .i64 (q : Int))).setCell ⟨bw, q, none⟩ (.int .u64 (n : Int))) bw s.n (fun x => if x = q then .int .u64 (n : Int) else r x)) :=
    Lib.hid ((((Cha.refl (fun i => i = bs) W).setCell (p := ⟨bs, 1, none⟩) (fun _ => rfl) _).row r1 (fun e => hne.1 e.symm)).set _)
  have y1 : (W.setCell ⟨bs, 1, none⟩ (.int .i64 (q : Int))).cell? ⟨bw, q, none⟩ = some (r q) := (((Cha.refl (fun i => i = bs) W).setCell (p := ⟨bs, 1, none⟩) (fun _ => rfl) _).row r1 (fun e => hne.1 e.symm)).cell hqn
  have y2 : (W.setCell ⟨bs, 1, none⟩ (.int .i64 (q : Int))).frozen? ⟨bw, q, none⟩ = false := (((Cha.refl (fun i => i = bs) W).setCell (p := ⟨bs, 1, none⟩) (fun _ => rfl) _).row r1 (fun e => hne.1 e.symm)).free _
  have z0 : ((W.setCell ⟨bs, 1, none⟩ (.int .i64 (q : Int))).setCell ⟨bw, q, none⟩ (.int .u64 (n : Int))).cell? ⟨bs, 0, none⟩ = some (.slice (some ⟨bw, 0, none⟩) s.n s.n) := by
    rw [World.cell?_setCell_other _ _ _ _ (by intro c; injection c with c; exact hne.1 c.symm), World.cell?_setCell_other _ _ _ _ (by intro c; injection c with _ c; cases c)]; exact c0
  have z1 : ((W.setCell ⟨bs, 1, none⟩ (.int .i64 (q : Int))).setCell ⟨bw, q, none⟩ (.int .u64 (n : Int))).cell? ⟨bs, 1, none⟩ = some (.int .i64 (q : Int)) := by
    rw [World.cell?_setCell_other _ _ _ _ (by intro c; injection c with c; exact hne.1 c.symm)]
    rw [cell_of_row _ bs 1 _ 57 (0, 0) (heap_setCell_same W bs 1 _ 57 _ h.head)]
    simp [St.cells]
  have i1 : 0 ≤ (q : Int) + 1 := by omega
  have i2 : (q : Int) + 1 ≤ (t : Int) := by omega
  have i3 : (t : Int) ≤ (s.n : Int) := by omega
  have i4 : IntKind.i64.wrap ((q : Int) + 1) = (q : Int) + 1 := IntWalk.i64_in _ (by omega)
  have i5 : ((q : Int) + 1).toNat = q + 1 := by omega
  have HP : Hid (0 < t - (q + 1) → (if s.n = q + 1 then some (⟨bw, 0, none⟩ : Addr) else some ⟨bw, q + 1, none⟩) = some ⟨bw, q + 1, none⟩) := Lib.hid fun hp => by rw [if_neg (by omega)]
  have HF : Hid (q + 1 + (t - (q + 1)) ≤ s.n) := Lib.hid (by omega)
  have HK : Hid (∀ w1, Cha (fun i => i = bw) ((W.setCell ⟨bs, 1, none⟩ (.int .i64 (q : Int))).setCell ⟨bw, q, none⟩ (.int .u64 (n : Int))) w1 → w1.cell? ⟨bs, 3, none⟩ = some (.int .i64 (s.fs.length : Nat)) ∧ w1.frozen? ⟨bs, 3, none⟩ = false) := Lib.hid fun w1 c => by
    have e := c.old bs (by simpa [World.setCell] using h.old _ h.fs) hne.1
    rw [heap_setCell_other _ _ _ _ hne.1, heap_setCell_same W bs 1 _ 57 _ h.head] at e
    exact ⟨by rw [cell_of_row w1 bs 3 _ 57 (0, 0) e]; rfl, frozen_of_row w1 bs 3 _ 57 e⟩
  have hlen : (s.lay n).fs.length = s.fs.length + 1 := rfl
  have hpos2 : pos (s.lay n).fs = pos s.fs + (n + 1) := rfl
  have HOK := Lib.hid (h.ok.lay hn hl hf)
  have HE : Hid (∀ w1, FRow 28 w1 bw s.n (fun i => if q + 1 ≤ i ∧ i < q + 1 + (t - (q + 1)) then .int .u64 0 else (if i = q then .int .u64 (n : Int) else r i)) → Cha (fun i => i = bw) ((W.setCell ⟨bs, 1, none⟩ (.int .i64 (q : Int))).setCell ⟨bw, q, none⟩ (.int .u64 (n : Int))) w1 → Left W (w1.setCell ⟨bs, 3, none⟩ (.int .i64 ((s.fs.length : Int) + 1))) F bs (s.lay n)) := Lib.hid fun w1 fr c => by
    have e := c.old bs (by simpa [World.setCell] using h.old _ h.fs) hne.1
    rw [heap_setCell_other _ _ _ _ hne.1, heap_setCell_same W bs 1 _ 57 _ h.head] at e
    have e2 := heap_setCell_same w1 bs 3 _ 57 (.int .i64 ((s.fs.length : Int) + 1)) e
    have c0 : Cha (fun i => i = bs ∨ i = bw) W w1 := (((Cha.refl (fun i => i = bs ∨ i = bw) W).setCell (p := ⟨bs, 1, none⟩) (fun _ => .inl rfl) _).setCell (p := ⟨bw, q, none⟩) (fun _ => .inr rfl) _).trans (c.mono fun _ _ e => .inr e)
    have c1 : Cha (fun i => i = bs ∨ i = bw) W (w1.setCell ⟨bs, 3, none⟩ (.int .i64 ((s.fs.length : Int) + 1))) := c0.setCell (p := ⟨bs, 3, none⟩) (fun _ => .inl rfl) _
    refine ⟨F, bw, bm, ⟨?_, ⟨_, ((Cha.refl (fun i => i = bs) w1).setCell (p := ⟨bs, 3, none⟩) (fun _ => rfl) _).row fr (fun e => hne.1 e.symm), fun e e1 e2 => ?_⟩, ?_, HOK.out, hne, h.fs, h.fw, h.fm, fun i hi => Nat.lt_of_lt_of_le (h.old i hi) c1.size⟩, c1.mono fun i _ e => e.elim (fun e => e ▸ h.fs) fun e => e ▸ h.fw, fun _ h => .inl h⟩
    · rw [e2]
      have : s.n - (pos s.fs + (n + 1)) = q := by omega
      simp [St.cells, hpos2, hlen]
      exact ⟨rfl, by show (q : Int) = ((s.n - (pos s.fs + (n + 1)) : Nat) : Int); rw [this], rfl⟩
    · rw [hpos2] at e2
      show (if q + 1 ≤ s.n - e ∧ s.n - e < q + 1 + (t - (q + 1)) then Value.int .u64 0 else (if s.n - e = q then .int .u64 (n : Int) else r (s.n - e))) = Wd.v s.n (if e ≤ pos s.fs then s.ct e else if e = pos s.fs + (n + 1) then .num n else .num 0)
      by_cases k1 : e ≤ pos s.fs
      · rw [if_pos k1, if_neg (by omega), if_neg (by omega)]; exact r2 e e1 k1
      · rw [if_neg k1]
        by_cases k2 : e = pos s.fs + (n + 1)
        · rw [if_pos k2, if_neg (by omega), if_pos (by omega)]; rfl
        · rw [if_neg k2, if_pos (by omega)]; rfl
    · refine (h.map.cha c1 (fun e => e.elim (fun e => hne.2.1 e.symm) fun e => hne.2.2 e.symm)).congr fun y => ?_
      unfold St.isPlace
      rw [hpos2]
      show (decide (y < s.n) && decide (s.n ≤ y + pos s.fs) && (s.ct (s.n - y)).isRef) = (decide (y < s.n) && decide (s.n ≤ y + (pos s.fs + (n + 1))) && (if s.n - y ≤ pos s.fs then s.ct (s.n - y) else if s.n - y = pos s.fs + (n + 1) then .num n else .num 0).isRef)
      by_cases k0 : y < s.n
      · by_cases k1 : s.n ≤ y + pos s.fs
        · rw [if_pos (by omega), decide_eq_true k1, decide_eq_true (show s.n ≤ y + (pos s.fs + (n + 1)) by omega)]
        · rw [if_neg (by omega), decide_eq_false k1]
          split <;> simp [Wd.isRef]
      · rw [decide_eq_false k0]; rfl
  clear h r1 r2 ht hq hlen hpos2 hn hf
  go_enter Try.func29, Try.ntmps29
  go_wp2
  go_region
  go_wp2
  go_region_law (refine step_clear rfl (.tmp 39) rfl _ _ _ rfl bw (q + 1) s.n _ HP.out HROW.out HF.out ?_; intro w1 hr1 hc1; have HR1 := Lib.hid hr1; have HC1 := Lib.hid hc1.off; obtain ⟨x3, x4⟩ := HK.out _ hc1.off)
  go_wp2
  all_goals (go_returns; exact ⟨rfl, HE.out _ HR1.out HC1.out⟩)
end Go.Proofs.Yteienclklmjhdaa
