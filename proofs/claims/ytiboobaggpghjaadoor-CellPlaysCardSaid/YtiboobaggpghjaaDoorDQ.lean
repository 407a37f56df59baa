/- Layer 7's Counts: its contract. -/
import Derived.Test.YtiboobaggpghjaaDoorDP
namespace Go.Proofs.YtiboobaggpghjaaDoor
open Go.ChangeShapes Go.WideShapes Go.ChangeAt Go.RowKit
variable {n pr : Nat} {F : Nat → Prop} {a : Ad} {W : World} {A : List Bk} {y : Bk}

def sumA (f : Bk → Nat) (A : List Bk) : Nat := (A.map f).sum
/-- Of the blocks that don't come any more. -/
def sumL7 (f : Bk → Nat) (left : Lit → Bool) (A : List Bk) : Nat := (A.map fun y => if y.c = -2 ∨ left (.int .i64 (y.b : Int)) = true then 0 else f y).sum
theorem sumA_le {f : Bk → Nat} {B : Nat} : ∀ {A : List Bk}, (∀ y ∈ A, f y ≤ B) → sumA f A ≤ A.length * B
  | [], _ => by simp [sumA]
  | y :: A, h => by
    have ih := sumA_le (A := A) fun z hz => h z (List.mem_cons_of_mem _ hz)
    have := h y (List.mem_cons_self ..)
    unfold sumA at ih ⊢
    rw [List.map_cons, List.sum_cons, List.length_cons, Nat.succ_mul]; omega
theorem sumL7_le {f : Bk → Nat} {left : Lit → Bool} : ∀ {A : List Bk}, sumL7 f left A ≤ sumA f A
  | [] => Nat.le_refl _
  | y :: A => by
    have ih := sumL7_le (f := f) (left := left) (A := A)
    unfold sumA sumL7 at ih ⊢
    rw [List.map_cons, List.map_cons, List.sum_cons, List.sum_cons]
    split <;> omega
theorem sumL7_start {f : Bk → Nat} {left : Lit → Bool} (h : ∀ y ∈ A, y.c ≠ -2 → left (.int .i64 (y.b : Int)) = true) : sumL7 f left A = 0 := by
  unfold sumL7
  induction A with
  | nil => rfl
  | cons y A ih =>
    rw [List.map_cons, List.sum_cons, ih fun z hz => h z (List.mem_cons_of_mem _ hz), if_pos]
    by_cases c : y.c = -2
    · exact .inl c
    · exact .inr (h y (List.mem_cons_self ..) c)
theorem sumL7_end {f : Bk → Nat} {left : Lit → Bool} (hl : ∀ kl, left kl = false) (h0 : ∀ y ∈ A, y.c = -2 → f y = 0) : sumL7 f left A = sumA f A := by
  unfold sumL7 sumA
  congr 1
  refine List.map_congr_left fun y hy => ?_
  by_cases c : y.c = -2
  · rw [if_pos (.inl c), h0 y hy c]
  · rw [if_neg]
    rintro (e | e)
    · exact c e
    · rw [hl] at e; cases e
theorem sameKey_nat (x z : Nat) (hx : x ≤ 1000000) : (Lit.int .i64 (z : Int)).sameKey (.int .i64 (x : Int)) = decide (z = x) := by
  by_cases e : z = x
  · subst e
    rw [WideAt.sameKey_self (keyLit3 hx), decide_eq_true rfl]
  · rw [Maps.sameKey_ne (fun c => e (by injection c with _ c; omega)), decide_eq_false e]
theorem sumL7_step {f : Bk → Nat} {left : Lit → Bool} (hi : Inv n pr A) (hn : n ≤ 4096) (hy : y ∈ A) (hc : y.c ≠ -2) (hl : left (.int .i64 (y.b : Int)) = true) : sumL7 f (fun z => left z && !z.sameKey (.int .i64 (y.b : Int))) A = sumL7 f left A + f y := by
  obtain ⟨A1, A2, rfl, _⟩ := rem_split hi hy
  have hr := hi.rng y hy
  have ap := List.pairwise_append.1 hi.apart
  have oth : ∀ z : Bk, z ∈ A1 ++ y :: A2 → z.b ≠ y.b → (if z.c = -2 ∨ (left (.int .i64 (z.b : Int)) && !(Lit.int .i64 (z.b : Int)).sameKey (.int .i64 (y.b : Int))) = true then 0 else f z) = (if z.c = -2 ∨ left (.int .i64 (z.b : Int)) = true then 0 else f z) := fun z _ hz => by
    rw [sameKey_nat y.b z.b (by omega), decide_eq_false hz]; simp
  have ne1 : ∀ z ∈ A1, z.b ≠ y.b := fun z hz e => by
    have q := ap.2.2 z hz y (List.mem_cons_self ..)
    have := hi.rng z (List.mem_append_left _ hz)
    omega
  have ne2 : ∀ z ∈ A2, z.b ≠ y.b := fun z hz e => by
    have q := (List.pairwise_cons.1 ap.2.1).1 z hz
    have := hi.rng z (List.mem_append_right _ (List.mem_cons_of_mem _ hz))
    omega
  unfold sumL7
  rw [List.map_append, List.map_append, List.map_cons, List.map_cons, List.sum_append, List.sum_append, List.sum_cons, List.sum_cons,
    List.map_congr_left fun z hz => oth z (List.mem_append_left _ hz) (ne1 z hz), List.map_congr_left fun z hz => oth z (List.mem_append_right _ (List.mem_cons_of_mem _ hz)) (ne2 z hz)]
  have e1 : (if y.c = -2 ∨ (left (.int .i64 (y.b : Int)) && !(Lit.int .i64 (y.b : Int)).sameKey (.int .i64 (y.b : Int))) = true then 0 else f y) = f y := if_neg (by rw [sameKey_nat y.b y.b (by omega)]; simp [hc])
  have e2 : (if y.c = -2 ∨ left (.int .i64 (y.b : Int)) = true then 0 else f y) = 0 := if_pos (.inr hl)
  rw [e1, e2]
  omega
def fC (y : Bk) : Nat := cnt y.u
def fW (y : Bk) : Nat := cnt y.u * y.wd
theorem bare_zero (hi : Inv n pr A) (hy : y ∈ A) (hc : y.c = -2) : fC y = 0 ∧ fW y = 0 := by
  rcases hi.kind y hy with ⟨_, _, h3, _⟩ | ⟨h1, _⟩ | ⟨j, _, h2, _⟩
  · unfold fC fW
    rw [h3]
    exact ⟨rfl, by show 0 * _ = 0; omega⟩
  · omega
  · omega
theorem sums_le (hi : Inv n pr A) (hn : n ≤ 4096) (hl : A.length ≤ n) : sumA fC A ≤ 262144 ∧ sumA fW A ≤ 4096 * 16777216 := by
  have h1 : ∀ y ∈ A, fC y ≤ 64 := fun y hy => by
    obtain ⟨_, f2, _⟩ := hi.fits hy
    exact Nat.le_trans (cnt_le y.u) f2
  have h2 : ∀ y ∈ A, fW y ≤ 16777216 := fun y hy => by
    obtain ⟨_, f2, f3, _⟩ := hi.fits hy
    have hr := hi.rng y hy
    have := Nat.mul_le_mul (h1 y hy) (show y.wd ≤ 262144 by omega)
    exact this
  have a1 := sumA_le h1
  have a2 := sumA_le h2
  have b1 : A.length * 64 ≤ 4096 * 64 := Nat.mul_le_mul_right _ (by omega)
  have b2 : A.length * 16777216 ≤ 4096 * 16777216 := Nat.mul_le_mul_right _ (by omega)
  omega

theorem ranges_drewN {w : World} {b r len : Nat} {D : DataW Unit} {left : Lit → Bool} {cn : Nat} (h : w.ranges Tryd.prog 3 ptrR b r len D left cn) (k : Nat) : (w.drewN k).ranges Tryd.prog 3 ptrR b r len D left cn := by
  unfold World.ranges at h ⊢
  exact h
/-- Three numbers are answered; nothing that was there is changed. -/
def Cres (n : Nat) (A : List Bk) (W : World) (e : Ending) (w' : World) : Prop :=
  e = .returned (.tuple #[.int .i64 (sumA fC A : Int), .int .i64 (sumA fW A : Int), .int .i64 (cntF (isU (covA A) n) n : Nat)]) ∧ Cha (fun _ => False) W w'
set_option maxHeartbeats 4000000 in
theorem counts7_any (h : Cl n pr F a W A) : Calls Tryd.prog 29 #[.pointer (some ⟨a.bc, 0, none⟩)] W (Cres n A W) := by
  have c0 := h.c0
  have c1 := h.c1
  have hn := h.nle
  obtain ⟨m, ⟨D, hown, hsz, hat⟩, m2, m3⟩ := h.mp
  have hpm : PM W a.mb m (A.filter nb).length := ⟨D, hown, hsz, hat⟩
  have hsl := sums_le h.inv hn.1 hn.2
  have hmlt := hpm.lt
  have H := Lib.hid h
  have HAT := Lib.hid hat
  have HST : Hid (∀ y ∈ A, y.c ≠ -2 → Maps.has D (.int .i64 (y.b : Int)) = true) := Lib.hid fun y hy hc => by rw [hpm.has hat, m2 y hy hc]; rfl
  have HM2 := Lib.hid m2
  have HM3 := Lib.hid m3
  have HKEY : Hid (∀ (kl : Lit) (v : Value) (y : DataW Unit × List MemPlace), Maps.has D kl = true → ptrR v = some y → (∀ zd, D.atKey kl zd = y.1) → ∃ z ∈ A, z.c ≠ -2 ∧ kl = .int .i64 (z.b : Int) ∧ v = .pointer (some ⟨a.pb z.b, 0, none⟩)) := Lib.hid fun kl v yy hk hv hz => by
    have hb : ∃ p, (natKey kl).bind m = some p := by
      cases hb : (natKey kl).bind m with
      | some p => exact ⟨p, rfl⟩
      | none =>
        have q1 := hz (.lit (.int .i64 0))
        have q2 := hz (.lit (.int .i64 1))
        rw [hat] at q1 q2
        unfold atM at q1 q2
        rw [hb] at q1 q2
        have := q1.trans q2.symm
        simp at this
    obtain ⟨p, hb⟩ := hb
    cases hnk : natKey kl with
    | none => rw [hnk] at hb; cases hb
    | some x =>
      rw [hnk] at hb
      have hb : m x = some p := hb
      obtain ⟨z, z1, z2, z3⟩ := m3 x p hb
      refine ⟨z, z1, z2, by rw [natKey_is hnk, z3], ?_⟩
      have q1 := hz (.lit (.int .i64 0))
      rw [hat] at q1
      unfold atM at q1
      rw [hnk] at q1
      have q1 : (match m x with | some p => DataW.lit (.int .i64 (p : Int)) | none => .lit (.int .i64 0)) = yy.1 := q1
      rw [hb] at q1
      have hp : p = a.pb z.b := by
        have := m2 z z1 z2
        rw [z3, hb] at this
        rw [z3]
        exact Option.some.inj this
      obtain ⟨y1, y2⟩ := yy
      have q1 : DataW.lit (.int .i64 (p : Int)) = y1 := q1
      rw [← q1] at hv
      rw [ptrR_is hv, hp]
  have hFr : ∀ i, F i → i < W.heap.size := h.lt
  have HFR := Lib.hid hFr
  clear h hat hsz m2 m3 hpm hFr
  obtain ⟨r, hr⟩ : ∃ r, r = W.heap.size := ⟨_, rfl⟩
  have HR := Lib.hid hr
  have HR0 : Hid (¬ (0 = r)) := Lib.hid (by rw [hr]; omega)
  have HFN : Hid (∀ i, F i → ¬ (i = r)) := Lib.hid fun i hi => by have := HFR.out i hi; rw [hr]; omega
  obtain ⟨hsl1, hsl2⟩ := hsl
  go_enter Tryd.func29, Tryd.ntmps29
  go_wp2_with (at_range; refine wpList_range_own _ rfl _ 64 rfl 3 74 keyed3 Tryd.underlying64 ptrR a.mb (A.filter nb).length D rfl hown ?_; intro w0 hrg0 hg0 hs0)
  go_frame
  rw [← hr] at hrg0 hs0 ⊢
  clear hr
  have hC0 : Cha (fun j => j = r) W w0 := Cha.of_grownBy hg0 fun k e => by cases e
  go_loopw [5, 6] (fun c wd wr => ∃ left cn, wr.ranges Tryd.prog 3 ptrR a.mb r (A.filter nb).length D left cn ∧ (∀ kl, left kl = true → Maps.has D kl = true) ∧ c = .int .i64 (sumL7 fC left A : Int) ∧ wd = .int .i64 (sumL7 fW left A : Int) ∧ Cha (fun j => j = r) W wr ∧ r < wr.heap.size) (fun _ _ wr => wr.rangeLeft a.mb r)
  case atStart => exact ⟨_, _, hrg0, fun kl hk => hk, by rw [sumL7_start HST.out]; rfl, by rw [sumL7_start HST.out]; rfl, hC0, by omega⟩
  case round =>
    clear hrg0 hg0 hs0 hC0 hown
    obtain ⟨left, cn, hrg, hsub, rfl, rfl, hC, hrlt⟩ := hrel
    have HC := Lib.hid hC
    have HSUB := Lib.hid hsub
    have HRG := Lib.hid hrg
    have hle1 := sumL7_le (f := fC) (left := left) (A := A)
    have hle2 := sumL7_le (f := fW) (left := left) (A := A)
    clear hC hsub
    go_wp2_with (at_next; refine wpList_next_ranges _ rfl _ rfl 3 keyed3 ptrR (Value.int .i64) id (fun key kl hk => by obtain ⟨x, hx, _⟩ := Maps.keyOf_int_inv Tryd.underlying3 hk; exact ⟨x, hx⟩) (fun v _ _ => ⟨v, rfl⟩) a.mb r (A.filter nb).length D left cn rfl hrg ?_ ?_)
    · intro hc0 hl0
      have H1 := H.out.cha HC.out HFN.out HR0.out
      obtain ⟨L, t1, t2⟩ := H1.tl
      have d0 := H1.c0
      have C48 := counts5 t1.2
      rw [t2.cov] at C48
      have C48 := Lib.hid C48
      have E1 := Lib.hid (sumL7_end (f := fC) hl0 fun y hy hc => (bare_zero H.out.inv hy hc).1)
      have E2 := Lib.hid (sumL7_end (f := fW) hl0 fun y hy hc => (bare_zero H.out.inv hy hc).2)
      clear H1 t1 t2 hl0 hrg
      go_wp2_with (go_at_call 48; ((with_reducible refine (C48.out).mono ?_); rintro e w1 ⟨rfl, hc⟩; have HX := Lib.hid hc; clear hc))
      go_ret3
      refine ⟨by rw [E1.out, E2.out]; rfl, ?_⟩
      have hrr := HR.out
      exact (Cha.refl (fun _ => False) W).over (HC.out.trans HX.out.wide) (fun i hi => .inr (by have hi : i = r := hi; omega))
    · intro x c kl y1 y2 w1 cn1 hkey hlk hv hz hrg1 hlt hg1 hs1 hen
      obtain ⟨z, z1, z2, rfl, hcv⟩ := HKEY.out kl c (y1, y2) (HSUB.out kl hlk) hv hz
      have hcv : c = .pointer (some ⟨a.pb z.b, 0, none⟩) := hcv
      subst hcv
      have hc1 := HC.out.trans (Cha.of_grownBy (S := fun j => j = r) hg1 fun k e => by cases e; rfl)
      have B := (H.out.cha hc1 HFN.out HR0.out).bl z z1 z2
      obtain ⟨b0, b3, b4, b5, b6⟩ := B.cells
      have HC1 := Lib.hid hc1
      have S1 := Lib.hid (sumL7_step (f := fC) H.out.inv hn.1 z1 z2 hlk)
      have S2 := Lib.hid (sumL7_step (f := fW) H.out.inv hn.1 z1 z2 hlk)
      have L1 := sumL7_le (f := fC) (left := fun q => left q && !q.sameKey (.int .i64 (z.b : Int))) (A := A)
      have L2 := sumL7_le (f := fW) (left := fun q => left q && !q.sameKey (.int .i64 (z.b : Int))) (A := A)
      rw [S1.out] at L1
      rw [S2.out] at L2
      have HRG1 := Lib.hid hrg1
      have hmul : ((fW z : Nat) : Int) = (cnt z.u : Int) * (z.wd : Int) := Int.natCast_mul _ _
      have hfc : ((fC z : Nat) : Int) = (cnt z.u : Int) := rfl
      have hkey' := Lib.hid hkey
      obtain ⟨x', rfl⟩ : ∃ x', x' = x := ⟨_, rfl⟩
      have SUB1 : Hid (∀ kl, (left kl && !kl.sameKey (.int .i64 (z.b : Int))) = true → Maps.has D kl = true) := Lib.hid fun kl h => HSUB.out kl (by simp at h; exact h.1)
      clear hrg1 hkey hv hz B hc1 hg1 hrg
      generalize sumL7 fC left A = s1 at *
      generalize sumL7 fW left A = s2 at *
      generalize sumA fC A = t1 at *
      generalize sumA fW A = t2 at *
      have hfz : fC z = cnt z.u := rfl
      have L1 : s1 + cnt z.u ≤ t1 := L1
      have hs1b : s1 ≤ 262144 := by omega
      have hczb : cnt z.u ≤ 262144 := by omega
      have m0 : 0 ≤ (cnt z.u : Int) * (z.wd : Int) := by omega
      have m1 : (cnt z.u : Int) * (z.wd : Int) ≤ 4096 * 16777216 := by omega
      have q1 : IntKind.i64.wrap ((cnt z.u : Int) * (z.wd : Int)) = (cnt z.u : Int) * (z.wd : Int) := IntWalk.i64_in _ (by omega)
      have q2 : IntKind.i64.wrap ((s2 : Int) + (cnt z.u : Int) * (z.wd : Int)) = (s2 : Int) + (cnt z.u : Int) * (z.wd : Int) := IntWalk.i64_in _ (by omega)
      have FR : Hid (Cha (fun j => j = r) W w1) := HC1
      go_wp2
      go_quiet (fail)
      go_wp2
      go_roundw
      case rel =>
        refine ⟨_, cn1, ranges_drewN HRG1.out _, SUB1.out, ?_, ?_, FR.out.drewN _, by rw [← hs1] at hrlt; exact hrlt⟩
        · have : ((s1 + fC z : Nat) : Int) = (s1 : Int) + (cnt z.u : Int) := Int.natCast_add _ _
          rw [S1.out, this]
        · rw [S2.out]
          have : ((s2 + fW z : Nat) : Int) = (s2 : Int) + (cnt z.u : Int) * (z.wd : Int) := by omega
          rw [this]
      case measure =>
        have e1 := HRG1.out.left_eq
        have e2 := HRG.out.left_eq
        show w1.rangeLeft a.mb r < wr.rangeLeft a.mb r
        rw [e1, e2]; exact hlt
end Go.Proofs.YtiboobaggpghjaaDoor
