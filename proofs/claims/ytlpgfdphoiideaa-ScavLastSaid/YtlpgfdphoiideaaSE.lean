/- The document's map: New, Use, DocFree, Count. -/
import Derived.Test.YtlpgfdphoiideaaSD
namespace Go.Proofs.Ytlpgfdphoiideaa
open Go.ChangeShapes Go.WideShapes Go.ChangeAt Go.RowKit
section
variable {w w' : World} {bs bp N : Nat} {st st' : Nat → Int}
theorem dsnew_ok (n : Nat) (w : World) (h1 : 1 ≤ n) (h2 : n ≤ 4096) :
    Calls Try.prog 31 #[.int .i64 n] w fun e w' => e = .returned (.tuple #[.pointer (some ⟨w.heap.size + 1, 0, none⟩), .int .i64 0]) ∧ Sv 81 3 w' (w.heap.size + 1) w.heap.size n (fun _ => 0) ∧ Cha (fun _ => False) w w' := by
  have M := Lib.hid fun W => mk_ints n (by omega) W
  have F : Hid (Sv 81 3 ((w.alloc (.cells (fcells n fun _ => .int .i64 0) 3)).alloc (.cells #[.slice (some ⟨w.heap.size, 0, none⟩) n n] 81)) (w.heap.size + 1) w.heap.size n (fun _ => 0) ∧ Cha (fun _ => False) w ((w.alloc (.cells (fcells n fun _ => .int .i64 0) 3)).alloc (.cells #[.slice (some ⟨w.heap.size, 0, none⟩) n n] 81))) :=
    Lib.hid ⟨⟨heap_alloc2_new w _ _, heap_alloc2_old w _ _, by omega, h1, h2⟩, ((Cha.refl _ w).alloc _).alloc _⟩
  go_enter Try.func31, Try.ntmps31
  go_wp2_with (rw [M.out])
  go_returns
  exact ⟨rfl, F.out⟩
theorem dsnew_bad (n : Int) (w : World) (h : n < 1 ∨ 4096 < n) :
    Calls Try.prog 31 #[.int .i64 n] w fun e w' => e = .returned (.tuple #[.pointer none, .int .i64 1]) ∧ w = w' := by
  by_cases h1 : n < 1
  · clear h
    go_enter Try.func31, Try.ntmps31
    go_wp2
    go_returns
    exact ⟨rfl, rfl⟩
  · have h2 : 4096 < n := by omega
    clear h
    go_enter Try.func31, Try.ntmps31
    go_wp2
    go_returns
    exact ⟨rfl, rfl⟩
/-- What a call leaves of the document's map. -/
def SdL (w w' : World) (bs bp N : Nat) (st : Nat → Int) : Prop := Sv 81 3 w' bs bp N st ∧ Cha (· = bp) w w'
theorem SdL.of (h : Sv 81 3 w bs bp N st) (c : Cha (fun _ => False) w w') : SdL w w' bs bp N st := ⟨h.same c, c.wide⟩
theorem turn_bad (h : Sv 81 3 w bs bp N st) (base n x : Int) (u : Bool) (hb : bad N base n = true) (b1 : isI base) (n1 : isI n) :
    Calls Try.prog 55 #[.pointer (some ⟨bs, 0, none⟩), .int .i64 base, .int .i64 n, .bool u, .int .i64 x] w fun e w' => e = .returned (.tuple #[.int .i64 0, .int .i64 1]) ∧ w = w' := by
  have c0 := h.cell
  have hn := h.n2
  obtain ⟨b0, b1⟩ := b1
  obtain ⟨n0, n1⟩ := n1
  have k : base < 0 ∨ (0 ≤ base ∧ n < 1) ∨ (0 ≤ base ∧ 1 ≤ n ∧ (N : Int) ≤ base) ∨ (0 ≤ base ∧ 1 ≤ n ∧ base < N ∧ (N : Int) - base < n) := by
    have := bad_yes hb
    omega
  clear h hb
  rcases k with k | ⟨k, k2⟩ | ⟨k, k2, k3⟩ | ⟨k, k2, k3, k4⟩
  · go_enter Try.func55, Try.ntmps55
    go_wp2
    go_returns
    exact ⟨rfl, rfl⟩
  · go_enter Try.func55, Try.ntmps55
    go_wp2
    go_returns
    exact ⟨rfl, rfl⟩
  · go_enter Try.func55, Try.ntmps55
    go_wp2
    go_returns
    exact ⟨rfl, rfl⟩
  · have hw : IntKind.i64.wrap ((N : Int) - base) = (N : Int) - base := by rw [IntKind.wrap_i64]; omega
    go_enter Try.func55, Try.ntmps55
    go_wp2
    go_returns
    exact ⟨rfl, rfl⟩
set_option maxHeartbeats 8000000 in
theorem turn_any (h : Sv 81 3 w bs bp N st) (o m : Nat) (x : Int) (u : Bool) (hm : 1 ≤ m) (ho : o + m ≤ N) :
    Calls Try.prog 55 #[.pointer (some ⟨bs, 0, none⟩), .int .i64 o, .int .i64 m, .bool u, .int .i64 x] w fun e w' =>
      ((∀ i, o ≤ i → i < o + m → (st i == 2) = u) ∧ e = .returned (.tuple #[.int .i64 (cn st 0 o m : Nat), .int .i64 0]) ∧ SdL w w' bs bp N (fil st o m x)) ∨
      ((∃ i, o ≤ i ∧ i < o + m ∧ (st i == 2) ≠ u) ∧ e = .returned (.tuple #[.int .i64 0, .int .i64 5]) ∧ w = w') := by
  have c0 := h.cell
  have hn := h.n2
  have H := Lib.hid h
  have H0 : Hid (SdL w w bs bp N (fil st o 0 x)) := Lib.hid (by rw [fil_zero]; exact SdL.of h (Cha.refl _ w))
  have hle := cn_le st 0 o
  have hw : IntKind.i64.wrap ((N : Int) - (o : Int)) = (N : Int) - (o : Int) := by rw [IntKind.wrap_i64]; omega
  have hw2 : IntKind.i64.wrap ((o : Int) + (m : Int)) = ((o + m : Nat) : Int) := by rw [IntKind.wrap_i64]; omega
  have HLE := Lib.hid hle
  clear h hle
  go_enter Try.func55, Try.ntmps55
  go_wp2
  go_loop [12] (fun i => ∃ j : Nat, j ≤ m ∧ i = .int .i64 ((o + j : Nat) : Int) ∧ (∀ i, o ≤ i → i < o + j → (st i == 2) = u)) (fun i => o + m - (intOf i).toNat)
  case atStart => exact ⟨0, Nat.zero_le _, rfl, fun i h1 h2 => by omega⟩
  case round =>
    obtain ⟨j, hj, rfl, hok⟩ := hrel
    by_cases hlt : j < m
    · have hc := H.out.at (i := o + j) (by omega)
      have HK := Lib.hid hok
      clear hok
      obtain ⟨v, hv⟩ : ∃ v, st (o + j) = v := ⟨_, rfl⟩
      rw [hv] at hc
      obtain ⟨f, hf⟩ : ∃ f, (v == 2) = f := ⟨_, rfl⟩
      have HV := Lib.hid hv
      have HF := Lib.hid hf
      clear hv
      by_cases he : f = u
      · subst he
        have hfu : (f != f) = false := by simp
        go_wp2
        go_round
        case rel => exact ⟨j + 1, hlt, by go_num, fun i h1 h2 => by
          by_cases e : i = o + j
          · subst e; rw [HV.out]; exact HF.out
          · exact HK.out i h1 (by omega)⟩
        case measure => simp [intOf]; omega
      · have hfu : (f != u) = true := by simpa using he
        have hfu2 : (!f == u) = true := by revert he; cases f <;> cases u <;> simp
        have HE := Lib.hid he
        clear he
        go_wp2
        go_returns
        exact .inr ⟨⟨o + j, by omega, by omega, by rw [HV.out, HF.out]; exact HE.out⟩, rfl, rfl⟩
    · obtain rfl : j = m := by omega
      have HK := Lib.hid hok
      clear hok
      go_wp2
      go_loopw [13, 14] (fun v i wr => ∃ k : Nat, k ≤ j ∧ i = .int .i64 ((o + k : Nat) : Int) ∧ v = .int .i64 (cn st 0 o k : Nat) ∧ SdL w wr bs bp N (fil st o k x)) (fun _ i _ => o + j - (intOf i).toNat)
      case atStart => exact ⟨0, Nat.zero_le _, rfl, rfl, H0.out⟩
      case round =>
        obtain ⟨k, hk, rfl, rfl, hS⟩ := hrel
        have c0 := hS.1.cell
        have HS := Lib.hid hS
        by_cases hlt : k < j
        · have hc := hS.1.at (i := o + k) (by omega)
          have hfr := hS.1.row.free (o + k)
          have e0 : fil st o k x (o + k) = st (o + k) := by unfold fil; rw [if_neg (by omega)]
          rw [e0] at hc
          have hq := HLE.out k
          obtain ⟨y, hy⟩ : ∃ y, cn st 0 o (k + 1) = y := ⟨_, rfl⟩
          have hy2 : cn st 0 o (k + 1) = cn st 0 o k + if st (o + k) = 0 then 1 else 0 := rfl
          obtain ⟨v, hv⟩ : ∃ v, st (o + k) = v := ⟨_, rfl⟩
          rw [hv] at hc hy2
          have HY := Lib.hid hy
          rw [hy] at hy2
          have hC : Hid (Cha (· = bp) w (World.setCell _ ⟨bp, o + k, none⟩ (.int .i64 x))) := Lib.hid (hS.2.setCell (p := ⟨bp, o + k, none⟩) (fun _ => rfl) (.int .i64 x))
          have HN := Lib.hid (hS.1.row.set (i := o + k) (.int .i64 x))
          have HP : Hid (SdL w (World.setCell _ ⟨bp, o + k, none⟩ (.int .i64 x)) bs bp N (fil st o (k + 1) x)) := Lib.hid ⟨hS.1.put (Cha.setCell (S := (· = bp)) (p := ⟨bp, o + k, none⟩) (Cha.refl _ _) (fun _ => rfl) _) (HN.out.congr fun i hi => by rw [← fil_succ]; by_cases e : i = o + k <;> simp [e]), hC.out⟩
          clear hS hv hy e0 HN hC
          generalize cn st 0 o k = q at *
          by_cases he : v = 0
          · rw [if_pos he] at hy2
            have he1 : (v == 0) = true := by simpa using he
            subst hy2
            clear he
            go_wp2
            go_roundw
            case rel => exact ⟨k + 1, hlt, by go_num, by rw [HY.out]; rfl, HP.out⟩
            case measure => simp [intOf]; omega
          · rw [if_neg he] at hy2
            have he1 : (v == 0) = false := by simpa using he
            rw [Nat.add_zero] at hy2
            subst hy2
            clear he
            go_wp2
            go_roundw
            case rel => exact ⟨k + 1, hlt, by go_num, by rw [HY.out], HP.out⟩
            case measure => simp [intOf]; omega
        · obtain rfl : k = j := by omega
          clear hS
          go_wp2
          go_returns
          exact .inl ⟨HK.out, rfl, HS.out⟩
end
end Go.Proofs.Ytlpgfdphoiideaa
