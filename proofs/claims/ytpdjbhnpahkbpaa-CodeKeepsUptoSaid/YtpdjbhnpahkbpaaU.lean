/- Bytes that are compared; the small program. -/
import Derived.Test.YtpdjbhnpahkbpaaQ
import Derived.Laws.BytesArg
namespace Go.Proofs.Ytpdjbhnpahkbpaa
open Go.ChangeShapes Go.WideShapes Go.ChangeAt Go.RowKit

/-- Bytes as a string. -/
def strz (T : List Nat) : ByteArray := strOfNums (T.map fun (x : Nat) => (x : Int))
theorem conv_any {B : Nat → Prop} {W : World} {v : Value} {T : List Nat} (h : RdS 1 RdU8 B W v T) : (convert 27 9 v).run Try.prog W = .ok (.string (strz T)) W := by
  obtain ⟨a, c, rfl, _, h⟩ := h
  have key : ∀ p : Addr, (∀ (j : Nat) (v : Value), ((T.map fun (x : Nat) => (x : Int)).map (Value.int .u8))[j]? = some v → W.cell? (p.add j) = some v) → (convert 27 9 (.slice (some p) T.length c)).run Try.prog W = .ok (.string (strz T)) W := fun p hp => by
    have hl := run_loadCells_list (P := Try.prog) W p ((T.map fun (x : Nat) => (x : Int)).map (Value.int .u8)) hp
    have hl2 : (loadCells p T.length).run Try.prog W = .ok ((T.map fun (x : Nat) => (x : Int)).map (Value.int .u8)).toArray W := by
      have e : ((T.map fun (x : Nat) => (x : Int)).map (Value.int .u8)).length = T.length := by simp
      rw [e] at hl
      exact hl
    rw [run_convert_bytes_string W 27 9 5 _ T.length c Try.underlying27 Try.underlying5 Try.underlying9, run_bytesToString W _ T.length c _ hl2, foldl_push_bytes]
    simp [strz, strOfNums, ByteArray.empty, ByteArray.emptyWithCapacity]
    rfl
  cases a with
  | none =>
    have h0 : T.length = 0 := by
      by_cases c : 0 < T.length
      · obtain ⟨_, _, e, _⟩ := h c
        cases e
      · omega
    obtain rfl : T = [] := List.eq_nil_of_length_eq_zero h0
    rw [run_convert_bytes_nil W 27 5 Try.underlying27 Try.underlying5 _ _ 9 Try.underlying9]
    rfl
  | some p =>
    refine key p fun j v hj => ?_
    have hjl : j < T.length := by
      have := (List.getElem?_eq_some_iff.1 hj).1
      simpa using this
    obtain ⟨b, o, e, _, _, hx⟩ := h (by omega)
    injection e with e
    subst e
    have hc := (hx j T[j] (List.getElem?_eq_getElem hjl)).1
    rw [Nat.mul_one] at hc
    have hv : v = .int .u8 (T[j] : Int) := by
      simp [List.getElem?_eq_getElem hjl] at hj
      exact hj.symm
    rw [hv, Addr.add_mid]
    exact hc
theorem same_any {B B' : Nat → Prop} {W : World} {v v' : Value} {T : List Nat} (h : RdS 1 RdU8 B W v T) (h' : RdS 1 RdU8 B' W v' T) :
    Calls Try.prog 18 #[v, v'] W fun e w' => e = .returned (.bool true) ∧ W = w' := by
  have e1 := conv_any h
  have e2 := conv_any h'
  obtain ⟨a, n, c, rfl⟩ := rds_shape h
  obtain ⟨a', n', c', rfl⟩ := rds_shape h'
  generalize strz T = s at *
  clear h h'
  go_enter Try.func18, Try.ntmps18
  go_wp2
  go_ret
  exact ⟨rfl, rfl⟩
def smallZ (m : Nat) (n : Nat) : PZ := ⟨[], [], [⟨0, [0], [], [⟨1, (n : Int), 0, 0, m, []⟩]⟩]⟩
theorem smallFit {m n : Nat} (hm : m < 18446744073709551616) (hn : n ≤ 65535) : PFit (smallZ m n) := by
  refine ⟨⟨by simp [smallZ], by simp [smallZ], by simp [smallZ], by simp [smallZ], fun f hf => ?_⟩, by simp [smallZ], by simp [smallZ], fun f hf => ?_⟩
  · obtain rfl : f = ⟨0, [0], [], [⟨1, (n : Int), 0, 0, m, []⟩]⟩ := by simpa [smallZ] using hf
    refine ⟨by simp, by simp, by simp, fun i hi => ?_⟩
    obtain rfl : i = ⟨1, (n : Int), 0, 0, m, []⟩ := by simpa using hi
    exact ⟨hm, by simp⟩
  · obtain rfl : f = ⟨0, [0], [], [⟨1, (n : Int), 0, 0, m, []⟩]⟩ := by simpa [smallZ] using hf
    refine ⟨⟨by simp, by simp, by simp, fun i hi => ?_⟩, by unfold I64; simp, fun z hz => ?_, by simp, fun i hi => ?_⟩
    · obtain rfl : i = ⟨1, (n : Int), 0, 0, m, []⟩ := by simpa using hi
      exact ⟨hm, by simp⟩
    · obtain rfl : z = 0 := by simpa using hz
      unfold I64; omega
    · obtain rfl : i = ⟨1, (n : Int), 0, 0, m, []⟩ := by simpa using hi
      exact ⟨⟨hm, by simp⟩, by unfold I64; simp, by unfold I64; simp; omega, by unfold I64; simp, by unfold I64; simp, by simp⟩
theorem enc_small {m n : Nat} (hm : m < 18446744073709551616) (hn : n ≤ 65535) : enc8 (smallZ m n) = ⟨[0, 0, 1, 0, 1, 0, 0, 1, 1] ++ digs n ++ [0, 0] ++ digs m ++ [0], 0⟩ := by
  have h0 : digs 0 = [0] := digs_lo (by decide)
  have h1 : digs 1 = [1] := digs_lo (by decide)
  have hl1 := digs_len10 hm
  have hl2 := digs_len10 (n := n) (by omega)
  have u0 : uz 0 = 0 := rfl
  have u1 : uz 1 = 1 := rfl
  have un : uz (n : Int) = n := by unfold uz; omega
  have hw : wProg (smallZ m n) ⟨[], 0⟩ = ⟨[0, 0, 1, 0, 1, 0, 0, 1, 1] ++ digs n ++ [0, 0] ++ digs m ++ [0], 0⟩ := by
    have ok : ∀ (k lim : Nat) (ab : Int) (A : List Nat), k ≤ lim → wWord k lim ab ⟨A, 0⟩ = ⟨A ++ digs k, 0⟩ := fun k lim ab A h => by unfold wWord; rw [if_neg (fun c => c rfl), if_neg (by omega)]
    have nm : ∀ (z : Int) (k : Nat) (A : List Nat), uz z = k → k ≤ 65535 → wNum z ⟨A, 0⟩ = ⟨A ++ digs k, 0⟩ := fun z k A h h2 => by unfold wNum; rw [h]; exact ok _ _ _ _ h2
    simp only [wProg, smallZ, wList, wFn, wIns, List.length_nil, List.length_cons, List.foldl_nil, List.foldl_cons, ok 0 32 16 _ (by decide), Nat.zero_add, ok 1 32 16 _ (by decide), ok 1 256 16 _ (by decide), ok 0 24 16 _ (by decide), ok m _ _ _ (show m ≤ 18446744073709551615 by omega), nm 0 0 _ rfl (by decide), nm 1 1 _ rfl (by decide), nm n n _ un hn, h0, h1]
    simp
  unfold enc8
  simp only [hw]
  rw [if_neg (fun c => c rfl), if_neg (by simp; omega)]
theorem alloc4 (W : World) (o0 o1 o2 o3 : Obj) : ((((W.alloc o0).alloc o1).alloc o2).alloc o3).heap[W.heap.size + 1]? = some o1 ∧ ((((W.alloc o0).alloc o1).alloc o2).alloc o3).heap[W.heap.size + 2]? = some o2 ∧ ((((W.alloc o0).alloc o1).alloc o2).alloc o3).heap[W.heap.size + 3]? = some o3 := by
  have s1 : (W.alloc o0).heap.size = W.heap.size + 1 := World.size_alloc _ _
  have s2 : ((W.alloc o0).alloc o1).heap.size = W.heap.size + 2 := by rw [World.size_alloc, s1]
  have s3 : (((W.alloc o0).alloc o1).alloc o2).heap.size = W.heap.size + 3 := by rw [World.size_alloc, s2]
  have a1 := heap_alloc_new (W.alloc o0) o1
  have a2 := heap_alloc_new ((W.alloc o0).alloc o1) o2
  have a3 := heap_alloc_new (((W.alloc o0).alloc o1).alloc o2) o3
  rw [s1] at a1
  rw [s2] at a2
  rw [s3] at a3
  exact ⟨(heap_alloc_old _ _ (by rw [s3]; omega)).trans ((heap_alloc_old _ _ (by rw [s2]; omega)).trans a1), (heap_alloc_old _ _ (by rw [s3]; omega)).trans a2, a3⟩
/-- What small leaves. -/
def Smalld (W : World) (e : Ending) (w' : World) : Prop := ∃ v0 v1 v2, e = .returned (.agg #[v0, v1, v2]) ∧ RdP (fun i => W.heap.size ≤ i) w' (.agg #[v0, v1, v2]) (smallZ 300 0) ∧ Cha (fun _ => False) W w'
set_option maxRecDepth 100000 in
set_option maxHeartbeats 1000000 in
theorem small_any (W : World) : Calls Try.prog 23 #[] W (Smalld W) := by
  go_enter Try.func23, Try.ntmps23
  go_wp2
  refine bodyPost_ret (v := .agg #[.slice none 0 0, .slice none 0 0, .slice (some ⟨W.heap.size + 3, 0, none⟩) 1 1]) (by simp [results, Try.results23, go_sem]) rfl ?_
  have A := alloc4 W (.cells #[.slice none 0 0, .slice none 0 0, .slice (some ⟨W.heap.size + 1 + 1 + 1, 0, none⟩) 1 1] 26) (.cells #[.int .i64 0] 64) (.cells #[.int .i64 1, .int .i64 0, .int .i64 0, .int .i64 0, .int .u64 300, .slice none 0 0] 52) (.cells #[.int .i64 0, .slice (some ⟨W.heap.size + 1, 0, none⟩) 1 1, .slice none 0 0, .slice (some ⟨W.heap.size + 1 + 1, 0, none⟩) 1 1] 55)
  have C : Cha (fun _ => False) W ((((W.alloc (.cells #[.slice none 0 0, .slice none 0 0, .slice (some ⟨W.heap.size + 1 + 1 + 1, 0, none⟩) 1 1] 26)).alloc (.cells #[.int .i64 0] 64)).alloc (.cells #[.int .i64 1, .int .i64 0, .int .i64 0, .int .i64 0, .int .u64 300, .slice none 0 0] 52)).alloc (.cells #[.int .i64 0, .slice (some ⟨W.heap.size + 1, 0, none⟩) 1 1, .slice none 0 0, .slice (some ⟨W.heap.size + 1 + 1, 0, none⟩) 1 1] 55)) := ((((Cha.refl _ W).alloc _).alloc _).alloc _).alloc _
  generalize (((W.alloc (.cells #[.slice none 0 0, .slice none 0 0, .slice (some ⟨W.heap.size + 1 + 1 + 1, 0, none⟩) 1 1] 26)).alloc (.cells #[.int .i64 0] 64)).alloc (.cells #[.int .i64 1, .int .i64 0, .int .i64 0, .int .i64 0, .int .u64 300, .slice none 0 0] 52)).alloc (.cells #[.int .i64 0, .slice (some ⟨W.heap.size + 1, 0, none⟩) 1 1, .slice none 0 0, .slice (some ⟨W.heap.size + 1 + 1, 0, none⟩) 1 1] 55) = w at *
  obtain ⟨a1, a2, a3⟩ := A
  have l1 := (Array.getElem?_eq_some_iff.1 a1).1
  have l2 := (Array.getElem?_eq_some_iff.1 a2).1
  have l3 := (Array.getElem?_eq_some_iff.1 a3).1
  have one : ∀ {α : Type} (y : α) (i : Nat) (x : α), [y][i]? = some x → i = 0 ∧ y = x := fun y i x h => by
    cases i with
    | zero => exact ⟨rfl, by simpa using h⟩
    | succ i => simp at h
  have i0 : I64 0 := by unfold I64; omega
  have i1 : I64 1 := by unfold I64; omega
  refine ⟨_, _, _, rfl, ⟨_, _, _, rfl, RdS.nil _ _ _ _, RdS.nil _ _ _ _, _, _, rfl, by simp [smallZ], fun _ => ⟨_, _, rfl, by show W.heap.size ≤ W.heap.size + 3; omega, l3, fun i x hi => ?_⟩⟩, C⟩
  obtain ⟨rfl, rfl⟩ := one _ _ _ hi
  refine ⟨cell_of_row w _ 0 _ 55 (0, 0) a3, ⟨_, cell_of_row w _ 1 _ 55 (0, 0) a3, _, _, rfl, by simp, fun _ => ⟨_, _, rfl, by show W.heap.size ≤ W.heap.size + 1; omega, l1, fun i x hi => ?_⟩⟩, ⟨_, cell_of_row w _ 2 _ 55 (0, 0) a3, RdS.nil _ _ _ _⟩, ⟨_, cell_of_row w _ 3 _ 55 (0, 0) a3, _, _, rfl, by simp, fun _ => ⟨_, _, rfl, by show W.heap.size ≤ W.heap.size + 2; omega, l2, fun i x hi => ?_⟩⟩, i0⟩
  · obtain ⟨rfl, rfl⟩ := one _ _ _ hi
    exact ⟨cell_of_row w _ 0 _ 64 (0, 0) a1, i0⟩
  · obtain ⟨rfl, rfl⟩ := one _ _ _ hi
    exact ⟨cell_of_row w _ 0 _ 52 (0, 0) a2, cell_of_row w _ 1 _ 52 (0, 0) a2, cell_of_row w _ 2 _ 52 (0, 0) a2, cell_of_row w _ 3 _ 52 (0, 0) a2, cell_of_row w _ 4 _ 52 (0, 0) a2, ⟨_, cell_of_row w _ 5 _ 52 (0, 0) a2, RdS.nil _ _ _ _⟩, i1, i0, i0, i0, by simp⟩
end Go.Proofs.Ytpdjbhnpahkbpaa
