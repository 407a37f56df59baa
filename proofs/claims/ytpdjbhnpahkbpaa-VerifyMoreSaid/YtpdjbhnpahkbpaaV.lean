/- Bytes that are compared; the small program. -/
import Derived.Test.YtpdjbhnpahkbpaaQ
import Derived.Laws.BytesArg
import Derived.Test.YtpdjbhnpahkbpaaS
namespace Go.Proofs.Ytpdjbhnpahkbpaa
open Go.ChangeShapes Go.WideShapes Go.ChangeAt Go.RowKit

/-- Bytes as a string. -/
def strz (T : List Nat) : ByteArray := strOfNums (T.map fun (x : Nat) => (x : Int))
theorem conv_any {B : Nat → Prop} {W : World} {v : Value} {T : List Nat} (h : RdS 1 RdU8 B W v T) : (convert 27 9 v).run Try.prog W = .ok (.string (strz T)) W := by
  obtain ⟨a, c, rfl, _, h⟩ := h
  have key : ∀ p : Addr, (∀ (j : Nat) (v : Value), ((T.map fun (x : Nat) => (x : Int)).map (Value.int .u8))[j]? = some v → W.cell? (p.add j) = some v) → (convert 27 9 (.slice (some p) T.length c)).run Try.prog W = .ok (.string (strz T)) W := fun p hp => by
    have hl := run_loadCells_list (P := Try.prog) W p ((T.map fun (x : Nat) => (x : Int)).map (Value.int .u8)) hp
    have hl2 : (loadCells p T.length).run Try.prog W = .ok ((T.map fun (x : Nat) => (x : Int)).map (Value.int .u8)).toArray W := by
      have e : ((T.map fun (x : Nat) => (x : Int)).map (Value.int .u8)).length = T.length := by simp
      rw [e] at hl
      exact hl
    rw [run_convert_bytes_string W 27 9 5 _ T.length c Try.underlying27 Try.underlying5 Try.underlying9, run_bytesToString W _ T.length c _ hl2, foldl_push_bytes]
    simp [strz, strOfNums, ByteArray.empty, ByteArray.emptyWithCapacity]
    rfl
  cases a with
  | none =>
    have h0 : T.length = 0 := by
      by_cases c : 0 < T.length
      · obtain ⟨_, _, e, _⟩ := h c
        cases e
      · omega
    obtain rfl : T = [] := List.eq_nil_of_length_eq_zero h0
    rw [run_convert_bytes_nil W 27 5 Try.underlying27 Try.underlying5 _ _ 9 Try.underlying9]
    rfl
  | some p =>
    refine key p fun j v hj => ?_
    have hjl : j < T.length := by
      have := (List.getElem?_eq_some_iff.1 hj).1
      simpa using this
    obtain ⟨b, o, e, _, _, hx⟩ := h (by omega)
    injection e with e
    subst e
    have hc := (hx j T[j] (List.getElem?_eq_getElem hjl)).1
    rw [Nat.mul_one] at hc
    have hv : v = .int .u8 (T[j] : Int) := by
      simp [List.getElem?_eq_getElem hjl] at hj
      exact hj.symm
    rw [hv, Addr.add_mid]
    exact hc
theorem same_any {B B' : Nat → Prop} {W : World} {v v' : Value} {T : List Nat} (h : RdS 1 RdU8 B W v T) (h' : RdS 1 RdU8 B' W v' T) :
    Calls Try.prog 18 #[v, v'] W fun e w' => e = .returned (.bool true) ∧ W = w' := by
  have e1 := conv_any h
  have e2 := conv_any h'
  obtain ⟨a, n, c, rfl⟩ := rds_shape h
  obtain ⟨a', n', c', rfl⟩ := rds_shape h'
  generalize strz T = s at *
  clear h h'
  go_enter Try.func18, Try.ntmps18
  go_wp2
  go_ret
  exact ⟨rfl, rfl⟩
def smallZ (m : Nat) (n : Nat) : PZ := ⟨[], [], [⟨0, [0], [], [⟨1, (n : Int), 0, 0, m, []⟩]⟩]⟩
theorem smallFit {m n : Nat} (hm : m < 18446744073709551616) (hn : n ≤ 65535) : PFit (smallZ m n) := by
  refine ⟨⟨by simp [smallZ], by simp [smallZ], by simp [smallZ], by simp [smallZ], fun f hf => ?_⟩, by simp [smallZ], by simp [smallZ], fun f hf => ?_⟩
  · obtain rfl : f = ⟨0, [0], [], [⟨1, (n : Int), 0, 0, m, []⟩]⟩ := by simpa [smallZ] using hf
    refine ⟨by simp, by simp, by simp, fun i hi => ?_⟩
    obtain rfl : i = ⟨1, (n : Int), 0, 0, m, []⟩ := by simpa using hi
    exact ⟨hm, by simp⟩
  · obtain rfl : f = ⟨0, [0], [], [⟨1, (n : Int), 0, 0, m, []⟩]⟩ := by simpa [smallZ] using hf
    refine ⟨⟨by simp, by simp, by simp, fun i hi => ?_⟩, by unfold I64; simp, fun z hz => ?_, by simp, fun i hi => ?_⟩
    · obtain rfl : i = ⟨1, (n : Int), 0, 0, m, []⟩ := by simpa using hi
      exact ⟨hm, by simp⟩
    · obtain rfl : z = 0 := by simpa using hz
      unfold I64; omega
    · obtain rfl : i = ⟨1, (n : Int), 0, 0, m, []⟩ := by simpa using hi
      exact ⟨⟨hm, by simp⟩, by unfold I64; simp, by unfold I64; simp; omega, by unfold I64; simp, by unfold I64; simp, by simp⟩
theorem enc_small {m n : Nat} (hm : m < 18446744073709551616) (hn : n ≤ 65535) : enc8 (smallZ m n) = ⟨[0, 0, 1, 0, 1, 0, 0, 1, 1] ++ digs n ++ [0, 0] ++ digs m ++ [0], 0⟩ := by
  have h0 : digs 0 = [0] := digs_lo (by decide)
  have h1 : digs 1 = [1] := digs_lo (by decide)
  have hl1 := digs_len10 hm
  have hl2 := digs_len10 (n := n) (by omega)
  have u0 : uz 0 = 0 := rfl
  have u1 : uz 1 = 1 := rfl
  have un : uz (n : Int) = n := by unfold uz; omega
  have hw : wProg (smallZ m n) ⟨[], 0⟩ = ⟨[0, 0, 1, 0, 1, 0, 0, 1, 1] ++ digs n ++ [0, 0] ++ digs m ++ [0], 0⟩ := by
    have ok : ∀ (k lim : Nat) (ab : Int) (A : List Nat), k ≤ lim → wWord k lim ab ⟨A, 0⟩ = ⟨A ++ digs k, 0⟩ := fun k lim ab A h => by unfold wWord; rw [if_neg (fun c => c rfl), if_neg (by omega)]
    have nm : ∀ (z : Int) (k : Nat) (A : List Nat), uz z = k → k ≤ 65535 → wNum z ⟨A, 0⟩ = ⟨A ++ digs k, 0⟩ := fun z k A h h2 => by unfold wNum; rw [h]; exact ok _ _ _ _ h2
    simp only [wProg, smallZ, wList, wFn, wIns, List.length_nil, List.length_cons, List.foldl_nil, List.foldl_cons, ok 0 32 16 _ (by decide), Nat.zero_add, ok 1 32 16 _ (by decide), ok 1 256 16 _ (by decide), ok 0 24 16 _ (by decide), ok m _ _ _ (show m ≤ 18446744073709551615 by omega), nm 0 0 _ rfl (by decide), nm 1 1 _ rfl (by decide), nm n n _ un hn, h0, h1]
    simp
  unfold enc8
  simp only [hw]
  rw [if_neg (fun c => c rfl), if_neg (by simp; omega)]
theorem alloc4 (W : World) (o0 o1 o2 o3 : Obj) : ((((W.alloc o0).alloc o1).alloc o2).alloc o3).heap[W.heap.size + 1]? = some o1 ∧ ((((W.alloc o0).alloc o1).alloc o2).alloc o3).heap[W.heap.size + 2]? = some o2 ∧ ((((W.alloc o0).alloc o1).alloc o2).alloc o3).heap[W.heap.size + 3]? = some o3 := by
  have s1 : (W.alloc o0).heap.size = W.heap.size + 1 := World.size_alloc _ _
  have s2 : ((W.alloc o0).alloc o1).heap.size = W.heap.size + 2 := by rw [World.size_alloc, s1]
  have s3 : (((W.alloc o0).alloc o1).alloc o2).heap.size = W.heap.size + 3 := by rw [World.size_alloc, s2]
  have a1 := heap_alloc_new (W.alloc o0) o1
  have a2 := heap_alloc_new ((W.alloc o0).alloc o1) o2
  have a3 := heap_alloc_new (((W.alloc o0).alloc o1).alloc o2) o3
  rw [s1] at a1
  rw [s2] at a2
  rw [s3] at a3
  exact ⟨(heap_alloc_old _ _ (by rw [s3]; omega)).trans ((heap_alloc_old _ _ (by rw [s2]; omega)).trans a1), (heap_alloc_old _ _ (by rw [s3]; omega)).trans a2, a3⟩
/-- What small leaves. -/
def Smalld (W : World) (e : Ending) (w' : World) : Prop := ∃ v0 v1 v2, e = .returned (.agg #[v0, v1, v2]) ∧ RdP (fun i => W.heap.size ≤ i) w' (.agg #[v0, v1, v2]) (smallZ 300 0) ∧ Cha (fun _ => False) W w'
set_option maxRecDepth 100000 in
set_option maxHeartbeats 1000000 in
theorem small_any (W : World) : Calls Try.prog 23 #[] W (Smalld W) := by
  go_enter Try.func23, Try.ntmps23
  go_wp2
  refine bodyPost_ret (v := .agg #[.slice none 0 0, .slice none 0 0, .slice (some ⟨W.heap.size + 3, 0, none⟩) 1 1]) (by simp [results, Try.results23, go_sem]) rfl ?_
  have A := alloc4 W (.cells #[.slice none 0 0, .slice none 0 0, .slice (some ⟨W.heap.size + 1 + 1 + 1, 0, none⟩) 1 1] 26) (.cells #[.int .i64 0] 64) (.cells #[.int .i64 1, .int .i64 0, .int .i64 0, .int .i64 0, .int .u64 300, .slice none 0 0] 52) (.cells #[.int .i64 0, .slice (some ⟨W.heap.size + 1, 0, none⟩) 1 1, .slice none 0 0, .slice (some ⟨W.heap.size + 1 + 1, 0, none⟩) 1 1] 55)
  have C : Cha (fun _ => False) W ((((W.alloc (.cells #[.slice none 0 0, .slice none 0 0, .slice (some ⟨W.heap.size + 1 + 1 + 1, 0, none⟩) 1 1] 26)).alloc (.cells #[.int .i64 0] 64)).alloc (.cells #[.int .i64 1, .int .i64 0, .int .i64 0, .int .i64 0, .int .u64 300, .slice none 0 0] 52)).alloc (.cells #[.int .i64 0, .slice (some ⟨W.heap.size + 1, 0, none⟩) 1 1, .slice none 0 0, .slice (some ⟨W.heap.size + 1 + 1, 0, none⟩) 1 1] 55)) := ((((Cha.refl _ W).alloc _).alloc _).alloc _).alloc _
  generalize (((W.alloc (.cells #[.slice none 0 0, .slice none 0 0, .slice (some ⟨W.heap.size + 1 + 1 + 1, 0, none⟩) 1 1] 26)).alloc (.cells #[.int .i64 0] 64)).alloc (.cells #[.int .i64 1, .int .i64 0, .int .i64 0, .int .i64 0, .int .u64 300, .slice none 0 0] 52)).alloc (.cells #[.int .i64 0, .slice (some ⟨W.heap.size + 1, 0, none⟩) 1 1, .slice none 0 0, .slice (some ⟨W.heap.size + 1 + 1, 0, none⟩) 1 1] 55) = w at *
  obtain ⟨a1, a2, a3⟩ := A
  have l1 := (Array.getElem?_eq_some_iff.1 a1).1
  have l2 := (Array.getElem?_eq_some_iff.1 a2).1
  have l3 := (Array.getElem?_eq_some_iff.1 a3).1
  have one : ∀ {α : Type} (y : α) (i : Nat) (x : α), [y][i]? = some x → i = 0 ∧ y = x := fun y i x h => by
    cases i with
    | zero => exact ⟨rfl, by simpa using h⟩
    | succ i => simp at h
  have i0 : I64 0 := by unfold I64; omega
  have i1 : I64 1 := by unfold I64; omega
  refine ⟨_, _, _, rfl, ⟨_, _, _, rfl, RdS.nil _ _ _ _, RdS.nil _ _ _ _, _, _, rfl, by simp [smallZ], fun _ => ⟨_, _, rfl, by show W.heap.size ≤ W.heap.size + 3; omega, l3, fun i x hi => ?_⟩⟩, C⟩
  obtain ⟨rfl, rfl⟩ := one _ _ _ hi
  refine ⟨cell_of_row w _ 0 _ 55 (0, 0) a3, ⟨_, cell_of_row w _ 1 _ 55 (0, 0) a3, _, _, rfl, by simp, fun _ => ⟨_, _, rfl, by show W.heap.size ≤ W.heap.size + 1; omega, l1, fun i x hi => ?_⟩⟩, ⟨_, cell_of_row w _ 2 _ 55 (0, 0) a3, RdS.nil _ _ _ _⟩, ⟨_, cell_of_row w _ 3 _ 55 (0, 0) a3, _, _, rfl, by simp, fun _ => ⟨_, _, rfl, by show W.heap.size ≤ W.heap.size + 2; omega, l2, fun i x hi => ?_⟩⟩, i0⟩
  · obtain ⟨rfl, rfl⟩ := one _ _ _ hi
    exact ⟨cell_of_row w _ 0 _ 64 (0, 0) a1, i0⟩
  · obtain ⟨rfl, rfl⟩ := one _ _ _ hi
    exact ⟨cell_of_row w _ 0 _ 52 (0, 0) a2, cell_of_row w _ 1 _ 52 (0, 0) a2, cell_of_row w _ 2 _ 52 (0, 0) a2, cell_of_row w _ 3 _ 52 (0, 0) a2, cell_of_row w _ 4 _ 52 (0, 0) a2, ⟨_, cell_of_row w _ 5 _ 52 (0, 0) a2, RdS.nil _ _ _ _⟩, i1, i0, i0, i0, by simp⟩
end Go.Proofs.Ytpdjbhnpahkbpaa

namespace Go.Proofs.Ytpdjbhnpahkbpaa
open Go.ChangeShapes Go.WideShapes Go.ChangeAt Go.RowKit

theorem RdS.bnd {α : Type} {s : Nat} {R : (Nat → Prop) → World → Nat → Nat → α → Prop} {B : Nat → Prop} {W : World} {v : Value} {xs : List α} (h : RdS s R B W v xs) (f : ∀ b o x, R B W b o x → R (fun i => B i ∧ i < W.heap.size) W b o x) : RdS s R (fun i => B i ∧ i < W.heap.size) W v xs := by
  obtain ⟨a, c, e, hl, h⟩ := h
  exact ⟨a, c, e, hl, fun h0 => by
    obtain ⟨b, o, ea, hb, hbs, hx⟩ := h h0
    exact ⟨b, o, ea, ⟨hb, hbs⟩, hbs, fun i x hi => f _ _ _ (hx i x hi)⟩⟩
section
variable {B : Nat → Prop} {W : World} {b o : Nat}
theorem RdIns.bnd {x : IZ} (h : RdIns B W b o x) : RdIns (fun i => B i ∧ i < W.heap.size) W b o x := by
  obtain ⟨v, h5, h6⟩ := h.c5
  exact ⟨h.c0, h.c1, h.c2, h.c3, h.c4, ⟨v, h5, h6.bnd fun _ _ _ h => h⟩, h.k0, h.k1, h.k2, h.k3, h.k4⟩
theorem RdFn.bnd {x : FZ} (h : RdFn B W b o x) : RdFn (fun i => B i ∧ i < W.heap.size) W b o x := by
  obtain ⟨v1, a1, b1⟩ := h.c1
  obtain ⟨v2, a2, b2⟩ := h.c2
  obtain ⟨v3, a3, b3⟩ := h.c3
  exact ⟨h.c0, ⟨v1, a1, b1.bnd fun _ _ _ h => h⟩, ⟨v2, a2, b2.bnd fun _ _ _ h => h⟩, ⟨v3, a3, b3.bnd fun _ _ _ h => h.bnd⟩, h.k0⟩
theorem RdTy.bnd {x : TZ} (h : RdTy B W b o x) : RdTy (fun i => B i ∧ i < W.heap.size) W b o x := by
  obtain ⟨v1, a1, b1⟩ := h.c1
  exact ⟨h.c0, ⟨v1, a1, b1.bnd fun _ _ _ h => h⟩⟩
theorem RdP.bound {v : Value} {p : PZ} (h : RdP B W v p) : RdP (fun i => B i ∧ i < W.heap.size) W v p := by
  obtain ⟨v0, v1, v2, e, h0, h1, h2⟩ := h
  exact ⟨v0, v1, v2, e, h0.bnd fun _ _ _ h => h.bnd, h1.bnd fun _ _ _ h => h, h2.bnd fun _ _ _ h => h.bnd⟩
end
/-- Bytes of one's own read as bytes. -/
theorem own_bytes {W : World} {B0 : Nat} {a : Option Addr} {c : Nat} {T : List Nat} (h : W.ownsRow B0 5 1 (.slice a T.length c) T.length (bz T)) (hT : ∀ x ∈ T, x < 256) (hl : T.length ≤ 9223372036854775807) : RdS 1 RdU8 (fun i => B0 ≤ i ∧ i < W.heap.size) W (.slice a T.length c) T ∧ T.length ≤ c := by
  rcases h.2 with ⟨e, h1⟩ | ⟨g, cap, cur, e, hb, hg, hnc, hcm, hcs, htk⟩
  · injection e with e1 e2 e3
    subst e1
    have h0 : T = [] := List.eq_nil_of_length_eq_zero e2
    subst h0
    exact ⟨⟨none, c, rfl, by simp, fun h => by simp at h⟩, Nat.zero_le _⟩
  · injection e with e1 e2 e3
    subst e1 e3
    have hl2 : g < W.heap.size := (Array.getElem?_eq_some_iff.1 hg).1
    refine ⟨⟨_, _, rfl, hl, fun _ => ⟨g, 0, rfl, ⟨hb, hl2⟩, hl2, fun i x hi => ?_⟩⟩, hnc⟩
    have hx := h.cells (g := g) rfl i (.int .u8 (x : Int)) (by unfold bz; rw [List.getElem?_map, hi]; rfl)
    have e0 : (⟨g, 0, none⟩ : Addr).add i = ⟨g, 0 + i * 1, none⟩ := by rw [Addr.add_mid, Nat.mul_one]
    rw [e0] at hx
    exact ⟨hx, hT x (List.mem_of_getElem? hi)⟩
theorem alloc2 (W : World) (o0 o1 : Obj) : ((W.alloc o0).alloc o1).heap[W.heap.size]? = some o0 ∧ ((W.alloc o0).alloc o1).heap[W.heap.size + 1]? = some o1 := by
  have s1 : (W.alloc o0).heap.size = W.heap.size + 1 := World.size_alloc _ _
  have a1 := heap_alloc_new (W.alloc o0) o1
  rw [s1] at a1
  exact ⟨(heap_alloc_old _ _ (by rw [s1]; omega)).trans (heap_alloc_new W o0), a1⟩
theorem enc8_bytes {p : PZ} (h : POk p) : (∀ x ∈ (enc8 p).t, x < 256) ∧ (enc8 p).t.length ≤ 16384 := by
  have hw := wProg_wf h
  unfold enc8
  simp only
  split
  · exact ⟨fun x hx => by simp at hx, by simp⟩
  · split
    · exact ⟨fun x hx => by simp at hx, by simp⟩
    · exact ⟨hw.byte ⟨[], 0⟩ (fun x hx => by simp at hx), by omega⟩
set_option maxRecDepth 100000 in
set_option maxHeartbeats 2000000 in
theorem awake_any (W : World) : Calls Try.prog 17 #[] W fun e w' => e = .returned (.bool true) ∧ Cha (fun _ => False) W w' := by
  have fit := smallFit (m := 300) (n := 0) (by decide) (by decide)
  have hen := enc_small (m := 300) (n := 0) (by decide) (by decide)
  have hde := dec_enc fit hen
  have d0 : digs 0 = [0] := digs_lo (by decide)
  have d3 : digs 300 = [172, 2] := by rw [digs_hi (by decide), digs_lo (by decide)]
  rw [d0, d3] at hen hde
  have HEN : Hid (enc8 (smallZ 300 0) = ⟨[0, 0, 1, 0, 1, 0, 0, 1, 1, 0, 0, 0, 172, 2, 0], 0⟩) := Lib.hid hen
  have HDE : Hid (dec8 [0, 0, 1, 0, 1, 0, 0, 1, 1, 0, 0, 0, 172, 2, 0] = (smallZ 300 0, ⟨0, 0, 0⟩)) := Lib.hid hde
  clear hen hde fit d0 d3
  have CS := Lib.hid (small_any W)
  have CE : Hid (∀ w v0 v1 v2, RdP (fun i => W.heap.size ≤ i ∧ i < w.heap.size) w (.agg #[v0, v1, v2]) (smallZ 300 0) → Calls Try.prog 15 #[.agg #[v0, v1, v2]] w fun e w' => ∃ a c, e = .returned (.tuple #[.slice a 15 c, .int .i64 0]) ∧ RdS 1 RdU8 (fun i => w.heap.size ≤ i ∧ i < w'.heap.size) w' (.slice a 15 c) [0, 0, 1, 0, 1, 0, 0, 1, 1, 0, 0, 0, 172, 2, 0] ∧ 15 ≤ c ∧ Cha (fun _ => False) w w') := Lib.hid (fun w v0 v1 v2 h => (encode_any h (fun i hi => hi.2)).mono fun e w' ⟨a, c, h1, h2, h3⟩ => by
    rw [HEN.out] at h1 h2
    obtain ⟨k1, k2⟩ := own_bytes h2 (by decide) (by decide)
    exact ⟨a, c, h1, k1, k2, h3⟩)
  have CD : Hid (∀ w a c, RdS 1 RdU8 (fun i => i < w.heap.size) w (.slice a 15 c) [0, 0, 1, 0, 1, 0, 0, 1, 1, 0, 0, 0, 172, 2, 0] → 15 ≤ c → Calls Try.prog 19 #[.slice a 15 c] w fun e w' => ∃ v0 v1 v2, e = .returned (.tuple #[.agg #[v0, v1, v2], .agg #[.int .i64 0, .int .i64 0, .int .i64 0]]) ∧ RdP (fun i => w.heap.size ≤ i) w' (.agg #[v0, v1, v2]) (smallZ 300 0) ∧ Cha (fun _ => False) w w') := Lib.hid (fun w a c h hc => (decode_any h rfl hc).mono fun e w' ⟨v0, v1, v2, h1, h2, h3⟩ => by
    rw [HDE.out] at h1 h2
    exact ⟨v0, v1, v2, h1, h2, h3⟩)
  clear HEN HDE
  go_enter Try.func17, Try.ntmps17
  go_wp2_with (first
    | (go_at_call 23; ((with_reducible refine (CS.out).mono ?_); rintro e w1 ⟨v0, v1, v2, rfl, k1, k2⟩; have C1 := Lib.hid k2; have K1 := Lib.hid k1; obtain ⟨⟨va0, vn0, vc0, rfl⟩, ⟨va1, vn1, vc1, rfl⟩, ⟨va2, vn2, vc2, rfl⟩⟩ := rdp_shape k1; clear k1 k2))
    | (go_at_call 15; ((with_reducible refine ((CE.out _ _ _ _ K1.out.bound)).mono ?_); rintro e w2 ⟨a, c, rfl, k1, k2, k3⟩; have C2 := Lib.hid (C1.out.trans k3); have K2 := Lib.hid k1; have L2 := Lib.hid k2; clear k1 k2 k3))
    | (go_at_call 19; ((with_reducible refine ((CD.out _ _ _ (K2.out.bytes (Cha.refl (fun _ => False) _) (fun _ f => f.elim) (fun i hi => hi.2)) L2.out)).mono ?_); rintro e w3 ⟨v0, v1, v2, rfl, k1, k2⟩; have C3 := Lib.hid (C2.out.trans k2); have K3 := Lib.hid k1; obtain ⟨⟨ua0, un0, uc0, rfl⟩, ⟨ua1, un1, uc1, rfl⟩, ⟨ua2, un2, uc2, rfl⟩⟩ := rdp_shape k1; clear k1 k2)))
  have A := alloc2 w3 (.cells #[.slice ua0 un0 uc0, .slice ua1 un1 uc1, .slice ua2 un2 uc2] 26) (.cells #[.int .i64 0, .int .i64 0, .int .i64 0] 37)
  have C5 : Cha (fun _ => False) w3 ((w3.alloc (.cells #[.slice ua0 un0 uc0, .slice ua1 un1 uc1, .slice ua2 un2 uc2] 26)).alloc (.cells #[.int .i64 0, .int .i64 0, .int .i64 0] 37)) := ((Cha.refl _ w3).alloc _).alloc _
  have K5 := Lib.hid (K3.out.cha C5 (fun _ f => f.elim) (fun _ h => h))
  have C6 := Lib.hid (C3.out.trans C5)
  generalize (w3.alloc (.cells #[.slice ua0 un0 uc0, .slice ua1 un1 uc1, .slice ua2 un2 uc2] 26)).alloc (.cells #[.int .i64 0, .int .i64 0, .int .i64 0] 37) = W5 at *
  generalize w3.heap.size = x at *
  have KX : Hid (∀ W', Cha (fun _ => False) W5 W' → W'.cell? ⟨x, 0, none⟩ = some (.slice ua0 un0 uc0) ∧ W'.cell? ⟨x, 1, none⟩ = some (.slice ua1 un1 uc1) ∧ W'.cell? ⟨x, 2, none⟩ = some (.slice ua2 un2 uc2) ∧ W'.cell? ⟨x + 1, 0, none⟩ = some (.int .i64 0)) := Lib.hid fun W' hc => by
    have e1 := (hc.old _ (Array.getElem?_eq_some_iff.1 A.1).1 (fun f => f)).trans A.1
    have e2 := (hc.old _ (Array.getElem?_eq_some_iff.1 A.2).1 (fun f => f)).trans A.2
    exact ⟨cell_of_row W' _ 0 _ 26 _ e1, cell_of_row W' _ 1 _ 26 _ e1, cell_of_row W' _ 2 _ 26 _ e1, cell_of_row W' _ 0 _ 37 _ e2⟩
  have CS5 := Lib.hid (small_any W5.drew)
  clear C5 A CS CE CD C1 C2 K1 K2 K3 C3 L2
  obtain ⟨k1, k2, k3, k4⟩ := KX.out W5.drew (Cha.refl _ _).drew
  go_region_held3 (fun w' => w'.cell? ⟨x, 0, none⟩ = some (.slice ua0 un0 uc0) ∧ w'.cell? ⟨x, 1, none⟩ = some (.slice ua1 un1 uc1) ∧ w'.cell? ⟨x, 2, none⟩ = some (.slice ua2 un2 uc2) ∧ w'.cell? ⟨x + 1, 0, none⟩ = some (.int .i64 0))
    (first
      | go_keep
      | exact ⟨k1, k2, k3, k4⟩
      | exact KX.out _ (by assumption))
    (first
      | (go_at_call 23; refine (CS5.out).mono ?_; rintro e w6 ⟨s0, s1, s2, rfl, m1, m2⟩; have m3 : Cha (fun _ => False) W5 w6 := ((Cha.refl _ W5).drew).trans m2)
      | (go_at_call 21; refine (samep_any (K5.out.cha m3 (fun _ f => f.elim) (fun _ h => h)) m1).mono ?_; rintro e w7 ⟨rfl, m4⟩; have m5 : Cha (fun _ => False) W5 w7 := m3.trans m4))
  all_goals
    go_wp2
    go_ret
    exact ⟨rfl, C6.out.trans m5⟩
end Go.Proofs.Ytpdjbhnpahkbpaa
