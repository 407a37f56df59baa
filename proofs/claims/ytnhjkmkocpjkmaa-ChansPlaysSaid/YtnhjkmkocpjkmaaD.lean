/- Contracts of chans: the first of a list is taken; Queue. -/
import Derived.Test.YtnhjkmkocpjkmaaC
namespace Go.Proofs.Ytnhjkmkocpjkmaa
open Go.ChangeShapes Go.WideShapes Go.ChangeAt Go.RowKit
section
variable {w W : World} {p g o n cap : Nat} {x y : Int}
theorem two_allocs {w1 : World} {a b : Obj} {p : Nat} (hp : p < w1.heap.size) : ((w1.alloc a).alloc b).heap[p]? = w1.heap[p]? :=
  (heap_alloc_old _ b (by rw [World.size_alloc]; omega)).trans (heap_alloc_old _ a hp)
theorem size_setCell' (w : World) (a : Addr) (v : Value) : (w.setCell a v).heap.size = w.heap.size := by simp [World.setCell]
theorem takeS_any (hpb : p < w.heap.size) (hgb : g < w.heap.size) (hp : w.cell? ⟨p, 3, none⟩ = some (.slice (some ⟨g, o, none⟩) n cap)) (hf : w.frozen? ⟨p, 3, none⟩ = false) (hn : 0 < n) (hc : n ≤ cap) (hm : cap ≤ maxLen) (hx : w.cell? ⟨g, o, none⟩ = some (.int .i64 x)) (hy : w.cell? ⟨g, o + 1, none⟩ = some (.int .u64 y)) :
    Calls Try.prog 33 #[.pointer (some ⟨p, 3, none⟩)] w fun e w' => e = .returned (.agg #[.int .i64 x, .int .u64 y]) ∧ w'.heap[p]? = (w.setCell ⟨p, 3, none⟩ (tailV g o n cap 2)).heap[p]? ∧ Cha (fun i => i = p) w w' := by
  unfold maxLen at hm
  by_cases h1 : cap = 1
  · subst h1
    obtain rfl : n = 1 := by omega
    go_enter Try.func33, Try.ntmps33
    go_wp2
    exact bodyPost_ret (v := .agg #[.int .i64 x, .int .u64 y]) (by simp [results, Try.results33, go_sem]) rfl ⟨rfl, two_allocs (by rw [size_setCell']; exact hpb), (((Cha.refl (· = p) w).setCell (p := ⟨p, 3, none⟩) (fun _ => rfl) _).alloc _).alloc _⟩
  · have e : tailV g o n cap 2 = .slice (some ⟨g, o + 2, none⟩) (n - 1) (cap - 1) := by unfold tailV; rw [if_neg h1]
    rw [e]
    go_enter Try.func33, Try.ntmps33
    go_wp2
    exact bodyPost_ret (v := .agg #[.int .i64 x, .int .u64 y]) (by simp [results, Try.results33, go_sem]) rfl ⟨rfl, two_allocs (by rw [size_setCell']; exact hpb), (((Cha.refl (· = p) w).setCell (p := ⟨p, 3, none⟩) (fun _ => rfl) _).alloc _).alloc _⟩
end
variable {w w' W : World} {F : Nat → Prop} {bc g o n cap : Nat} {v1 v2 v3 : Value} {s : St}
theorem Ch.open1 (h : Ch w F bc v1 v2 v3 s) {x : Int} {l : List Int} (e : s.vals = x :: l) : ∃ g o cap, v1 = .slice (some ⟨g, o, none⟩) (l.length + 1) cap ∧ l.length + 1 ≤ cap ∧ cap ≤ maxLen ∧ g ≠ bc ∧ g < w.heap.size ∧ ∀ W, Cha (fun i => i ≠ g) w W → W.cell? ⟨g, o, none⟩ = some (.int .u64 x) := by
  obtain ⟨g, o, cap, rfl, h1, h2, h3⟩ := h.l1.cells u64E_ok (by rw [e]; simp)
  rw [e] at h1 h3
  refine ⟨g, o, cap, by rw [e]; rfl, h1, h2, (h.f1 g rfl).2, h.l1.lt rfl, fun W c => ?_⟩
  have := (h3 W (c.mono fun i _ e c => e (by simpa [Value.ownBlock] using c.symm))).1 0 0 (by simp) (by decide)
  simpa [u64E] using this
theorem Ch.open3 (h : Ch w F bc v1 v2 v3 s) {x : Int} {l : List Int} (e : s.rcvs = x :: l) : ∃ g o cap, v3 = .slice (some ⟨g, o, none⟩) (l.length + 1) cap ∧ l.length + 1 ≤ cap ∧ cap ≤ maxLen ∧ g ≠ bc ∧ g < w.heap.size ∧ ∀ W, Cha (fun i => i ≠ g) w W → W.cell? ⟨g, o, none⟩ = some (.int .i64 x) := by
  obtain ⟨g, o, cap, rfl, h1, h2, h3⟩ := h.l3.cells intE_ok (by rw [e]; simp)
  rw [e] at h1 h3
  refine ⟨g, o, cap, by rw [e]; rfl, h1, h2, (h.f3 g rfl).2, h.l3.lt rfl, fun W c => ?_⟩
  have := (h3 W (c.mono fun i _ e c => e (by simpa [Value.ownBlock] using c.symm))).1 0 0 (by simp) (by decide)
  simpa [intE] using this
theorem Ch.open2 (h : Ch w F bc v1 v2 v3 s) {x : Snd} {l : List Snd} (e : s.snds = x :: l) : ∃ g o cap, v2 = .slice (some ⟨g, o, none⟩) (l.length + 1) cap ∧ l.length + 1 ≤ cap ∧ cap ≤ maxLen ∧ g ≠ bc ∧ g < w.heap.size ∧ ∀ W, Cha (fun i => i ≠ g) w W → W.cell? ⟨g, o, none⟩ = some (.int .i64 x.id) ∧ W.cell? ⟨g, o + 1, none⟩ = some (.int .u64 x.val) := by
  obtain ⟨g, o, cap, rfl, h1, h2, h3⟩ := h.l2.cells sndE_ok (by rw [e]; simp)
  rw [e] at h1 h3
  refine ⟨g, o, cap, by rw [e]; rfl, h1, h2, (h.f2 g rfl).2, h.l2.lt rfl, fun W c => ?_⟩
  have h4 := (h3 W (c.mono fun i _ e c => e (by simpa [Value.ownBlock] using c.symm))).1
  have a := h4 0 0 (by simp) (by decide)
  have b := h4 0 1 (by simp) (by decide)
  exact ⟨by simpa [sndE] using a, by simpa [sndE] using b⟩
theorem Ch.take1 (h : Ch w F bc (.slice (some ⟨g, o, none⟩) n cap) v2 v3 s) {x : Int} {l : List Int} (e : s.vals = x :: l) (hh : W.heap[bc]? = (w.setCell ⟨bc, 2, none⟩ (tailV g o n cap 1)).heap[bc]?) (c : Cha (fun i => i = bc) w W) : Left w W F bc { s with vals := l } := by
  have h1 := h.l1
  rw [e] at h1
  exact h.put1 hh (c.mono fun _ _ e => .inl e) ((h1.tail u64E_ok).cha c fun g' hg => (h.f1 g' hg).2) (fun g' hg => .inl hg)
theorem Ch.take2 (h : Ch w F bc v1 (.slice (some ⟨g, o, none⟩) n cap) v3 s) {x : Snd} {l : List Snd} (e : s.snds = x :: l) (hh : W.heap[bc]? = (w.setCell ⟨bc, 3, none⟩ (tailV g o n cap 2)).heap[bc]?) (c : Cha (fun i => i = bc) w W) : Left w W F bc { s with snds := l } := by
  have h1 := h.l2
  rw [e] at h1
  exact h.put2 hh (c.mono fun _ _ e => .inl e) ((h1.tail sndE_ok).cha c fun g' hg => (h.f2 g' hg).2) (fun g' hg => .inl hg)
theorem Ch.take3 (h : Ch w F bc v1 v2 (.slice (some ⟨g, o, none⟩) n cap) s) {x : Int} {l : List Int} (e : s.rcvs = x :: l) (hh : W.heap[bc]? = (w.setCell ⟨bc, 4, none⟩ (tailV g o n cap 1)).heap[bc]?) (c : Cha (fun i => i = bc) w W) : Left w W F bc { s with rcvs := l } := by
  have h1 := h.l3
  rw [e] at h1
  exact h.put3 hh (c.mono fun _ _ e => .inl e) ((h1.tail intE_ok).cha c fun g' hg => (h.f3 g' hg).2) (fun g' hg => .inl hg)
/-- Behind an append to one of the lists, from a block that was just laid. -/
theorem Ch.app_at {α : Type} {E : Enc α} {w3 : World} {v : Value} {A N : List α} {g o cap i : Nat} {u : Value} (h : Ch w F bc v1 v2 v3 s) (c0 : Cha (fun _ => False) w W) (hv : v.ownBlock ≠ some bc) (hA : App E W w3 v A N g o cap) :
    (w3.setCell ⟨bc, i, none⟩ u).heap[bc]? = (w.setCell ⟨bc, i, none⟩ u).heap[bc]? ∧ Cha (fun i => i = bc ∨ v.ownBlock = some i) w (w3.setCell ⟨bc, i, none⟩ u) ∧ g ≠ bc ∧ (v.ownBlock = some g ∨ w.heap.size ≤ g) := by
  have hb := h.old _ h.fc
  have hb2 := Nat.lt_of_lt_of_le hb c0.size
  have hg : v.ownBlock = some g ∨ w.heap.size ≤ g := hA.at'.imp id fun e => Nat.le_trans c0.size e
  refine ⟨heap_at h.head (((hA.cha.old bc hb2 hv).trans (c0.old bc hb (fun f => f))).trans h.head), (((c0.wide.trans (hA.cha.mono fun _ _ e => .inr e))).setCell (p := ⟨bc, i, none⟩) (fun _ => .inl rfl) _), ?_, hg⟩
  rintro rfl
  rcases hg with e | e
  · exact hv e
  · omega
theorem queue_snd (h : Ch w F bc v1 v2 v3 s) (id v : Int) (hA : s.size < 8796093022208) :
    Calls Try.prog 16 #[.pointer (some ⟨bc, 0, none⟩), .int .i64 id, .int .u64 v, .bool true] w fun e w' => e = .returned (.tuple #[]) ∧ Left w w' F bc (s.queue id v true) := by
  have hA2 : s.snds.length < 8796093022208 := by unfold St.size at hA; omega
  obtain ⟨a, cap, rfl, hc, _⟩ := h.l2.form
  have k1 : w.cell? ⟨bc, 3, none⟩ = some (.slice a s.snds.length cap) := h.cell 3
  have H := Lib.hid h
  have hb := h.old _ h.fc
  have KX : Hid (∀ W', Cha (fun i => i ≠ bc) w W' → W'.cell? ⟨bc, 3, none⟩ = some (.slice a s.snds.length cap) ∧ W'.frozen? ⟨bc, 3, none⟩ = false) := Lib.hid fun W' c => H.out.keeps c 3
  clear h hc
  go_enter Try.func16, Try.ntmps16
  go_wp2_with (refine wpList_app sndE_ok rfl (.tmp 27) (.tmp 31) rfl (v := .slice a s.snds.length cap) (A := s.snds) rfl (H.out.l2.same ((Cha.refl (fun _ => False) w).alloc _)) ⟨w.heap.size, 0, none⟩ 1 1 [⟨id, v⟩] rfl rfl (just_new sndE w ⟨id, v⟩ _) Nat.zero_lt_one (by simp only [List.length_singleton, maxLen]; omega) (by show _ * 16 ≤ _; simp only [List.length_singleton]; omega) ?_; intro g3 o3 cap3 w3 hA3; obtain ⟨k5, k6⟩ := KX.out w3 (((Cha.refl _ w).alloc _).trans (hA3.cha.mono fun i _ e => (H.out.f2 i e).2)); have A3 := Lib.hid hA3; clear hA3)
  go_returns
  obtain ⟨e1, e2, e3, e4⟩ := H.out.app_at (i := 3) (u := .slice (some ⟨g3, o3, none⟩) (s.snds.length + [(⟨id, v⟩ : Snd)].length) cap3) ((Cha.refl (fun _ => False) w).alloc _) (fun e => (H.out.f2 _ e).2 rfl) A3.out
  exact ⟨rfl, H.out.put2 e1 e2 (A3.out.lies.cha ((Cha.refl (· = bc) w3).setCell (p := ⟨bc, 3, none⟩) (fun _ => rfl) _) (fun g hg => by cases hg; exact e3)) (fun g hg => by cases hg; exact e4)⟩
theorem queue_rcv (h : Ch w F bc v1 v2 v3 s) (id v : Int) (hA : s.size < 8796093022208) :
    Calls Try.prog 16 #[.pointer (some ⟨bc, 0, none⟩), .int .i64 id, .int .u64 v, .bool false] w fun e w' => e = .returned (.tuple #[]) ∧ Left w w' F bc (s.queue id v false) := by
  have hA2 : s.rcvs.length < 8796093022208 := by unfold St.size at hA; omega
  obtain ⟨a, cap, rfl, hc, _⟩ := h.l3.form
  have k1 : w.cell? ⟨bc, 4, none⟩ = some (.slice a s.rcvs.length cap) := h.cell 4
  have H := Lib.hid h
  have hb := h.old _ h.fc
  have KX : Hid (∀ W', Cha (fun i => i ≠ bc) w W' → W'.cell? ⟨bc, 4, none⟩ = some (.slice a s.rcvs.length cap) ∧ W'.frozen? ⟨bc, 4, none⟩ = false) := Lib.hid fun W' c => H.out.keeps c 4
  clear h hc
  go_enter Try.func16, Try.ntmps16
  go_wp2_with (refine wpList_app intE_ok rfl (.tmp 12) (.tmp 14) rfl (v := .slice a s.rcvs.length cap) (A := s.rcvs) rfl (H.out.l3.same ((Cha.refl (fun _ => False) w).alloc _)) ⟨w.heap.size, 0, none⟩ 1 1 [id] rfl rfl (just_new intE w id _) Nat.zero_lt_one (by simp only [List.length_singleton, maxLen]; omega) (by show _ * 8 ≤ _; simp only [List.length_singleton]; omega) ?_; intro g3 o3 cap3 w3 hA3; obtain ⟨k5, k6⟩ := KX.out w3 (((Cha.refl _ w).alloc _).trans (hA3.cha.mono fun i _ e => (H.out.f3 i e).2)); have A3 := Lib.hid hA3; clear hA3)
  go_returns
  obtain ⟨e1, e2, e3, e4⟩ := H.out.app_at (i := 4) (u := .slice (some ⟨g3, o3, none⟩) (s.rcvs.length + [id].length) cap3) ((Cha.refl (fun _ => False) w).alloc _) (fun e => (H.out.f3 _ e).2 rfl) A3.out
  exact ⟨rfl, H.out.put3 e1 e2 (A3.out.lies.cha ((Cha.refl (· = bc) w3).setCell (p := ⟨bc, 4, none⟩) (fun _ => rfl) _) (fun g hg => by cases hg; exact e3)) (fun g hg => by cases hg; exact e4)⟩
theorem queue_any (h : Ch w F bc v1 v2 v3 s) (id v : Int) (b : Bool) (hA : s.size < 8796093022208) :
    Calls Try.prog 16 #[.pointer (some ⟨bc, 0, none⟩), .int .i64 id, .int .u64 v, .bool b] w fun e w' => e = .returned (.tuple #[]) ∧ Left w w' F bc (s.queue id v b) := by
  cases b
  · exact queue_rcv h id v hA
  · exact queue_snd h id v hA
theorem queue_none (id v : Int) (b : Bool) (w : World) : Calls Try.prog 16 #[.pointer none, .int .i64 id, .int .u64 v, .bool b] w fun e w' => e = .returned (.tuple #[]) ∧ w = w' := by
  go_enter Try.func16, Try.ntmps16
  go_wp2
  go_returns
  exact ⟨rfl, rfl⟩
end Go.Proofs.Ytnhjkmkocpjkmaa
