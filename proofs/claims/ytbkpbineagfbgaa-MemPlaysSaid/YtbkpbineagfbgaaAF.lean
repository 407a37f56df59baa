/- Both memories beside one another: the pairs of calls. -/
import Derived.Test.YtbkpbineagfbgaaAE
namespace Go.Proofs.Ytbkpbineagfbgaa
open Go.ChangeShapes Go.WideShapes Go.ChangeAt Go.RowKit
variable {w W0 : World} {bm bp br n : Nat} {T : Nat → Prop} {st wd : Nat → Int}

theorem Two.same {W W' : World} (h : Two w W bm bp br n T st wd) (c : Chg (fun _ => False) W W') : Half w W' bm bp br n T st wd st wd ∧ Cha (· = bp) W W' := Half.same h c
theorem Two.stay {W W' : World} (h : Half w W bm bp br n T st wd st wd) (e : W = W') : Next w W W' bm bp br n T st wd := e ▸ Two.next h
theorem pair_map (a b : Int) (hb2 : b ≤ 9223372036854775807) (_ : Two w W0 bm bp br n T st wd) : ∃ (r : Int) (st' wd' : Nat → Int),
    (∀ W, Two w W bm bp br n T st wd → Calls Try.prog 17 #[.pointer (some ⟨bm, 0, none⟩), .int .i64 a, .int .i64 b] W fun e W' => e = .returned (.int .i64 r) ∧ Half w W' bm bp br n T st wd st' wd' ∧ Cha (· = bp) W W') ∧
    (∀ W, Half w W bm bp br n T st wd st' wd' → Calls Try.prog 24 #[.pointer (some ⟨br, 0, none⟩), .int .i64 a, .int .i64 b] W fun e W' => e = .returned (.int .i64 r) ∧ Next w W W' bm bp br n T st' wd') := by
  by_cases hx : b < 1 ∨ a < 0 ∨ (n : Int) - b < a
  · refine ⟨1, st, wd, fun W h => (map_arg a b h.mem hb2 hx).mono fun _ _ ⟨he, hc⟩ => ⟨he, Two.same h hc⟩, fun W h => ?_⟩
    obtain ⟨bs, bw, ws, bl, hr⟩ := h.ref
    exact (rmap_arg a b hr hb2 hx).mono fun _ _ ⟨he, e⟩ => ⟨he, Two.stay h e⟩
  · obtain ⟨a, rfl⟩ : ∃ a' : Nat, a = (a' : Int) := ⟨a.toNat, by omega⟩
    obtain ⟨b, rfl⟩ : ∃ b' : Nat, b = (b' : Int) := ⟨b.toNat, by omega⟩
    cases hall : allB st a [0] b
    · refine ⟨5, st, wd, fun W h => (map_state a b h.mem (by omega) (by omega) hall).mono fun _ _ ⟨he, hc⟩ => ⟨he, Two.same h hc⟩, fun W h => ?_⟩
      obtain ⟨bs, bw, ws, bl, hr⟩ := h.ref
      exact (rmap_state a b hr (by omega) (by omega) hall).mono fun _ _ ⟨he, e⟩ => ⟨he, Two.stay h e⟩
    · refine ⟨0, _, _, fun W h => (map_ok a b h.mem (by omega) (by omega) hall).mono fun _ _ ⟨he, hm, hc⟩ => ⟨he, Half.turn h hm (h.zer.reset _ _ _) hc⟩, fun W h => ?_⟩
      obtain ⟨bs, bw, ws, bl, hr⟩ := h.ref
      exact (rmap_ok a b hr (by omega) (by omega) hall).mono fun _ _ ⟨he, hl⟩ => ⟨he, h.next hl⟩
theorem pair_unmap (a b : Int) (hb2 : b ≤ 9223372036854775807) (_ : Two w W0 bm bp br n T st wd) : ∃ (r : Int) (st' wd' : Nat → Int),
    (∀ W, Two w W bm bp br n T st wd → Calls Try.prog 22 #[.pointer (some ⟨bm, 0, none⟩), .int .i64 a, .int .i64 b] W fun e W' => e = .returned (.int .i64 r) ∧ Half w W' bm bp br n T st wd st' wd' ∧ Cha (· = bp) W W') ∧
    (∀ W, Half w W bm bp br n T st wd st' wd' → Calls Try.prog 25 #[.pointer (some ⟨br, 0, none⟩), .int .i64 a, .int .i64 b] W fun e W' => e = .returned (.int .i64 r) ∧ Next w W W' bm bp br n T st' wd') := by
  by_cases hx : b < 1 ∨ a < 0 ∨ (n : Int) - b < a
  · refine ⟨1, st, wd, fun W h => (unmap_arg a b h.mem hb2 hx).mono fun _ _ ⟨he, hc⟩ => ⟨he, Two.same h hc⟩, fun W h => ?_⟩
    obtain ⟨bs, bw, ws, bl, hr⟩ := h.ref
    exact (runmap_arg a b hr hb2 hx).mono fun _ _ ⟨he, e⟩ => ⟨he, Two.stay h e⟩
  · obtain ⟨a, rfl⟩ : ∃ a' : Nat, a = (a' : Int) := ⟨a.toNat, by omega⟩
    obtain ⟨b, rfl⟩ : ∃ b' : Nat, b = (b' : Int) := ⟨b.toNat, by omega⟩
    cases hall : allB st a [1, 2] b
    · refine ⟨5, st, wd, fun W h => (unmap_state a b h.mem (by omega) (by omega) hall).mono fun _ _ ⟨he, hc⟩ => ⟨he, Two.same h hc⟩, fun W h => ?_⟩
      obtain ⟨bs, bw, ws, bl, hr⟩ := h.ref
      exact (runmap_state a b hr (by omega) (by omega) hall).mono fun _ _ ⟨he, e⟩ => ⟨he, Two.stay h e⟩
    · refine ⟨0, _, _, fun W h => (unmap_ok a b h.mem (by omega) (by omega) hall).mono fun _ _ ⟨he, hm, hc⟩ => ⟨he, Half.turn h hm (h.zer.reset _ _ _) hc⟩, fun W h => ?_⟩
      obtain ⟨bs, bw, ws, bl, hr⟩ := h.ref
      exact (runmap_ok a b hr (by omega) (by omega) hall).mono fun _ _ ⟨he, hl⟩ => ⟨he, h.next hl⟩
theorem pair_release (a b : Int) (hb2 : b ≤ 9223372036854775807) (_ : Two w W0 bm bp br n T st wd) : ∃ (r : Int) (st' wd' : Nat → Int),
    (∀ W, Two w W bm bp br n T st wd → Calls Try.prog 23 #[.pointer (some ⟨bm, 0, none⟩), .int .i64 a, .int .i64 b] W fun e W' => e = .returned (.int .i64 r) ∧ Half w W' bm bp br n T st wd st' wd' ∧ Cha (· = bp) W W') ∧
    (∀ W, Half w W bm bp br n T st wd st' wd' → Calls Try.prog 26 #[.pointer (some ⟨br, 0, none⟩), .int .i64 a, .int .i64 b] W fun e W' => e = .returned (.int .i64 r) ∧ Next w W W' bm bp br n T st' wd') := by
  by_cases hx : b < 1 ∨ a < 0 ∨ (n : Int) - b < a
  · refine ⟨1, st, wd, fun W h => (release_arg a b h.mem hb2 hx).mono fun _ _ ⟨he, hc⟩ => ⟨he, Two.same h hc⟩, fun W h => ?_⟩
    obtain ⟨bs, bw, ws, bl, hr⟩ := h.ref
    exact (rrelease_arg a b hr hb2 hx).mono fun _ _ ⟨he, e⟩ => ⟨he, Two.stay h e⟩
  · obtain ⟨a, rfl⟩ : ∃ a' : Nat, a = (a' : Int) := ⟨a.toNat, by omega⟩
    obtain ⟨b, rfl⟩ : ∃ b' : Nat, b = (b' : Int) := ⟨b.toNat, by omega⟩
    cases hall : allB st a [1] b
    · refine ⟨5, st, wd, fun W h => (release_state a b h.mem (by omega) (by omega) hall).mono fun _ _ ⟨he, hc⟩ => ⟨he, Two.same h hc⟩, fun W h => ?_⟩
      obtain ⟨bs, bw, ws, bl, hr⟩ := h.ref
      exact (rrelease_state a b hr (by omega) (by omega) hall).mono fun _ _ ⟨he, e⟩ => ⟨he, Two.stay h e⟩
    · refine ⟨0, _, _, fun W h => (release_ok a b h.mem (by omega) (by omega) hall).mono fun _ _ ⟨he, hm, hc⟩ => ⟨he, Half.turn h hm (h.zer.reset _ _ _) hc⟩, fun W h => ?_⟩
      obtain ⟨bs, bw, ws, bl, hr⟩ := h.ref
      exact (rrelease_ok a b hr (by omega) (by omega) hall).mono fun _ _ ⟨he, hl⟩ => ⟨he, h.next hl⟩

theorem no_iff (h : Two w W0 bm bp br n T st wd) (a : Int) : (a < 0 ∨ ¬ There n st a.toNat) ↔ (a < 0 ∨ ¬ RThere n st a.toNat) := by rw [there_iff h.mem]
theorem pair_load (a : Int) (ha : -9223372036854775808 ≤ a) (ha2 : a ≤ 9223372036854775807) (h0 : Two w W0 bm bp br n T st wd) : ∃ (x r : Int) (st' wd' : Nat → Int),
    (∀ W, Two w W bm bp br n T st wd → Calls Try.prog 20 #[.pointer (some ⟨bm, 0, none⟩), .int .i64 a] W fun e W' => e = .returned (.tuple #[.int .u64 x, .int .i64 r]) ∧ Half w W' bm bp br n T st wd st' wd' ∧ Cha (· = bp) W W') ∧
    (∀ W, Half w W bm bp br n T st wd st' wd' → Calls Try.prog 27 #[.pointer (some ⟨br, 0, none⟩), .int .i64 a] W fun e W' => e = .returned (.tuple #[.int .u64 x, .int .i64 r]) ∧ Next w W W' bm bp br n T st' wd') := by
  by_cases hx : a < 0 ∨ ¬ There n st a.toNat
  · refine ⟨0, 6, st, wd, fun W h => (load_no a h.mem hx).mono fun _ _ ⟨he, hc⟩ => ⟨he, Two.same h hc⟩, fun W h => ?_⟩
    obtain ⟨bs, bw, ws, bl, hr⟩ := h.ref
    exact (rload_no a hr ha ha2 ((no_iff h0 a).1 hx)).mono fun _ _ ⟨he, e⟩ => ⟨he, Two.stay h e⟩
  · obtain ⟨a, rfl⟩ : ∃ a' : Nat, a = (a' : Int) := ⟨a.toNat, by omega⟩
    have ht : There n st a := Classical.byContradiction fun c => hx (.inr (by rwa [Int.toNat_natCast]))
    have hr0 := (there_iff h0.mem a).1 ht
    refine ⟨wd a, 0, _, wd, fun W h => (load_yes a h.mem h.zer ht).mono fun _ _ ⟨he, hm, hc⟩ => ⟨he, Half.turn h hm (h.zer.touch _) hc⟩, fun W h => ?_⟩
    obtain ⟨bs, bw, ws, bl, hr⟩ := h.ref
    exact (rload_yes a hr hr0).mono fun _ _ ⟨he, hl, hc⟩ => ⟨he, h.nextOf hl hc⟩
theorem pair_store (a v : Int) (ha : -9223372036854775808 ≤ a) (ha2 : a ≤ 9223372036854775807) (h0 : Two w W0 bm bp br n T st wd) : ∃ (r : Int) (st' wd' : Nat → Int),
    (∀ W, Two w W bm bp br n T st wd → Calls Try.prog 18 #[.pointer (some ⟨bm, 0, none⟩), .int .i64 a, .int .u64 v] W fun e W' => e = .returned (.int .i64 r) ∧ Half w W' bm bp br n T st wd st' wd' ∧ Cha (· = bp) W W') ∧
    (∀ W, Half w W bm bp br n T st wd st' wd' → Calls Try.prog 28 #[.pointer (some ⟨br, 0, none⟩), .int .i64 a, .int .u64 v] W fun e W' => e = .returned (.int .i64 r) ∧ Next w W W' bm bp br n T st' wd') := by
  by_cases hx : a < 0 ∨ ¬ There n st a.toNat
  · refine ⟨6, st, wd, fun W h => (store_no a v h.mem hx).mono fun _ _ ⟨he, hc⟩ => ⟨he, Two.same h hc⟩, fun W h => ?_⟩
    obtain ⟨bs, bw, ws, bl, hr⟩ := h.ref
    exact (rstore_no a v hr ha ha2 ((no_iff h0 a).1 hx)).mono fun _ _ ⟨he, e⟩ => ⟨he, Two.stay h e⟩
  · obtain ⟨a, rfl⟩ : ∃ a' : Nat, a = (a' : Int) := ⟨a.toNat, by omega⟩
    have ht : There n st a := Classical.byContradiction fun c => hx (.inr (by rwa [Int.toNat_natCast]))
    have hr0 := (there_iff h0.mem a).1 ht
    refine ⟨0, _, _, fun W h => (store_yes a v h.mem h.zer ht).mono fun _ _ ⟨he, hm, hc⟩ => ⟨he, Half.turn h hm (h.zer.write _ _) hc⟩, fun W h => ?_⟩
    obtain ⟨bs, bw, ws, bl, hr⟩ := h.ref
    exact (rstore_yes a v hr hr0).mono fun _ _ ⟨he, hl, hc⟩ => ⟨he, h.nextOf hl hc⟩
theorem pair_cas (a o v : Int) (ha : -9223372036854775808 ≤ a) (ha2 : a ≤ 9223372036854775807) (h0 : Two w W0 bm bp br n T st wd) : ∃ (x : Bool) (r : Int) (st' wd' : Nat → Int),
    (∀ W, Two w W bm bp br n T st wd → Calls Try.prog 21 #[.pointer (some ⟨bm, 0, none⟩), .int .i64 a, .int .u64 o, .int .u64 v] W fun e W' => e = .returned (.tuple #[.bool x, .int .i64 r]) ∧ Half w W' bm bp br n T st wd st' wd' ∧ Cha (· = bp) W W') ∧
    (∀ W, Half w W bm bp br n T st wd st' wd' → Calls Try.prog 29 #[.pointer (some ⟨br, 0, none⟩), .int .i64 a, .int .u64 o, .int .u64 v] W fun e W' => e = .returned (.tuple #[.bool x, .int .i64 r]) ∧ Next w W W' bm bp br n T st' wd') := by
  by_cases hx : a < 0 ∨ ¬ There n st a.toNat
  · refine ⟨false, 6, st, wd, fun W h => (cas_no a o v h.mem hx).mono fun _ _ ⟨he, hc⟩ => ⟨he, Two.same h hc⟩, fun W h => ?_⟩
    obtain ⟨bs, bw, ws, bl, hr⟩ := h.ref
    exact (rcas_no a o v hr ha ha2 ((no_iff h0 a).1 hx)).mono fun _ _ ⟨he, e⟩ => ⟨he, Two.stay h e⟩
  · obtain ⟨a, rfl⟩ : ∃ a' : Nat, a = (a' : Int) := ⟨a.toNat, by omega⟩
    have ht : There n st a := Classical.byContradiction fun c => hx (.inr (by rwa [Int.toNat_natCast]))
    have hr0 := (there_iff h0.mem a).1 ht
    by_cases ho : wd a = o
    · refine ⟨true, 0, _, _, fun W h => (cas_hit a o v h.mem h.zer ht ho).mono fun _ _ ⟨he, hm, hc⟩ => ⟨he, Half.turn h hm (h.zer.write _ _) hc⟩, fun W h => ?_⟩
      obtain ⟨bs, bw, ws, bl, hr⟩ := h.ref
      exact (rcas_hit a o v hr hr0 ho).mono fun _ _ ⟨he, hl, hc⟩ => ⟨he, h.nextOf hl hc⟩
    · refine ⟨false, 0, _, wd, fun W h => (cas_miss a o v h.mem h.zer ht ho).mono fun _ _ ⟨he, hm, hc⟩ => ⟨he, Half.turn h hm (h.zer.touch _) hc⟩, fun W h => ?_⟩
      obtain ⟨bs, bw, ws, bl, hr⟩ := h.ref
      exact (rcas_miss a o v hr hr0 ho).mono fun _ _ ⟨he, hl, hc⟩ => ⟨he, h.nextOf hl hc⟩

theorem zer_cpy {n : Nat} {st wd : Nat → Int} (h : Zer n st wd) (hr : ∀ p, p < n → 0 ≤ st p ∧ st p ≤ 2) (t f k : Nat) (hk : 1 ≤ k) (ha : ∀ i, i < k → RThere n st (t + i) ∧ RThere n st (f + i)) : Zer n (wst (wst st (f / 64) (np f k)) (t / 64) (np t k)) (cpy wd t f k) := fun a hl hs => by
  unfold cpy
  by_cases c : t ≤ a ∧ a < t + k
  · exfalso
    apply hs
    rw [← ld_ld hr t f k hk ha _ (by omega)]
    rcases ld_iff (ld st f k) t (a / 64) k with ⟨h1, _⟩ | ⟨_, h2⟩
    · exact h1
    · exact absurd (show (t + (a - t)) / 64 = a / 64 by rw [show t + (a - t) = a by omega]) (h2 (a - t) (by omega))
  · rw [if_neg c]
    exact ((h.wake _ _).wake _ _) a hl hs
theorem pair_copy (t f k : Int) (hk2 : k ≤ 9223372036854775807) (h0 : Two w W0 bm bp br n T st wd) : ∃ (r : Int) (st' wd' : Nat → Int),
    (∀ W, Two w W bm bp br n T st wd → Calls Try.prog 19 #[.pointer (some ⟨bm, 0, none⟩), .int .i64 t, .int .i64 f, .int .i64 k] W fun e W' => e = .returned (.int .i64 r) ∧ Half w W' bm bp br n T st wd st' wd' ∧ Cha (· = bp) W W') ∧
    (∀ W, Half w W bm bp br n T st wd st' wd' → Calls Try.prog 30 #[.pointer (some ⟨br, 0, none⟩), .int .i64 t, .int .i64 f, .int .i64 k] W fun e W' => e = .returned (.int .i64 r) ∧ Next w W W' bm bp br n T st' wd') := by
  by_cases hneg : k < 0
  · refine ⟨1, st, wd, fun W h => (copy_neg bm t f k W hneg).mono fun _ _ ⟨he, hc⟩ => ⟨he, Two.same h hc⟩, fun W h => ?_⟩
    obtain ⟨bs, bw, ws, bl, hr⟩ := h.ref
    exact (rcopy_neg t f k hr hneg).mono fun _ _ ⟨he, e⟩ => ⟨he, Two.stay h e⟩
  obtain ⟨k, rfl⟩ : ∃ k' : Nat, k = (k' : Int) := ⟨k.toNat, by omega⟩
  by_cases hz : k = 0
  · subst hz
    refine ⟨0, st, wd, fun W h => (copy_zero bm t f W).mono fun _ _ ⟨he, hc⟩ => ⟨he, Two.same h hc⟩, fun W h => ?_⟩
    obtain ⟨bs, bw, ws, bl, hr⟩ := h.ref
    exact (rcopy_zero t f hr).mono fun _ _ ⟨he, e⟩ => ⟨he, Two.stay h e⟩
  have hk : 1 ≤ k := by omega
  have hle := h0.mem.le
  by_cases hbad : (f < 0 ∨ ¬ Thr n st f.toNat k) ∨ (t < 0 ∨ ¬ Thr n st t.toNat k)
  · refine ⟨6, st, wd, fun W h => (copy_bad t f k h.mem hk hk2 hbad).mono fun _ _ ⟨he, hc⟩ => ⟨he, Two.same h hc⟩, fun W h => ?_⟩
    obtain ⟨bs, bw, ws, bl, hr⟩ := h.ref
    by_cases hbig : (n : Int) * 64 < k
    · exact (rcopy_big t f k hr hbig).mono fun _ _ ⟨he, e⟩ => ⟨he, Two.stay h e⟩
    · by_cases hw : t < 0 ∨ f < 0 ∨ 262144 < t ∨ 262144 < f
      · exact (rcopy_wild t f k hr hk (by omega) hw).mono fun _ _ ⟨he, e⟩ => ⟨he, Two.stay h e⟩
      · obtain ⟨t, rfl⟩ : ∃ t' : Nat, t = (t' : Int) := ⟨t.toNat, by omega⟩
        obtain ⟨f, rfl⟩ : ∃ f' : Nat, f = (f' : Int) := ⟨f.toNat, by omega⟩
        refine (rcopy_bad t f k hr hk (by omega) (by omega) (by omega) fun hall => ?_).mono fun _ _ ⟨he, e⟩ => ⟨he, Two.stay h e⟩
        rw [Int.toNat_natCast, Int.toNat_natCast] at hbad
        rcases hbad with (c | c) | (c | c)
        · omega
        · exact c ((thr_iff h0.mem f k hk).2 fun i hi => (hall i hi).2)
        · omega
        · exact c ((thr_iff h0.mem t k hk).2 fun i hi => (hall i hi).1)
  · obtain ⟨t, rfl⟩ : ∃ t' : Nat, t = (t' : Int) := ⟨t.toNat, by omega⟩
    obtain ⟨f, rfl⟩ : ∃ f' : Nat, f = (f' : Int) := ⟨f.toNat, by omega⟩
    rw [Int.toNat_natCast, Int.toNat_natCast] at hbad
    have hf : Thr n st f k := Classical.byContradiction fun c => hbad (.inl (.inr c))
    have ht : Thr n st t k := Classical.byContradiction fun c => hbad (.inr (.inr c))
    have hall : ∀ i, i < k → RThere n st (t + i) ∧ RThere n st (f + i) := fun i hi => ⟨(thr_iff h0.mem t k hk).1 ht i hi, (thr_iff h0.mem f k hk).1 hf i hi⟩
    have hrng := h0.mem.rng
    refine ⟨0, _, _, fun W h => (copy_ok t f k h.mem h.zer hk hf ht).mono fun _ _ ⟨he, hm, hc⟩ => ⟨he, Half.turn h hm (zer_cpy h.zer hrng t f k hk hall) hc⟩, fun W h => ?_⟩
    obtain ⟨bs, bw, ws, bl, hr⟩ := h.ref
    exact (rcopy_ok t f k hr hk hall).mono fun _ _ ⟨he, hl⟩ => ⟨he, h.next (hl.congr (fun p hp => ld_ld hrng t f k hk hall p hp) (fun _ _ => rfl))⟩
end Go.Proofs.Ytbkpbineagfbgaa
