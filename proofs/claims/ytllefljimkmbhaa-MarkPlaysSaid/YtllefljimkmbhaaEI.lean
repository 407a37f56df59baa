/- The document's New. -/
import Derived.Test.YtllefljimkmbhaaEH
namespace Go.Proofs.Ytllefljimkmbhaa
open Go.ChangeShapes Go.WideShapes Go.ChangeAt Go.RowKit
variable {w w' w1 W W' : World}

theorem mk_obj (W : World) : (Instr.makeSlice 49 (.int .i64 1) (.int .i64 1)).run Try.prog W = .ok (.slice (some ⟨W.heap.size, 0, none⟩) 1 1) (W.alloc (.cells #[.slice none 0 0, .int .i64 0] 77)) := by
  obtain ⟨i, hi, hz, hs, hb⟩ := info_parts obE_ok.inf
  have hb : i.bytes = 32 := hb
  have hs : i.size = 2 := hs
  have h := run_make (P := Try.prog) W 49 77 i _ Try.underlying49 hi hz .i64 .i64 1 1 (by omega) (by omega) (by rw [hb]; omega) (by omega)
  have e : madeCells obE.z.cells (1 * 2) = #[.slice none 0 0, .int .i64 0] := by kernel_rfl
  rw [hs, show Int.toNat 1 = 1 from rfl, e] at h
  exact h
theorem dnew_mine (W : World) : Mine W (DmA (W.heap.size + 1) Gr.new) ((W.alloc (.cells #[.slice none 0 0, .int .i64 0] 77)).alloc (.cells #[.slice (some ⟨W.heap.size, 0, none⟩) 1 1, .slice none 0 0, .slice none 0 0, .int .i64 0, .int .i64 0, .int .i64 0, .int .i64 0] 52)) := by
  have e1 := heap_alloc_new (W.alloc (.cells #[.slice none 0 0, .int .i64 0] 77)) (.cells #[.slice (some ⟨W.heap.size, 0, none⟩) 1 1, .slice none 0 0, .slice none 0 0, .int .i64 0, .int .i64 0, .int .i64 0, .int .i64 0] 52)
  rw [World.size_alloc] at e1
  have e0 : ((W.alloc (.cells #[.slice none 0 0, .int .i64 0] 77)).alloc (.cells #[.slice (some ⟨W.heap.size, 0, none⟩) 1 1, .slice none 0 0, .slice none 0 0, .int .i64 0, .int .i64 0, .int .i64 0, .int .i64 0] 52)).heap[W.heap.size]? = some (.cells #[.slice none 0 0, .int .i64 0] 77 (0, 0)) := by
    rw [heap_alloc_old _ _ (by rw [World.size_alloc]; omega)]
    exact heap_alloc_new W _
  refine ⟨fun i => i = W.heap.size ∨ i = W.heap.size + 1, ⟨.slice (some ⟨W.heap.size, 0, none⟩) 1 1, .slice none 0 0, .slice none 0 0, fun _ => 0, fun i => if i = W.heap.size then 1 else 0, 0, ?_⟩, ((Cha.refl _ W).alloc _).alloc _, fun i e => by omega⟩
  exact { head := e1, lo := .inr ⟨W.heap.size, 0, 1, _, rfl, Nat.le_refl _, by decide, e0, by decide, fun i hi => by
            have hi : i < 2 := hi
            match i, hi with
            | 0, _ => rfl
            | 1, _ => rfl⟩,
          lr := Lies.nil _ _, lq := Lies.nil _ _, fld := fun id a b => by { have b : id ≤ 0 := b; omega }, tg := ⟨by { show (if W.heap.size + 1 = W.heap.size then 1 else 0) = 0; rw [if_neg (by omega)] }, .inr rfl⟩,
          tv := fun b e => by { cases e; exact ⟨if_pos rfl, .inl rfl⟩ }, tr := fun b e => by { cases e }, tq := fun b e => by { cases e }, tf := fun id a b => by { have b : id ≤ 0 := b; omega }, sws := fun e => by { cases e },
          old := fun i e => by { rw [World.size_alloc, World.size_alloc]; omega } }
theorem dnew_any (W : World) : Calls Try.prog 10 #[] W fun e W' => ∃ bd, e = .returned (.pointer (some ⟨bd, 0, none⟩)) ∧ Mine W (DmA bd Gr.new) W' := by
  have H := Lib.hid (dnew_mine W)
  go_enter Try.func10, Try.ntmps10
  go_wp2_with (rw [mk_obj])
  go_returns
  exact ⟨_, rfl, H.out⟩
end Go.Proofs.Ytllefljimkmbhaa
