/- Check: slots whose kinds hang on nothing else. -/
import Derived.Test.YtpdjbhnpahkbpaaVP
namespace Go.Proofs.Ytpdjbhnpahkbpaa
set_option linter.unusedVariables false
open Go.ChangeShapes Go.WideShapes Go.ChangeAt Go.RowKit
section
variable {W w w' : World} {x : SV} {p : PZ} {f : FZ} {i : IZ}
/-- What a call leaves that answers slots that are wanted. -/
def SaysW (W : World) (ws : List (Int × Int)) : Ending → World → Prop := fun r w' => ∃ a c, r = .returned (.slice a ws.length c) ∧ RdS 2 RdW (· < w'.heap.size) w' (.slice a ws.length c) ws ∧ Cha (fun _ => False) W w'
theorem wants0 (w : World) : RdS 2 RdW (· < w.heap.size) w (.slice none 0 0) [] := RdS.nil _ _ _ _
theorem want1b (o : Obj) (y k : Int) (t : TypeId) : RdS 2 RdW (· < ((W.alloc o).alloc (.cells #[.int .i64 y, .int .i64 k] t)).heap.size) ((W.alloc o).alloc (.cells #[.int .i64 y, .int .i64 k] t)) (.slice (some ⟨W.heap.size + 1, 0, none⟩) 1 1) [(y, k)] := by
  have h := want1 (W.alloc o) y k t
  have e : (W.alloc o).heap.size = W.heap.size + 1 := World.size_alloc ..
  exact e ▸ h
theorem want2b (o : Obj) (y k z l : Int) (t : TypeId) : RdS 2 RdW (· < ((W.alloc o).alloc (.cells #[.int .i64 y, .int .i64 k, .int .i64 z, .int .i64 l] t)).heap.size) ((W.alloc o).alloc (.cells #[.int .i64 y, .int .i64 k, .int .i64 z, .int .i64 l] t)) (.slice (some ⟨W.heap.size + 1, 0, none⟩) 2 2) [(y, k), (z, l)] := by
  have h := want2 (W.alloc o) y k z l t
  have e : (W.alloc o).heap.size = W.heap.size + 1 := World.size_alloc ..
  exact e ▸ h
theorem want3b (o : Obj) (y k z l u m : Int) (t : TypeId) : RdS 2 RdW (· < ((W.alloc o).alloc (.cells #[.int .i64 y, .int .i64 k, .int .i64 z, .int .i64 l, .int .i64 u, .int .i64 m] t)).heap.size) ((W.alloc o).alloc (.cells #[.int .i64 y, .int .i64 k, .int .i64 z, .int .i64 l, .int .i64 u, .int .i64 m] t)) (.slice (some ⟨W.heap.size + 1, 0, none⟩) 3 3) [(y, k), (z, l), (u, m)] := by
  have h := want3 (W.alloc o) y k z l u m t
  have e : (W.alloc o).heap.size = W.heap.size + 1 := World.size_alloc ..
  exact e ▸ h
/-- The instructions whose slots hang on nothing else. -/
def isFix (op : Int) : Prop := (3 ≤ op ∧ op ≤ 22) ∨ op = 39 ∨ op = 40 ∨ op = 46 ∨ op = 47 ∨ op = 49 ∨ op = 50 ∨ op = 51 ∨ op = 52
set_option maxHeartbeats 8000000 in
theorem fixed_any (h : Sit W x p f i) (ho : isFix i.op) : Calls Try.prog 102 #[x.v f i] W (SaysW W (fixedZ i.op i.a i.b i.c)) := by
  clear h
  obtain ⟨aT, nT, cT, aG, nG, cG, aF, nF, cF, aS, nS, cS, aR, nR, cR, aC, nC, cC, aL, nL, cL⟩ := x
  obtain ⟨pa, sl, re, co⟩ := f
  obtain ⟨op, a, b, c, im, li⟩ := i
  dsimp only [SV.v] at *
  have ho : op = 3 ∨ op = 4 ∨ op = 5 ∨ op = 6 ∨ op = 7 ∨ op = 8 ∨ op = 9 ∨ op = 10 ∨ op = 11 ∨ op = 12 ∨ op = 13 ∨ op = 14 ∨ op = 15 ∨ op = 16 ∨ op = 17 ∨ op = 18 ∨ op = 19 ∨ op = 20 ∨ op = 21 ∨ op = 22 ∨ op = 39 ∨ op = 40 ∨ op = 46 ∨ op = 47 ∨ op = 49 ∨ op = 50 ∨ op = 51 ∨ op = 52 := by unfold isFix at ho; omega
  rcases ho with rfl | rfl | rfl | rfl | rfl | rfl | rfl | rfl | rfl | rfl | rfl | rfl | rfl | rfl | rfl | rfl | rfl | rfl | rfl | rfl | rfl | rfl | rfl | rfl | rfl | rfl | rfl | rfl
  all_goals
    go_enter Try.func102, Try.ntmps102
    go_wp2
    go_ret
    first
      | exact ⟨_, _, rfl, want3b _ _ _ _ _ _ _ _, (cha_box).trans cha_box⟩
      | exact ⟨_, _, rfl, want2b _ _ _ _ _ _, (cha_box).trans cha_box⟩
      | exact ⟨_, _, rfl, want1b _ _ _ _, (cha_box).trans cha_box⟩
      | exact ⟨_, _, rfl, wants0 _, cha_box⟩
end
end Go.Proofs.Ytpdjbhnpahkbpaa
