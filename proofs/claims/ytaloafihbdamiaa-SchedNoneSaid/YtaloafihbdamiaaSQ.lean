/- SchedNone. -/
import Derived.Test.YtaloafihbdamiaaSP
namespace Go.Proofs.Ytaloafihbdamiaa
open Go.ChangeShapes Go.WideShapes Go.ChangeAt Go.RowKit
theorem schednone_walk (p g : Int) (w : World) : Calls Try.prog 5 #[.int .i64 p, .int .i64 g] w fun e w' => e = .returned (.bool true) ∧ Cha (fun _ => False) w w' := by
  have C12 := Lib.hid fun w => begin_none p w
  have C13 := Lib.hid fun w => act_none p g w
  have C21 := Lib.hid fun w => tick_none 3 w
  have C23 := Lib.hid fun w => counts_none w
  have C11 := Lib.hid fun w => schawake_any w
  have C16 := Lib.hid fun w => yield_none p w
  have C17 := Lib.hid fun w => block_of (.pointer none) (.int .i64 p) (stop_none p 2 false w) ⟨_, rfl⟩
  have C18 := Lib.hid fun w => sleep_none p 1 w
  have C19 := Lib.hid fun w => end_of (.pointer none) (.int .i64 p) (stop_none p 3 false w) ⟨_, rfl⟩
  have C20 := Lib.hid fun w => ready_none p g w
  have C14 := Lib.hid fun w => state_none g w
  have C15 := Lib.hid fun w => current_none p w
  go_enter Try.func5, Try.ntmps5
  go_wp2_with (first
    | (go_at_call 12; ((with_reducible refine (C12.out _).mono ?_); rintro e w1 ⟨rfl, rfl⟩))
    | (go_at_call 13; ((with_reducible refine (C13.out _).mono ?_); rintro e w1 ⟨rfl, rfl⟩))
    | (go_at_call 21; ((with_reducible refine (C21.out _).mono ?_); rintro e w1 ⟨rfl, rfl⟩))
    | (go_at_call 23; ((with_reducible refine (C23.out _).mono ?_); rintro e w1 ⟨rfl, rfl⟩))
    | (go_at_call 11; ((with_reducible refine (C11.out _).mono ?_); rintro e w11 ⟨rfl, hc⟩; have H1 := Lib.hid hc; clear hc))
    | (go_at_call 16; ((with_reducible refine (C16.out _).mono ?_); rintro e w1 ⟨rfl, rfl⟩))
    | (go_at_call 17; ((with_reducible refine (C17.out _).mono ?_); rintro e w12 ⟨rfl, hc⟩; have H2 := Lib.hid hc; clear hc))
    | (go_at_call 18; ((with_reducible refine (C18.out _).mono ?_); rintro e w1 ⟨rfl, rfl⟩))
    | (go_at_call 19; ((with_reducible refine (C19.out _).mono ?_); rintro e w13 ⟨rfl, hc⟩; have H3 := Lib.hid hc; clear hc))
    | (go_at_call 20; ((with_reducible refine (C20.out _).mono ?_); rintro e w1 ⟨rfl, rfl⟩))
    | (go_at_call 14; ((with_reducible refine (C14.out _).mono ?_); rintro e w1 ⟨rfl, rfl⟩))
    | (go_at_call 15; ((with_reducible refine (C15.out _).mono ?_); rintro e w1 ⟨rfl, rfl⟩)))
  go_returns
  exact ⟨rfl, (H1.out.trans H2.out).trans H3.out⟩
end Go.Proofs.Ytaloafihbdamiaa
