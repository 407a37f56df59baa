/- The program's pacer: its state, and each of its calls. -/
import Derived.Test.YtlpgfdphoiideaaW
import Derived.Deep.RegionLaw
namespace Go.Proofs.Ytlpgfdphoiideaa
open Go.ChangeShapes Go.WideShapes Go.ChangeAt Go.RowKit

/-- A pacer's numbers. -/
structure PS where
  g : Int
  lim : Int
  heap : Int
  live : Int
  roots : Int
  goal : Int
  trig : Int
  ratio : Int
def isW (x : Int) : Prop := 0 ≤ x ∧ x ≤ 18446744073709551615
structure PS.Ok (s : PS) : Prop where
  g0 : -9223372036854775808 ≤ s.g
  g1 : s.g ≤ 1048576
  lim : isW s.lim
  heap : isW s.heap
  live : isW s.live
  roots : isW s.roots
  goal : isW s.goal
  trig : isW s.trig
  ratio : isW s.ratio
/-- The goal that the hundredths set. -/
def ownG (g live roots : Int) : Int := if g < 0 then 18446744073709551615 else max (M.sat (live + M.sat (M.sat (live + roots) * g / 100))) 256
/-- The goal, with a limit. -/
def goalG (g lim live roots : Int) : Int := if lim = 0 then ownG g live roots else min (ownG g live roots) (max lim live)
/-- The trigger. -/
def trigG (goal live : Int) : Int := M.dif goal (M.dif goal live / 4)
def PS.aim (s : PS) : PS := { s with goal := goalG s.g s.lim s.live s.roots, trig := trigG (goalG s.g s.lim s.live s.roots) s.live }
def PS.new (g lim : Int) : PS := PS.aim ⟨min g 1048576, lim, 0, 0, 0, 0, 0, 0⟩
def PS.alloc (s : PS) (n : Int) : PS := { s with heap := M.sat (s.heap + n) }
def PS.free (s : PS) (n : Int) : PS := { s with heap := M.dif s.heap n }
def ratioG (heap roots goal : Int) : Int := max (M.sat (M.sat (M.sat (M.sat (heap + roots) + 1) * 65536 / max (M.dif goal heap) 1) + 1)) 65536
def PS.begin (s : PS) : PS := { s with ratio := ratioG s.heap s.roots s.goal }
def PS.fin (s : PS) (live roots : Int) : PS := PS.aim { s with live := live, roots := roots, ratio := 0 }
def PS.owes (s : PS) (n : Int) : Int := M.sat (M.sat (n * s.ratio / 65536) + 1)
def PS.due (s : PS) : Bool := decide (s.trig ≤ s.heap)

theorem isW_sat {x : Int} (h : 0 ≤ x) : isW (M.sat x) := M.sat_bd x h
theorem isW_dif {x y : Int} (h : isW x) (k : isW y) : isW (M.dif x y) := by
  have := M.dif_bd x y h.1 k.1
  have := h.2
  unfold isW; omega
theorem ownG_ok {g live roots : Int} (h1 : isW live) (h2 : isW roots) : isW (ownG g live roots) := by
  unfold ownG
  split
  · unfold isW; omega
  · rename_i hg
    have a := isW_sat (x := live + roots) (by have := h1.1; have := h2.1; omega)
    have b : 0 ≤ M.sat (live + roots) * g / 100 := Int.ediv_nonneg (Int.mul_nonneg a.1 (by omega)) (by omega)
    have c := isW_sat b
    have d := isW_sat (x := live + M.sat (M.sat (live + roots) * g / 100)) (by have := h1.1; have := c.1; omega)
    unfold isW at *
    omega
theorem goalG_ok {g lim live roots : Int} (h0 : isW lim) (h1 : isW live) (h2 : isW roots) : isW (goalG g lim live roots) := by
  have a := ownG_ok (g := g) h1 h2
  unfold goalG
  split
  · exact a
  · unfold isW at *; omega
theorem trigG_ok {goal live : Int} (h0 : isW goal) (h1 : isW live) : isW (trigG goal live) := by
  have a := isW_dif h0 h1
  unfold trigG
  refine isW_dif h0 ?_
  unfold isW at *; omega
theorem PS.Ok.aim {s : PS} (h : s.Ok) : s.aim.Ok :=
  ⟨h.g0, h.g1, h.lim, h.heap, h.live, h.roots, goalG_ok h.lim h.live h.roots, trigG_ok (goalG_ok h.lim h.live h.roots) h.live, h.ratio⟩
theorem isW_0 : isW 0 := by unfold isW; omega
theorem PS.ok_new {g lim : Int} (h : -9223372036854775808 ≤ g) (k : isW lim) : (PS.new g lim).Ok :=
  PS.Ok.aim ⟨by show _ ≤ min g _; omega, by show min g _ ≤ _; omega, k, isW_0, isW_0, isW_0, isW_0, isW_0, isW_0⟩
theorem PS.Ok.alloc {s : PS} (h : s.Ok) {n : Int} (k : isW n) : (s.alloc n).Ok :=
  { h with heap := isW_sat (by have := h.heap.1; have := k.1; omega) }
theorem PS.Ok.free {s : PS} (h : s.Ok) {n : Int} (k : isW n) : (s.free n).Ok := { h with heap := isW_dif h.heap k }
theorem ratioG_parts {heap roots goal : Int} (h0 : isW heap) (h1 : isW roots) (h2 : isW goal) :
    isW (M.sat (heap + roots)) ∧ isW (M.sat (M.sat (heap + roots) + 1)) ∧ (1 ≤ max (M.dif goal heap) 1 ∧ max (M.dif goal heap) 1 ≤ 18446744073709551615) ∧
      isW (M.sat (M.sat (M.sat (heap + roots) + 1) * 65536 / max (M.dif goal heap) 1)) ∧ isW (M.sat (M.sat (M.sat (M.sat (heap + roots) + 1) * 65536 / max (M.dif goal heap) 1) + 1)) := by
  have a := isW_sat (x := heap + roots) (by have := h0.1; have := h1.1; omega)
  have b := isW_sat (x := M.sat (heap + roots) + 1) (by have := a.1; omega)
  have c := isW_dif h2 h0
  have d : 0 ≤ M.sat (M.sat (heap + roots) + 1) * 65536 / max (M.dif goal heap) 1 := Int.ediv_nonneg (by have := b.1; omega) (by omega)
  have e := isW_sat d
  refine ⟨a, b, ⟨by omega, by unfold isW at c; omega⟩, e, isW_sat (by have := e.1; omega)⟩
theorem PS.Ok.begin {s : PS} (h : s.Ok) : s.begin.Ok := by
  obtain ⟨_, _, _, _, e⟩ := ratioG_parts h.heap h.roots h.goal
  exact { h with ratio := by show isW (ratioG _ _ _); unfold ratioG; unfold isW at *; omega }
theorem PS.Ok.fin {s : PS} (h : s.Ok) {a b : Int} (h1 : isW a) (h2 : isW b) : (s.fin a b).Ok := PS.Ok.aim { h with live := h1, roots := h2, ratio := isW_0 }

/-- The program's pacer at a block. -/
def pcells (s : PS) : Array Value := #[.int .i64 s.g, .int .u64 s.lim, .int .u64 s.heap, .int .u64 s.roots, .int .u64 s.goal, .int .u64 s.trig, .int .u64 s.ratio]
def PP (w : World) (b : Nat) (s : PS) : Prop := w.heap[b]? = some (.cells (pcells s) 75 (0, 0))
section
variable {w w' : World} {b : Nat} {s : PS}
theorem row_lt {cs : Array Value} {t : TypeId} (h : w.heap[b]? = some (.cells cs t (0, 0))) : b < w.heap.size := by
  by_cases hl : b < w.heap.size
  · exact hl
  · rw [Array.getElem?_eq_none (by omega)] at h; cases h
theorem PP.lt (h : PP w b s) : b < w.heap.size := row_lt h
theorem PP.same (h : PP w b s) (c : Cha (fun _ => False) w w') : PP w' b s := (c.old _ h.lt (fun x => x)).trans h
theorem PP.cells (h : PP w b s) : w.cell? ⟨b, 0, none⟩ = some (.int .i64 s.g) ∧ w.cell? ⟨b, 1, none⟩ = some (.int .u64 s.lim) ∧ w.cell? ⟨b, 2, none⟩ = some (.int .u64 s.heap) ∧ w.cell? ⟨b, 3, none⟩ = some (.int .u64 s.roots) ∧
    w.cell? ⟨b, 4, none⟩ = some (.int .u64 s.goal) ∧ w.cell? ⟨b, 5, none⟩ = some (.int .u64 s.trig) ∧ w.cell? ⟨b, 6, none⟩ = some (.int .u64 s.ratio) :=
  ⟨cell_of_row w b 0 _ 75 (0, 0) h, cell_of_row w b 1 _ 75 (0, 0) h, cell_of_row w b 2 _ 75 (0, 0) h, cell_of_row w b 3 _ 75 (0, 0) h, cell_of_row w b 4 _ 75 (0, 0) h, cell_of_row w b 5 _ 75 (0, 0) h, cell_of_row w b 6 _ 75 (0, 0) h⟩
theorem PP.free (h : PP w b s) (i : Nat) : w.frozen? ⟨b, i, none⟩ = false := frozen_of_row w b i _ 75 h
end

theorem add_c (w : World) (a b : Int) (ha : isW a) (hb : isW b) : Calls Try.prog 44 #[.int .u64 a, .int .u64 b] w fun e w' => e = .returned (.int .u64 (M.sat (a + b))) ∧ w = w' := add_any a b w ha.1 ha.2 hb.1 hb.2
theorem sub_c (w : World) (a b : Int) (ha : isW a) (hb : isW b) : Calls Try.prog 46 #[.int .u64 a, .int .u64 b] w fun e w' => e = .returned (.int .u64 (M.dif a b)) ∧ w = w' := sub_any 46 (.inl rfl) a b w ha.1 ha.2 hb.1 hb.2

theorem own_any {w : World} {b : Nat} {s : PS} (h : PP w b s) (o : s.Ok) (live : Int) (hl : isW live) :
    Calls Try.prog 56 #[.pointer (some ⟨b, 0, none⟩), .int .u64 live] w fun e w' => e = .returned (.int .u64 (ownG s.g live s.roots)) ∧ Cha (fun _ => False) w w' := by
  obtain ⟨c0, c1, c2, c3, c4, c5, c6⟩ := h.cells
  by_cases hg : s.g < 0
  · rw [show ownG s.g live s.roots = 18446744073709551615 from if_pos hg]
    clear h c1 c2 c4 c5 c6
    go_enter Try.func56, Try.ntmps56
    go_wp2
    go_returns
    exact ⟨rfl, Cha.refl _ _⟩
  · rw [show ownG s.g live s.roots = max (M.sat (live + M.sat (M.sat (live + s.roots) * s.g / 100))) 256 from if_neg hg]
    have A := Lib.hid fun w => add_c w live s.roots hl o.roots
    have a := isW_sat (x := live + s.roots) (by have := hl.1; have := o.roots.1; omega)
    have hg1 := o.g1
    have MD := Lib.hid fun w => MulDiv_any (M.sat (live + s.roots)) s.g 100 w a.1 a.2 (by omega) (by omega) (by omega) (by omega)
    have b0 : 0 ≤ M.sat (live + s.roots) * s.g / 100 := Int.ediv_nonneg (Int.mul_nonneg a.1 (by omega)) (by omega)
    have c := isW_sat b0
    have A2 := Lib.hid fun w => add_c w live (M.sat (M.sat (live + s.roots) * s.g / 100)) hl c
    have d := isW_sat (x := live + M.sat (M.sat (live + s.roots) * s.g / 100)) (by have := hl.1; have := c.1; omega)
    generalize s.g = g at *
    generalize s.roots = r at *
    have hw : IntKind.u64.wrap g = g := by rw [IntKind.wrap_u64]; omega
    generalize M.sat (live + r) = x1 at *
    generalize M.sat (x1 * g / 100) = x2 at *
    generalize M.sat (live + x2) = x3 at *
    have KX : Hid (∀ w', Cha (fun _ => False) w w' → w'.cell? ⟨b, 0, none⟩ = some (.int .i64 g) ∧ w'.cell? ⟨b, 3, none⟩ = some (.int .u64 r)) := Lib.hid fun w' c => ⟨(cell_of_row w' b 0 _ 75 (0, 0) ((c.old _ h.lt (fun x => x)).trans h)).trans (c0 ▸ cell_of_row w b 0 _ 75 (0, 0) h ▸ rfl), (cell_of_row w' b 3 _ 75 (0, 0) ((c.old _ h.lt (fun x => x)).trans h)).trans (c3 ▸ cell_of_row w b 3 _ 75 (0, 0) h ▸ rfl)⟩
    clear h c1 c2 c4 c5 c6 b0 o
    go_enter Try.func56, Try.ntmps56
    go_wp2
    go_region_held3 (fun w' => w'.cell? ⟨b, 0, none⟩ = some (.int .i64 g) ∧ w'.cell? ⟨b, 3, none⟩ = some (.int .u64 r))
      (first
        | exact ⟨c0, c3⟩
        | exact ⟨y0, y1⟩
        | go_keep)
      (first
        | (go_at_call 44; refine (A.out _).mono ?_; rintro e5 w5 ⟨rfl, rfl⟩)
        | (go_at_call 61; refine (MD.out _).mono ?_; rintro e5 w5 ⟨rfl, hg5⟩; have hc5 := ((Cha.refl _ w).drew).trans (Cha.of_grown hg5); obtain ⟨y0, y1⟩ := KX.out _ hc5))
    all_goals
      go_wp2_with (go_at_call 44; refine (A2.out _).mono ?_; rintro e5 w6 ⟨rfl, rfl⟩)
      go_returns
      exact ⟨rfl, hc5⟩

theorem PP.put {w : World} {b : Nat} {cs ds : Array Value} {i : Nat} {v : Value} (h : w.heap[b]? = some (.cells cs 75 (0, 0))) (e : cs.setIfInBounds i v = ds) : (w.setCell ⟨b, i, none⟩ v).heap[b]? = some (.cells ds 75 (0, 0)) := by
  rw [← e]; exact heap_setCell_same w b i cs 75 v h
end Go.Proofs.Ytlpgfdphoiideaa
