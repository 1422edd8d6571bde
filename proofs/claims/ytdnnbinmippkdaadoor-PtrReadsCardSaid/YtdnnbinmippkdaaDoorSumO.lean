/- The listed variable of the laws of layer 2: what the row's condition gives; a world that meets it. -/
import Derived.Test.YtdnnbinmippkdaaDoorRows
import Derived.Test.YtdnnbinmippkdaaDoorSumB
import Derived.Test.YtdnnbinmippkdaaDoorRowC
import Derived.LaidLaws
import Derived.Lib.LaidTab
namespace Go.Proofs.YtdnnbinmippkdaaDoor
open Go.ChangeShapes Go.WideShapes Go.ChangeAt Go.RowKit
set_option maxRecDepth 100000

theorem bulk_lits {H : Type} (k : IntKind) (zs : List Int) : Rows.uptoBulkAll (H := H) (lits k zs) = zs.length := by
  induction zs with
  | nil => rfl
  | cons z zs ih =>
    have e : (lits k (z :: zs) : List (DataW H)) = .lit (.int k z) :: lits k zs := rfl
    rw [e, Rows.uptoBulkAll, ih, List.length_cons]
    simp only [Rows.uptoBulk]
    omega
theorem g_primes : Tryd.prog.globalNamed "undercroft/sum.primes" = some 0 := by kernel_rfl
theorem g_primesType : (Tryd.prog.globals[0]?).map (·.type) = some 127 := by kernel_rfl
theorem cells_u32 : Tryd.prog.cellsOf 119 = 1 := by kernel_rfl
theorem cells_tab : Tryd.prog.cellsOf 127 = 64 := by kernel_rfl
theorem primes_of_laid {W : World} (h : laidMetH Tryd.prog [("undercroft/sum.primes", Rows.laid_undercroft_sum_primes)] W) : Primes W := by
  have h2 : laidMet Tryd.prog [("undercroft/sum.primes", Lib.tabData .u32 PR)] W := h
  have hT : Lib.TabIs Tryd.prog W "undercroft/sum.primes" .u32 PR := Lib.tabIs_of_head g_primes g_primesType Tryd.underlying127 Tryd.underlying119 cells_u32 cells_tab h2
  exact fun t ht => hT.cell g_primes t ht
/-- The settled world, the variable holding what its initialiser lays. -/
noncomputable def laidW (os : Os) : World :=
  { World.holding Tryd.prog os ⟨#[], #[], []⟩ with heap := (World.holding Tryd.prog os ⟨#[], #[], []⟩).heap.modify 0 fun
      | .cells _ t frozen => .cells (PR.map fun z => Value.int .u32 z).toArray t frozen
      | o => o }
theorem laid_met (os : Os) (args : Array Value) : laidMet Tryd.prog [("undercroft/sum.primes", Rows.laid_undercroft_sum_primes)] ((laidW os).forCall (fun _ _ => 0) ⟨#[], args, []⟩).memory :=
  laidMet_of_run' 8 (by kernel_rfl) (by kernel_rfl)
end Go.Proofs.YtdnnbinmippkdaaDoor
