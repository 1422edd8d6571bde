/- The three listed variables of SumOf: what the row's condition gives; a world that meets it. -/
import Derived.Test.YtcnochabdhdlnaaDoorSumO
import Derived.Test.YtcnochabdhdlnaaDoorSumAe
import Derived.LaidSub
namespace Go.Proofs.YtcnochabdhdlnaaDoor
open Go.ChangeShapes Go.WideShapes Go.ChangeAt Go.RowKit
set_option maxRecDepth 100000

def FI : List Int := [1779033703, 3144134277, 1013904242, 2773480762, 1359893119, 2600822924, 528734635, 1541459225]
theorem g_first : Tryd.prog.globalNamed "undercroft/undercroftref02.first" = some 0 := by kernel_rfl
theorem g_firstType : (Tryd.prog.globals[0]?).map (·.type) = some 61 := by kernel_rfl
theorem g_rounds : Tryd.prog.globalNamed "undercroft/undercroftref02.rounds" = some 1 := by kernel_rfl
theorem g_roundsType : (Tryd.prog.globals[1]?).map (·.type) = some 68 := by kernel_rfl
theorem cells_tab8 : Tryd.prog.cellsOf 61 = 8 := by kernel_rfl
theorem keep_one {W : World} {l : List (String × DataW Unit)} (name : String) {d : DataW Unit} (h : laidMet Tryd.prog l W) (hl : l.filter (fun x => x.1 == name) = [(name, d)]) : laidMet Tryd.prog [(name, d)] W := by
  have h2 := h.filter (fun x => x.1 == name)
  rwa [hl] at h2
theorem vars_of_laid {W : World} (h : laidMetH Tryd.prog [("undercroft/sum.primes", Rows.laid_undercroft_sum_primes), ("undercroft/undercroftref02.first", Rows.laid_undercroft_undercroftref02_first), ("undercroft/undercroftref02.rounds", Rows.laid_undercroft_undercroftref02_rounds)] W) : Primes W ∧ Vars W := by
  have h2 : laidMet Tryd.prog [("undercroft/sum.primes", Lib.tabData .u32 PR), ("undercroft/undercroftref02.first", Lib.tabData .u32 FI), ("undercroft/undercroftref02.rounds", Lib.tabData .u32 PR)] W := h
  have hT : Lib.TabIs Tryd.prog W "undercroft/sum.primes" .u32 PR := Lib.tabIs_of_head g_primes g_primesType Tryd.underlying68 Tryd.underlying59 cells_u32 cells_tab h2
  have hF : Lib.TabIs Tryd.prog W "undercroft/undercroftref02.first" .u32 FI := Lib.tabIs_of_head (rest := []) g_first g_firstType Tryd.underlying61 Tryd.underlying59 cells_u32 cells_tab8 (keep_one _ h2 rfl)
  have hR : Lib.TabIs Tryd.prog W "undercroft/undercroftref02.rounds" .u32 PR := Lib.tabIs_of_head (rest := []) g_rounds g_roundsType Tryd.underlying68 Tryd.underlying59 cells_u32 cells_tab (keep_one _ h2 rfl)
  refine ⟨fun t ht => hT.cell g_primes t ht, ⟨fun t ht => hR.cell g_rounds t ht, fun t ht => ?_⟩⟩
  rw [hF.cell g_first t ht]
  have h8 : t = 0 ∨ t = 1 ∨ t = 2 ∨ t = 3 ∨ t = 4 ∨ t = 5 ∨ t = 6 ∨ t = 7 := by omega
  rcases h8 with rfl | rfl | rfl | rfl | rfl | rfl | rfl | rfl <;> rfl
/-- The settled world, the variables holding what their initialisers lay. -/
noncomputable def laidW3 (os : Os) : World :=
  { laidW os with heap := ((laidW os).heap.modify 0 fun
      | .cells _ t frozen => .cells (FI.map fun z => Value.int .u32 z).toArray t frozen
      | o => o).modify 1 fun
      | .cells _ t frozen => .cells (PR.map fun z => Value.int .u32 z).toArray t frozen
      | o => o }
theorem laid_met3 (os : Os) (args : Array Value) : laidMet Tryd.prog [("undercroft/sum.primes", Rows.laid_undercroft_sum_primes), ("undercroft/undercroftref02.first", Rows.laid_undercroft_undercroftref02_first), ("undercroft/undercroftref02.rounds", Rows.laid_undercroft_undercroftref02_rounds)] ((laidW3 os).forCall (fun _ _ => 0) ⟨#[], args, []⟩).memory :=
  laidMet_of_run' 8 (by kernel_rfl) (by kernel_rfl)
end Go.Proofs.YtcnochabdhdlnaaDoor
