/- The document's Open, of any cells that came in. -/
import Derived.Test.YthifchkeapbfdaaVolBp
namespace Go.Proofs.Ythifchkeapbfdaa
open Go.RowKit
set_option maxRecDepth 100000

theorem refOpen_any (W0 w : World) (pp : Option Addr) (n pc : Nat) (xs : List GCell) (hc : CameG W0 pp n pc xs) (hW : Frm [] W0 w) :
    Calls Try.prog 13 #[.slice pp n pc] w (PostRO xs w) := by
  by_cases h0 : 0 < xs.length
  · by_cases h4 : (xs[0]).zs.length = 4
    · obtain ⟨S, hS2, hS⟩ := leV_four h4 (hc.2.2.2.2.2 _ (List.getElem_mem h0)).2.2.2.2.1
      by_cases hsz : S < 256 ∨ 16384 < S ∨ S % 256 ≠ 0
      · exact refOpen_size W0 w pp n pc xs hc hW h0 S hS2 hS hsz
      · exact refOpen_ok W0 w pp n pc xs hc hW h0 S hS2 hS (by omega) (by omega) (by omega)
    · exact refOpen_head W0 w pp n pc xs hc hW (Or.inr (fun _ => h4))
  · exact refOpen_head W0 w pp n pc xs hc hW (Or.inl (by have := hc.1; omega))
end Go.Proofs.Ythifchkeapbfdaa
