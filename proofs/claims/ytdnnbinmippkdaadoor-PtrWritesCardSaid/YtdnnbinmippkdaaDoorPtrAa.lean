/- A pointer, a label and an uberblock, there and back (by the kernel). -/
import Derived.Test.YtdnnbinmippkdaaDoorPtrW
import Derived.Test.YtdnnbinmippkdaaDoorPtrK
import Derived.Test.YtdnnbinmippkdaaDoorPtrX
namespace Go.Proofs.YtdnnbinmippkdaaDoor
open Go.RowKit
def pA : P9 := ⟨1, 258, 5, 7, 1, 9, 0, 0, 0⟩
theorem pA_dec : decP (ptrB pA) = (pA, 0) := by kernel_rfl
def uA : U12 := ⟨5, 8, 3, pA⟩
def lA (p : Option Addr) : LabV := ⟨5, p, 1, 1, 0, 1, [⟨2, 2, 324⟩]⟩
theorem pA_chk : checkP pA = 0 := by kernel_rfl
theorem uA_chk : checkU uA = 0 := by kernel_rfl
theorem lA_chk (p : Option Addr) : checkL (lA p) = 0 := by kernel_rfl
theorem uA_dec : decU (sealB (uberB uA)) = (uA, 0) := by kernel_rfl
theorem lA_dec (p : Option Addr) : decL (sealB (labB (lA p))) = (⟨5, none, 1, 0, 0, 1, [⟨2, 2, 324⟩]⟩, 0) := by kernel_rfl
end Go.Proofs.YtdnnbinmippkdaaDoor
