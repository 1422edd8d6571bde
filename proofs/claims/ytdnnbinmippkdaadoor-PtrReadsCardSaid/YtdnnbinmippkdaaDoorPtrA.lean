/- A pointer's nine numbers, and what Check answers. -/
import Derived.Test.YtdnnbinmippkdaaDoorCodeM
namespace Go.Proofs.YtdnnbinmippkdaaDoor
open Go.RowKit
set_option maxRecDepth 100000

/-- A pointer's nine numbers. -/
structure P9 where
  top : Int
  at_ : Int
  bytes : Int
  birth : Int
  kind : Int
  sa : Int
  sb : Int
  sc : Int
  sd : Int
def P9.arr (p : P9) : Array Value := #[.int .i64 p.top, .int .i64 p.at_, .int .i64 p.bytes, .int .u64 p.birth, .int .i64 p.kind, .int .u64 p.sa, .int .u64 p.sb, .int .u64 p.sc, .int .u64 p.sd]
def P9.zero (p : P9) : Prop := p.top = 0 ∧ p.at_ = 0 ∧ p.bytes = 0 ∧ p.birth = 0 ∧ p.kind = 0 ∧ p.sa = 0 ∧ p.sb = 0 ∧ p.sc = 0 ∧ p.sd = 0
def P9.good (p : P9) : Prop := 0 ≤ p.top ∧ p.top < 4 ∧ 0 ≤ p.at_ ∧ p.at_ < 40960 ∧ 1 ≤ p.bytes ∧ p.bytes ≤ 1024 ∧ 1 ≤ p.birth ∧ p.birth ≤ 281474976710656 ∧ (p.kind = 1 ∨ p.kind = 2)
instance (p : P9) : Decidable p.zero := by unfold P9.zero; infer_instance
instance (p : P9) : Decidable p.good := by unfold P9.good; infer_instance
/-- What Check answers. -/
def checkP (p : P9) : Int := if p.zero then 0 else if p.good then 0 else 40
theorem checkP_cases (p : P9) : (p.zero ∧ checkP p = 0) ∨ (¬ p.zero ∧ p.good ∧ checkP p = 0) ∨ (¬ p.zero ∧ ¬ p.good ∧ checkP p = 40) := by
  unfold checkP
  by_cases h1 : p.zero
  · exact Or.inl ⟨h1, if_pos h1⟩
  · by_cases h2 : p.good
    · exact Or.inr (Or.inl ⟨h1, h2, by rw [if_neg h1, if_pos h2]⟩)
    · exact Or.inr (Or.inr ⟨h1, h2, by rw [if_neg h1, if_neg h2]⟩)
end Go.Proofs.YtdnnbinmippkdaaDoor
