/- RangesMany, walked. -/
import Derived.Test.YtkbppkimpefilaaRgL
import Derived.Deep.DeepCutAuto
namespace Go.Proofs.Ytkbppkimpefilaa
open Go.RowKit Go.Lib
set_option maxRecDepth 100000

/-- A set of the law's own. -/
structure SM (w0 wr : World) (sb : Nat) (p : Option Addr) (c : Nat) (l : List Sp) : Prop where
  rs : RSet wr sb p c l
  nm : Norm 0 l
  ln : l.length ≤ 4096
  mn : Mine w0 wr sb p
theorem SM.k0 {w0 wr w' : World} {sb : Nat} {p : Option Addr} {c : Nat} {l : List Sp} (h : SM w0 wr sb p c l) (hf : Frm [] wr w') : SM w0 w' sb p c l := ⟨h.rs.k0 hf, h.nm, h.ln, h.mn.k0 hf⟩
theorem SM.add {w0 wr w' : World} {sb : Nat} {p p' : Option Addr} {c c' : Nat} {l l' : List Sp} (h : SM w0 wr sb p c l) (h1 : RSet w' sb p' c' l') (h2 : Norm 0 l') (h3 : l'.length ≤ 4096) (h4 : Frm (sb :: blk p) wr w') (h5 : ∀ k ∈ blk p', k ∈ blk p ∨ wr.heap.size ≤ k) : SM w0 w' sb p' c' l' := ⟨h1, h2, h3, h.mn.step h4 h5⟩
end Go.Proofs.Ytkbppkimpefilaa
