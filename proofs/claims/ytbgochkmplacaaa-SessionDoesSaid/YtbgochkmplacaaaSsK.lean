/- Two tables side by side; how a script comes in. -/
import Derived.Test.YtbgochkmplacaaaSsJ
namespace Go.Proofs.Ytbgochkmplacaaa
open Go.RowKit Go.Lib
set_option maxRecDepth 100000

/-- One call of a script: its fields. -/
structure OpR where
  kind : Int
  which : Int
  v : Rp
  lp : Option Addr
  ll : Nat
  lc : Nat
def OpR.row (d : OpR) : List Value := [.int .i64 d.kind, .int .i64 d.which, .int .i64 d.v.x.s, .int .i64 d.v.x.id, .int .i64 d.v.x.er, .int .i64 d.v.x.nu, .string d.v.x.tx, .slice d.v.lp d.v.x.ss.length d.v.lc, .slice d.v.dp d.v.x.ds.length d.v.dc, .slice d.lp d.ll d.lc]
/-- What is known of a reply that came in. -/
def RpIn (w : World) (v : Rp) : Prop := (-9223372036854775808 ≤ v.x.s ∧ v.x.s ≤ 9223372036854775807) ∧ (-9223372036854775808 ≤ v.x.id ∧ v.x.id ≤ 9223372036854775807) ∧ RpOk w v
def OpRIn (w : World) (d : OpR) : Prop := (-9223372036854775808 ≤ d.kind ∧ d.kind ≤ 9223372036854775807) ∧ (-9223372036854775808 ≤ d.which ∧ d.which ≤ 9223372036854775807) ∧ RpIn w d.v
/-- A script that came in. -/
def CameR (w : World) (p : Option Addr) (len cap : Nat) : Prop := len ≤ cap ∧ cap ≤ 9223372036854775807 ∧ (len = 0 ∨ ∃ g o, p = some ⟨g, o, none⟩ ∧ ∀ i, i < len → ∃ d : OpR, (∀ j u, d.row[j]? = some u → w.cell? ⟨g, o + i * 10 + j, none⟩ = some u) ∧ OpRIn w d)
/-- Two tables, each in blocks of its own, made since a world. -/
structure AP (w0 wr : World) (bt : Nat) (pt : Option Nat) (vt : List Rp) (ft at_ rt : Int) (bu : Nat) (pu : Option Nat) (vu : List Rp) (fu au ru : Int) : Prop where
  fr : Frm [] w0 wr
  t : TS wr bt pt vt ft at_ rt
  u : TS wr bu pu vu fu au ru
  ne : ∀ k ∈ foot24 bt pt, k ∉ foot24 bu pu
  tn : ∀ k ∈ foot24 bt pt, w0.heap.size ≤ k
  un : ∀ k ∈ foot24 bu pu, w0.heap.size ≤ k
  tb : ∀ v ∈ vt, ∀ k ∈ v.B, k ∉ foot24 bu pu
  ub : ∀ v ∈ vu, ∀ k ∈ v.B, k ∉ foot24 bt pt
section
variable {w0 wr w' : World} {bt : Nat} {pt pt' : Option Nat} {vt vt' : List Rp} {ft at_ rt ft' at' rt' : Int} {bu : Nat} {pu pu' : Option Nat} {vu vu' : List Rp} {fu au ru fu' au' ru' : Int}
theorem AP.symm (h : AP w0 wr bt pt vt ft at_ rt bu pu vu fu au ru) : AP w0 wr bu pu vu fu au ru bt pt vt ft at_ rt :=
  ⟨h.fr, h.u, h.t, fun k hk hm => h.ne k hm hk, h.un, h.tn, h.ub, h.tb⟩
theorem AP.k0 (h : AP w0 wr bt pt vt ft at_ rt bu pu vu fu au ru) (hf : Frm [] wr w') : AP w0 w' bt pt vt ft at_ rt bu pu vu fu au ru :=
  ⟨h.fr.trans hf (by simp), h.t.k0 hf, h.u.k0 hf, h.ne, h.tn, h.un, h.tb, h.ub⟩
theorem AP.stepT (h : AP w0 wr bt pt vt ft at_ rt bu pu vu fu au ru) (h1 : TS w' bt pt' vt' ft' at' rt') (h2 : Frm (foot24 bt pt) wr w') (h3 : Nx wr pt pt') (h4 : ∀ v ∈ vt', v ∈ vt ∨ ∀ k ∈ v.B, wr.heap.size ≤ k) : AP w0 w' bt pt' vt' ft' at' rt' bu pu vu fu au ru := by
  have hz := h.fr.size
  have hul := h.u.low
  refine ⟨h.fr.trans h2 (fun k hk hkl => by have := h.tn k hk; omega), h1, h.u.kept h2 (fun k hk hm => h.ne k hm hk) h.ub, fun k hk hm => ?_, fun k hk => ?_, h.un, fun v hv k hk hm => ?_, fun v hv k hk hm => ?_⟩
  · rcases h3.foot k hk with h5 | h5
    · exact h.ne k h5 hm
    · have := hul k hm; omega
  · rcases h3.foot k hk with h5 | h5
    · exact h.tn k h5
    · omega
  · rcases h4 v hv with h5 | h5
    · exact h.tb v h5 k hk hm
    · have h6 := h5 k hk; have := hul k hm; omega
  · rcases h3.foot k hm with h5 | h5
    · exact h.ub v hv k hk h5
    · have := ((h.u.ok v hv).2 k hk).2; omega
theorem AP.stepU (h : AP w0 wr bt pt vt ft at_ rt bu pu vu fu au ru) (h1 : TS w' bu pu' vu' fu' au' ru') (h2 : Frm (foot24 bu pu) wr w') (h3 : Nx wr pu pu') (h4 : ∀ v ∈ vu', v ∈ vu ∨ ∀ k ∈ v.B, wr.heap.size ≤ k) : AP w0 w' bt pt vt ft at_ rt bu pu' vu' fu' au' ru' := (h.symm.stepT h1 h2 h3 h4).symm
/-- What a script's reply says can be read. -/
theorem AP.input (h : AP w0 wr bt pt vt ft at_ rt bu pu vu fu au ru) {v : Rp} (hv : RpOk w0 v) : ∀ W, Frm (foot24 bt pt) wr W → RpOk W v := fun W hf =>
  hv.kept (h.fr.trans hf (fun k hk hkl => by have := h.tn k hk; omega)) (by simp)
end
theorem at_same {vt vu : List Rp} {m : Nat} (h : (vt.getD m rp0).x = (vu.getD m rp0).x) (hm : 1 ≤ m ∧ m ≤ 8) (id more : Int) : last24 vt m = last24 vu m ∧ chk24 vt m id more = chk24 vu m id more ∧ look24 vt m id = look24 vu m id := by
  have h1 : last24 vt m = last24 vu m := by
    unfold last24
    rw [if_pos (by omega), if_pos (by omega), Int.toNat_natCast, h]
  have h2 : ∀ more, chk24 vt m id more = chk24 vu m id more := fun more => by unfold chk24; rw [h1]
  refine ⟨h1, h2 more, ?_⟩
  unfold look24
  rw [h1, h2, Int.toNat_natCast, h]
theorem set_at {vs : List Rp} {i m : Nat} {v : Rp} (hl : vs.length = 9) (hi : i < 9) : ((vs.set i v).getD m rp0) = if i = m then v else vs.getD m rp0 := by
  simp only [List.getD_eq_getElem?_getD, List.getElem?_set]
  split
  · rename_i h
    subst h
    rw [if_pos (by omega)]
    rfl
  · rfl
theorem keep_mem {vs : List Rp} {i : Nat} {v' : Rp} {n : Nat} (hb : ∀ k ∈ v'.B, n ≤ k) : ∀ v ∈ vs.set i v', v ∈ vs ∨ ∀ k ∈ v.B, n ≤ k := fun v hv => by
  rcases List.mem_or_eq_of_mem_set hv with h | rfl
  · exact Or.inl h
  · exact Or.inr hb
end Go.Proofs.Ytbgochkmplacaaa
