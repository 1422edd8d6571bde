/- The law's rack as it is built: what each disk more leaves. -/
import Derived.Test.YtfclamndjnoopaaDskAr
import Derived.Test.YtfclamndjnoopaaRowQ
namespace Go.Proofs.Ytfclamndjnoopaa
open Go.RowKit Go.Lib
set_option maxRecDepth 100000

/-- The rack while it is built. -/
structure BD (W0 : World) (idx : Nat → Nat) (xb pb rb : Nat) (p : Option Addr) (c n : Nat) (wr : World) (Ds : List DSt) (F : List Nat) (φ : Nat → Rl) (H : RHp) : Prop where
  l : LawD W0 idx xb pb rb p c n 0 wr PSt.new Ds F φ H
  o : ∀ k, k = xb ∨ k ∈ blk p → ∃ m, φ k = .oth m
  z : W0.heap.size ≤ xb ∧ ∀ k ∈ blk p, W0.heap.size ≤ k
  a : xb ∉ blk p
def BDs (W0 : World) (xb pb rb n : Nat) (wr : World) : Prop := ∃ idx p c Ds F φ H, BD W0 idx xb pb rb p c n wr Ds F φ H
theorem BD.first {W0 w w3 : World} {pb rb xb : Nat} (hk : Rack w pb PSt.new [] [pb]) (hf0 : Frm [] W0 w) (hp : W0.heap.size ≤ pb) (hpr : pb < rb) (hrx : rb < xb) (hf : Frm [] w w3) (hx : w3.heap[xb]? = some (.cells #[.pointer (some ⟨pb, 0, none⟩), .slice none 0 0, .pointer (some ⟨rb, 0, none⟩)] 53 (0, 0)))
    (hr : w3.heap[rb]? = some (.cells (RHp.new rb).powRow 79 (0, 0))) : BDs W0 xb pb rb 0 w3 := by
  have hk3 := hk.kept hf (by simp)
  have hP := Pair.first hk3 hr (by simp; omega)
  have hb : ∀ k ∈ both [pb] (fun k => if k = rb then Rl.pow else .oth 9) w3, k = pb ∨ k = rb := fun k hm => by
    unfold both at hm
    rw [List.mem_append] at hm
    rcases hm with h | h
    · exact Or.inl (by simpa using h)
    · obtain ⟨_, h2⟩ := mem_mutL.1 h
      by_cases e : k = rb
      · exact Or.inr e
      · rw [if_neg e] at h2; exact h2.elim
  refine ⟨_, none, 0, [], [pb], _, _, ⟨hP, rfl, ⟨hx, ⟨rfl, Or.inl ⟨rfl, rfl⟩⟩⟩, rfl, ?_, ?_, hf0.trans hf (by simp), ?_, by simp [PSt.new]⟩, ?_, ⟨by omega, by simp [blk]⟩, by simp [blk]⟩
  · intro k h1 h2
    rcases h1 with rfl | h1
    · rcases hb _ h2 with h | h <;> omega
    · simp [blk] at h1
  · intro k h1
    rcases hb _ h1 with h | h <;> omega
  · intro k h1
    exact ⟨9, if_neg (by omega)⟩
  · intro k h1
    rcases h1 with rfl | h1
    · exact ⟨9, if_neg (by omega)⟩
    · simp [blk] at h1
theorem BD.kept {W0 : World} {idx : Nat → Nat} {xb pb rb : Nat} {p : Option Addr} {c n : Nat} {w w' : World} {Ds : List DSt} {F : List Nat} {φ : Nat → Rl} {H : RHp} (h : BD W0 idx xb pb rb p c n w Ds F φ H) (hf : Frm [] w w') : BD W0 idx xb pb rb p c n w' Ds F φ H := ⟨h.l.kept hf, h.o, h.z, h.a⟩
/-- One disk more, in both; then the law's list grows by its pointer. -/
theorem BD.more {W0 : World} {idx : Nat → Nat} {xb pb rb : Nat} {p : Option Addr} {c n : Nat} {w w1 w2 w3 w4 : World} {Ds : List DSt} {F : List Nat} {φ φ' : Nat → Rl} {H H' : RHp} {D : DSt} {d : RDk} (h : BD W0 idx xb pb rb p c n w Ds F φ H) (hk : Rack w1 pb PSt.new (Ds ++ [D]) (F ++ D.blks)) (hf : Frm [] w w1) (hn : ∀ k ∈ D.blks, w.heap.size ≤ k) (h1 : D.failed = false) (h2 : D.plat = List.replicate (D.n * 128) 0)
    (df : d.failed = false) (dn : d.ss.length = D.n) (dz : ∀ s ∈ d.ss, s.bs = List.replicate 128 0) (he : H' = { H with dp := H'.dp, dc := H'.dc, ds := H.ds ++ [d] }) (hs : RStp w1 φ H H' φ' w2)
    {p2 : Option Addr} {c2 : Nat} (hf3 : Frm [] w2 w3) (ho : w4.ownsRow 0 26 1 (.slice p2 (n + 1) c2) (n + 1) (Ds.map (fun D => Value.pointer (some ⟨D.db, 0, none⟩)) ++ [.pointer (some ⟨D.db, 0, none⟩)])) (hf4 : Frm (blk p) w3 w4) (hb : ∀ k ∈ blk p2, k ∈ blk p ∨ w3.heap.size ≤ k) :
    BDs W0 xb pb rb (n + 1) (w4.setCell ⟨xb, 1, none⟩ (.slice p2 (n + 1) c2)) := by
  obtain ⟨idx', φ'', q1, q2, q3⟩ := Pair.more h.l.pr rfl hk hf hn h1 h2 df dn dz he hs
  have hbr : H'.rb = H.rb := hs.b
  have hsz1 := hf.size
  have hsz2 := q2.fr.size
  have hsz3 := hf3.size
  have hsz4 := hf4.size
  obtain ⟨s1, s2⟩ := stp_new h.l.fr h.l.lo q2
  have hxlt : xb < w.heap.size := lt_of_heap h.l.lw.row
  have hplt : ∀ k ∈ blk p, k < w.heap.size := ownsRow_low h.l.lw.own
  have hlt : ∀ k, k = xb ∨ k ∈ blk p → k < w.heap.size := fun k hk => hk.elim (fun e => by subst e; exact hxlt) (hplt k)
  have hxs : ∀ k, k = xb ∨ k ∈ blk p → k ∉ both (F ++ D.blks) φ'' w2 := fun k hk hm => by
    rcases q2.nb k hm with h5 | h5
    · exact h.l.xs k hk h5
    · have := hlt k hk; omega
  have hlw2 := h.l.lw.kept q2.fr (h.l.xs xb (Or.inl rfl)) (fun k hk => h.l.xs k (Or.inr hk))
  have hlw3 := hlw2.kept hf3 (by simp) (by simp)
  have hrow4 := hf4.heap hlw3.row h.a
  obtain ⟨wf, hwf⟩ : ∃ W, w4.setCell ⟨xb, 1, none⟩ (.slice p2 (n + 1) c2) = W := ⟨_, rfl⟩
  have hrowf : wf.heap[xb]? = some (.cells #[.pointer (some ⟨pb, 0, none⟩), .slice p2 (n + 1) c2, .pointer (some ⟨rb, 0, none⟩)] 53 (0, 0)) := by
    rw [← hwf, heap_setCell_same _ _ 1 _ _ _ hrow4]; rfl
  have hxp2 : xb ∉ blk p2 := fun hm => by
    rcases hb xb hm with h5 | h5
    · exact h.a h5
    · omega
  have hff : Frm [xb] w4 wf := by rw [← hwf]; exact (Frm.refl _ _).setCell _ _ (by simp)
  have hall : Frm (xb :: blk p) w2 wf := ((hf3.mono (S := []) (by simp)).trans hf4 (fun k hk _ => List.mem_cons_of_mem _ hk)).trans hff (fun k hk _ => by simp at hk; simp [hk])
  have hoth : ∀ k, k = xb ∨ k ∈ blk p → ∃ m, φ'' k = .oth m := fun k hk => by rw [q3 k (hlt k hk)]; exact h.o k hk
  have hT : ∀ k ∈ xb :: blk p, k = xb ∨ k ∈ blk p := fun k hk => by simpa using hk
  obtain ⟨k1, k2⟩ := q1.kept hall (fun k hk hm => hxs k (hT k hk) (List.mem_append_left _ hm)) (fun k hk => hoth k (hT k hk))
  have eb : both (F ++ D.blks) φ'' wf = both (F ++ D.blks) φ'' w2 := by unfold both; rw [k2]
  have hlen : (Ds ++ [D]).length = n + 1 := by rw [List.length_append, h.l.ln]; rfl
  have hp2 : ∀ k ∈ blk p2, k ∈ blk p ∨ w2.heap.size ≤ k := fun k hk => (hb k hk).imp id (fun h5 => by omega)
  have hmut : ∀ k, k ∈ both (F ++ D.blks) φ'' w2 → k < w2.heap.size := fun k hm => by
    unfold both at hm
    rw [List.mem_append] at hm
    rcases hm with h5 | h5
    · exact q1.rk.low k h5
    · exact (mem_mutL.1 h5).1
  rw [hwf]
  refine ⟨idx', p2, c2, Ds ++ [D], F ++ D.blks, φ'', H', ⟨k1, hbr.trans h.l.er, ⟨?_, ?_⟩, hlen, ?_, ?_, s1.trans hall (fun k hk _ => ?_), ?_, by simp [PSt.new]⟩, ?_, ⟨h.z.1, ?_⟩, hxp2⟩
  · rw [hlen]; exact hrowf
  · rw [hlen, List.map_append]
    exact ownsRow_kept ho hff (fun k hk hm => hxp2 (by simp at hm; subst hm; exact hk))
  · rw [eb]
    intro k hk hm
    rcases hk with rfl | hk
    · exact hxs _ (Or.inl rfl) hm
    · rcases hp2 k hk with h5 | h5
      · exact hxs _ (Or.inr h5) hm
      · have := hmut k hm; omega
  · rw [eb]; exact s2
  · rcases hT k hk with rfl | h5
    · have := h.z.1; omega
    · have := h.z.2 k h5; omega
  · intro k hk
    rw [q3 k (by have := h.l.fr.size; omega)]
    exact h.l.ot k hk
  · intro k hk
    rcases hk with rfl | hk
    · exact hoth _ (Or.inl rfl)
    · rcases hp2 k hk with h5 | h5
      · exact hoth _ (Or.inr h5)
      · exact ⟨9, q1.nw k h5⟩
  · intro k hk
    rcases hp2 k hk with h5 | h5
    · exact h.z.2 k h5
    · have := s1.size; omega
end Go.Proofs.Ytfclamndjnoopaa
