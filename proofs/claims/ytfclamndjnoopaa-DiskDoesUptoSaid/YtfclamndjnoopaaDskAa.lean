/- Racks: Corrupt. -/
import Derived.Test.YtfclamndjnoopaaDskZ
namespace Go.Proofs.Ytfclamndjnoopaa
open Go.RowKit Go.Lib
set_option maxRecDepth 100000

def coS (S : PSt) (D : DSt) (at_ : Int) (ms : List Int) : PSt := if corE D at_ ms.length = 0 then S.turn D.db at_.toNat ms else S
def coD (D : DSt) (at_ : Int) (ms : List Int) : DSt := if corE D at_ ms.length = 0 then D.turn at_.toNat ms else D
theorem corE_ok {D : DSt} {at_ : Int} {m : Nat} (h : corE D at_ m = 0) : D.failed = false ∧ 0 ≤ at_ ∧ at_.toNat < D.n ∧ m ≤ 128 := by
  unfold corE at h
  cases hf : D.failed
  · rw [hf] at h
    simp only [Bool.false_eq_true, if_false] at h
    split at h
    · cases h
    · rename_i hc; exact ⟨rfl, by omega, by omega, by omega⟩
  · rw [hf] at h; cases h
theorem rCorrupt (pb : Nat) (S : PSt) (Ds : List DSt) (F : List Nat) (i : Nat) (D : DSt) (at_ : Int) (p : Option Addr) (cm : Nat) (ms : List Int) (w : World) (h : Rack w pb S Ds F) (hi : Ds[i]? = some D) (ha : -9223372036854775808 ≤ at_ ∧ at_ ≤ 9223372036854775807) (hb : InB w F p ms) (hml : ms.length ≤ 140737488355328) :
    Calls Try.prog 40 #[.pointer (some ⟨D.db, 0, none⟩), .int .i64 at_, .slice p ms.length cm] w fun e w' => e = .returned (.int .i64 (corE D at_ ms.length)) ∧ Left w pb F (coS S D at_ ms) (Ds.set i (coD D at_ ms)) w' := by
  obtain ⟨q, c, hr, rfl⟩ := h
  have hd := hr.dsk i D hi
  have hlt : i < Ds.length := (List.getElem?_eq_some_iff.1 hi).1
  by_cases h0 : corE D at_ ms.length = 0
  · obtain ⟨hfl, ha0, han, hm⟩ := corE_ok h0
    unfold coS coD
    rw [if_pos h0, if_pos h0, h0]
    obtain ⟨a, rfl⟩ : ∃ a : Nat, at_ = a := ⟨at_.toNat, by omega⟩
    simp only [Int.toNat_natCast] at han ⊢
    have hmem : D.db ∈ D.blks ∧ D.gp ∈ D.blks ∧ D.gs ∈ D.blks := by simp [DSt.blks]
    have hq : ∀ k ∈ D.blks, k ∉ blk q := fun k hk hq => hr.apQ i D hi k hq hk
    have hp : ∀ k ∈ D.blks, k ≠ pb := fun k hk e => hr.apP i D hi (e ▸ hk)
    have hF : ∀ k, k ∉ foot pb q Ds → k ≠ D.gp ∧ k ≠ D.gs ∧ k ∉ blk q := fun k hk => by
      rw [mem_foot] at hk
      refine ⟨fun e => hk (Or.inr (Or.inr ⟨i, D, hi, e ▸ hmem.2.1⟩)), fun e => hk (Or.inr (Or.inr ⟨i, D, hi, e ▸ hmem.2.2⟩)), fun e => hk (Or.inr (Or.inl e))⟩
    refine (corrupt_any pb S q c D a p cm ms w hr.pow hd hfl han hm hb.rd hb.bd (fun hne k hk => hF k (hb.ap hne k hk)) ⟨hq _ hmem.1, hq _ hmem.2.1, hq _ hmem.2.2⟩ ⟨hp _ hmem.1, hp _ hmem.2.1, hp _ hmem.2.2⟩ (fun x hx => ?_)).mono ?_
    · obtain ⟨_, j, E, hj, hxe, _⟩ := hr.wt x hx
      have hE : E.db ∈ E.blks := by simp [DSt.blks]
      rw [hxe]
      refine ⟨fun e => ?_, fun e => ?_, fun hk => hr.apQ j E hj _ hk hE, _, _, (hr.dsk j E hj).row⟩
      · by_cases hij : j = i
        · subst hij; rw [hi] at hj; cases hj; exact hd.a2 e
        · exact hr.apD j i E D hj hi hij _ hE (by rw [e]; exact hmem.2.1)
      · by_cases hij : j = i
        · subst hij; rw [hi] at hj; cases hj; exact hd.a3 e
        · exact hr.apD j i E D hj hi hij _ hE (by rw [e]; exact hmem.2.2)
    · rintro e w' ⟨rfl, h1, h2, h3⟩
      have hT : ∀ k ∈ [D.gp, D.gs] ++ blk q, k = pb ∨ k ∈ blk q ∨ k ∈ D.blks ∨ w.heap.size ≤ k := fun k hk => by
        simp only [List.mem_append, List.mem_cons, List.not_mem_nil, or_false] at hk
        rcases hk with (rfl | rfl) | h
        · exact Or.inr (Or.inr (Or.inl hmem.2.1))
        · exact Or.inr (Or.inr (Or.inl hmem.2.2))
        · exact Or.inr (Or.inl h)
      have hfit : Fits D.db D.n S.ws := fun x hx hxd => by
        obtain ⟨_, j, E, hj, hxe, hxa⟩ := hr.wt x hx
        refine ⟨hr.pow.len x hx, ?_⟩
        by_cases hij : j = i
        · subst hij; rw [hi] at hj; cases hj; exact hxa
        · exact absurd (by simp [DSt.blks, ← hxd, hxe]) (hr.apD j i E D hj hi hij E.db (by simp [DSt.blks]))
      refine ⟨rfl, _, ⟨q, c, hr.step hi (D' := D.turn a ms) rfl rfl h1 h2 h3 hT (fun k hk => Or.inl hk) (fun x hx => ?_) hr.lf ?_ (fun db' p' hne => over_turn_other hne ms _ _), rfl⟩, IsRack.stp hi rfl h3 hT (fun k hk => Or.inl hk)⟩
      · obtain ⟨y, hy, rfl⟩ := List.mem_map.1 hx
        unfold turnW
        split
        · rename_i hc
          obtain ⟨hyb, _⟩ := hr.wt y hy
          exact Or.inr ⟨xj_bd hyb hb.bd, hc.1, by show y.at_ < D.n; rw [hc.2]; exact han⟩
        · exact Or.inl hy
      · show turnS D.seen a ms = over D.db (turnS D.plat a ms) (S.ws.map (turnW D.db a ms))
        rw [turn_over han hm _ _ hfit hd.pn, hr.inv i D hi]
  · unfold coS coD
    rw [if_neg h0, if_neg h0]
    refine (corruptBad_any pb D at_ p ms.length cm w hd ha hml h0).mono ?_
    rintro e w' ⟨rfl, rfl⟩
    refine ⟨rfl, _, ⟨q, c, ?_, rfl⟩, ?_⟩
    · rw [set_same hi]; exact hr
    · rw [set_same hi]; exact ⟨Frm.refl _ _, fun k hk => Or.inl hk⟩
end Go.Proofs.Ytfclamndjnoopaa
