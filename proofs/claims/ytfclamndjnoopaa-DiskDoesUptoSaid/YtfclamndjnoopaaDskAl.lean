/- The program's disks and the document's: none, and one more. A disk of a size that may not be. The program's disks beside the document's: at first, and with one more. -/
import Derived.Test.YtfclamndjnoopaaDskAj
namespace Go.Proofs.Ytfclamndjnoopaa
section
open Go.RowKit Go.Lib
set_option maxRecDepth 100000

theorem Rel.none (rb : Nat) : Rel (fun _ => 0) PSt.new [] (RHp.new rb) :=
  ⟨rfl, fun _ => rfl, rfl, fun i D hi => by simp at hi, rfl, fun i D d hi => by simp at hi, rfl⟩
theorem Rel.more {idx : Nat → Nat} {S : PSt} {Ds : List DSt} {H H' : RHp} (r : Rel idx S Ds H) (hw : S.ws = []) {D : DSt} {d : RDk} (hn : ∀ E ∈ Ds, E.db ≠ D.db) (hf : D.failed = false) (hp : D.plat = List.replicate (D.n * 128) 0) (df : d.failed = false) (dn : d.ss.length = D.n) (dz : ∀ s ∈ d.ss, s.bs = List.replicate 128 0)
    (he : H' = { H with dp := H'.dp, dc := H'.dc, ds := H.ds ++ [d] }) : Rel (fun k => if k = D.db then Ds.length else idx k) S (Ds ++ [D]) H' := by
  have g1 : H'.ds = H.ds ++ [d] := by rw [he]
  have g2 : H'.off = H.off := by rw [he]
  have g3 : H'.left = H.left := by rw [he]
  have g4 : H'.written = H.written := by rw [he]
  have g5 : H'.ws = H.ws := by rw [he]
  have hlt : ∀ (i : Nat) (E : DSt), (Ds ++ [D])[i]? = some E → (i < Ds.length ∧ Ds[i]? = some E) ∨ (i = Ds.length ∧ E = D) := fun i E hi => by
    by_cases h : i < Ds.length
    · rw [List.getElem?_append_left h] at hi; exact Or.inl ⟨h, hi⟩
    · rw [List.getElem?_append_right (by omega)] at hi
      have h1 := (List.getElem?_eq_some_iff.1 hi).1
      simp at h1
      have h2 : i = Ds.length := by omega
      subst h2
      simp at hi
      exact Or.inr ⟨rfl, hi.symm⟩
  refine ⟨g2.trans r.off, fun ho => g3.trans (r.lf ho), g4.trans r.wr, fun i E hi => ?_, by rw [g1, List.length_append, List.length_append, r.len]; rfl, fun i E e hi hd => ?_, by rw [g5, hw]; have h := r.ws; rw [hw] at h; exact h⟩
  · show (if E.db = D.db then Ds.length else idx E.db) = i
    rcases hlt i E hi with ⟨_, h0⟩ | ⟨rfl, rfl⟩
    · rw [if_neg (hn E (List.mem_of_getElem? h0))]; exact r.ix i E h0
    · rw [if_pos rfl]
  · rw [g1] at hd
    rcases hlt i E hi with ⟨h1, h0⟩ | ⟨rfl, rfl⟩
    · rw [List.getElem?_append_left (by rw [r.len]; exact h1)] at hd
      exact r.dk i E e h0 hd
    · rw [List.getElem?_append_right (by rw [r.len]; exact Nat.le_refl _), r.len, Nat.sub_self] at hd
      simp at hd
      subst hd
      refine ⟨df.trans hf.symm, dn, fun k s hk => ?_⟩
      have hkl := (List.getElem?_eq_some_iff.1 hk).1
      rw [dz s (List.mem_of_getElem? hk), hp]
      exact (sec_repA (by omega)).symm
end
section
open Go.RowKit Go.Lib
set_option maxRecDepth 100000

set_option maxHeartbeats 800000 in
theorem newBad_any (pb : Nat) (n : Int) (hr : -9223372036854775808 ≤ n ∧ n ≤ 9223372036854775807) (hn : n < 1 ∨ 8192 < n) (w : World) :
    Calls Try.prog 9 #[.pointer (some ⟨pb, 0, none⟩), .int .i64 n] w fun e w' => e = .returned (.tuple #[.pointer none, .int .i64 1]) ∧ w' = w := by
  go_enter Try.func9, Try.ntmps9
  by_cases h1 : n < 1
  · go_wp2_with fail
    go_returns
    exact ⟨rfl, rfl⟩
  have h2 : 8192 < n := by omega
  go_wp2_with fail
  go_returns
  exact ⟨rfl, rfl⟩
end
section
open Go.RowKit Go.Lib
set_option maxRecDepth 100000

theorem Pair.first {w : World} {pb rb : Nat} {F : List Nat} (hk : Rack w pb PSt.new [] F) (hr : w.heap[rb]? = some (.cells (RHp.new rb).powRow 79 (0, 0))) (hF : rb ∉ F) : Pair (fun _ => 0) w pb PSt.new [] F (fun k => if k = rb then .pow else .oth 9) (RHp.new rb) :=
  ⟨hk, newRf hr (if_pos rfl), Rel.none rb, fun k hk => ⟨9, if_neg (fun (e : k = rb) => hF (e ▸ hk))⟩, fun k hk => if_neg (fun (e : k = rb) => by have := lt_of_heap hr; omega)⟩
theorem Left.more {w w' : World} {pb : Nat} {F : List Nat} {S : PSt} {Ds : List DSt} {D : DSt} (hk : Rack w' pb S (Ds ++ [D]) (F ++ D.blks)) (hf : Frm [] w w') (hn : ∀ k ∈ D.blks, w.heap.size ≤ k) : Left w pb F S (Ds ++ [D]) w' :=
  ⟨_, hk, hf.mono (by simp), fun k hk => (List.mem_append.1 hk).imp id (hn k)⟩
/-- A new disk's block is none of the others'. -/
theorem Rack.fresh {w : World} {pb : Nat} {S : PSt} {Ds : List DSt} {F : List Nat} (h : Rack w pb S Ds F) {D : DSt} (hn : ∀ k ∈ D.blks, w.heap.size ≤ k) : ∀ E ∈ Ds, E.db ≠ D.db := by
  intro E hE e
  obtain ⟨i, hi⟩ := List.mem_iff_getElem?.1 hE
  have h1 := lt_of_heap (h.disk hi).row
  have h2 := hn D.db (by simp [DSt.blks])
  omega
/-- Both have one more. -/
theorem Pair.more {idx : Nat → Nat} {w w1 w2 : World} {pb : Nat} {S : PSt} {Ds : List DSt} {F : List Nat} {φ φ' : Nat → Rl} {H H' : RHp} {D : DSt} {d : RDk} (p : Pair idx w pb S Ds F φ H) (hw : S.ws = []) (hk : Rack w1 pb S (Ds ++ [D]) (F ++ D.blks)) (hf : Frm [] w w1) (hn : ∀ k ∈ D.blks, w.heap.size ≤ k) (h1 : D.failed = false) (h2 : D.plat = List.replicate (D.n * 128) 0)
    (df : d.failed = false) (dn : d.ss.length = D.n) (dz : ∀ s ∈ d.ss, s.bs = List.replicate 128 0) (he : H' = { H with dp := H'.dp, dc := H'.dc, ds := H.ds ++ [d] }) (hs : RStp w1 φ H H' φ' w2) :
    ∃ idx' φ'', Pair idx' w2 pb S (Ds ++ [D]) (F ++ D.blks) φ'' H' ∧ Stp (both F φ w) (both (F ++ D.blks) φ'' w2) w w2 ∧ ∀ k, k < w.heap.size → φ'' k = φ k := by
  have hr := p.rel.more hw (p.rk.fresh hn) h1 h2 df dn dz he
  obtain ⟨d1, d2⟩ := Pair.doc hk (fun k hk => (List.mem_append.1 hk).elim (p.ap k) (fun h => ⟨9, p.nw k (hn k h)⟩)) (⟨hf.mono (by simp), fun k hk => (List.mem_append.1 hk).imp id (hn k)⟩ : Stp F (F ++ D.blks) w w1) hs hr
  exact ⟨_, _, d1, d2, fun k hk => by rw [cutφ_old (by have := d2.fr.size; omega)]; exact hs.x k (by have := hf.size; omega)⟩
end
end Go.Proofs.Ytfclamndjnoopaa
