/- The document's disks: how all lies when one thing changes. -/
import Derived.Test.YtfclamndjnoopaaRfC
namespace Go.Proofs.Ytfclamndjnoopaa
open Go.RowKit Go.Lib
set_option maxRecDepth 100000

theorem notOth {r : Rl} (h : ∀ n, r ≠ .oth n) {φ : Nat → Rl} {k : Nat} (e : φ k = r) : ∀ n, φ k ≠ .oth n := fun n => by rw [e]; exact h n
theorem IsRf.far {w w' : World} {φ : Nat → Rl} {H : RHp} {T : List Nat} (h : IsRf w φ H) (hf : Frm T w w') (hT : ∀ k ∈ T, ∃ n, φ k = .oth n) : IsRf w' φ H :=
  h.kept hf.size (fun k hk hn => hf.block k hk (fun hm => by obtain ⟨n, e⟩ := hT k hm; exact hn n e)) (fun _ _ => rfl)
theorem SecOk.far {w w' : World} {φ : Nat → Rl} {s : SecR} {T : List Nat} (h : SecOk w φ s) (hf : Frm T w w') (hT : s.g ∉ T) : SecOk w' φ s := h.kept hf.size (hf.block _ h.lt hT) rfl
theorem IsRf.roles {w : World} {φ ψ : Nat → Rl} {H : RHp} (h : IsRf w φ H) (hψ : ∀ k, (∀ n, φ k ≠ .oth n) → ψ k = φ k) : IsRf w ψ H := by
  have r : ∀ {k : Nat} {r : Rl}, φ k = r → (∀ n, r ≠ .oth n) → ψ k = r := fun e hn => by rw [hψ _ (notOth hn e), e]
  have sk : ∀ s, SecOk w φ s → SecOk w ψ s := fun s hs => ⟨hs.rd, hs.len, hs.cap, hs.bd, r hs.rl (by intro m e; cases e), hs.lt⟩
  exact ⟨h.row, h.dsk, h.wts, h.dr, fun i d hi s hs => sk s (h.secD i d hi s hs), fun x hx => sk _ (h.secW x hx), r h.rP (by intro m e; cases e), fun k hk => r (h.rD k hk) (by intro m e; cases e), fun k hk => r (h.rW k hk) (by intro m e; cases e), fun i d hi => ⟨r (h.rI i d hi).1 (by intro m e; cases e), fun k hk => r ((h.rI i d hi).2 k hk) (by intro m e; cases e)⟩, h.wd, h.nb, h.dl, h.lb, h.wb⟩
/-- What blocks are for, where new ones are for nothing yet. -/
def cutφ (φ : Nat → Rl) (n : Nat) : Nat → Rl := fun k => if k < n then φ k else .oth 9
theorem IsRf.cut {w : World} {φ : Nat → Rl} {H : RHp} (h : IsRf w φ H) : IsRf w (cutφ φ w.heap.size) H :=
  h.kept (Nat.le_refl _) (fun _ _ _ => rfl) (fun k hk => by unfold cutφ; rw [if_pos hk])
theorem cutφ_new {φ : Nat → Rl} {n k : Nat} (h : n ≤ k) : cutφ φ n k = .oth 9 := by unfold cutφ; rw [if_neg (by omega)]
theorem cutφ_old {φ : Nat → Rl} {n k : Nat} (h : k < n) : cutφ φ n k = φ k := by unfold cutφ; rw [if_pos h]
/-- A sector of a platter is put in place of another one. -/
theorem IsRf.setSec {w : World} {φ : Nat → Rl} {H : RHp} {i k gp : Nat} {d : RDk} {s : SecR} (h : IsRf w φ H) (hi : H.ds[i]? = some d) (hp : d.pp = some ⟨gp, 0, none⟩) (hs : SecOk w φ s) :
    IsRf (w.setCell ⟨gp, k, none⟩ s.v) φ { H with ds := H.ds.set i { d with ss := d.ss.set k s } } ∧ Frm [gp] w (w.setCell ⟨gp, k, none⟩ s.v) ∧ φ gp = .plat i := by
  have hφ : φ gp = .plat i := (h.rI i d hi).2 gp (by rw [hp]; simp [blk])
  have hf : Frm [gp] w (w.setCell ⟨gp, k, none⟩ s.v) := (Frm.refl _ _).setCell _ _ (by simp)
  have nb : ∀ {j : Nat} {r : Rl}, φ j = r → r ≠ .plat i → j ∉ [gp] := fun e hn hm => by simp at hm; subst hm; rw [hφ] at e; exact hn e.symm
  have sk : ∀ t, SecOk w φ t → SecOk (w.setCell ⟨gp, k, none⟩ s.v) φ t := fun t ht => ht.far hf (nb ht.rl (by intro e; cases e))
  have hlt : i < H.ds.length := (List.getElem?_eq_some_iff.1 hi).1
  have get : ∀ (j : Nat) (e : RDk), (H.ds.set i { d with ss := d.ss.set k s })[j]? = some e → (j = i ∧ e = { d with ss := d.ss.set k s }) ∨ (j ≠ i ∧ H.ds[j]? = some e) := fun j e hj => by
    rw [List.getElem?_set] at hj
    by_cases hij : i = j
    · subst hij; rw [if_pos rfl, if_pos hlt] at hj; exact Or.inl ⟨rfl, by simpa using hj.symm⟩
    · rw [if_neg hij] at hj; exact Or.inr ⟨fun h => hij h.symm, hj⟩
  have hmap : (H.ds.set i { d with ss := d.ss.set k s }).map (fun d => Value.pointer (some ⟨d.db, 0, none⟩)) = H.ds.map (fun d => Value.pointer (some ⟨d.db, 0, none⟩)) := by
    apply List.ext_getElem?
    intro j
    rw [List.getElem?_map, List.getElem?_map, List.getElem?_set]
    by_cases hij : i = j
    · subst hij; rw [if_pos rfl, if_pos hlt, hi]; rfl
    · rw [if_neg hij]
  refine ⟨⟨?_, ?_, ownsRow_kept h.wts hf (fun j hj => nb (h.rW j hj) (by intro e; cases e)), ?_, ?_, fun x hx => sk _ (h.secW x hx), h.rP, h.rD, h.rW, ?_, ?_, ?_, by rw [List.length_set]; exact h.dl, h.lb, h.wb⟩, hf, hφ⟩
  · have := hf.heap h.row (nb h.rP (by intro e; cases e))
    unfold RHp.powRow at this ⊢
    rw [List.length_set]
    exact this
  · rw [List.length_set, hmap]
    exact ownsRow_kept h.dsk hf (fun j hj => nb (h.rD j hj) (by intro e; cases e))
  · intro j e hj
    rcases get j e hj with ⟨rfl, rfl⟩ | ⟨hne, h0⟩
    · have hd := h.dr j d hi
      refine ⟨?_, ?_⟩
      · have := hf.heap hd.1 (nb (h.rI j d hi).1 (by intro e; cases e))
        unfold RDk.row at this ⊢
        simp only [List.length_set]
        exact this
      · have ho := hd.2
        simp only [hp] at ho ⊢
        simp only [List.length_set, List.map_set]
        exact own_set ho
    · exact ⟨hf.heap (h.dr j e h0).1 (nb (h.rI j e h0).1 (by intro e; cases e)), ownsRow_kept (h.dr j e h0).2 hf (fun m hm => nb ((h.rI j e h0).2 m hm) (by intro e; cases e; exact hne rfl))⟩
  · intro j e hj t ht
    rcases get j e hj with ⟨rfl, rfl⟩ | ⟨hne, h0⟩
    · rcases List.mem_or_eq_of_mem_set ht with h1 | rfl
      · exact sk t (h.secD j d hi t h1)
      · exact sk _ hs
    · exact sk t (h.secD j e h0 t ht)
  · intro j e hj
    rcases get j e hj with ⟨rfl, rfl⟩ | ⟨hne, h0⟩
    · exact h.rI j d hi
    · exact h.rI j e h0
  · intro x hx
    obtain ⟨e, he, hxa⟩ := h.wd x hx
    by_cases hij : i = x.d
    · subst hij
      rw [hi] at he
      cases he
      exact ⟨_, by rw [List.getElem?_set, if_pos rfl, if_pos hlt], by simp only [List.length_set]; exact hxa⟩
    · exact ⟨e, by rw [List.getElem?_set, if_neg hij]; exact he, hxa⟩
  · intro j e hj
    rcases get j e hj with ⟨rfl, rfl⟩ | ⟨hne, h0⟩
    · simp only [List.length_set]; exact h.nb j d hi
    · exact h.nb j e h0
/-- Another list of what waits. -/
theorem IsRf.setWs {w : World} {φ : Nat → Rl} {H : RHp} {lp : Option Addr} {lc : Nat} {ws : List RWt} (h : IsRf w φ H) (ho : w.ownsRow 0 86 3 (.slice lp ws.length lc) ws.length (rowsR ws))
    (hl : ∀ k ∈ blk lp, φ k = .wts ∨ ∃ n, φ k = .oth n) (hs : ∀ x ∈ ws, SecOk w φ x.s ∧ ∃ d, H.ds[x.d]? = some d ∧ x.at_ < d.ss.length) (hw : H.written + ws.length ≤ 500000000000) :
    IsRf (w.setCell ⟨H.rb, 1, none⟩ (.slice lp ws.length lc)) (fun k => if k ∈ blk lp then .wts else φ k) { H with wp := lp, wc := lc, ws := ws } ∧ Frm [H.rb] w (w.setCell ⟨H.rb, 1, none⟩ (.slice lp ws.length lc)) := by
  have hf : Frm [H.rb] w (w.setCell ⟨H.rb, 1, none⟩ (.slice lp ws.length lc)) := (Frm.refl _ _).setCell _ _ (by simp)
  have nb : ∀ {j : Nat} {r : Rl}, φ j = r → r ≠ .pow → j ∉ [H.rb] := fun e hn hm => by simp at hm; subst hm; rw [h.rP] at e; exact hn e.symm
  have rl : ∀ {j : Nat} {r : Rl}, φ j = r → r ≠ .wts → (∀ n, r ≠ .oth n) → (if j ∈ blk lp then Rl.wts else φ j) = r := fun {j r} e h1 h2 => by
    rw [if_neg, e]
    intro hm
    rcases hl j hm with h3 | ⟨n, h3⟩
    · rw [h3] at e; exact h1 e.symm
    · rw [h3] at e; exact h2 n e.symm
  have sk : ∀ t, SecOk w φ t → SecOk (w.setCell ⟨H.rb, 1, none⟩ (.slice lp ws.length lc)) (fun k => if k ∈ blk lp then .wts else φ k) t := fun t ht =>
    ht.kept hf.size (hf.block _ ht.lt (nb ht.rl (by intro e; cases e))) ((rl ht.rl (by intro e; cases e) (by intro m e; cases e)).trans ht.rl.symm)
  refine ⟨⟨?_, ownsRow_kept h.dsk hf (fun j hj => nb (h.rD j hj) (by intro e; cases e)), ownsRow_kept ho hf (fun j hj => ?_), fun i d hi => ⟨hf.heap (h.dr i d hi).1 (nb (h.rI i d hi).1 (by intro e; cases e)), ownsRow_kept (h.dr i d hi).2 hf (fun m hm => nb ((h.rI i d hi).2 m hm) (by intro e; cases e))⟩, fun i d hi s hs => sk s (h.secD i d hi s hs), fun x hx => sk _ (hs x hx).1, rl h.rP (by intro e; cases e) (by intro m e; cases e), fun k hk => rl (h.rD k hk) (by intro e; cases e) (by intro m e; cases e), fun k hk => if_pos hk, fun i d hi => ⟨rl (h.rI i d hi).1 (by intro e; cases e) (by intro m e; cases e), fun k hk => rl ((h.rI i d hi).2 k hk) (by intro e; cases e) (by intro m e; cases e)⟩, fun x hx => (hs x hx).2, h.nb, h.dl, h.lb, ⟨h.wb.1, hw⟩⟩, hf⟩
  · rw [heap_setCell_same _ _ 1 _ _ _ h.row]
    rfl
  · rcases hl j hj with h1 | ⟨n, h1⟩
    · exact nb h1 (by intro e; cases e)
    · exact nb h1 (by intro e; cases e)
/-- A disk fails, or does no more. -/
theorem IsRf.setFailed {w : World} {φ : Nat → Rl} {H : RHp} {i : Nat} {d : RDk} (h : IsRf w φ H) (hi : H.ds[i]? = some d) (f : Bool) :
    IsRf (w.setCell ⟨d.db, 1, none⟩ (.bool f)) φ { H with ds := H.ds.set i { d with failed := f } } ∧ Frm [d.db] w (w.setCell ⟨d.db, 1, none⟩ (.bool f)) ∧ φ d.db = .disk i := by
  have hφ : φ d.db = .disk i := (h.rI i d hi).1
  have hf : Frm [d.db] w (w.setCell ⟨d.db, 1, none⟩ (.bool f)) := (Frm.refl _ _).setCell _ _ (by simp)
  have nb : ∀ {j : Nat} {r : Rl}, φ j = r → r ≠ .disk i → j ∉ [d.db] := fun e hn hm => by simp at hm; subst hm; rw [hφ] at e; exact hn e.symm
  have sk : ∀ t, SecOk w φ t → SecOk (w.setCell ⟨d.db, 1, none⟩ (.bool f)) φ t := fun t ht => ht.far hf (nb ht.rl (by intro e; cases e))
  have hlt : i < H.ds.length := (List.getElem?_eq_some_iff.1 hi).1
  have get : ∀ (j : Nat) (e : RDk), (H.ds.set i { d with failed := f })[j]? = some e → (j = i ∧ e = { d with failed := f }) ∨ (j ≠ i ∧ H.ds[j]? = some e) := fun j e hj => by
    rw [List.getElem?_set] at hj
    by_cases hij : i = j
    · subst hij; rw [if_pos rfl, if_pos hlt] at hj; exact Or.inl ⟨rfl, by simpa using hj.symm⟩
    · rw [if_neg hij] at hj; exact Or.inr ⟨fun h => hij h.symm, hj⟩
  have hmap : (H.ds.set i { d with failed := f }).map (fun d => Value.pointer (some ⟨d.db, 0, none⟩)) = H.ds.map (fun d => Value.pointer (some ⟨d.db, 0, none⟩)) := by
    apply List.ext_getElem?
    intro j
    rw [List.getElem?_map, List.getElem?_map, List.getElem?_set]
    by_cases hij : i = j
    · subst hij; rw [if_pos rfl, if_pos hlt, hi]; rfl
    · rw [if_neg hij]
  refine ⟨⟨?_, ?_, ownsRow_kept h.wts hf (fun j hj => nb (h.rW j hj) (by intro e; cases e)), ?_, ?_, fun x hx => sk _ (h.secW x hx), h.rP, h.rD, h.rW, ?_, ?_, ?_, by rw [List.length_set]; exact h.dl, h.lb, h.wb⟩, hf, hφ⟩
  · have := hf.heap h.row (nb h.rP (by intro e; cases e))
    unfold RHp.powRow at this ⊢
    rw [List.length_set]
    exact this
  · rw [List.length_set, hmap]
    exact ownsRow_kept h.dsk hf (fun j hj => nb (h.rD j hj) (by intro e; cases e))
  · intro j e hj
    rcases get j e hj with ⟨rfl, rfl⟩ | ⟨hne, h0⟩
    · have hd := h.dr j d hi
      refine ⟨by rw [heap_setCell_same _ _ 1 _ _ _ hd.1]; rfl, ownsRow_kept hd.2 hf (fun m hm => nb ((h.rI j d hi).2 m hm) (by intro e; cases e))⟩
    · exact ⟨hf.heap (h.dr j e h0).1 (nb (h.rI j e h0).1 (by intro e; cases e; exact hne rfl)), ownsRow_kept (h.dr j e h0).2 hf (fun m hm => nb ((h.rI j e h0).2 m hm) (by intro e; cases e))⟩
  · intro j e hj t ht
    rcases get j e hj with ⟨rfl, rfl⟩ | ⟨hne, h0⟩
    · exact sk t (h.secD j d hi t ht)
    · exact sk t (h.secD j e h0 t ht)
  · intro j e hj
    rcases get j e hj with ⟨rfl, rfl⟩ | ⟨hne, h0⟩
    · exact h.rI j d hi
    · exact h.rI j e h0
  · intro x hx
    obtain ⟨e, he, hxa⟩ := h.wd x hx
    by_cases hij : i = x.d
    · subst hij
      rw [hi] at he
      cases he
      exact ⟨{ d with failed := f }, by rw [List.getElem?_set, if_pos rfl, if_pos hlt], hxa⟩
    · exact ⟨e, by rw [List.getElem?_set, if_neg hij]; exact he, hxa⟩
  · intro j e hj
    rcases get j e hj with ⟨rfl, rfl⟩ | ⟨hne, h0⟩
    · exact h.nb j d hi
    · exact h.nb j e h0
theorem infoWr : (Try.prog.info? 86).map (fun i => (i.zero, i.size, i.bytes)) = some (some (.agg #[.int .i64 0, .int .i64 0, .slice none 0 0]), 3, 40) := by kernel_rfl
theorem infoSl : (Try.prog.info? 22).map (fun i => (i.zero, i.size, i.bytes)) = some (some (.slice none 0 0), 1, 24) := by kernel_rfl
theorem infoPd : (Try.prog.info? 83).map (fun i => (i.zero, i.size, i.bytes)) = some (some (.pointer none), 1, 8) := by kernel_rfl
end Go.Proofs.Ytfclamndjnoopaa
