/- Frames: the document's line: Feed. Bytes that may be read and written. Contracts of the document's reader (layer 1). -/
import Derived.Test.YtignoocdeghiaaaDoorQaj
import Derived.Test.YtignoocdeghiaaaDoorQap
import Derived.Deep.DeepCutAuto
import Derived.BigQuiet
import Derived.Test.YtignoocdeghiaaaDoorQac
import Derived.Test.YtignoocdeghiaaaDoorQad
namespace Go.Proofs.YtignoocdeghiaaaDoor
section
open Go.RowKit Go.Lib
set_option maxRecDepth 100000

/-- A slice from a bound on up to another. -/
theorem slice_midF (p : Option Addr) (zs : List Int) (n c lo hi : Nat) (hn : zs.length = n) (hlo : lo ≤ hi) (hhi : hi ≤ n) (hc : n ≤ c) (w : World) (hr : Rd w p zs) :
    ∃ pp, (∀ W : World, (Instr.slice 22 (.slice p n c) (some (.int .i64 (lo : Int))) (some (.int .i64 (hi : Int))) none).run Tryd.prog W = .ok (.slice pp (hi - lo) (c - lo)) W) ∧ (∀ W : World, (Instr.sliceAt 22 (.slice p n c) (some (.int .i64 (lo : Int))) (some (.int .i64 (hi : Int))) none).run Tryd.prog W = .ok (.slice pp (hi - lo) (c - lo)) W) ∧ Rd w pp ((zs.drop lo).take (hi - lo)) ∧ (∀ k ∈ blk pp, k ∈ blk p) := by
  obtain ⟨i, hi', hz, h1, h2⟩ := info_parts (infoB)
  have hrun : ∀ W : World, (Instr.slice 22 (.slice p n c) (some (.int .i64 (lo : Int))) (some (.int .i64 (hi : Int))) none).run Tryd.prog W = .ok (.slice (if c = lo then p else p.map (·.add lo)) (hi - lo) (c - lo)) W := fun W => by
    rw [run_slice_lh W 22 _ _ _ (elem_of Tryd.underlying22) .i64 .i64 _ _ (by omega) (by omega) (by omega), show Tryd.prog.elem 22 = 5 by simp [Program.elem, Tryd.underlying22]]
    have hs : (sizeOf 5).run Tryd.prog W = .ok 1 W := by simp [sizeOf, typeInfo, hi', h1, Result.andThen]
    rw [hs]
    simp [Result.andThen, sliced]
  refine ⟨_, hrun, fun W => by rw [run_sliceAt_slice (h := elem_of Tryd.underlying22)]; exact hrun W, ?_, ?_⟩
  · by_cases h : c = lo
    · rw [if_pos h, List.drop_eq_nil_of_le (by omega)]
      simpa using Rd.nil _ _
    · rw [if_neg h]
      rcases hr with hr | ⟨g, o, rfl, hr⟩
      · subst hr
        simpa using Rd.nil _ _
      · have h2 := (Rd.drop (Or.inr ⟨g, o, rfl, hr⟩ : Rd w (some ⟨g, o, none⟩) zs) lo).take (hi - lo)
        by_cases h0 : lo = 0
        · simpa [Addr.add, h0] using h2
        · simpa [Addr.add, h0] using h2
  · intro k hk
    split at hk
    · exact hk
    · cases p with
      | none => simp [blk] at hk
      | some a => by_cases h0 : lo = 0 <;> simpa [blk, Addr.add, h0] using hk
/-- A list of rows of bytes that can be read. -/
structure RdK (w : World) (q : Option Addr) (n c : Nat) (ls : List Bk) : Prop where
  ow : w.ownsRow 0 22 1 (.slice q n c) n (rowsK ls)
  ln : ls.length = n
  it : ∀ x ∈ ls, Rd w x.p x.bs ∧ x.bs.length ≤ x.c ∧ x.c ≤ 9223372036854775807
theorem RdK.nil (w : World) : RdK w none 0 0 [] := ⟨⟨rfl, Or.inl ⟨rfl, rfl⟩⟩, rfl, by simp⟩
theorem RdK.kept {w w' : World} {q : Option Addr} {n c : Nat} {ls : List Bk} {S : List Nat} (h : RdK w q n c ls) (hf : Frm S w w') (h1 : ∀ k ∈ blk q, k ∉ S) (h2 : ∀ x ∈ ls, ∀ k ∈ blk x.p, k ∉ S) : RdK w' q n c ls :=
  ⟨ownsRow_kept h.ow hf h1, h.ln, fun x hx => ⟨(h.it x hx).1.kept hf (h2 x hx), (h.it x hx).2⟩⟩
theorem RdK.k0 {w w' : World} {q : Option Addr} {n c : Nat} {ls : List Bk} (h : RdK w q n c ls) (hf : Frm [] w w') : RdK w' q n c ls := h.kept hf (by simp) (by simp)
theorem RdK.at {w : World} {q : Option Addr} {n c : Nat} {ls : List Bk} (h : RdK w q n c ls) {i : Nat} {x : Bk} (hx : ls[i]? = some x) : ∃ g, q = some ⟨g, 0, none⟩ ∧ w.cell? ⟨g, i, none⟩ = some (.slice x.p x.bs.length x.c) := by
  have hlt : i < n := by rw [← h.ln]; exact (List.getElem?_eq_some_iff.1 hx).1
  rcases h.ow.2 with ⟨_, h0⟩ | ⟨g, c', cur, he, _, hg, _⟩
  · omega
  · simp only [Value.slice.injEq] at he
    obtain ⟨rfl, _, _⟩ := he
    refine ⟨g, rfl, ?_⟩
    rw [World.ownsRow.cellAt h.ow i (by omega)]
    exact rowsK_get hx
theorem RdK.app {w wa w' : World} {q q' : Option Addr} {n c c' : Nat} {ls : List Bk} {x : Bk} (h : RdK w q n c ls) (hx : Rd w x.p x.bs ∧ x.bs.length ≤ x.c ∧ x.c ≤ 9223372036854775807) (hA : Frm [] w wa) (ho : w'.ownsRow 0 22 1 (.slice q' (n + 1) c') (n + 1) (rowsK ls ++ [x.v])) (hf : Frm (blk q) wa w') (hxq : ∀ y ∈ ls ++ [x], ∀ k ∈ blk y.p, k ∉ blk q) : RdK w' q' (n + 1) c' (ls ++ [x]) := by
  have hF : Frm (blk q) w w' := (hA.mono (by simp)).trans hf (fun k hk _ => hk)
  refine ⟨by rw [rowsK_app]; exact ho, by rw [List.length_append, h.ln]; rfl, fun y hy => ?_⟩
  rcases List.mem_append.1 hy with hy1 | hy1
  · exact ⟨(h.it y hy1).1.kept hF (hxq y hy), (h.it y hy1).2⟩
  · rw [List.mem_singleton] at hy1
    subst hy1
    exact ⟨hx.1.kept hF (hxq y hy), hx.2⟩
/-- The document's line. -/
structure IsLnD (w : World) (yb : Nat) (p : Option Addr) (n c : Nat) (zs : List Int) : Prop where
  row : w.heap[yb]? = some (.cells #[.slice p n c] 51 (0, 0))
  own : Own w 5 (.slice p n c) zs
  len : zs.length = n
  ap : yb ∉ blk p
theorem IsLnD.kept {w w' : World} {yb : Nat} {p : Option Addr} {n c : Nat} {zs : List Int} {S : List Nat} (h : IsLnD w yb p n c zs) (hf : Frm S w w') (h1 : yb ∉ S) (h2 : ∀ k ∈ blk p, k ∉ S) : IsLnD w' yb p n c zs :=
  ⟨hf.heap h.row h1, h.own.kept hf (by rw [own_blk]; exact h2), h.len, h.ap⟩
theorem own_capD {w : World} {E : TypeId} {p : Option Addr} {n c : Nat} {zs : List Int} (h : Own w E (.slice p n c) zs) : zs.length = n ∧ n ≤ c ∧ (p = none → c = 0) := by
  obtain ⟨p', c', he, hle, hn, _⟩ := h.shape
  simp only [Value.slice.injEq] at he
  obtain ⟨rfl, h2, rfl⟩ := he
  exact ⟨h2.symm, by omega, fun hp => (hn hp).2⟩
theorem own_cpD {w : World} {E : TypeId} {p : Option Addr} {n c : Nat} {zs : List Int} (h : Own w E (.slice p n c) zs) : c ≤ 9223372036854775807 := by
  rcases h.2 with ⟨he, _⟩ | ⟨g, c', cur, he, _, _, _, hm, _⟩
  · simp only [Value.slice.injEq] at he; omega
  · simp only [Value.slice.injEq] at he; unfold maxLen at hm; omega
theorem own_at0 {w : World} {E : TypeId} {p : Option Addr} {n c : Nat} {zs : List Int} (h : Own w E (.slice p n c) zs) (g o : Nat) (hp : p = some ⟨g, o, none⟩) : g < w.heap.size ∧ o = 0 := by
  obtain ⟨p', c', he, _, _, ha, _⟩ := h.shape
  simp only [Value.slice.injEq] at he
  obtain ⟨rfl, _, _⟩ := he
  obtain ⟨h1, _, h3⟩ := ha _ hp
  exact ⟨h3, h1⟩
theorem getD_memF {l : List Int} {i : Nat} (h : i < l.length) : l.getD i 0 ∈ l := by
  rw [List.getD_eq_getElem?_getD, List.getElem?_eq_getElem h]; exact List.getElem_mem h
theorem rd_dropD {w : World} {p : Option Addr} {zs : List Int} (h : Rd w p zs) (n c a : Nat) (hn : zs.length = n) (ha : a ≤ n) (hc : n ≤ c) : Rd w (partAt p c a 1) (zs.drop a) := by
  unfold partAt
  split
  · rw [List.drop_eq_nil_of_le (by omega)]; exact Rd.nil _ _
  · rcases h with h | ⟨g, o, rfl, hcc⟩
    · subst h; simpa using Rd.nil _ _
    · have h2 := Rd.drop (Or.inr ⟨g, o, rfl, hcc⟩ : Rd w (some ⟨g, o, none⟩) zs) a
      by_cases h0 : a = 0
      · simpa [Addr.add, h0] using h2
      · simpa [Addr.add, h0] using h2
theorem part0F (g c lo : Nat) (h : c ≠ lo) : partAt (some ⟨g, 0, none⟩) c lo 1 = some ⟨g, lo, none⟩ := by
  unfold partAt
  rw [if_neg h]
  simp [Addr.add]
  try omega
theorem own_lowF {w : World} {E : TypeId} {p : Option Addr} {n c : Nat} {zs : List Int} (h : Own w E (.slice p n c) zs) : ∀ k ∈ blk p, k < w.heap.size := by
  intro k hk
  obtain ⟨p', c', he, _, _, ha, _⟩ := h.shape
  simp only [Value.slice.injEq] at he
  obtain ⟨rfl, _, _⟩ := he
  cases p with
  | none => simp [blk] at hk
  | some a => simp [blk] at hk; subst hk; exact (ha a rfl).2.2
theorem cap_dropD {p : Option Addr} {n c a : Nat} (h0 : p = none → c = 0) (_ : n ≤ c) (ha : a ≤ n) (h : partAt p c a 1 = none) (_ : n - a = 0) : c - a = 0 := by
  unfold partAt at h
  split at h
  · omega
  · have := h0 (by simpa using h)
    omega
def FeedD (w : World) (yb : Nat) (all : List Int) (e : Ending) (w' : World) : Prop :=
  ∃ qf t cf ls p n c, e = .returned (.tuple #[.slice qf t cf, .int .i64 (feedR all).2.2]) ∧ RdK w' qf t cf ls ∧ ls.map Bk.bs = (feedR all).1 ∧ IsLnD w' yb p n c (feedR all).2.1 ∧ Frm [yb] w w' ∧ (∀ k ∈ blk p, w.heap.size ≤ k) ∧ (∀ k ∈ blk qf, w.heap.size ≤ k)
theorem leV_at4 {al : List Int} {a : Nat} (h : a + 4 ≤ al.length) : leV ((al.drop a).take 4) = al.getD a 0 + 256 * (al.getD (a + 1) 0 + 256 * (al.getD (a + 2) 0 + 256 * al.getD (a + 3) 0)) := by
  have h1 : ∀ j, j < 4 → al.getD (a + j) 0 = ((al.drop a).take 4).getD j 0 := fun j hj => by
    rw [List.getD_eq_getElem?_getD, List.getD_eq_getElem?_getD, List.getElem?_take, if_pos hj, List.getElem?_drop]
  have h0 := h1 0 (by omega)
  rw [Nat.add_zero] at h0
  rw [h0, h1 1 (by omega), h1 2 (by omega), h1 3 (by omega)]
  have hl : ((al.drop a).take 4).length = 4 := by rw [List.length_take, List.length_drop]; omega
  match (al.drop a).take 4, hl with
  | [x0, x1, x2, x3], _ => simp [leV]
end
section
open Go.RowKit
set_option maxRecDepth 100000

/-- n bytes that may be read and written at p. -/
def Mem (w : World) (p : Option Addr) (n : Nat) : Prop := n = 0 ∨ ∃ g cur, p = some ⟨g, 0, none⟩ ∧ w.heap[g]? = some (.cells cur 5 (0, 0)) ∧ ∀ i, i < n → ∃ z, cur[i]? = some (.int .u8 z)
theorem Own.mem {w : World} {p : Option Addr} {n c : Nat} {zs : List Int} (h : Own w 5 (.slice p n c) zs) : Mem w p zs.length := by
  rcases h.2 with ⟨_, h0⟩ | ⟨g, c', cur, he, _, hg, hc, _, hs, ht⟩
  · exact Or.inl h0
  · simp at he
    obtain ⟨rfl, _, _⟩ := he
    refine Or.inr ⟨g, cur, rfl, hg, fun i hi => ⟨zs.getD i 0, ?_⟩⟩
    have := congrArg (fun l => l[i]?) ht
    simp only [List.getElem?_take, bv_get hi] at this
    rw [if_pos (by omega)] at this
    simpa using this
theorem Mem.kept {S : List Nat} {w w' : World} {p : Option Addr} {n : Nat} (h : Mem w p n) (hf : Frm S w w') (hn : ∀ k ∈ blk p, k ∉ S) : Mem w' p n := by
  rcases h with h | ⟨g, cur, rfl, hg, hc⟩
  · exact Or.inl h
  · exact Or.inr ⟨g, cur, rfl, hf.heap hg (hn g (by simp [blk])), hc⟩
theorem Mem.keeps {A : List Nat} {w w' : World} {p : Option Addr} {n : Nat} (h : Mem w p n) (hf : Keeps A w w') (hn : ∀ k ∈ blk p, k ∈ A) : Mem w' p n := by
  rcases h with h | ⟨g, cur, rfl, hg, hc⟩
  · exact Or.inl h
  · exact Or.inr ⟨g, cur, rfl, (hf g (hn g (by simp [blk]))).trans hg, hc⟩
theorem Mem.at {w : World} {p : Option Addr} {n i : Nat} (h : Mem w p n) (hi : i < n) : ∃ g z, p = some ⟨g, 0, none⟩ ∧ g < w.heap.size ∧ w.cell? ⟨g, i, none⟩ = some (.int .u8 z) ∧ w.frozen? ⟨g, i, none⟩ = false ∧ ∀ z', Mem (w.setCell ⟨g, i, none⟩ (.int .u8 z')) p n := by
  rcases h with h | ⟨g, cur, rfl, hg, hc⟩
  · omega
  · obtain ⟨z, hz⟩ := hc i hi
    refine ⟨g, z, rfl, lt_of_heap hg, (cell_of_row w g i cur _ (0, 0) hg).trans hz, frozen_of_row w g i _ _ hg, fun z' => Or.inr ⟨g, _, rfl, heap_setCell_same w g i _ _ _ hg, fun j hj => ?_⟩⟩
    obtain ⟨y, hy⟩ := hc j hj
    by_cases hij : i = j
    · subst hij
      have := (Array.getElem?_eq_some_iff.1 hy).1
      exact ⟨z', by simp [this]⟩
    · exact ⟨y, by rw [Array.getElem?_setIfInBounds_ne hij]; exact hy⟩
theorem Rd.low {w : World} {p : Option Addr} {zs : List Int} (h : Rd w p zs) (hne : zs ≠ []) : ∀ k ∈ blk p, k < w.heap.size := by
  rcases h with h | ⟨g, o, rfl, hc⟩
  · exact absurd h hne
  · intro k hk
    simp [blk] at hk
    subst hk
    exact World.block_lt_of_cell? w _ (hc 0 (by cases zs with | nil => exact absurd rfl hne | cons _ _ => simp))
theorem Own.low {w : World} {E : TypeId} {p : Option Addr} {n c : Nat} {zs : List Int} (h : Own w E (.slice p n c) zs) : ∀ k ∈ blk p, k < w.heap.size := by
  obtain ⟨p', c', he, _, _, hh, _⟩ := h.shape
  simp only [Value.slice.injEq] at he
  obtain ⟨rfl, _, rfl⟩ := he
  intro k hk
  cases p with
  | none => simp [blk] at hk
  | some a => simp [blk] at hk; subst hk; exact (hh a rfl).2.2
theorem Keeps.cell {A : List Nat} {w w' : World} (h : Keeps A w w') {p : Addr} (hp : p.block ∈ A) : w'.cell? p = w.cell? p := World.cell?_of_block (h _ hp)
end
section
open Go.RowKit
set_option maxRecDepth 100000

/-- A plain reader at block b: its bytes lie at p, it stands at pos; its error. -/
def IsQ (w : World) (b : Nat) (p : Option Addr) (c : Nat) (bs : List Int) (pos : Nat) (err : Int) : Prop :=
  w.heap[b]? = some (.cells #[.slice p bs.length c, .int .i64 pos, .int .i64 err] 119 (0, 0)) ∧ Own w 5 (.slice p bs.length c) bs ∧ b ∉ blk p ∧ pos ≤ bs.length ∧ bs.length ≤ 140737488351232
theorem IsQ.kept {w w' : World} {b c pos : Nat} {p : Option Addr} {S : List Nat} {err : Int} {bs : List Int} (h : IsQ w b p c bs pos err) (hf : Frm S w w') (hb : b ∉ S) (hp : ∀ k ∈ blk p, k ∉ S) : IsQ w' b p c bs pos err :=
  ⟨hf.heap h.1 hb, h.2.1.kept hf (fun k hk => hp k (by rwa [own_blk] at hk)), h.2.2⟩
theorem IsQ.cells {w : World} {b c pos : Nat} {p : Option Addr} {err : Int} {bs : List Int} (h : IsQ w b p c bs pos err) : b < w.heap.size ∧ b ∉ blk p ∧ pos ≤ bs.length ∧ bs.length ≤ 140737488351232 ∧
    w.cell? ⟨b, 0, none⟩ = some (.slice p bs.length c) ∧ w.cell? ⟨b, 1, none⟩ = some (.int .i64 pos) ∧ w.cell? ⟨b, 2, none⟩ = some (.int .i64 err) ∧
    w.frozen? ⟨b, 1, none⟩ = false ∧ w.frozen? ⟨b, 2, none⟩ = false ∧ Rd w p bs ∧ bs.length ≤ c ∧ (p = none → bs = [] ∧ c = 0) ∧ (∀ a, p = some a → a.off = 0 ∧ a.spot = none) := by
  obtain ⟨h1, h2, h3, h4, h5⟩ := h
  obtain ⟨p', c', he, hc, hn, hh, _⟩ := h2.shape
  simp only [Value.slice.injEq, true_and] at he
  obtain ⟨rfl, rfl⟩ := he
  exact ⟨lt_of_heap h1, h3, h4, h5, by rw [cell_of_row w _ _ _ _ _ h1]; rfl, by rw [cell_of_row w _ _ _ _ _ h1]; rfl, by rw [cell_of_row w _ _ _ _ _ h1]; rfl, frozen_of_row w b 1 _ _ h1, frozen_of_row w b 2 _ _ h1, h2.rd, hc, hn, fun a ha => ⟨(hh a ha).1, (hh a ha).2.1⟩⟩
theorem IsQ.setPos {w : World} {b c pos : Nat} {p : Option Addr} {err : Int} {bs : List Int} (h : IsQ w b p c bs pos err) {n : Nat} (hn : n ≤ bs.length) : IsQ (w.setCell ⟨b, 1, none⟩ (.int .i64 n)) b p c bs n err := by
  obtain ⟨h1, h2, h3, h4, h5⟩ := h
  refine ⟨?_, h2.kept ((Frm.refl [b] w).setCell _ _ (by simp)) (by rw [own_blk]; intro k hk; simp; rintro rfl; exact h3 hk), h3, hn, h5⟩
  rw [heap_setCell_same w b 1 _ _ _ h1]; rfl
theorem IsQ.setErr {w : World} {b c pos : Nat} {p : Option Addr} {err : Int} {bs : List Int} (h : IsQ w b p c bs pos err) (ev : Int) : IsQ (w.setCell ⟨b, 2, none⟩ (.int .i64 ev)) b p c bs pos ev := by
  obtain ⟨h1, h2, h3, h4, h5⟩ := h
  refine ⟨?_, h2.kept ((Frm.refl [b] w).setCell _ _ (by simp)) (by rw [own_blk]; intro k hk; simp; rintro rfl; exact h3 hk), h3, h4, h5⟩
  rw [heap_setCell_same w b 2 _ _ _ h1]; rfl
set_option maxHeartbeats 800000 in
theorem open_any (p : Option Addr) (c : Nat) (bs : List Int) (w : World) (hrd : Rd w p bs) (hpc : bs = [] → p = none → c = 0) (hl : bs.length ≤ 140737488351232) :
    Calls Tryd.prog 78 #[.slice p bs.length c] w fun e w' => ∃ b p' c', e = .returned (.pointer (some ⟨b, 0, none⟩)) ∧ IsQ w' b p' c' bs 0 0 ∧ Frm [] w w' ∧ w.heap.size ≤ b ∧ ∀ k ∈ blk p', w.heap.size ≤ k := by
  have HR := hid hrd
  have HPC := hid hpc
  clear hrd hpc
  go_enter Tryd.func78, Tryd.ntmps78
  go_wp2_with (at_builtin; refine wpList_appB rfl _ _ 22 rfl 5 Tryd.underlying22 infoE none 0 0 [] rfl rfl (Own.nil _ _) p bs.length c bs rfl rfl HPC.out HR.out (by simp; omega) ?_)
  intro xs p2 cq w1 hxs ho1 hf1 hfr1
  have hx : xs = bs := hxs.out
  subst xs
  go_wp2_with fail
  go_returns
  have hnew : ∀ k ∈ blk p2, w.heap.size ≤ k := fun k hk => (hfr1.out k hk).elim (fun h => by simp [blk] at h) id
  have hff : Frm [] w (w1.alloc (.cells #[.slice p2 bs.length cq, .int .i64 0, .int .i64 0] 119)) := Frm.alloc (S := []) hf1.out _
  refine ⟨w1.heap.size, rfl, p2, ⟨cq, heap_alloc_new _ _, ho1.out.kept ((Frm.refl [] w1).alloc _) (by simp), fun h => Nat.lt_irrefl _ (ho1.out.low _ h), Nat.zero_le _, hl⟩, hff, Frm.size hf1.out, hnew⟩
theorem step_appB {P : Program} {w : World} {ops : Array Oper} {o : Oper} {a : Act} {K : Act → World → Prop} {Q : Exit → Act → World → Prop} {Z : Prop} (hgd : o.guard = none) (sl x : Operand) (t : TypeId)
    (ho : o.op = .call { callee := .builtin .append, args := #[sl, x], argTypes := #[t, t] })
    (E : TypeId) (ht : P.underlying t = some (.slice E)) (hI : (P.info? E).map (fun i => (i.zero, i.size, i.bytes)) = some (some (.int .u8 0), 1, 1))
    (p0 : Option Addr) (n0 c0 : Nat) (zs : List Int) (hs : a.eval sl = .slice p0 n0 c0) (hn0 : n0 = zs.length) (hown : Own w E (.slice p0 zs.length c0) zs)
    (p : Option Addr) (n c : Nat) (ns : List Int) (hx : a.eval x = .slice p n c) (hn : n = ns.length) (hp : ns = [] → p = none → c = 0) (hrd : Rd w p ns) (hsz : zs.length + ns.length ≤ 140737488355328)
    (h : ∀ xs p2 c2 w', Hid (xs = zs ++ ns) → Hid (Own w' E (.slice p2 xs.length c2) xs) → Hid (Frm (blk p0) w w') → Hid (∀ k ∈ blk p2, k ∈ blk p0 ∨ w.heap.size ≤ k) → K (a.put o.dst (.slice p2 xs.length c2)) w') :
    if Region.wanted o (yielded ops a.tmps) = true then Oper.wp P o a w K Q else Z := by
  have hw : Region.wanted o (yielded ops a.tmps) = true := by simp [Region.wanted, hgd]
  rw [if_pos hw]
  subst hn
  subst hn0
  obtain ⟨v', w', hrun, h1, h2, h3⟩ := run_appB (P := P) (w := w) t o.type E ht hI _ zs hown p c ns hp hrd hsz
  obtain ⟨xs, hxs⟩ : ∃ xs, xs = zs ++ ns := ⟨_, rfl⟩
  rw [← hxs] at h1
  obtain ⟨p2, c2, rfl, _, _, _, hb⟩ := h1.shape
  rw [hb, own_blk] at h3
  rw [own_blk] at h2
  unfold Oper.wp
  simp [execOp, ho, resolve, invoke, builtin, hs, hx, hrun, Result.andThen]
  exact h xs p2 c2 w' hxs h1 h2 h3
set_option maxHeartbeats 800000 in
theorem qbytes_any (b c pos : Nat) (p : Option Addr) (bs : List Int) (err k : Int) (w : World) (hw : IsQ w b p c bs pos err) (hk : -9223372036854775808 ≤ k) (hk2 : k ≤ 9223372036854775807) :
    Calls Tryd.prog 59 #[.pointer (some ⟨b, 0, none⟩), .int .i64 k] w fun e w' => ∃ p' n c', e = .returned (.slice p' n c') ∧ n = (readS [] pos err (bytesT (bs.drop pos) k)).1.length ∧ Own w' 5 (.slice p' n c') (readS [] pos err (bytesT (bs.drop pos) k)).1 ∧ (∀ k ∈ blk p', w.heap.size ≤ k) ∧
      IsQ w' b p c bs (readS [] pos err (bytesT (bs.drop pos) k)).2.1 (readS [] pos err (bytesT (bs.drop pos) k)).2.2 ∧ Frm [b] w w' := by
  obtain ⟨hlt, hnb, hpos, hlen, c0, c1, c2, f1, f2, hrd, hcl, hpn, hoff⟩ := hw.cells
  have HW := hid hw
  have HR := hid hrd
  have HPN := hid hpn
  have HOFF := hid hoff
  clear hw hrd hpn hoff
  by_cases he : err = 0
  · subst he
    have hb : ((0 : Int) != 0) = false := rfl
    rw [readS_ok]
    by_cases hk0 : k < 0
    · have e : bytesT (bs.drop pos) k = ([], 0, 1) := by unfold bytesT; rw [if_pos hk0]
      rw [e]
      go_enter Tryd.func59, Tryd.ntmps59
      go_wp2_with fail
      go_returns
      exact ⟨none, 0, 0, rfl, rfl, Own.nil _ _, by simp [blk], HW.out.setErr 1, (Frm.refl _ _).setCell _ _ (by simp)⟩
    · by_cases h2 : ((bs.drop pos).length : Int) < k
      · have e : bytesT (bs.drop pos) k = ([], 0, 10) := by unfold bytesT; rw [if_neg hk0, if_pos h2]
        rw [e]
        have h2' : (bs.length : Int) - pos < k := by simp only [List.length_drop] at h2; omega
        clear h2
        go_enter Tryd.func59, Tryd.ntmps59
        go_wp2_with fail
        go_quiet (fail)
        go_wp2_with fail
        go_returns
        exact ⟨none, 0, 0, rfl, rfl, Own.nil _ _, by simp [blk], (HW.out.kept ((Frm.refl [] w).drewN nq) (by simp) (by simp)).setErr 10, ((Frm.refl [] w).drewN nq |>.mono (by simp)).setCell _ _ (by simp)⟩
      · have e : bytesT (bs.drop pos) k = ((bs.drop pos).take k.toNat, k.toNat, 0) := by unfold bytesT; rw [if_neg hk0, if_neg h2]
        rw [e]
        obtain ⟨j, rfl⟩ : ∃ j : Nat, k = (j : Int) := ⟨k.toNat, by omega⟩
        simp only [Int.toNat_natCast, if_true]
        have h2' : ¬ (bs.length : Int) - pos < (j : Int) := by simp only [List.length_drop] at h2; omega
        clear h2
        go_enter Tryd.func59, Tryd.ntmps59
        go_wp2_with fail
        go_quiet (fail)
        cases p with
        | none =>
          obtain ⟨rfl, rfl⟩ := HPN.out rfl
          simp only [List.length_nil] at hpos h2' c0 HW hcl hlen
          obtain rfl : pos = 0 := by omega
          obtain rfl : j = 0 := by omega
          have hw1 : IntKind.i64.wrap (((0 : Nat) : Int) + ((0 : Nat) : Int)) = 0 := by decide
          simp only [Int.natCast_zero] at c1 hw1
          have hw2 : IntKind.i64.wrap ((0 : Int) + ((0 : Nat) : Int)) = 0 := by decide
          have hw3 : IntKind.i64.wrap 0 = 0 := by decide
          go_wp2_with fail
          go_region_held3 (fun w' => w'.cell? ⟨b, 0, none⟩ = some (.slice none 0 0) ∧ w'.cell? ⟨b, 1, none⟩ = some (.int .i64 0)) (first | go_keep | (exact ⟨c0, c1⟩) | (exact ⟨(hF2.out.cell (p := ⟨b, 0, none⟩) hlt List.not_mem_nil).trans c0, (hF2.out.cell (p := ⟨b, 1, none⟩) hlt List.not_mem_nil).trans c1⟩)) ((refine step_appB (by rfl) _ _ 22 (by rfl) 5 Tryd.underlying22 infoE none 0 0 [] (by rfl) (by rfl) (Own.nil _ _) none 0 0 [] (by rfl) (by rfl) (fun _ _ => rfl) (Rd.nil _ _) (by simp) ?_; intro xs p2 cq w2 hxs ho hF2 hfr))
          have hx : xs = [] := hxs.out
          subst xs
          have F2 : Frm [] w w2 := ((Frm.refl [] w).drewN (nq + 1)).trans (T := []) hF2.out (by simp)
          have F2' := hid F2
          have hnw : ∀ k ∈ blk p2, w.heap.size ≤ k := fun k hk => (hfr.out k hk).elim (fun h => by simp [blk] at h) id
          have hnb2 : b ∉ blk p2 := fun h => Nat.not_lt.2 (hnw b h) hlt
          have HNW := hid hnw
          have HNB := hid hnb2
          clear hnw hnb2 hw1 hw2 hw3
          have q1 := (F2.cell (p := ⟨b, 1, none⟩) hlt List.not_mem_nil).trans c1
          have qf := (F2.frozen (p := ⟨b, 1, none⟩) hlt List.not_mem_nil).trans f1
          clear F2
          go_wp2_with fail
          go_returns
          have hq := (HW.out.kept F2'.out (by simp) (by simp)).setPos (n := 0) (Nat.le_refl _)
          exact ⟨p2, _, cq, rfl, rfl, ho.out.kept ((Frm.refl [b] w2).setCell _ _ (by simp)) (by rw [own_blk]; intro k hk; simp only [List.mem_singleton]; rintro rfl; exact HNB.out hk), HNW.out, hq, (F2'.out.mono (by simp)).setCell _ _ (by simp)⟩
        | some a =>
          obtain ⟨g, o, sp⟩ := a
          obtain ⟨ho, hs⟩ := HOFF.out _ rfl
          simp only at ho hs
          subst ho hs
          have hpj : pos + j ≤ bs.length := by omega
          have hll : ((bs.drop pos).take j).length = j := by simp only [List.length_take, List.length_drop]; omega
          have hrd2 : Rd w (if c = pos then (some ⟨g, 0, none⟩ : Option Addr) else some ⟨g, pos, none⟩) ((bs.drop pos).take j) := by
            by_cases hcp : c = pos
            · exact Or.inl (List.eq_nil_of_length_eq_zero (by rw [hll]; omega))
            · rw [if_neg hcp]
              have := (HR.out.drop pos).take j
              rwa [Nat.zero_add] at this
          have hp1 : (bs.drop pos).take j = [] → (if c = pos then (some ⟨g, 0, none⟩ : Option Addr) else some ⟨g, pos, none⟩) = none → c - pos = 0 := fun _ h => by split at h <;> cases h
          have hn1 : ((pos : Int) + (j : Int)).toNat - pos = ((bs.drop pos).take j).length := by rw [hll]; omega
          have hs1 : ([] : List Int).length + ((bs.drop pos).take j).length ≤ 140737488355328 := by rw [hll]; simp; omega
          obtain ⟨zs, hzs⟩ : ∃ zs, (bs.drop pos).take j = zs := ⟨_, rfl⟩
          rw [hzs] at hrd2 hp1 hn1 hs1 hll
          have HRD2 := hid hrd2
          have HP1 := hid hp1
          have HN1 := hid hn1
          have HS1 := hid hs1
          have HLL := hid hll
          have HZS := hid hzs
          clear hrd2 hp1 hn1 hs1 hll
          have hw1 : IntKind.i64.wrap ((pos : Int) + (j : Int)) = (pos : Int) + (j : Int) := IntWalk.i64_in _ (by omega)
          have b1 : (0 : Int) ≤ (pos : Int) := by omega
          have b2 : (pos : Int) ≤ (pos : Int) + (j : Int) := by omega
          have b3 : (pos : Int) + (j : Int) ≤ (c : Int) := by omega
          clear hzs
          go_wp2_with fail
          go_region_held3 (fun w' => w'.cell? ⟨b, 0, none⟩ = some (.slice (some ⟨g, 0, none⟩) bs.length c) ∧ w'.cell? ⟨b, 1, none⟩ = some (.int .i64 pos)) (first | go_keep | (exact ⟨c0, c1⟩) | (exact ⟨(hF2.out.cell (p := ⟨b, 0, none⟩) hlt List.not_mem_nil).trans c0, (hF2.out.cell (p := ⟨b, 1, none⟩) hlt List.not_mem_nil).trans c1⟩)) ((refine step_appB (by rfl) _ _ 22 (by rfl) 5 Tryd.underlying22 infoE none 0 0 [] (by rfl) (by rfl) (Own.nil _ _) (if c = pos then (some ⟨g, 0, none⟩ : Option Addr) else some ⟨g, pos, none⟩) (((pos : Int) + (j : Int)).toNat - pos) (c - pos) zs (by rfl) HN1.out HP1.out HRD2.out HS1.out ?_; intro xs p2 cq w2 hxs ho hF2 hfr))
          clear hw1 b1 b2 b3
          have hx : xs = zs := hxs.out
          subst xs
          have F2 : Frm [] w w2 := (((Frm.refl [] w).drewN nq).drew).trans (T := []) hF2.out (by simp)
          have F2' := hid F2
          have hnw : ∀ k ∈ blk p2, w.heap.size ≤ k := fun k hk => (hfr.out k hk).elim (fun h => by simp [blk] at h) id
          have hnb2 : b ∉ blk p2 := fun h => Nat.not_lt.2 (hnw b h) hlt
          have HNW := hid hnw
          have HNB := hid hnb2
          generalize (if c = pos then (some ⟨g, 0, none⟩ : Option Addr) else some ⟨g, pos, none⟩) = pp
          clear hnw hnb2 HRD2 HP1
          have q1 := (F2.cell (p := ⟨b, 1, none⟩) hlt List.not_mem_nil).trans c1
          have qf := (F2.frozen (p := ⟨b, 1, none⟩) hlt List.not_mem_nil).trans f1
          clear F2
          go_wp2_with fail
          go_returns
          have hq := (HW.out.kept F2'.out (by simp) (by simp)).setPos (n := pos + j) hpj
          rw [Int.natCast_add] at hq
          rw [HZS.out]
          exact ⟨p2, _, cq, rfl, rfl, ho.out.kept ((Frm.refl [b] w2).setCell _ _ (by simp)) (by rw [own_blk]; intro k hk; simp only [List.mem_singleton]; rintro rfl; exact HNB.out hk), HNW.out, hq, (F2'.out.mono (by simp)).setCell _ _ (by simp)⟩
  · rw [readS_err _ _ _ _ he]
    have hb : (err != 0) = true := by simpa using he
    go_enter Tryd.func59, Tryd.ntmps59
    go_wp2_with fail
    go_returns
    exact ⟨none, 0, 0, rfl, rfl, Own.nil _ _, by simp [blk], HW.out.kept (Frm.refl [] _) (by simp) (by simp), Frm.refl _ _⟩
set_option maxHeartbeats 400000 in
theorem qdone_any (b c pos : Nat) (p : Option Addr) (bs : List Int) (err : Int) (w : World) (hw : IsQ w b p c bs pos err) :
    Calls Tryd.prog 60 #[.pointer (some ⟨b, 0, none⟩)] w fun e w' => e = .returned (.int .i64 (doneS bs.length pos err)) ∧ ∃ n, w' = w.drewN n := by
  obtain ⟨hlt, hnb, hpos, hlen, c0, c1, c2, f1, f2, _⟩ := hw.cells
  clear hw
  by_cases he : err = 0
  · subst he
    by_cases hp : pos < bs.length
    · rw [show doneS bs.length pos 0 = 13 by simp [doneS, hp]]
      have hb : ((pos : Int) < (bs.length : Int)) := by omega
      go_enter Tryd.func60, Tryd.ntmps60
      go_wp2_with fail
      go_quiet (fail)
      go_wp2_with fail
      go_returns
      exact ⟨rfl, _, rfl⟩
    · rw [show doneS bs.length pos 0 = 0 by simp [doneS]; omega]
      have hb : ¬ ((pos : Int) < (bs.length : Int)) := by omega
      go_enter Tryd.func60, Tryd.ntmps60
      go_wp2_with fail
      go_quiet (fail)
      go_wp2_with fail
      go_returns
      exact ⟨rfl, _, rfl⟩
  · rw [show doneS bs.length pos err = err by simp [doneS, he]]
    have hb : (err == 0) = false := by simpa using he
    have hb2 : (err != 0) = true := by simpa using he
    clear he
    go_enter Tryd.func60, Tryd.ntmps60
    go_wp2_with fail
    go_quiet (fail)
    go_wp2_with fail
    go_returns
    exact ⟨rfl, _, rfl⟩
end
end Go.Proofs.YtignoocdeghiaaaDoor
