/- Contracts of package code's reader. -/
import Derived.Test.YtkbppkimpefilaaCodeM
namespace Go.Proofs.Ytkbppkimpefilaa
open Go.RowKit
set_option maxRecDepth 100000

/-- A reader at block b over the bytes of block g: where it stands, its error. -/
def IsR (w : World) (b g : Nat) (bs : List Int) (pos : Nat) (err : Int) : Prop :=
  w.heap[b]? = some (.cells #[.slice (some ⟨g, 0, none⟩) bs.length bs.length, .int .i64 pos, .int .i64 err] 139 (0, 0)) ∧ w.heap[g]? = some (.cells (bv bs).toArray 5 (0, 0)) ∧ b ≠ g ∧ pos ≤ bs.length ∧ bs.length ≤ 140737488355328
theorem IsR.kept {w w' : World} {b g pos : Nat} {S : List Nat} {err : Int} {bs : List Int} (h : IsR w b g bs pos err) (hf : Frm S w w') (hb : b ∉ S) (hg : g ∉ S) : IsR w' b g bs pos err :=
  ⟨hf.heap h.1 hb, hf.heap h.2.1 hg, h.2.2⟩
theorem IsR.cells {w : World} {b g pos : Nat} {err : Int} {bs : List Int} (h : IsR w b g bs pos err) : b < w.heap.size ∧ g < w.heap.size ∧ b ≠ g ∧ pos ≤ bs.length ∧ bs.length ≤ 140737488355328 ∧
    w.cell? ⟨b, 0, none⟩ = some (.slice (some ⟨g, 0, none⟩) bs.length bs.length) ∧ w.cell? ⟨b, 1, none⟩ = some (.int .i64 pos) ∧ w.cell? ⟨b, 2, none⟩ = some (.int .i64 err) ∧
    w.frozen? ⟨b, 1, none⟩ = false ∧ w.frozen? ⟨b, 2, none⟩ = false ∧ Rd w (some ⟨g, 0, none⟩) bs := by
  obtain ⟨h1, h2, h3, h4, h5⟩ := h
  exact ⟨lt_of_heap h1, lt_of_heap h2, h3, h4, h5, by rw [cell_of_row w _ _ _ _ _ h1]; rfl, by rw [cell_of_row w _ _ _ _ _ h1]; rfl, by rw [cell_of_row w _ _ _ _ _ h1]; rfl, frozen_of_row w b 1 _ _ h1, frozen_of_row w b 2 _ _ h1,
    (own_of_block (E := 5) h2 (by unfold maxLen; omega)).rd⟩
set_option maxHeartbeats 400000 in
theorem newReader_any (p : Option Addr) (c : Nat) (bs : List Int) (w : World) (hrd : Rd w p bs) (hl : bs.length ≤ 140737488355328) :
    Calls Try.prog 57 #[.slice p bs.length c] w fun e w' => ∃ b g, e = .returned (.pointer (some ⟨b, 0, none⟩)) ∧ IsR w' b g bs 0 0 ∧ Frm [] w w' ∧ w.heap.size ≤ b ∧ w.heap.size ≤ g := by
  have hmk := run_make_row' (P := Try.prog) 25 5 (.int .u8 0) 1 Try.underlying25 infoE rfl .i64 .i64 bs.length (by omega) (by omega)
  go_enter Try.func57, Try.ntmps57
  go_wp2_with (refine wpList_copyB rfl _ _ 25 rfl 5 Try.underlying25 infoE w.heap.size bs.length bs.length _ rfl (heap_alloc_new _ _) (size_madeCells _ _) p bs.length c bs rfl rfl (hrd.alloc _) (Nat.le_refl _) ?_)
  intro w' hb hf
  have HB := hid hb
  clear hb
  go_wp2_with fail
  go_returns
  have hl1 : w.heap.size < w'.heap.size := lt_of_heap HB.out
  have hF : Frm [] w w' := ((Frm.refl [] w).alloc _).trans hf (by simp)
  refine ⟨w'.heap.size, w.heap.size, rfl, ⟨heap_alloc_new _ _, ?_, by omega, Nat.zero_le _, hl⟩, hF.alloc _, hF.size, Nat.le_refl _⟩
  rw [Below.heap_alloc _ _ _ hl1]
  exact HB.out
/-- Behind a form, the reader is set anew. -/
theorem IsR.setPos {w : World} {b g pos : Nat} {err : Int} {bs : List Int} (h : IsR w b g bs pos err) {n : Nat} (hn : n ≤ bs.length) : IsR (w.setCell ⟨b, 1, none⟩ (.int .i64 n)) b g bs n err := by
  obtain ⟨h1, h2, h3, h4, h5⟩ := h
  refine ⟨?_, by rw [heap_setCell_other _ _ _ _ (Ne.symm h3)]; exact h2, h3, hn, h5⟩
  rw [heap_setCell_same w b 1 _ _ _ h1]; rfl
theorem IsR.setErr {w : World} {b g pos : Nat} {err : Int} {bs : List Int} (h : IsR w b g bs pos err) (ev : Int) : IsR (w.setCell ⟨b, 2, none⟩ (.int .i64 ev)) b g bs pos ev := by
  obtain ⟨h1, h2, h3, h4, h5⟩ := h
  refine ⟨?_, by rw [heap_setCell_other _ _ _ _ (Ne.symm h3)]; exact h2, h3, h4, h5⟩
  rw [heap_setCell_same w b 2 _ _ _ h1]; rfl
/-- What a form gives: a number and an error, and what R says of the world. -/
def GivesR (n : Nat) (ev : Int) (S : List Nat) (R : World → Prop) (w : World) (e : Ending) (w1 : World) : Prop := e = .returned (.tuple #[.int .i64 n, .int .i64 ev]) ∧ R w1 ∧ Frm S w w1
section
variable (b g pos n : Nat) (err ev : Int) (bs : List Int) (S : List Nat) (R : World → Prop) (f : FuncId) (cap : Array Value) (w : World)
set_option maxHeartbeats 400000 in
theorem take_stop (fn : Fn) (hw : IsR w b g bs pos err) (he : err ≠ 0) :
    Calls Try.prog 95 #[.pointer (some ⟨b, 0, none⟩), .func fn #[] cap] w fun e w' => e = .returned (.tuple #[]) ∧ w = w' := by
  obtain ⟨hlt, hlg, hbg, hpos, hlen, c0, c1, c2, f1, f2, hrd⟩ := hw.cells
  have hb : (err != 0) = true := by simpa using he
  clear he hw hrd
  go_enter Try.func95, Try.ntmps95
  go_wp2_with fail
  go_returns
  exact ⟨rfl, rfl⟩
/-- What a call of take makes of the world. -/
def TakeQ (b g pos n : Nat) (ev : Int) (bs : List Int) (S : List Nat) (R : World → Prop) (w : World) (w' : World) : Prop :=
  ∃ w1, R w1 ∧ Frm S w w1 ∧ Frm [b] w1 w' ∧ IsR w' b g bs (if ev = 0 then pos + n else pos) ev
theorem takeQ_ok {b g pos n : Nat} {bs : List Int} {S : List Nat} {R : World → Prop} {w w1 : World} (hw : IsR w b g bs pos 0) (hbS : b ∉ S) (hgS : g ∉ S) (hn : pos + n ≤ bs.length) (hR : R w1) (hS : Frm S w.drew w1) {k : Int} (hk : k = ((pos + n : Nat) : Int)) :
    TakeQ b g pos n 0 bs S R w (w1.setCell ⟨b, 1, none⟩ (.int .i64 k)) := by
  subst hk
  have hS' : Frm S w w1 := ((Frm.refl S w).drew).trans hS (fun i hi _ => hi)
  exact ⟨w1, hR, hS', (Frm.refl _ _).setCell _ _ (by simp), by rw [if_pos rfl]; exact (hw.kept hS' hbS hgS).setPos hn⟩
theorem takeQ_err {b g pos n : Nat} {ev : Int} {bs : List Int} {S : List Nat} {R : World → Prop} {w w1 : World} (hw : IsR w b g bs pos 0) (hbS : b ∉ S) (hgS : g ∉ S) (he : ev ≠ 0) (hR : R w1) (hS : Frm S w.drew w1) :
    TakeQ b g pos n ev bs S R w (w1.setCell ⟨b, 2, none⟩ (.int .i64 ev)) := by
  have hS' : Frm S w w1 := ((Frm.refl S w).drew).trans hS (fun i hi _ => hi)
  exact ⟨w1, hR, hS', (Frm.refl _ _).setCell _ _ (by simp), by rw [if_neg he]; exact (hw.kept hS' hbS hgS).setErr ev⟩
set_option maxHeartbeats 400000 in
theorem take_end (hw : IsR w b g bs pos 0) (hc : pos = bs.length) (hbS : b ∉ S) (hgS : g ∉ S) (hn : ev = 0 → pos + n ≤ bs.length) (hcf : ∀ (l : Value) (w : World), Sem.run Try.prog (callFunc f (#[l] ++ cap)) w = .ok (.enter f (#[l] ++ cap)) w)
    (hform : Calls Try.prog f (#[.slice (some ⟨g, 0, none⟩) 0 0] ++ cap) w.drew (GivesR n ev S R w.drew)) :
    Calls Try.prog 95 #[.pointer (some ⟨b, 0, none⟩), .func (.func f) #[] cap] w fun e w' => e = .returned (.tuple #[]) ∧ TakeQ b g pos n ev bs S R w w' := by
  obtain ⟨hlt, hlg, hbg, hpos, hlen, c0, c1, c2, f1, f2, _⟩ := hw.cells
  have HW := hid hw
  have HN := hid hn
  have HF := hid hform
  clear hw hn hform
  subst hc
  by_cases he : ev = 0
  · subst he
    have hn0 := HN.out rfl
    go_enter Try.func95, Try.ntmps95
    go_wp2_with fail
    go_region_with (((with_reducible refine HF.out.mono ?_); rintro e w1 ⟨rfl, hR, hS⟩))
    all_goals
      have k1 := (hS.cell (p := ⟨b, 1, none⟩) hlt hbS).trans c1
      have q1 := (hS.frozen (p := ⟨b, 1, none⟩) hlt hbS).trans f1
      go_wp2_with fail
      go_returns
      exact ⟨rfl, takeQ_ok HW.out hbS hgS hn0 hR hS (by omega)⟩
  · have HE : Hid (ev ≠ 0) := he
    have hb : (ev != 0) = true := by simpa using he
    clear he
    go_enter Try.func95, Try.ntmps95
    go_wp2_with fail
    go_region_with (((with_reducible refine HF.out.mono ?_); rintro e w1 ⟨rfl, hR, hS⟩))
    all_goals
      have k1 := (hS.cell (p := ⟨b, 2, none⟩) hlt hbS).trans c2
      have q1 := (hS.frozen (p := ⟨b, 2, none⟩) hlt hbS).trans f2
      go_wp2_with fail
      go_returns
      exact ⟨rfl, takeQ_err HW.out hbS hgS HE.out hR hS⟩
set_option maxHeartbeats 400000 in
theorem take_mid (hw : IsR w b g bs pos 0) (hc : pos < bs.length) (hbS : b ∉ S) (hgS : g ∉ S) (hn : ev = 0 → pos + n ≤ bs.length) (hcf : ∀ (l : Value) (w : World), Sem.run Try.prog (callFunc f (#[l] ++ cap)) w = .ok (.enter f (#[l] ++ cap)) w)
    (hform : Calls Try.prog f (#[.slice (some ⟨g, pos, none⟩) (bs.length - pos) (bs.length - pos)] ++ cap) w.drew (GivesR n ev S R w.drew)) :
    Calls Try.prog 95 #[.pointer (some ⟨b, 0, none⟩), .func (.func f) #[] cap] w fun e w' => e = .returned (.tuple #[]) ∧ TakeQ b g pos n ev bs S R w w' := by
  obtain ⟨hlt, hlg, hbg, hpos, hlen, c0, c1, c2, f1, f2, _⟩ := hw.cells
  have HW := hid hw
  have HN := hid hn
  have HF := hid hform
  clear hw hn hform
  have hc1 : ¬ bs.length = pos := by omega
  have hc2 : (pos : Int) ≤ (bs.length : Int) := by omega
  have hc3 : (0 : Int) ≤ (pos : Int) := by omega
  by_cases he : ev = 0
  · subst he
    have hn0 := HN.out rfl
    go_enter Try.func95, Try.ntmps95
    go_wp2_with fail
    go_region_with (((with_reducible refine HF.out.mono ?_); rintro e w1 ⟨rfl, hR, hS⟩))
    all_goals
      have k1 := (hS.cell (p := ⟨b, 1, none⟩) hlt hbS).trans c1
      have q1 := (hS.frozen (p := ⟨b, 1, none⟩) hlt hbS).trans f1
      go_wp2_with fail
      go_returns
      exact ⟨rfl, takeQ_ok HW.out hbS hgS hn0 hR hS (by omega)⟩
  · have HE : Hid (ev ≠ 0) := he
    have hb : (ev != 0) = true := by simpa using he
    clear he
    go_enter Try.func95, Try.ntmps95
    go_wp2_with fail
    go_region_with (((with_reducible refine HF.out.mono ?_); rintro e w1 ⟨rfl, hR, hS⟩))
    all_goals
      have k1 := (hS.cell (p := ⟨b, 2, none⟩) hlt hbS).trans c2
      have q1 := (hS.frozen (p := ⟨b, 2, none⟩) hlt hbS).trans f2
      go_wp2_with fail
      go_returns
      exact ⟨rfl, takeQ_err HW.out hbS hgS HE.out hR hS⟩
theorem take_both (hw : IsR w b g bs pos 0) (hbS : b ∉ S) (hgS : g ∉ S) (hn : pos + n ≤ bs.length) (hcf : ∀ (l : Value) (w : World), Sem.run Try.prog (callFunc f (#[l] ++ cap)) w = .ok (.enter f (#[l] ++ cap)) w)
    (hform : ∀ o c, (bs.drop pos).length ≤ c ∧ c ≤ 140737488355328 → Rd w.drew (some ⟨g, o, none⟩) (bs.drop pos) → Calls Try.prog f (#[.slice (some ⟨g, o, none⟩) (bs.drop pos).length c] ++ cap) w.drew (GivesR n ev S R w.drew)) :
    Calls Try.prog 95 #[.pointer (some ⟨b, 0, none⟩), .func (.func f) #[] cap] w fun e w' => e = .returned (.tuple #[]) ∧ TakeQ b g pos n ev bs S R w w' := by
  obtain ⟨_, _, _, hpos, hlen, _, _, _, _, _, hrd⟩ := hw.cells
  by_cases hc : pos = bs.length
  · have h := hform 0 0 ⟨by simp; omega, by omega⟩ (Or.inl (by simp; omega))
    rw [show (bs.drop pos).length = 0 by simp; omega] at h
    exact take_end b g pos n ev bs S R f cap w hw hc hbS hgS (fun _ => hn) hcf h
  · have h0 := hrd.drop pos
    rw [Nat.zero_add] at h0
    have h := hform pos (bs.length - pos) ⟨by simp, by omega⟩ h0
    rw [show (bs.drop pos).length = bs.length - pos by simp] at h
    exact take_mid b g pos n ev bs S R f cap w hw (by omega) hbS hgS (fun _ => hn) hcf h
end
end Go.Proofs.Ytkbppkimpefilaa
