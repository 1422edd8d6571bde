/- Plain facts on the bytes that the document's Open lays down, cell by cell. -/
import Derived.Test.YthifchkeapbfdaaVolBn
import Derived.StillTailTactics
namespace Go.Proofs.Ythifchkeapbfdaa
open Go.RowKit
set_option maxRecDepth 100000

/-- The bytes behind so many cells, the head among them. -/
def baseO (S : Nat) (xs : List GCell) (t : Nat) : List Int := applyL (List.replicate S 0) (((xs.take t).drop 1).map kz)
def Laid (S : Nat) (xs : List GCell) (t : Nat) (cur : List Int) : Prop := cur.length = S ∧ (∀ z ∈ cur, 0 ≤ z ∧ z < 256) ∧ ∀ bs, Opens xs bs → cur = baseO S xs t
def LaidIn (S : Nat) (xs : List GCell) (t : Nat) (x : GCell) (j : Nat) (cur : List Int) : Prop := cur.length = S ∧ (∀ z ∈ cur, 0 ≤ z ∧ z < 256) ∧ ∀ bs, Opens xs bs → cur = splice (baseO S xs t) (256 * x.k.toNat) (x.zs.take j)
theorem opens_at {xs : List GCell} {bs : List Int} {S t : Nat} (h : Opens xs bs) (hS2 : S < 4294967296) (h0 : 0 < xs.length) (hz : le S 4 = (xs[0]).zs) (ht : 1 ≤ t) (htl : t < xs.length) :
    S = bs.length ∧ S % 256 = 0 ∧ 0 ≤ xs[t].k ∧ xs[t].k < ((S / 256 : Nat) : Int) ∧ xs[t].zs.length = 256 ∧ (baseO S xs t).length = S := by
  cases xs with
  | nil => simp at h0
  | cons x0 xr =>
    obtain ⟨_, _, h3, h4, _, h6⟩ := opens_parts h
    simp only [List.getElem_cons_zero] at hz
    have hl : S = bs.length := leV_inj4 (by rw [hz, h3]) hS2 (by have := h.2.1; omega)
    have hm : S % 256 = 0 := by have := h.2.2.1; omega
    obtain ⟨u, rfl⟩ : ∃ u, t = u + 1 := ⟨t - 1, by omega⟩
    simp only [List.length_cons] at htl
    have hu : u < xr.length := by omega
    simp only [List.getElem_cons_succ]
    rw [← hl] at h6
    have h7 := h6.each (kz xr[u]) (List.mem_map.2 ⟨_, List.getElem_mem hu, rfl⟩)
    simp only [kz] at h7
    refine ⟨hl, hm, h7.1, h7.2.1, h7.2.2.1, ?_⟩
    have hS : S = 256 * (S / 256) := by omega
    have := applyL_length (N := S / 256) (l := (((x0 :: xr).take (u + 1)).drop 1).map kz) (fun y hy => by
      have hy2 : y ∈ xr.map kz := by
        simp only [List.take_succ_cons, List.drop_succ_cons, List.drop_zero] at hy
        exact List.map_subset _ (List.take_subset _ _) hy
      have := h6.each y hy2
      exact ⟨this.1, this.2.1, this.2.2.1⟩) (List.replicate S 0) (by simp; omega)
    unfold baseO
    omega
theorem Laid.start (S : Nat) (xs : List GCell) : Laid S xs 1 (List.replicate S 0) := ⟨by simp, fun z hz => by have := List.eq_of_mem_replicate hz; omega, fun bs _ => by
  unfold baseO
  cases xs <;> simp [applyL]⟩
theorem Laid.into {S t : Nat} {xs : List GCell} {cur : List Int} (h : Laid S xs t cur) (x : GCell) : LaidIn S xs t x 0 cur :=
  ⟨h.1, h.2.1, fun bs hb => by rw [h.2.2 bs hb, List.take_zero, splice_nil]⟩
theorem LaidIn.out {S t : Nat} {xs : List GCell} {cur : List Int} (ht : 1 ≤ t) (htl : t < xs.length) (h : LaidIn S xs t xs[t] (xs[t]).zs.length cur) : Laid S xs (t + 1) cur :=
  ⟨h.1, h.2.1, fun bs hb => by
    rw [h.2.2 bs hb, List.take_length]
    unfold baseO
    rw [List.take_succ_eq_append_getElem htl, List.drop_append_of_le_length (by rw [List.length_take]; omega), List.map_append, List.map_cons, List.map_nil, applyL_snoc]
    rfl⟩
theorem LaidIn.bad {S t j : Nat} {xs : List GCell} (ht : 1 ≤ t) (htl : t < xs.length) (h0 : 0 < xs.length) (hS2 : S < 4294967296) (hz : le S 4 = (xs[0]).zs) (hj : j < (xs[t]).zs.length) (hb : 256 * (xs[t]).k + (j : Int) < 0 ∨ (S : Int) ≤ 256 * (xs[t]).k + (j : Int)) (bs : List Int) : ¬ Opens xs bs := fun h => by
  obtain ⟨e1, e2, e3, e4, e5, _⟩ := opens_at h hS2 h0 hz ht htl
  omega
theorem LaidIn.step {S t j a : Nat} {xs : List GCell} {cur : List Int} (ht : 1 ≤ t) (htl : t < xs.length) (h0 : 0 < xs.length) (hS2 : S < 4294967296) (hz : le S 4 = (xs[0]).zs) (hj : j < (xs[t]).zs.length) (hzb : ∀ z ∈ (xs[t]).zs, 0 ≤ z ∧ z < 256) (h : LaidIn S xs t xs[t] j cur) (ha : (a : Int) = 256 * (xs[t]).k + (j : Int)) : LaidIn S xs t xs[t] (j + 1) (cur.set a ((xs[t]).zs.getD j 0)) :=
  ⟨by rw [List.length_set]; exact h.1, fun z hz => by
    rcases List.mem_or_eq_of_mem_set hz with hz | hz
    · exact h.2.1 z hz
    · rw [hz, List.getD_eq_getElem?_getD, List.getElem?_eq_getElem hj]
      exact hzb _ (List.getElem_mem hj), fun bs hb => by
    obtain ⟨e1, e2, e3, e4, e5, e6⟩ := opens_at hb hS2 h0 hz ht htl
    have e7 : a = 256 * (xs[t]).k.toNat + j := by omega
    rw [h.2.2 bs hb, e7]
    exact splice_set' hj (by omega)⟩
theorem Laid.done {S t : Nat} {xs : List GCell} {cur : List Int} (h : Laid S xs t cur) (ht : t = xs.length) (hS2 : S < 4294967296) (h0 : 0 < xs.length) (hz : le S 4 = (xs[0]).zs) (bs : List Int) (hb : Opens xs bs) : cur = bs := by
  rw [h.2.2 bs hb, ht]
  cases xs with
  | nil => simp at h0
  | cons x0 xr =>
    obtain ⟨_, _, h3, h4, _, h6⟩ := opens_parts hb
    simp only [List.getElem_cons_zero] at hz
    have hl : S = bs.length := leV_inj4 (by rw [hz, h3]) hS2 (by have := hb.2.1; omega)
    unfold baseO
    rw [List.take_length, List.drop_succ_cons, List.drop_zero, h4, hl]
    exact apply_all (by have := hb.2.2.1; omega)
theorem cellsL_bytes {bs : List Int} (hb : ∀ z ∈ bs, 0 ≤ z ∧ z < 256) : ∀ x ∈ cellsL bs, ∀ z ∈ x.2, 0 ≤ z ∧ z < 256 := by
  intro x hx z hz
  unfold cellsL at hx
  rcases List.mem_cons.1 hx with rfl | hx
  · simp only [le, List.mem_map] at hz
    obtain ⟨j, _, rfl⟩ := hz
    omega
  · obtain ⟨k, _, rfl, _⟩ := chunksL_mem hx
    exact hb z (List.mem_of_mem_drop (List.mem_of_mem_take hz))
theorem cellsL_length {bs : List Int} (h : bs.length ≤ 16384) : (cellsL bs).length ≤ 65 := by
  unfold cellsL chunksL
  rw [List.length_cons]
  have : ((List.range (bs.length / 256)).filterMap (fun k => if (chunk bs k).all (· == 0) then none else some ((k : Int), chunk bs k))).length ≤ bs.length / 256 := Nat.le_trans (List.length_filterMap_le _ _) (by simp)
  omega
end Go.Proofs.Ythifchkeapbfdaa
