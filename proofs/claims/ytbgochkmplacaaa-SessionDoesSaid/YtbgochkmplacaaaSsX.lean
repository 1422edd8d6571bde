/- What the program's table and the document's say: plain facts. -/
import Derived.Test.YtbgochkmplacaaaSsW
namespace Go.Proofs.Ytbgochkmplacaaa
open Go.RowKit Go.Lib
set_option maxRecDepth 100000

/-- Each reply that is kept stands at its session, counted from i. -/
def TabF (i : Nat) (vs : List Rp) : Prop := ∀ j : Nat, j < vs.length → 0 < (vs.getD j rp0).x.id → (vs.getD j rp0).x.s = ((i + j : Nat) : Int)
theorem Tab.f {vs : List Rp} (h : Tab vs) : TabF 0 vs := fun j hj hp => by
  rw [h.1] at hj
  have := (h.2 j hj hp).1
  simpa using this
theorem TabF.tail {i : Nat} {v : Rp} {vs : List Rp} (h : TabF i (v :: vs)) : TabF (i + 1) vs := fun j hj hp => by
  have := h (j + 1) (by simp; omega) (by simpa using hp)
  simp only [List.getD_cons_succ] at this
  rw [this]; omega
theorem TabF.head {i : Nat} {v : Rp} {vs : List Rp} (h : TabF i (v :: vs)) (hp : 0 < v.x.id) : v.x.s = (i : Int) := by
  have := h 0 (by simp) (by simpa using hp)
  simpa using this
theorem kept24_cons (v : Rp) (vs : List Rp) : kept24 (v :: vs) = if 0 < v.x.id then v.x :: kept24 vs else kept24 vs := by
  unfold kept24
  by_cases h : 0 < v.x.id <;> simp [h]
theorem kept_low : ∀ (vs : List Rp) (i : Nat), TabF i vs → ∀ u ∈ kept24 vs, (i : Int) ≤ u.s
  | [], _, _, u, hu => by simp [kept24] at hu
  | v :: vs, i, h, u, hu => by
    rw [kept24_cons] at hu
    split at hu
    · rename_i hp
      rcases List.mem_cons.1 hu with rfl | hu
      · rw [h.head hp]; omega
      · have := kept_low vs (i + 1) h.tail u hu; omega
    · have := kept_low vs (i + 1) h.tail u hu; omega
/-- What a session is answered, of the list. -/
def ofX (l : List Rs) (s : Int) : Rs := (l.find? (fun u => decide (u.s = s))).getD rs0
theorem of24_x (ls : List Rp) (s : Int) : (of24 ls s).x = ofX (ls.map Rp.x) s := by
  unfold of24 ofX
  induction ls with
  | nil => rfl
  | cons v l ih =>
    rw [List.map_cons, List.find?_cons, List.find?_cons]
    by_cases h : v.x.s = s <;> simp [h]
    simpa using ih
theorem ofX_none {l : List Rs} {s : Int} (h : ∀ u ∈ l, u.s ≠ s) : ofX l s = rs0 := by
  unfold ofX
  rw [List.find?_eq_none.2 (fun u hu => by simpa using h u hu)]
  rfl
theorem ofX_kept : ∀ (vs : List Rp) (i : Nat), TabF i vs → (∀ v ∈ vs, 0 ≤ v.x.id) → ∀ s : Int, ofX (kept24 vs) s = if (i : Int) ≤ s ∧ 0 < (vs.getD (s - i).toNat rp0).x.id then (vs.getD (s - i).toNat rp0).x else rs0
  | [], i, _, _, s => by
    have : ([] : List Rp).getD (s - i).toNat rp0 = rp0 := rfl
    rw [this, if_neg (by simp [rp0, rs0])]
    rfl
  | v :: vs, i, h, hb, s => by
    have ih := ofX_kept vs (i + 1) h.tail (fun u hu => hb u (List.mem_cons_of_mem _ hu)) s
    have hv0 := hb v List.mem_cons_self
    rw [kept24_cons]
    by_cases hs : s < i
    · rw [if_neg (show ¬ ((i : Int) ≤ s ∧ _) from fun h => by omega)]
      refine ofX_none (fun u hu => ?_)
      have : (i : Int) ≤ u.s := kept_low (v :: vs) i h u (by rw [kept24_cons]; exact hu)
      omega
    · by_cases he : s = i
      · subst he
        rw [show ((i : Int) - i).toNat = 0 by omega, List.getD_cons_zero]
        by_cases hp : 0 < v.x.id
        · rw [if_pos hp, if_pos ⟨by omega, hp⟩]
          unfold ofX
          rw [List.find?_cons]
          simp [h.head hp]
        · rw [if_neg hp, if_neg (fun h => hp h.2)]
          refine ofX_none (fun u hu => ?_)
          have := kept_low vs (i + 1) h.tail u hu
          omega
      · obtain ⟨k, hk⟩ : ∃ k : Nat, s - i = ((k + 1 : Nat) : Int) := ⟨(s - i).toNat - 1, by omega⟩
        have e1 : (s - (i : Int)).toNat = k + 1 := by omega
        have e2 : (s - ((i + 1 : Nat) : Int)).toNat = k := by omega
        rw [e2] at ih
        rw [e1, List.getD_cons_succ]
        have e3 : (((i + 1 : Nat) : Int) ≤ s ∧ 0 < (vs.getD k rp0).x.id) = ((i : Int) ≤ s ∧ 0 < (vs.getD k rp0).x.id) := by
          apply propext; constructor <;> (intro h; exact ⟨by omega, h.2⟩)
        simp only [e3] at ih
        rw [← ih]
        split
        · rename_i hp
          unfold ofX
          rw [List.find?_cons]
          have : decide (v.x.s = s) = false := by rw [h.head hp]; simp; omega
          simp [this]
        · rfl
/-- The program's table and the document's list keep the same. -/
structure Alike (ls vs : List Rp) : Prop where
  eq : ls.map Rp.x = kept24 vs
  tab : Tab vs
  ib : ∀ v ∈ vs, 0 ≤ v.x.id ∧ v.x.id ≤ 1073741824
section
variable {ls vs : List Rp}
theorem Alike.len (h : Alike ls vs) : ls.length ≤ 8 := by
  have h1 := congrArg List.length h.eq
  rw [List.length_map] at h1
  have h0 : ¬ 0 < (vs.getD 0 rp0).x.id := fun hp => by have := (h.tab.2 0 (by omega) hp).2; omega
  have hl := h.tab.1
  match vs, hl with
  | v :: l, hl =>
    rw [List.getD_cons_zero] at h0
    rw [kept24_cons, if_neg h0] at h1
    have := kept24_len l
    simp only [List.length_cons] at hl
    omega
theorem Alike.of (h : Alike ls vs) (s : Int) : (of24 ls s).x = if 1 ≤ s ∧ s ≤ 8 ∧ 0 < (vs.getD s.toNat rp0).x.id then (vs.getD s.toNat rp0).x else rs0 := by
  rw [of24_x, h.eq, ofX_kept vs 0 h.tab.f (fun v hv => (h.ib v hv).1) s]
  have e : (s - ((0 : Nat) : Int)).toNat = s.toNat := by omega
  rw [e]
  by_cases hp : (1 ≤ s ∧ s ≤ 8 ∧ 0 < (vs.getD s.toNat rp0).x.id)
  · rw [if_pos hp, if_pos ⟨by omega, hp.2.2⟩]
  · rw [if_neg hp]
    split
    · rename_i hq
      exfalso
      have hlt : s.toNat < 9 := by
        rcases Nat.lt_or_ge s.toNat 9 with h1 | h1
        · exact h1
        · have : vs.getD s.toNat rp0 = rp0 := by rw [List.getD_eq_getElem?_getD, List.getElem?_eq_none (by rw [h.tab.1]; exact h1)]; rfl
          rw [this] at hq
          exact absurd hq.2 (by simp [rp0, rs0])
      have := h.tab.2 s.toNat hlt hq.2
      exact hp ⟨by omega, by omega, hq.2⟩
    · rfl
theorem Alike.getD_ib (h : Alike ls vs) (n : Nat) : 0 ≤ (vs.getD n rp0).x.id := by
  rcases Nat.lt_or_ge n vs.length with h1 | h1
  · refine (h.ib (vs.getD n rp0) ?_).1
    rw [List.getD_eq_getElem?_getD, List.getElem?_eq_getElem h1]
    exact List.getElem_mem _
  · rw [List.getD_eq_getElem?_getD, List.getElem?_eq_none h1]; simp [rp0, rs0]
theorem Alike.id (h : Alike ls vs) (s : Int) : (of24 ls s).x.id = last24 vs s := by
  rw [h.of s]
  unfold last24
  have := h.getD_ib s.toNat
  by_cases hs : 1 ≤ s ∧ s ≤ 8
  · rw [if_pos hs]
    by_cases hp : 0 < (vs.getD s.toNat rp0).x.id
    · rw [if_pos ⟨hs.1, hs.2, hp⟩]
    · rw [if_neg (fun h => hp h.2.2)]
      simp only [rs0]; omega
  · rw [if_neg hs, if_neg (fun h => hs ⟨h.1, h.2.1⟩)]
    rfl
theorem is24_true {s id : Int} : is24 s id = true ↔ (1 ≤ s ∧ s ≤ 8 ∧ 1 ≤ id ∧ id ≤ 1073741824) := by unfold is24; simp
theorem Alike.chk (h : Alike ls vs) (x : Rs) : chkR ls x = chk24 vs x.s x.id 1 := by
  unfold chkR chk24
  rw [h.id]
  by_cases hb : is24 x.s x.id = true
  · have := is24_true.1 hb
    rw [if_neg (by rw [hb]; simp), if_neg (show ¬ ¬ (1 ≤ x.s ∧ x.s ≤ 8 ∧ 1 ≤ x.id ∧ x.id ≤ 1073741824) from fun hn => hn this)]
    by_cases hl : x.id ≤ last24 vs x.s
    · rw [if_pos hl, if_pos (by omega)]
    · rw [if_neg hl, if_neg (by omega)]
  · have hb' : is24 x.s x.id = false := by simpa using hb
    rw [if_pos hb', if_pos (fun hn => hb (is24_true.2 hn))]
theorem Alike.look (h : Alike ls vs) (s id : Int) : (lookR ls s id).1.x = (look24 vs s id).1 ∧ (lookR ls s id).2 = (look24 vs s id).2 := by
  unfold lookR look24 chk24
  rw [h.id]
  by_cases hb : is24 s id = true
  · have hn := is24_true.1 hb
    rw [if_neg (by rw [hb]; simp), if_neg (show ¬ ¬ (1 ≤ s ∧ s ≤ 8 ∧ 1 ≤ id ∧ id ≤ 1073741824) from fun hx => hx hn)]
    by_cases hl : id < last24 vs s
    · rw [if_pos hl, if_pos (show id < last24 vs s + 0 by omega), if_pos (by decide)]
      exact ⟨rfl, rfl⟩
    · rw [if_neg hl, if_neg (show ¬ id < last24 vs s + 0 by omega), if_neg (show ¬ ((0 : Int) ≠ 0) by decide)]
      by_cases he : id = last24 vs s
      · rw [if_pos he, if_neg (by omega)]
        refine ⟨?_, rfl⟩
        simp only
        have h1 : last24 vs s = (vs.getD s.toNat rp0).x.id := by unfold last24; rw [if_pos ⟨hn.1, hn.2.1⟩]
        rw [h.of s, if_pos ⟨hn.1, hn.2.1, by omega⟩]
      · rw [if_neg he, if_pos (by omega)]
        exact ⟨rfl, rfl⟩
  · have hb' : is24 s id = false := by simpa using hb
    rw [if_pos hb', if_pos (fun hn => hb (is24_true.2 hn)), if_pos (by decide)]
    exact ⟨rfl, rfl⟩
end
/-- One more put in, as contents. -/
def putX (x : Rs) : List Rs → List Rs
  | [] => [x]
  | u :: l => if u.s < x.s then u :: putX x l else x :: (u :: l).filter (fun z => decide (z.s ≠ x.s))
theorem putL_x (v : Rp) : ∀ l : List Rp, (putL v l).map Rp.x = putX v.x (l.map Rp.x)
  | [] => rfl
  | u :: l => by
    have hf : ∀ l : List Rp, (l.filter (fun z => decide (z.x.s ≠ v.x.s))).map Rp.x = (l.map Rp.x).filter (fun z => decide (z.s ≠ v.x.s)) := fun l => by
      rw [List.filter_map]; rfl
    rw [List.map_cons]
    unfold putL putX
    split
    · rw [List.map_cons, putL_x v l]
    · rw [List.map_cons, hf, List.map_cons]
theorem putX_low {x : Rs} {l : List Rs} (h : ∀ u ∈ l, x.s < u.s) : putX x l = x :: l := by
  cases l with
  | nil => rfl
  | cons u l =>
    unfold putX
    rw [if_neg (by have := h u List.mem_cons_self; omega), List.filter_eq_self.2 (fun z hz => by have := h z hz; simp; omega)]
theorem putX_kept : ∀ (vs : List Rp) (i n : Nat) (v' : Rp), TabF i vs → n < vs.length → v'.x.s = ((i + n : Nat) : Int) → 0 < v'.x.id → putX v'.x (kept24 vs) = kept24 (vs.set n v')
  | [], _, _, _, _, hn, _, _ => by simp at hn
  | v :: vs, i, 0, v', h, _, hs, hp => by
    have hl := kept_low vs (i + 1) h.tail
    rw [List.set_cons_zero, kept24_cons, kept24_cons, if_pos hp]
    split
    · rename_i hv
      unfold putX
      rw [if_neg (by rw [h.head hv, hs]; omega), List.filter_cons, if_neg (by rw [h.head hv, hs]; simp), List.filter_eq_self.2 (fun z hz => by have := hl z hz; simp; omega)]
    · exact putX_low (fun u hu => by have := hl u hu; omega)
  | v :: vs, i, n + 1, v', h, hn, hs, hp => by
    have ih := putX_kept vs (i + 1) n v' h.tail (by simpa using hn) (by rw [hs]; omega) hp
    rw [List.set_cons_succ, kept24_cons, kept24_cons]
    split
    · rename_i hv
      unfold putX
      rw [if_pos (by rw [h.head hv, hs]; omega), ih]
    · exact ih
/-- Behind a Keep. -/
theorem Alike.put {ls vs : List Rp} (h : Alike ls vs) {v v' : Rp} (hc : chk24 vs v.x.s v.x.id 1 = 0) (hx : v'.x = v.x) : Alike (putL v ls) (vs.set v.x.s.toNat v') := by
  have hz := chk24_zero hc
  refine ⟨?_, h.tab.set ⟨by omega, by omega⟩ (by rw [hx]; omega), fun u hu => ?_⟩
  · rw [putL_x, h.eq, ← hx]
    exact putX_kept vs 0 _ v' h.tab.f (by rw [h.tab.1, hx]; omega) (by rw [hx]; omega) (by rw [hx]; omega)
  · rcases List.mem_or_eq_of_mem_set hu with hm | rfl
    · exact h.ib u hm
    · rw [hx]; omega
theorem alike_zeros : Alike [] zeros9 := ⟨(kept24_none _ (fun v hv => by
    have : v = rp0 := by unfold zeros9 at hv; exact (List.mem_replicate.1 hv).2
    subst this; simp [rp0, rs0])).symm, tab_zeros, fun v hv => by
    have : v = rp0 := by unfold zeros9 at hv; exact (List.mem_replicate.1 hv).2
    subst this; simp [rp0, rs0]⟩
end Go.Proofs.Ytbgochkmplacaaa
