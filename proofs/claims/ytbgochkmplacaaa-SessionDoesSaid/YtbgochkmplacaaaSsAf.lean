/- A list of pairs, all apart. -/
import Derived.Test.YtbgochkmplacaaaSsAe
namespace Go.Proofs.Ytbgochkmplacaaa
open Go.RowKit Go.Lib
set_option maxRecDepth 100000

/-- Any call of the law's on a pair. -/
theorem does_any (w0 w : World) (x : PrD) (o : OpR) (h : PQ w0 w x) (hs : x.same) (hi : OpRIn w0 o) (h4 : pickM o.kind 6 ≠ 4) (h5 : pickM o.kind 6 ≠ 5) :
    Calls Try.prog 33 #[.pointer (some ⟨x.k, 0, none⟩), .agg o.row.toArray] w (DoesP w0 w x) := by
  have hb := pickM_bd o.kind 6 (by omega)
  have hc : pickM o.kind 6 = 0 ∨ pickM o.kind 6 = 1 ∨ pickM o.kind 6 = 2 ∨ pickM o.kind 6 = 3 := by omega
  rcases hc with hk | hk | hk | hk
  · exact does_look w0 w x o h hs hi hk
  · exact does_keep w0 w x o h hs hi hk
  · exact does_ask w0 w x o h hs hi hk
  · exact does_all w0 w x o h hs hi hk
def ptrs (xs : List PrD) : List Value := xs.map (fun x => .pointer (some ⟨x.k, 0, none⟩))
theorem ptrs_len (xs : List PrD) : (ptrs xs).length = xs.length := by simp [ptrs]
structure PL (w0 w : World) (q : Option Addr) (n c : Nat) (xs : List PrD) : Prop where
  fr : Frm [] w0 w
  ow : w.ownsRow 0 50 1 (.slice q n c) n (ptrs xs)
  ln : xs.length = n
  pq : ∀ x ∈ xs, PQ w0 w x ∧ x.same
  ap : ∀ (i j : Nat) (x y : PrD), i ≠ j → xs[i]? = some x → xs[j]? = some y → ∀ k ∈ x.foot, k ∉ y.foot
  qn : ∀ k ∈ blk q, w0.heap.size ≤ k ∧ ∀ x ∈ xs, k ∉ x.foot
theorem set_get {xs : List PrD} {i k : Nat} {x' z : PrD} (h : (xs.set i x')[k]? = some z) : (k = i ∧ z = x') ∨ (k ≠ i ∧ xs[k]? = some z) := by
  by_cases e : k = i
  · subst e
    left
    rw [List.getElem?_set] at h
    simp only [if_true] at h
    split at h
    · simp only [Option.some.injEq] at h; exact ⟨rfl, h.symm⟩
    · cases h
  · rw [List.getElem?_set_ne (Ne.symm e)] at h
    exact Or.inr ⟨e, h⟩
section
variable {w0 w w' wa w2 : World} {q q2 : Option Addr} {n c c2 : Nat} {xs : List PrD} {x x' y : PrD} {i : Nat}
theorem PL.k0 (h : PL w0 w q n c xs) (hf : Frm [] w w') : PL w0 w' q n c xs :=
  ⟨h.fr.trans hf (by simp), ownsRow_kept h.ow hf (by simp), h.ln, fun x hx => ⟨(h.pq x hx).1.k0 hf, (h.pq x hx).2⟩, h.ap, h.qn⟩
theorem PL.cell (h : PL w0 w q n c xs) (hx : xs[i]? = some x) : ∃ g, q = some ⟨g, 0, none⟩ ∧ w.cell? ⟨g, i, none⟩ = some (.pointer (some ⟨x.k, 0, none⟩)) := by
  have hlt : i < n := by rw [← h.ln]; exact (List.getElem?_eq_some_iff.1 hx).1
  rcases h.ow.2 with ⟨_, h0⟩ | ⟨g, c', cur, he, _⟩
  · omega
  · simp only [Value.slice.injEq] at he
    obtain ⟨rfl, _, _⟩ := he
    refine ⟨g, rfl, ?_⟩
    rw [World.ownsRow.cellAt h.ow i (by omega)]
    unfold ptrs
    rw [List.getElem?_map, hx]; rfl
theorem PL.step (h : PL w0 w q n c xs) (hx : xs[i]? = some x) (adv : Adv24 w0 w x w' x') (hs : x'.same) : PL w0 w' q n c (xs.set i x') := by
  have hi : i < xs.length := (List.getElem?_eq_some_iff.1 hx).1
  have hm := List.mem_of_getElem? hx
  have hq := (h.pq x hm).1
  have hfo : ∀ j ∈ x'.foot, ∀ (k : Nat) (z : PrD), k ≠ i → xs[k]? = some z → j ∉ z.foot := fun j hj k z hki hz hjz => by
    rcases adv.nx j hj with h1 | h1
    · exact h.ap i k x z (Ne.symm hki) hx hz j h1 hjz
    · have := ((h.pq z (List.mem_of_getElem? hz)).1.nw j hjz).2; omega
  have hps : ptrs (xs.set i x') = ptrs xs := by
    unfold ptrs
    rw [List.map_set]
    apply List.ext_getElem?
    intro k
    rw [List.getElem?_set]
    split
    · rename_i e
      subst e
      rw [if_pos (by simpa using hi), List.getElem?_map, hx, adv.k]; rfl
    · rfl
  refine ⟨h.fr.trans adv.fr (fun k hk hl => by have := (hq.nw k hk).1; omega), ?_, by rw [List.length_set]; exact h.ln, fun z hz => ?_, fun a b u v hab hu hv k hk hkv => ?_, fun k hk => ⟨(h.qn k hk).1, fun z hz => ?_⟩⟩
  · rw [hps]
    exact ownsRow_kept h.ow adv.fr (fun k hk => (h.qn k hk).2 x hm)
  · obtain ⟨k, hk⟩ := List.getElem?_of_mem hz
    rcases set_get hk with ⟨_, rfl⟩ | ⟨hne, hk⟩
    · exact ⟨adv.q, hs⟩
    · have hz' := List.mem_of_getElem? hk
      exact ⟨(h.pq z hz').1.kept adv.fr (fun j hj hjx => h.ap k i z x hne hk hx j hj hjx) (fun j hj => (hq.nw j hj).1), (h.pq z hz').2⟩
  · rcases set_get hu with ⟨e1, rfl⟩ | ⟨e1, hu'⟩
    · rcases set_get hv with ⟨e2, rfl⟩ | ⟨e2, hv'⟩
      · omega
      · exact hfo k hk b v e2 hv' hkv
    · rcases set_get hv with ⟨e2, rfl⟩ | ⟨e2, hv'⟩
      · exact hfo k hkv a u e1 hu' hk
      · exact h.ap a b u v hab hu' hv' k hk hkv
  · obtain ⟨a, ha⟩ := List.getElem?_of_mem hz
    rcases set_get ha with ⟨_, rfl⟩ | ⟨_, ha⟩
    · intro hkz
      rcases adv.nx k hkz with h1 | h1
      · exact (h.qn k hk).2 x hm h1
      · have := ownsRow_low h.ow k hk; omega
    · exact (h.qn k hk).2 z (List.mem_of_getElem? ha)
theorem PL.app (h : PL w0 w q n c xs) (hy : PQ w0 w y) (hs : y.same) (hd : ∀ j ∈ y.foot, (∀ z ∈ xs, j ∉ z.foot) ∧ j ∉ blk q) (hA : Frm [] w wa) (ho : w2.ownsRow 0 50 1 (.slice q2 (n + 1) c2) (n + 1) (ptrs xs ++ [.pointer (some ⟨y.k, 0, none⟩)])) (hf : Frm (blk q) wa w2) (hb : ∀ k ∈ blk q2, k ∈ blk q ∨ wa.heap.size ≤ k) :
    PL w0 w2 q2 (n + 1) c2 (xs ++ [y]) := by
  have hz := hA.size
  have hz0 := h.fr.size
  have hF : Frm (blk q) w w2 := (hA.mono (by simp)).trans hf (fun k hk _ => hk)
  refine ⟨h.fr.trans hF (fun k hk hl => by have := (h.qn k hk).1; omega), by unfold ptrs at ho ⊢; rw [List.map_append]; exact ho, by rw [List.length_append, h.ln]; rfl, fun z hz => ?_, fun a b u v hab hu hv k hk hkv => ?_, fun k hk => ?_⟩
  · rcases List.mem_append.1 hz with hz | hz
    · exact ⟨(h.pq z hz).1.kept hF (fun j hj hq => (h.qn j hq).2 z hz hj) (fun j hj => (h.qn j hj).1), (h.pq z hz).2⟩
    · rw [List.mem_singleton] at hz
      subst hz
      exact ⟨hy.kept hF (fun j hj => (hd j hj).2) (fun j hj => (h.qn j hj).1), hs⟩
  · have hla : ∀ (a : Nat) (u : PrD), (xs ++ [y])[a]? = some u → (a < xs.length ∧ xs[a]? = some u) ∨ (a = xs.length ∧ u = y) := fun a u hu => by
      rcases Nat.lt_or_ge a xs.length with h1 | h1
      · rw [List.getElem?_append_left h1] at hu; exact Or.inl ⟨h1, hu⟩
      · rw [List.getElem?_append_right h1] at hu
        have h2 := (List.getElem?_eq_some_iff.1 hu).1
        simp only [List.length_singleton] at h2
        have h3 : a = xs.length := by omega
        subst h3
        simp at hu
        exact Or.inr ⟨rfl, hu.symm⟩
    rcases hla a u hu with ⟨ha1, hu'⟩ | ⟨ha1, rfl⟩
    · rcases hla b v hv with ⟨hb1, hv'⟩ | ⟨hb1, rfl⟩
      · exact h.ap a b u v hab hu' hv' k hk hkv
      · exact (hd k hkv).1 u (List.mem_of_getElem? hu') hk
    · rcases hla b v hv with ⟨hb1, hv'⟩ | ⟨hb1, rfl⟩
      · exact (hd k hk).1 v (List.mem_of_getElem? hv') hkv
      · omega
  · rcases hb k hk with h1 | h1
    · refine ⟨(h.qn k h1).1, fun z hz => ?_⟩
      rcases List.mem_append.1 hz with hz | hz
      · exact (h.qn k h1).2 z hz
      · rw [List.mem_singleton] at hz
        subst hz
        exact fun hm => (hd k hm).2 h1
    · refine ⟨by omega, fun z hz hm => ?_⟩
      rcases List.mem_append.1 hz with hz | hz
      · have := ((h.pq z hz).1.nw k hm).2; omega
      · rw [List.mem_singleton] at hz
        subst hz
        have := (hy.nw k hm).2; omega
end
/-- What is kept hangs on what the replies say alone. -/
theorem kept24_map : ∀ l : List Rp, kept24 l = (l.map Rp.x).filter (fun u => decide (0 < u.id))
  | [] => rfl
  | v :: l => by
    rw [kept24_cons, List.map_cons, List.filter_cons, kept24_map l]
    simp
theorem Alike.clone {ls vs us : List Rp} (h : Alike ls vs) (hl : us.length = 9) (he : ∀ i : Nat, i < 9 → (us.getD i rp0).x = (vs.getD i rp0).x) : Alike ls us := by
  have hm : us.map Rp.x = vs.map Rp.x := by
    apply List.ext_getElem?
    intro i
    rw [List.getElem?_map, List.getElem?_map]
    rcases Nat.lt_or_ge i 9 with h1 | h1
    · have := he i h1
      rw [List.getD_eq_getElem?_getD, List.getD_eq_getElem?_getD, List.getElem?_eq_getElem (by omega), List.getElem?_eq_getElem (by rw [h.tab.1]; exact h1)] at this
      rw [List.getElem?_eq_getElem (by omega), List.getElem?_eq_getElem (by rw [h.tab.1]; exact h1)]
      simpa using this
    · rw [List.getElem?_eq_none (by omega), List.getElem?_eq_none (by rw [h.tab.1]; exact h1)]
  refine ⟨by rw [h.eq, kept24_map, kept24_map, hm], ⟨hl, fun i hi hp => ?_⟩, fun v hv => ?_⟩
  · rw [he i hi] at hp ⊢
    exact h.tab.2 i hi hp
  · obtain ⟨i, hi, rfl⟩ := getD_mem hv
    rw [hl] at hi
    rw [he i hi]
    refine h.ib _ ?_
    rw [List.getD_eq_getElem?_getD, List.getElem?_eq_getElem (by rw [h.tab.1]; exact hi)]
    exact List.getElem_mem _
end Go.Proofs.Ytbgochkmplacaaa
