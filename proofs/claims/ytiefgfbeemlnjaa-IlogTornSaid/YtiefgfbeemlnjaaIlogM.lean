/- Plain facts on a region's bytes: the records that stand in it, one behind the other. -/
import Derived.Test.YtiefgfbeemlnjaaIlogK
namespace Go.Proofs.Ytiefgfbeemlnjaa
open Go.RowKit
set_option maxRecDepth 100000

/-- Records one behind the other. -/
def recsB (base next : Nat) : List (List Int) → List Int
  | [] => []
  | b :: bs => recB base next b ++ recsB base (next + 1) bs
theorem recsB_append (base next : Nat) (rs bs : List (List Int)) : recsB base next (rs ++ bs) = recsB base next rs ++ recsB base (next + rs.length) bs := by
  induction rs generalizing next with
  | nil => simp [recsB]
  | cons a rs ih => simp only [List.cons_append, recsB, ih, List.append_assoc, List.length_cons, show next + 1 + rs.length = next + (rs.length + 1) by omega]
theorem recsB_snoc (base next : Nat) (rs : List (List Int)) (b : List Int) : recsB base next (rs ++ [b]) = recsB base next rs ++ recB base (next + rs.length) b := by
  rw [recsB_append]; simp [recsB]
theorem recsB_length_ge (base next : Nat) (bs : List (List Int)) : bs.length * 88 ≤ (recsB base next bs).length := by
  induction bs generalizing next with
  | nil => simp [recsB]
  | cons b bs ih =>
    have := ih (next + 1)
    have hp := pcs_pos b.length
    simp only [recsB, List.length_append, recB_length, List.length_cons]
    omega
theorem recB_inj {base next : Nat} {a b zs : List Int} (h1 : recB base next a <+: zs) (h2 : recB base next b <+: zs) (ha : a.length ≤ 4096) (hb : b.length ≤ 4096) : a = b := by
  have e1 := pre_many h1
  have e2 := pre_many h2
  have hl : a.length = b.length := le_inj4 (e1.symm.trans e2) (by omega) (by omega)
  have e3 := pre_body h1
  have e4 := pre_body h2
  rw [← e3, ← e4, hl]
/-- The records that a region tells, and no more. -/
structure Told (base next : Nat) (zs : List Int) (bs : List (List Int)) : Prop where
  pre : recsB base next bs <+: zs
  small : ∀ b ∈ bs, b.length ≤ 4096
  last : NoRec base (next + bs.length) (zs.drop (recsB base next bs).length)
theorem pre_cons {base next : Nat} {b : List Int} {bs : List (List Int)} {zs : List Int} (h : recsB base next (b :: bs) <+: zs) : recB base next b <+: zs ∧ recsB base (next + 1) bs <+: zs.drop (recB base next b).length := by
  obtain ⟨r, hr⟩ := h
  rw [← hr]
  simp only [recsB, List.append_assoc]
  refine ⟨List.prefix_append _ _, ?_⟩
  rw [List.drop_left]
  exact List.prefix_append _ _
theorem Told.tail {base next : Nat} {b : List Int} {bs : List (List Int)} {zs : List Int} (h : Told base next zs (b :: bs)) : Told base (next + 1) (zs.drop (recB base next b).length) bs := by
  refine ⟨(pre_cons h.pre).2, fun x hx => h.small x (List.mem_cons_of_mem _ hx), ?_⟩
  have := h.last
  rw [List.drop_drop]
  simp only [recsB, List.length_append, List.length_cons] at this
  rwa [show next + 1 + bs.length = next + (bs.length + 1) by omega]
/-- There is but one list of records in a region. -/
theorem told_one {base next : Nat} {zs : List Int} {rs bs : List (List Int)} (ha : Told base next zs rs) (hb : Told base next zs bs) : rs = bs := by
  induction rs generalizing next zs bs with
  | nil =>
    cases bs with
    | nil => rfl
    | cons b bs =>
      have h := ha.last
      simp only [recsB, List.length_nil, List.drop_zero, Nat.add_zero] at h
      exact absurd (pre_cons hb.pre).1 (h b (hb.small b (by simp)))
  | cons a rs ih =>
    cases bs with
    | nil =>
      have h := hb.last
      simp only [recsB, List.length_nil, List.drop_zero, Nat.add_zero] at h
      exact absurd (pre_cons ha.pre).1 (h a (ha.small a (by simp)))
    | cons b bs =>
      have e := recB_inj (pre_cons ha.pre).1 (pre_cons hb.pre).1 (ha.small a (by simp)) (hb.small b (by simp))
      subst e
      rw [ih ha.tail hb.tail]
/-- One record more. -/
theorem pre_snoc {base next : Nat} {bs : List (List Int)} {b zs : List Int} (h : recsB base next bs <+: zs) (h2 : recB base (next + bs.length) b <+: zs.drop (recsB base next bs).length) : recsB base next (bs ++ [b]) <+: zs := by
  obtain ⟨r, rfl⟩ := h
  rw [List.drop_left] at h2
  obtain ⟨r2, rfl⟩ := h2
  rw [recsB_snoc, ← List.append_assoc]
  exact List.prefix_append _ _
theorem getD_drop (zs : List Int) (a i : Nat) : (zs.drop a).getD i 0 = zs.getD (a + i) 0 := by
  simp [List.getD_eq_getElem?_getD]
/-- A byte of the body that a region's pieces tell. -/
theorem bodyT_get (zs : List Int) (N t i : Nat) (h : t * 88 ≤ zs.length) (hi : i < N) (ht : i < t * 68) : (bodyT zs N t).getD i 0 = zs.getD (88 * (i / 68) + 20 + i % 68) 0 := by
  have hp := bodyT_part zs N t (i / 68) (by omega) h
  have h1 := congrArg (fun l => l.getD (i % 68) 0) hp
  simp only [List.getD_eq_getElem?_getD, List.getElem?_take, List.getElem?_drop] at h1 ⊢
  rw [if_pos (by omega), if_pos (by omega)] at h1
  rw [show i / 68 * 68 + i % 68 = i by omega, show i / 68 * 88 + 20 + i % 68 = 88 * (i / 68) + 20 + i % 68 by omega] at h1
  exact h1
/-- The bytes of a body, told one by one. -/
def tellB (zs : List Int) (j : Nat) : List Int := (List.range j).map fun i => zs.getD (88 * (i / 68) + 20 + i % 68) 0
theorem tellB_length (zs : List Int) (j : Nat) : (tellB zs j).length = j := by simp [tellB]
theorem tellB_succ (zs : List Int) (j : Nat) : tellB zs (j + 1) = tellB zs j ++ [zs.getD (88 * (j / 68) + 20 + j % 68) 0] := by simp [tellB, List.range_succ]
theorem tellB_body (zs : List Int) (N : Nat) (h : pcs N * 88 ≤ zs.length) : tellB zs N = bodyT zs N (pcs N) := by
  have hN : N ≤ pcs N * 68 := by unfold pcs; omega
  apply List.ext_getElem
  · rw [tellB_length, bodyT_length _ _ _ h]; omega
  · intro i h1 h2
    rw [tellB_length] at h1
    have e := bodyT_get zs N (pcs N) i h h1 (by omega)
    rw [List.getD_eq_getElem?_getD, List.getElem?_eq_getElem h2] at e
    simp only [Option.getD_some] at e
    rw [e]
    simp [tellB]
/-- The document's way to tell whether a record begins: it has its own pieces there, or none begins. -/
theorem noRec_tell {base next N : Nat} {zs : List Int} (hN : (zs.drop 16).take 4 = le N 4) (hN2 : N < 4294967296) (hfit : pcs N * 88 ≤ zs.length) (h : zs.take (pcs N * 88) ≠ recB base next (tellB zs N)) : NoRec base next zs := by
  intro body hb hp
  have h1 := rec_many hN hN2 hb hp
  have h2 := pre_body hp
  rw [h1, ← tellB_body zs N hfit] at h2
  rw [h2] at h
  apply h
  have := List.prefix_iff_eq_take.1 hp
  rw [recB_length, h1] at this
  exact this.symm
end Go.Proofs.Ytiefgfbeemlnjaa
