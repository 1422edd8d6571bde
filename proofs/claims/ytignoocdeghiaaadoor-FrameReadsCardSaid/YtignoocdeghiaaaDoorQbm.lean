/- Frames: plain facts: what the document reads as a reply is what the program reads. -/
import Derived.Test.YtignoocdeghiaaaDoorQbl
import Derived.Test.YtignoocdeghiaaaDoorQbf
namespace Go.Proofs.YtignoocdeghiaaaDoor
section
open Go.RowKit Go.Lib
set_option maxRecDepth 100000

def ldS (bs : List Int) (s : Rst) : Nat → List ByteArray × Rst
  | 0 => ([], s)
  | k + 1 => ((ldS bs s k).1 ++ [strOfNums (txM bs (ldS bs s k).2 240).1], (txM bs (ldS bs s k).2 240).2)
theorem ldS_len (bs : List Int) (s : Rst) : ∀ k, (ldS bs s k).1.length = k
  | 0 => rfl
  | k + 1 => by rw [ldS, List.length_append, ldS_len bs s k]; rfl
/-- While the list comes together. -/
structure LisD (w1 wr : World) (b : Nat) (q : Option Addr) (d qb : Nat) (M : List Int) (row : Option Addr → Nat → Nat → Array Value) (lp : Option Addr) (t lc : Nat) (L : List ByteArray) (s : Rst) : Prop where
  rd : FrQ w1 wr b q d M s
  rw_ : wr.heap[qb]? = some (.cells (row lp t lc) 32 (0, 0))
  ow : wr.ownsRow 0 9 1 (.slice lp t lc) t (L.map Value.string)
  nw : ∀ k ∈ blk lp, w1.heap.size ≤ k ∧ k ≠ qb ∧ k ≠ b ∧ k ∉ blk q
theorem ldS_fit {bs : List Int} {pos : Nat} (L : List ByteArray) (hL : ∀ s ∈ L, s.size ≤ 240) : ∀ (k : Nat) (r : List Int), k ≤ L.length → bs.drop pos = txT L k ++ r → ldS bs (pos, 0) k = (L.take k, pos + (txT L k).length, 0) ∧ bs.drop (pos + (txT L k).length) = r
  | 0, r, _, h => ⟨by simp [ldS, txT], by simpa [txT] using h⟩
  | k + 1, r, hk, h => by
    have hg : L[k]? = some (L.getD k ByteArray.empty) := by rw [List.getD_eq_getElem?_getD, List.getElem?_eq_getElem (by omega)]; rfl
    have hm := hL _ (List.mem_of_getElem? hg)
    obtain ⟨e1, e2⟩ := ldS_fit L hL k (txF (L.getD k ByteArray.empty) ++ r) (by omega) (by rw [h, txT, List.append_assoc])
    obtain ⟨f1, f2⟩ := txM_fit (m := 240) e2 (by omega) (by omega)
    have hl : (txT L (k + 1)).length = (txT L k).length + (2 + (L.getD k ByteArray.empty).size) := by rw [txT, List.length_append, txF_len]
    refine ⟨?_, by rw [hl, ← Nat.add_assoc]; exact f2⟩
    rw [ldS, e1]
    simp only
    rw [f1]
    simp only [str_txF]
    rw [hl, List.take_add_one, hg, Nat.add_assoc]
    rfl
theorem ldS_inv {bs : List Int} (hb : ∀ z ∈ bs, 0 ≤ z ∧ z < 256) (s : Rst) : ∀ k, (ldS bs s k).2.2 = 0 → s.2 = 0 ∧ bs.drop s.1 = txT (ldS bs s k).1 k ++ bs.drop (ldS bs s k).2.1
  | 0, h => ⟨h, by simp [ldS, txT]⟩
  | k + 1, h => by
    obtain ⟨e1, d1⟩ := txM_inv hb (s := (ldS bs s k).2) (m := 240) h
    obtain ⟨e2, d2⟩ := ldS_inv hb s k e1
    refine ⟨e2, ?_⟩
    have hl := ldS_len bs s k
    have e3 : txT (ldS bs s (k + 1)).1 (k + 1) = txT (ldS bs s k).1 k ++ txF (strOfNums (txM bs (ldS bs s k).2 240).1) := by
      rw [ldS]
      simp only
      rw [txT, txT_more _ _ _ (by omega)]
      congr 2
      rw [List.getD_eq_getElem?_getD, List.getElem?_append_right (by omega), hl, Nat.sub_self]
      rfl
    rw [e3, d2, d1, List.append_assoc]
    rfl
def g1 (bs : List Int) := nuS bs (0, 0) 1
def g2 (bs : List Int) := nuS bs (g1 bs).2 4
def g3 (bs : List Int) := nuS bs (g2 bs).2 2
def g4 (bs : List Int) := nuS bs (g3 bs).2 6
def g5 (bs : List Int) := txM bs (g4 bs).2 2048
def g6 (bs : List Int) := nuS bs (g5 bs).2 2
def gK (bs : List Int) : Nat := min (g6 bs).1.toNat 241
def g7 (bs : List Int) := ldS bs (g6 bs).2 (gK bs)
def g8 (bs : List Int) := nuS bs (g7 bs).2 2
def g9 (bs : List Int) := byS bs (g8 bs).2 (g8 bs).1
/-- A reply as the document takes it up. -/
def repD (bs : List Int) (lp : Option Addr) (ln lc : Nat) (p : Option Addr) (n c : Nat) : Ra := ⟨(g1 bs).1, (g2 bs).1, (g3 bs).1, (g4 bs).1, strOfNums (g5 bs).1, lp, ln, lc, p, n, c⟩
def okA (M : List Int) : Prop := doneS M.length (g9 M).2.1 (g9 M).2.2 = 0 ∧ MayA (repD M none (gK M) 0 none (g9 M).1.length 0) (g7 M).1
theorem docA_to {M : List Int} (hb : ∀ z ∈ M, 0 ≤ z ∧ z < 256) (h : okA M) : M = bodyA (repD M none (gK M) 0 none (g9 M).1.length 0) (g7 M).1 (g9 M).1 := by
  obtain ⟨he, hend⟩ := done_ok h.1
  obtain ⟨e8, d8, l8⟩ := byS_inv (s := (g8 M).2) (k := (g8 M).1) he
  obtain ⟨e7, d7, b7, _⟩ := nuS_inv hb (s := (g7 M).2) (k := 2) e8
  obtain ⟨e6, d6⟩ := ldS_inv hb (g6 M).2 (gK M) e7
  obtain ⟨e5, d5, b5, _⟩ := nuS_inv hb (s := (g5 M).2) (k := 2) e6
  obtain ⟨e4, d4⟩ := txM_inv hb (s := (g4 M).2) (m := 2048) e5
  obtain ⟨e3, d3, b3, _⟩ := nuS_inv hb (s := (g3 M).2) (k := 6) e4
  obtain ⟨e2, d2, b2, _⟩ := nuS_inv hb (s := (g2 M).2) (k := 2) e3
  obtain ⟨e1, d1, b1, _⟩ := nuS_inv hb (s := (g1 M).2) (k := 4) e2
  obtain ⟨e0, d0, b0, _⟩ := nuS_inv hb (s := ((0, 0) : Rst)) (k := 1) e1
  have d0' : M = le (g1 M).1 1 ++ M.drop (g1 M).2.1 := d0
  have d1' : M.drop (g1 M).2.1 = le (g2 M).1 4 ++ M.drop (g2 M).2.1 := d1
  have d2' : M.drop (g2 M).2.1 = le (g3 M).1 2 ++ M.drop (g3 M).2.1 := d2
  have d3' : M.drop (g3 M).2.1 = le (g4 M).1 6 ++ M.drop (g4 M).2.1 := d3
  have d4' : M.drop (g4 M).2.1 = txF (strOfNums (g5 M).1) ++ M.drop (g5 M).2.1 := d4
  have d5' : M.drop (g5 M).2.1 = le (g6 M).1 2 ++ M.drop (g6 M).2.1 := d5
  have d6' : M.drop (g6 M).2.1 = txT (g7 M).1 (gK M) ++ M.drop (g7 M).2.1 := d6
  have d7' : M.drop (g7 M).2.1 = le (g8 M).1 2 ++ M.drop (g8 M).2.1 := d7
  have d8' : M.drop (g8 M).2.1 = (g9 M).1 ++ M.drop (g9 M).2.1 := d8
  have b5a : 0 ≤ (g6 M).1 := b5
  have dend : M.drop (g9 M).2.1 = [] := List.drop_eq_nil_of_le hend
  have hlen : (((g9 M).1.length : Nat) : Int) = (g8 M).1 := l8
  have hK : ((gK M : Nat) : Int) = (g6 M).1 := by
    have h2 : gK M ≤ 240 := h.2.2.2.2.2.2.1
    have h3 : gK M = min (g6 M).1.toNat 241 := rfl
    omega
  have e : M = le (g1 M).1 1 ++ (le (g2 M).1 4 ++ (le (g3 M).1 2 ++ (le (g4 M).1 6 ++ (txF (strOfNums (g5 M).1) ++ (le (g6 M).1 2 ++ (txT (g7 M).1 (gK M) ++ (le (g8 M).1 2 ++ (g9 M).1))))))) := by
    conv => lhs; rw [d0', d1', d2', d3', d4', d5', d6', d7', d8', dend, List.append_nil]
  conv => lhs; rw [e]
  unfold bodyA repD
  rw [hK, hlen]
  simp
theorem docA_of {M : List Int} {r : Ra} {L : List ByteArray} {ds : List Int} (hm : MayA r L) (hL : L.length = r.ln) (hl : ds.length = r.dl) (h : M = bodyA r L ds) : okA M := by
  have hd : M.drop 0 = le r.ses 1 ++ (le r.id 4 ++ (le r.err 2 ++ (le r.num 6 ++ (txF r.text ++ (le r.ln 2 ++ (txT L r.ln ++ (le r.dl 2 ++ (ds ++ [])))))))) := by
    rw [h]
    unfold bodyA
    simp
  obtain ⟨m0, m1, m2, m3, m4, m5, m6, m7⟩ := hm
  have hnl := notLong m6
  obtain ⟨a1, d1⟩ := nuS_fit (k := 1) hd (by omega) (by omega) (by omega) (by omega)
  obtain ⟨a2, d2⟩ := nuS_fit (k := 4) d1 (by omega) (by omega) (by omega) (by omega)
  obtain ⟨a3, d3⟩ := nuS_fit (k := 2) d2 (by omega) (by omega) (by omega) (by omega)
  obtain ⟨a4, d4⟩ := nuS_fit (k := 6) d3 (by omega) (by omega) (by omega) (by omega)
  obtain ⟨a5, d5⟩ := txM_fit (m := 2048) d4 (by omega) (by omega)
  obtain ⟨a6, d6⟩ := nuS_fit (k := 2) d5 (by omega) (by omega) (by omega) (by omega)
  obtain ⟨a7, d7⟩ := ldS_fit L hnl r.ln _ (by omega) d6
  obtain ⟨a8, d8⟩ := nuS_fit (k := 2) d7 (by omega) (by omega) (by omega) (by omega)
  obtain ⟨a9, d9⟩ := byS_fit d8 hl
  have c1 : g1 M = nuS M (0, 0) 1 := rfl
  have c1 := c1.trans a1
  have c2 : g2 M = nuS M (g1 M).2 4 := rfl
  rw [c1] at c2
  have c2 := c2.trans a2
  have c3 : g3 M = nuS M (g2 M).2 2 := rfl
  rw [c2] at c3
  have c3 := c3.trans a3
  have c4 : g4 M = nuS M (g3 M).2 6 := rfl
  rw [c3] at c4
  have c4 := c4.trans a4
  have c5 : g5 M = txM M (g4 M).2 2048 := rfl
  rw [c4] at c5
  have c5 := c5.trans a5
  have c6 : g6 M = nuS M (g5 M).2 2 := rfl
  rw [c5] at c6
  have c6 := c6.trans a6
  have cK : gK M = r.ln := by
    unfold gK
    rw [c6]
    dsimp only
    omega
  have c7 : g7 M = ldS M (g6 M).2 (gK M) := rfl
  rw [c6, cK] at c7
  have c7 := c7.trans a7
  rw [List.take_of_length_le (by omega)] at c7
  have c8 : g8 M = nuS M (g7 M).2 2 := rfl
  rw [c7] at c8
  have c8 := c8.trans a8
  have c9 : g9 M = byS M (g8 M).2 (g8 M).1 := rfl
  rw [c8] at c9
  have c9 := c9.trans a9
  have hval : (g9 M).1 = ds := by rw [c9]
  have hlis : (g7 M).1 = L := by rw [c7]
  refine ⟨?_, ?_⟩
  · have hlen := congrArg List.length d9
    rw [List.length_drop, List.length_nil] at hlen
    rw [c9]
    unfold doneS
    dsimp only
    rw [if_neg (by omega)]
  · rw [hval, hlis, cK]
    unfold repD
    rw [c1, c2, c3, c4, c5]
    simp only [str_txF]
    exact ⟨m0, m1, m2, m3, m4, m5, m6, by show ds.length ≤ 4096; omega⟩
theorem doc_a {bs : List Int} (hb : ∀ z ∈ bs, 0 ≤ z ∧ z < 256) (h : bodE bs 2 = 0) : (okA ((midF bs).drop 1) → raE bs = 0 ∧ raL bs = (g7 ((midF bs).drop 1)).1 ∧ raD bs = (g9 ((midF bs).drop 1)).1 ∧ ∀ lp ln lc p n c, raG bs lp ln lc p n c = repD ((midF bs).drop 1) lp ln lc p n c) ∧ (¬ okA ((midF bs).drop 1) → raE bs = 230) := by
  have hf := bod_frm hb h
  have hmb := midF_bd hb
  have hmm := (bodE_ok h).1
  have h1 := (bodE_ok h).2.2.2.2
  have hone := mid_one hmm
  rw [h1] at hone
  obtain ⟨M, hM⟩ : ∃ M, (midF bs).drop 1 = M := ⟨_, rfl⟩
  have hMb : ∀ z ∈ M, 0 ≤ z ∧ z < 256 := fun z hz => hmb z (by rw [← hM] at hz; exact List.mem_of_mem_drop hz)
  rw [hM] at hf hone ⊢
  refine ⟨fun hok => ?_, fun hok => ?_⟩
  · have hbody := docA_to hMb hok
    have hbs : bs = frm (inA (repD M none (gK M) 0 none (g9 M).1.length 0) (g7 M).1 (g9 M).1) := by
      unfold inA
      rw [← hbody]
      exact hf
    obtain ⟨e1, e2, e3, e4⟩ := back_a hok.2 (show (g7 M).1.length = _ from ldS_len _ _ _) (rfl : (g9 M).1.length = (repD M none (gK M) 0 none (g9 M).1.length 0).dl)
    rw [← hbs] at e1 e2 e3 e4
    exact ⟨e1, e2, e3, fun lp ln lc p n c => e4 lp ln lc p n c⟩
  · rcases two_a h with h0 | h0
    · exfalso
      obtain ⟨e1, e2⟩ := back_ba hb h0 none 0 none 0
      have e3 := (frm_parts (inA (raG bs none (raL bs).length 0 none (raD bs).length 0) (raL bs) (raD bs))).2.1
      rw [e2, hone] at e3
      have e4 : M = bodyA (raG bs none (raL bs).length 0 none (raD bs).length 0) (raL bs) (raD bs) := by
        unfold inA at e3
        exact List.append_cancel_left e3
      have hG : raG bs none (raL bs).length 0 none (raD bs).length 0 = repT (midF bs) (s0F bs) none (raL bs).length 0 none (raD bs).length 0 := by unfold raG; rw [if_pos h0]
      exact hok (docA_of e1 (by rw [hG]; rfl) (by rw [hG]; rfl) e4)
    · exact h0
end
end Go.Proofs.YtignoocdeghiaaaDoor
