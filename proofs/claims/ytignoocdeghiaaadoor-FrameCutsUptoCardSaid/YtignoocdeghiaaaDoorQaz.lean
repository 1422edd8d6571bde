/- FrameCuts for any requests and cuts. -/
import Derived.Test.YtignoocdeghiaaaDoorQav
import Derived.Test.YtignoocdeghiaaaDoorQay
import Derived.Test.YtignoocdeghiaaaDoorQac
namespace Go.Proofs.YtignoocdeghiaaaDoor
section
open Go.RowKit Go.Lib
set_option maxRecDepth 100000

theorem infoRq : (Tryd.prog.info? 24).map (fun i => (i.zero, i.size, i.bytes)) = some (some (.agg (Rq.mk 0 0 0 ⟨#[]⟩ ⟨#[]⟩ ⟨#[]⟩ ⟨#[]⟩ 0 0 none 0 0).arr), 10, 128) := by kernel_rfl
def frmsQ (l : List (Rq × List Int)) : List (List Int) := l.map (fun x => frm (inQ x.1 x.2))
def rowsRq (l : List (Rq × List Int)) : List Value := l.flatMap (fun x => x.1.arr.toList)
theorem rowsRq_app (a b : List (Rq × List Int)) : rowsRq (a ++ b) = rowsRq a ++ rowsRq b := by unfold rowsRq; rw [List.flatMap_append]
theorem rowsRq_len : ∀ (l : List (Rq × List Int)), (rowsRq l).length = l.length * 10
  | [] => rfl
  | x :: l => by
    have h := rowsRq_len l
    unfold rowsRq at h ⊢
    rw [List.flatMap_cons, List.length_append, h, List.length_cons]
    have : x.1.arr.toList.length = 10 := rfl
    omega
theorem rowsRq_at : ∀ (l : List (Rq × List Int)) (t : Nat) (x : Rq × List Int) (j : Nat), l[t]? = some x → j < 10 → (rowsRq l)[t * 10 + j]? = x.1.arr.toList[j]?
  | [], t, x, j, h, _ => by simp at h
  | y :: l, 0, x, j, h, hj => by
    simp at h
    subst h
    unfold rowsRq
    rw [List.flatMap_cons, List.getElem?_append_left (by have : y.1.arr.toList.length = 10 := rfl; omega)]
    simp
  | y :: l, t + 1, x, j, h, hj => by
    have ih := rowsRq_at l t x j (by simpa using h) hj
    have hl : y.1.arr.toList.length = 10 := rfl
    unfold rowsRq at ih ⊢
    rw [List.flatMap_cons, List.getElem?_append_right (by omega), hl, show (t + 1) * 10 + j - 10 = t * 10 + j by omega]
    exact ih
structure OkQ (w : World) (x : Rq × List Int) : Prop where
  may : MayQ x.1
  len : x.2.length = x.1.dl
  rd : Rd w x.1.dp x.2
  bd : ∀ z ∈ x.2, 0 ≤ z ∧ z < 256
theorem frmsQ_good {w : World} {l : List (Rq × List Int)} (h : ∀ x ∈ l, OkQ w x) : ∀ f ∈ frmsQ l, GoodF f := by
  intro f hf
  unfold frmsQ at hf
  obtain ⟨x, hx, rfl⟩ := List.mem_map.1 hf
  have := inQ_len (h x hx).may (h x hx).len
  exact frm_good this.1 (by omega)
theorem frm_bdQ {b : List Int} (hb : ∀ z ∈ b, 0 ≤ z ∧ z < 256) : ∀ z ∈ frm b, 0 ≤ z ∧ z < 256 := by
  intro z hz
  unfold frm at hz
  rcases List.mem_append.1 hz with h | h
  · rcases List.mem_append.1 h with h | h
    · exact le_bd _ _ z h
    · exact hb z h
  · exact le_bd _ _ z h
theorem frmsQ_bd {w : World} {l : List (Rq × List Int)} (h : ∀ x ∈ l, OkQ w x) : ∀ f ∈ frmsQ l, ∀ z ∈ f, 0 ≤ z ∧ z < 256 := by
  intro f hf
  unfold frmsQ at hf
  obtain ⟨x, hx, rfl⟩ := List.mem_map.1 hf
  exact frm_bdQ (inQ_bd (h x hx).bd)
/-- While requests are laid down. -/
structure SentS (W V wr : World) (pa : Option Addr) (A ca : Nat) (ps : Option Addr) (S cs : Nat) (l : List (Rq × List Int)) : Prop where
  fr : Frm [] V wr
  own : Own wr 5 (.slice pa A ca) (frmsQ l).flatten
  len : (frmsQ l).flatten.length = A
  snt : wr.ownsRow 0 24 10 (.slice ps S cs) S (rowsRq l)
  sl : l.length = S
  ok : ∀ x ∈ l, OkQ W x
  na : ∀ k ∈ blk pa, V.heap.size ≤ k ∧ k < wr.heap.size
  ns : ∀ k ∈ blk ps, V.heap.size ≤ k ∧ k < wr.heap.size
  ap : ∀ k ∈ blk pa, k ∉ blk ps
  sz : A ≤ S * 4096
/-- While they are fed. -/
structure CutS (w0 wr : World) (lb : Nat) (p : Option Addr) (n c : Nat) (qg : Option Addr) (sg cg : Nat) (lg : List Bk) (F : List (List Int)) (k a : Nat) : Prop where
  fr : Frm [lb] w0 wr
  ln : IsLn wr lb p n c ((F.drop k).flatten.take (a - (F.take k).flatten.length))
  rd : RdK wr qg sg cg lg
  bs : lg.map Bk.bs = F.take k
  kk : k ≤ F.length ∧ (F.take k).flatten.length ≤ a
  nq : ∀ b ∈ blk qg, w0.heap.size ≤ b ∧ b < wr.heap.size ∧ b ∉ ft p c
  nl : ∀ y ∈ lg, ∀ b ∈ blk y.p, w0.heap.size ≤ b ∧ b < wr.heap.size ∧ b ∉ ft p c ∧ b ∉ blk qg
  nf : ∀ b ∈ ft p c, w0.heap.size ≤ b
  lo : lb < w0.heap.size
  en : F.flatten.length ≤ a → k = F.length
theorem cut_more {F : List (List Int)} {k a b : Nat} (hk : (F.take k).flatten.length ≤ a) (hab : a ≤ b) : (F.drop k).flatten.take (a - (F.take k).flatten.length) ++ (F.flatten.drop a).take (b - a) = (F.drop k).flatten.take (b - (F.take k).flatten.length) := by
  have e : F.flatten.drop a = (F.drop k).flatten.drop (a - (F.take k).flatten.length) := by
    have h : F.flatten = (F.take k).flatten ++ (F.drop k).flatten := by rw [← List.flatten_append, List.take_append_drop]
    conv => lhs; rw [h]
    rw [List.drop_append, List.drop_eq_nil_of_le (by omega), List.nil_append]
  rw [e, ← List.take_add]
  congr 1
  omega
theorem rv_ofK {w : World} {q : Option Addr} {n c : Nat} {ls : List Bk} (h : w.ownsRow 0 22 1 (.slice q n c) n (rowsK ls)) (hl : ls.length = n) : Rv w q (rowsK ls) := by
  by_cases hn : n = 0
  · subst hn
    rw [List.eq_nil_of_length_eq_zero hl]
    exact Or.inl rfl
  · rcases h.2 with ⟨_, h0⟩ | ⟨g, c', cur, he, _⟩
    · omega
    · simp only [Value.slice.injEq] at he
      obtain ⟨rfl, _, _⟩ := he
      have hcell := fun i hi => World.ownsRow.cellAt h i hi
      refine Or.inr ⟨g, 0, rfl, fun i u hu => ?_⟩
      have hi := (List.getElem?_eq_some_iff.1 hu).1
      rw [rowsK_len, hl] at hi
      rw [Nat.zero_add, hcell i (by omega)]
      exact hu
theorem CutS.next {w0 wr w1 w2 : World} {lb : Nat} {p p2 : Option Addr} {n c n2 c2 : Nat} {qg q2 qf : Option Addr} {sg cg cg2 s cf : Nat} {lg ls : List Bk} {F : List (List Int)} {k k2 a b : Nat} (h : CutS w0 wr lb p n c qg sg cg lg F k a)
    (how : OwnK w1 qf s cf ls) (hls : ls.map Bk.bs = (F.drop k).take k2) (hnk : NewK wr.heap.size qf ls) (hln : IsLn w1 lb p2 n2 c2 (((F.drop k).drop k2).flatten.take (b - (F.take k).flatten.length - ((F.drop k).take k2).flatten.length))) (hf1 : Frm (lb :: ft p c) wr w1) (hap : ∀ k ∈ ft p2 c2, k ∈ ft p c ∨ wr.heap.size ≤ k) (hax : ∀ x ∈ ls, ∀ k ∈ blk x.p, k ∉ ft p2 c2)
    (hk2 : k2 ≤ (F.drop k).length) (hl2 : ((F.drop k).take k2).flatten.length ≤ b - (F.take k).flatten.length) (hen : (F.drop k).flatten.length ≤ b - (F.take k).flatten.length → k2 = (F.drop k).length)
    (ho : w2.ownsRow 0 22 1 (.slice q2 (sg + s) cg2) (sg + s) (rowsK lg ++ rowsK ls)) (hf2 : Frm (blk qg) w1 w2) (hb2 : ∀ i ∈ blk q2, i ∈ blk qg ∨ w1.heap.size ≤ i) (hab : a ≤ b) : CutS w0 w2 lb p2 n2 c2 q2 (sg + s) cg2 (lg ++ ls) F (k + k2) b := by
  have s1 := hf1.size
  have s2 := hf2.size
  have s0 := h.fr.size
  have hlo := h.lo
  have hkk := h.kk
  have hft := h.ln.wt.low
  have hft2 := hln.wt.low
  have ek : F.take (k + k2) = F.take k ++ (F.drop k).take k2 := List.take_add
  have ef : (F.take (k + k2)).flatten.length = (F.take k).flatten.length + ((F.drop k).take k2).flatten.length := by rw [ek, List.flatten_append, List.length_append]
  have hlall : ∀ y ∈ lg ++ ls, ∀ i ∈ blk y.p, w0.heap.size ≤ i ∧ i < w1.heap.size ∧ i ∉ ft p2 c2 ∧ i ∉ blk qg ∧ i ∉ blk q2 := fun y hy i hi => by
    have hb : ∀ i, w0.heap.size ≤ i → i < w1.heap.size → i ∉ blk qg → i ∉ blk q2 := fun i _ h2 h3 hm => (hb2 i hm).elim h3 (fun h4 => by omega)
    rcases List.mem_append.1 hy with h1 | h1
    · obtain ⟨a1, a2, a3, a4⟩ := h.nl y h1 i hi
      exact ⟨a1, by omega, fun hm => (hap i hm).elim a3 (fun h4 => by omega), a4, hb i a1 (by omega) a4⟩
    · have a1 := hnk.2 y h1 i hi
      have a2 := (how.it y h1).1.lo i hi
      have a4 : i ∉ blk qg := fun hm => by have := (h.nq i hm).2.1; omega
      exact ⟨by omega, a2, hax y h1 i hi, a4, hb i (by omega) a2 a4⟩
  refine ⟨?_, ?_, ?_, ?_, ⟨by rw [List.length_drop] at hk2; omega, by rw [ef]; omega⟩, ?_, ?_, ?_, hlo, ?_⟩
  · refine (h.fr.trans hf1 (fun i hi hl => ?_)).trans hf2 (fun i hi hl => ?_)
    · rcases List.mem_cons.1 hi with h1 | h1
      · exact List.mem_singleton.2 h1
      · have := h.nf i h1; omega
    · have := (h.nq i hi).1; omega
  · have e : (F.drop (k + k2)).flatten.take (b - (F.take (k + k2)).flatten.length) = ((F.drop k).drop k2).flatten.take (b - (F.take k).flatten.length - ((F.drop k).take k2).flatten.length) := by rw [List.drop_drop, ef, Nat.sub_sub]
    rw [e]
    refine hln.kept hf2 (fun hm => by have := (h.nq lb hm).1; omega) (fun i hi hm => ?_)
    rcases hap i hi with h1 | h1
    · exact (h.nq i hm).2.2 h1
    · have := (h.nq i hm).2.1; omega
  · refine ⟨by rw [rowsK_app]; exact ho, by rw [List.length_append, h.rd.ln, how.ln], fun y hy => ?_⟩
    have hn : ∀ i ∈ blk y.p, i ∉ blk qg := fun i hi => (hlall y hy i hi).2.2.2.1
    rcases List.mem_append.1 hy with h1 | h1
    · have h2 := h.rd.it y h1
      exact ⟨(h2.1.kept hf1 (fun i hi hm => by
        have h3 := h.nl y h1 i hi
        rcases List.mem_cons.1 hm with h4 | h4
        · omega
        · exact h3.2.2.1 h4)).kept hf2 hn, h2.2⟩
    · have h2 := (how.it y h1).1
      exact ⟨h2.rd.kept hf2 hn, h2.cp⟩
  · rw [List.map_append, h.bs, hls, ek]
  · intro i hi
    rcases hb2 i hi with h1 | h1
    · obtain ⟨a1, a2, a3⟩ := h.nq i h1
      exact ⟨a1, by omega, fun hm => (hap i hm).elim a3 (fun h4 => by omega)⟩
    · have hq := ownsRow_low ho i hi
      exact ⟨by omega, hq, fun hm => by have := hft2 i hm; omega⟩
  · intro y hy i hi
    obtain ⟨a1, a2, a3, a4, a5⟩ := hlall y hy i hi
    exact ⟨a1, by omega, a3, a5⟩
  · intro i hi
    rcases hap i hi with h1 | h1
    · exact h.nf i h1
    · omega
  · intro hx
    have e : F.flatten.length = (F.take k).flatten.length + (F.drop k).flatten.length := by rw [← List.length_append, ← List.flatten_append, List.take_append_drop]
    have := hen (by omega)
    rw [this, List.length_drop]
    omega
end
end Go.Proofs.YtignoocdeghiaaaDoor
