/- Lists of spans: as cells, and the library's Delete. -/
import Derived.Test.YtkbppkimpefilaaSlA
import Derived.Test.YtkbppkimpefilaaHeldT
import Derived.StillTailTactics
import Derived.Deep.DeepCutAuto
namespace Go.Proofs.Ytkbppkimpefilaa
open Go.RowKit Go.Lib
set_option maxRecDepth 100000

/-- append into the room that is there. -/
theorem wpList_appRoomG {P : Program} {w : World} {ops : Array Oper} {rest : List Oper} {o : Oper} {a : Act} {Q : Exit → Act → World → Prop} (hgd : o.guard = none) (s x : Operand) (t : TypeId)
    (ho : o.op = .call { callee := .builtin .append, args := #[s, x], argTypes := #[t, t] })
    (E : TypeId) (sz bytes : Nat) (z : Value) (ht : P.underlying t = some (.slice E)) (hI : (P.info? E).map (fun i => (i.zero, i.size, i.bytes)) = some (some z, sz, bytes))
    (g n cap : Nat) (C : List Value) (hg : w.heap[g]? = some (.cells C.toArray E (0, 0))) (hs : a.eval s = .slice (some ⟨g, 0, none⟩) n cap)
    (p : Option Addr) (m c : Nat) (hx : a.eval x = .slice p m c) (news : List Value) (hnl : news.length = m * sz) (hrd : Rv w p news) (hp : news = [] → p ≠ none) (h1 : ∀ u ∈ news, u.oneCell' = true) (hroom : n + m ≤ cap) (hfit : n * sz + news.length ≤ C.length)
    (h : ∀ w', Hid (w'.heap[g]? = some (.cells (C.take (n * sz) ++ news ++ C.drop (n * sz + news.length)).toArray E (0, 0))) → Hid (Frm [g] w w') → wpList P ops Q rest (a.put o.dst (.slice (some ⟨g, 0, none⟩) (n + m) cap)) w') :
    wpList P ops Q (o :: rest) a w := by
  refine wpList_plain hgd fun K hK => ?_
  obtain ⟨i, hi, hz, hi1, hi2⟩ := info_parts hI
  obtain ⟨q, hq, hnews⟩ : ∃ q : Addr, p = some q ∧ ∀ j u, news[j]? = some u → w.cell? (q.add j) = some u := by
    rcases hrd with h0 | ⟨g0, o0, rfl, hc⟩
    · cases p with
      | none => exact absurd rfl (hp h0)
      | some q => exact ⟨q, rfl, fun j u hu => by rw [h0] at hu; simp at hu⟩
    · exact ⟨_, rfl, fun j u hu => by rw [show (⟨g0, o0, none⟩ : Addr).add j = ⟨g0, o0 + j, none⟩ by cases j <;> simp [Addr.add]]; exact hc j u hu⟩
  subst hq
  have hrun := run_append_room (P := P) (w := w) t o.type E i ht hi g n cap C.toArray hg q m c news (by rw [hi1]; exact hnl) hnews h1 hroom (by rw [hi1]; simpa using hfit)
  unfold Oper.wp
  simp only [execOp, ho, resolve, invoke, builtin, Sem.run_bind, Sem.run_pure, Result.andThen_ok, List.map_toArray, List.map_cons, List.map_nil, hs, hx, hrun]
  refine hK _ _ (h _ (hid ?_) (hid ⟨rfl, rfl, rfl, by simp, fun j _ hj => setRow_other w g j _ (by simpa using hj)⟩))
  rw [setRow_heap w g _ _ E _ hg, hi1]

/-- A span. -/
structure Sp where
  a : Int
  m : Int
def Sp.e (y : Sp) : Int := y.a + y.m
def rowS : List Sp → List Value
  | [] => []
  | y :: l => .int .i64 y.a :: .int .i64 y.m :: rowS l
theorem rowS_len : ∀ l : List Sp, (rowS l).length = l.length * 2
  | [] => rfl
  | y :: l => by simp only [rowS, List.length_cons, rowS_len l]; omega
theorem rowS_app : ∀ a b : List Sp, rowS (a ++ b) = rowS a ++ rowS b
  | [], _ => rfl
  | y :: a, b => by simp only [List.cons_append, rowS, rowS_app a b]
theorem rowS_take : ∀ (k : Nat) (l : List Sp), (rowS l).take (k * 2) = rowS (l.take k)
  | 0, l => by simp [rowS]
  | k + 1, [] => by simp [rowS]
  | k + 1, y :: l => by rw [show (k + 1) * 2 = k * 2 + 1 + 1 by omega]; simp only [rowS, List.take_succ_cons, rowS_take k l]
theorem rowS_drop : ∀ (k : Nat) (l : List Sp), (rowS l).drop (k * 2) = rowS (l.drop k)
  | 0, l => by simp
  | k + 1, [] => by simp [rowS]
  | k + 1, y :: l => by rw [show (k + 1) * 2 = k * 2 + 1 + 1 by omega]; simp only [rowS, List.drop_succ_cons, rowS_drop k l]
theorem rowS_one : ∀ (l : List Sp), ∀ v ∈ rowS l, v.oneCell' = true
  | [], v, h => by simp [rowS] at h
  | y :: l, v, h => by
    simp only [rowS, List.mem_cons] at h
    rcases h with rfl | rfl | h
    · rfl
    · rfl
    · exact rowS_one l v h
theorem rowS_get : ∀ (l : List Sp) (i : Nat) (y : Sp), l[i]? = some y → (rowS l)[i * 2]? = some (.int .i64 y.a) ∧ (rowS l)[i * 2 + 1]? = some (.int .i64 y.m)
  | [], i, y, h => by simp at h
  | x :: l, 0, y, h => by simp at h; subst h; simp [rowS]
  | x :: l, i + 1, y, h => by
    simp only [List.getElem?_cons_succ] at h
    have h1 := rowS_get l i y h
    rw [show (i + 1) * 2 = i * 2 + 1 + 1 by omega]
    simpa [rowS] using h1
theorem infoSp : (Try.prog.info? 39).map (fun i => (i.zero, i.size, i.bytes)) = some (some (.agg #[.int .i64 0, .int .i64 0]), 2, 16) := by kernel_rfl
/-- A list of spans of one's own. -/
def OwnS (w : World) (p : Option Addr) (n c : Nat) (l : List Sp) : Prop := w.ownsRow 0 39 2 (.slice p n c) n (rowS l) ∧ l.length = n
theorem OwnS.kept {w w' : World} {p : Option Addr} {n c : Nat} {l : List Sp} {T : List Nat} (h : OwnS w p n c l) (hf : Frm T w w') (hp : ∀ k ∈ blk p, k ∉ T) : OwnS w' p n c l := ⟨ownsRow_kept h.1 hf hp, h.2⟩
theorem OwnS.block {w : World} {p : Option Addr} {n c : Nat} {l : List Sp} (h : OwnS w p n c l) (hn : 0 < n) : ∃ g C, p = some ⟨g, 0, none⟩ ∧ w.heap[g]? = some (.cells (List.toArray C) 39 (0, 0)) ∧ n ≤ c ∧ c ≤ maxLen ∧ C.length = c * 2 ∧ C.take (n * 2) = rowS l := by
  rcases h.1.2 with ⟨_, h0⟩ | ⟨g, c', cur, he, _, hg, hc, hm, hs, ht⟩
  · omega
  · simp only [Value.slice.injEq] at he
    obtain ⟨rfl, _, rfl⟩ := he
    exact ⟨g, cur.toList, rfl, by simpa using hg, hc, hm, by simpa using hs, ht⟩
theorem OwnS.cap {w : World} {p : Option Addr} {n c : Nat} {l : List Sp} (h : OwnS w p n c l) : n ≤ c ∧ c ≤ maxLen := by
  rcases h.1.2 with ⟨he, h0⟩ | ⟨g, c', cur, he, _, hg, hc, hm, hs, ht⟩
  · simp only [Value.slice.injEq] at he
    obtain ⟨_, _, rfl⟩ := he
    exact ⟨by omega, by unfold maxLen; omega⟩
  · simp only [Value.slice.injEq] at he
    obtain ⟨_, _, rfl⟩ := he
    exact ⟨hc, hm⟩
theorem OwnS.nil {w : World} {p : Option Addr} {n c : Nat} {l : List Sp} (h : OwnS w p n c l) (hn : p = none) : n = 0 ∧ c = 0 := by
  rcases h.1.2 with ⟨he, h0⟩ | ⟨g, c', cur, he, _, hg, hc, hm, hs, ht⟩
  · simp only [Value.slice.injEq] at he
    exact ⟨h0, he.2.2⟩
  · simp only [Value.slice.injEq] at he
    rw [hn] at he; simp at he
theorem OwnS.of {w : World} {g n c : Nat} {l : List Sp} {C : List Value} (hg : w.heap[g]? = some (.cells C.toArray 39 (0, 0))) (hn : n ≤ c) (hm : c ≤ maxLen) (hl : C.length = c * 2) (ht : C.take (n * 2) = rowS l) (hln : l.length = n) : OwnS w (some ⟨g, 0, none⟩) n c l :=
  ⟨⟨by rw [rowS_len, hln], Or.inr ⟨g, c, C.toArray, rfl, Nat.zero_le _, hg, hn, hm, by simpa using hl, by simpa using ht⟩⟩, hln⟩
theorem OwnS.rv {w : World} {p : Option Addr} {n c : Nat} {l : List Sp} (h : OwnS w p n c l) : Rv w p (rowS l) := by
  by_cases hn : 0 < n
  · obtain ⟨g, C, rfl, hg, hc, hm, hl, ht⟩ := h.block hn
    refine Or.inr ⟨g, 0, rfl, fun i u hu => ?_⟩
    rw [cell_of_row _ _ _ _ _ _ hg, Nat.zero_add]
    rw [← ht, List.getElem?_take] at hu
    split at hu
    · simpa using hu
    · cases hu
  · have h0 : l = [] := List.eq_nil_of_length_eq_zero (by have := h.2; omega)
    subst h0
    exact Or.inl rfl
theorem OwnS.at {w : World} {p : Option Addr} {n c : Nat} {l : List Sp} (h : OwnS w p n c l) {i : Nat} {y : Sp} (hi : l[i]? = some y) : ∃ g, p = some ⟨g, 0, none⟩ ∧ w.cell? ⟨g, i * 2, none⟩ = some (.int .i64 y.a) ∧ w.cell? ⟨g, i * 2 + 1, none⟩ = some (.int .i64 y.m) := by
  have hlt := (List.getElem?_eq_some_iff.1 hi).1
  obtain ⟨g, C, rfl, hg, hc, hm, hl, ht⟩ := h.block (by have := h.2; omega)
  obtain ⟨h1, h2⟩ := rowS_get l i y hi
  have e : ∀ t v, (rowS l)[t]? = some v → w.cell? ⟨g, t, none⟩ = some v := fun t v hv => by
    rw [cell_of_row _ _ _ _ _ _ hg]
    rw [← ht, List.getElem?_take] at hv
    split at hv
    · simpa using hv
    · cases hv
  exact ⟨g, rfl, e _ _ h1, e _ _ h2⟩

set_option maxHeartbeats 3200000 in
theorem del_any (p : Option Addr) (n c i j : Nat) (l : List Sp) (w : World) (h : OwnS w p n c l) (hij : i ≤ j) (hj : j ≤ n) :
    Calls Try.prog 109 #[.slice p n c, .int .i64 (i : Int), .int .i64 (j : Int)] w fun e w' => e = .returned (.slice p (n - (j - i)) c) ∧ OwnS w' p (n - (j - i)) c (l.take i ++ l.drop j) ∧ Frm (blk p) w w' := by
  obtain ⟨hnc, hcm⟩ := h.cap
  have hu : Try.prog.underlying 43 = some (.slice 39) := Try.underlying43
  have hs1 : ∀ W, (Instr.slice 43 (.slice p n c) (some (.int .i64 (i : Int))) (some (.int .i64 (j : Int))) (some (.int .i64 (n : Int)))).run Try.prog W = _ := fun W => sl_lhm hu infoSp p n c i j n hij hj hnc W
  have hs2 : ∀ W, (Instr.slice 43 (.slice p n c) none (some (.int .i64 (i : Int))) none).run Try.prog W = _ := fun W => sl_h hu infoSp p n c i (by omega) W
  have hs3 : ∀ W, (Instr.slice 43 (.slice p n c) (some (.int .i64 (j : Int))) none none).run Try.prog W = _ := fun W => sl_l hu infoSp p n c j hj W
  have hs4 : ∀ W, (Instr.sliceAt 43 (.slice p n c) none (some (.int .i64 (i : Int))) none).run Try.prog W = .ok (.slice p i c) W := fun W => by rw [run_sliceAt_slice (h := by rw [show Try.prog.elem 43 = 39 by simp [Program.elem, hu]]; exact hu)]; exact hs2 W
  have hs5 : ∀ W, (Instr.sliceAt 43 (.slice p n c) (some (.int .i64 (j : Int))) none none).run Try.prog W = .ok (.slice (partAt p c j 2) (n - j) (c - j)) W := fun W => by rw [run_sliceAt_slice (h := by rw [show Try.prog.elem 43 = 39 by simp [Program.elem, hu]]; exact hu)]; exact hs3 W
  have HO := hid h
  go_enter Try.func109, Try.ntmps109
  by_cases hijE : i = j
  · subst hijE
    go_wp2_with fail
    go_returns
    refine ⟨by simp, ?_, Frm.refl _ _⟩
    have h := HO.out
    simpa using h
  have hlt : i < j := by omega
  have ne1 : ((i : Int) == (j : Int)) = false := by simp; omega
  obtain ⟨g, C, rfl, hg, _, _, hl, ht⟩ := h.block (by omega)
  have HG := hid hg
  have HT := hid ht
  have HCL := hid hl
  clear h hg ht hl
  go_upto_region 5 with fail
  go_still_tail 6, (by kernel_rfl)
  change wpList _ _ _ _ _ w.drew
  have hnl : ((rowS (l.drop j)).length = (n - j) * 2) := by rw [rowS_len, List.length_drop, HO.out.2]
  have hrv : Rv w.drew (partAt (some ⟨g, 0, none⟩) c j 2) (rowS (l.drop j)) := by
    have h1 := partAt_rv (some ⟨g, 0, none⟩) c j (rowS l) n (by rw [rowS_len, HO.out.2]) hj hnc (HO.out.kept (Frm.refl [] w).drew (by simp)).rv
    rwa [rowS_drop] at h1
  have hpn : rowS (l.drop j) = [] → partAt (some ⟨g, 0, none⟩) c j 2 ≠ none := fun _ => by unfold partAt; split <;> simp
  have hfit : i * 2 + (rowS (l.drop j)).length ≤ C.length := by rw [hnl, HCL.out]; omega
  have hg1 : w.drew.heap[g]? = some (.cells C.toArray 39 (0, 0)) := HG.out
  have HR := hid hrv
  have HF := hid hfit
  have HN := hid hnl
  clear hs1 hs2 hs3 hs4 hs5 hrv hfit hnl
  go_wp2_with (at_builtin; refine wpList_appRoomG rfl _ _ 43 rfl 39 2 16 _ hu infoSp g i c C hg1 rfl _ (n - j) (c - j) rfl (rowS (l.drop j)) HN.out HR.out hpn (rowS_one _) (by omega) HF.out ?_)
  intro w1 hg2 hf2
  have HG2 := hid hg2.out
  have HF2 := hid hf2.out
  obtain ⟨C1, hC1⟩ : ∃ C1, C.take (i * 2) ++ (rowS (l.drop j) ++ C.drop (i * 2 + (rowS (l.drop j)).length)) = C1 := ⟨_, rfl⟩
  rw [hC1] at HG2
  have hC1l : C1.length = c * 2 := by
    rw [← hC1, List.length_append, List.length_append, List.length_take, List.length_drop, HN.out, HCL.out]; omega
  have hC1t : C1.take ((i + (n - j)) * 2) = rowS (l.take i ++ l.drop j) := by
    have h1 : C.take (i * 2) = rowS (l.take i) := by
      rw [← rowS_take, ← HT.out, List.take_take, Nat.min_eq_left (by omega)]
    rw [← hC1, h1, ← List.append_assoc, ← rowS_app]
    have h2 : (rowS (l.take i ++ l.drop j)).length = (i + (n - j)) * 2 := by rw [rowS_len, List.length_append, List.length_take, List.length_drop, HO.out.2, Nat.min_eq_left (by omega)]
    rw [← h2]
    exact List.take_left
  obtain ⟨K, hK⟩ : ∃ K, i + (n - j) = K := ⟨_, rfl⟩
  have hKn : K ≤ n := by omega
  have hnK : n - (j - i) = K := by omega
  rw [hK] at hC1t ⊢
  have hs6 : ∀ W, (Instr.slice 43 (.slice (some ⟨g, 0, none⟩) K c) (some (.int .i64 (K : Int))) (some (.int .i64 (n : Int))) none).run Try.prog W = _ := fun W => sl_lh hu infoSp (some ⟨g, 0, none⟩) K c K n hKn hnc W
  obtain ⟨w2, hcl, ⟨C', hg3, hl3, ht3⟩, hf3⟩ := run_clearG hu infoSp rfl (by decide) (by intro v hv; simp [Value.cells] at hv; rcases hv with rfl | rfl <;> rfl) g K (n - K) (c - K) (partAt (some ⟨g, 0, none⟩) c K 2) C1 39 HG2.out (fun h0 => by unfold partAt; rw [if_neg (by omega)]; cases K <;> simp [Addr.add]) (by rw [hC1l]; omega)
  have HFIN : Hid (OwnS w2 (some ⟨g, 0, none⟩) K c (l.take i ++ l.drop j) ∧ Frm [g] w w2) := hid ⟨OwnS.of hg3 (by omega) hcm (by rw [hl3, hC1l]) (by rw [ht3, hC1t]) (by rw [List.length_append, List.length_take, List.length_drop, HO.out.2]; omega), ((Frm.refl [g] w).drew.trans HF2.out (fun k hk _ => hk)).trans hf3 (fun k hk _ => hk)⟩
  clear hg2 hf2 hC1 hC1l hC1t hK hg3 hl3 ht3 hf3 HG2 HF2 HR HF HN HG HT HCL hg1 hpn
  go_wp2_with fail
  go_returns
  rw [hnK]
  exact ⟨rfl, HFIN.out.1, HFIN.out.2⟩
end Go.Proofs.Ytkbppkimpefilaa
