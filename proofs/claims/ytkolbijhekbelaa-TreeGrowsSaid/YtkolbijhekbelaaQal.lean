/- tree.cut at pointers. bytes.Join without a separator, bytes.Equal; tree.Cost. -/
import Derived.Test.YtkolbijhekbelaaQak
import Derived.Test.YtkolbijhekbelaaQae
import Derived.Lib.MakeNoZero
import Derived.Laws.Externs
namespace Go.Proofs.Ytkolbijhekbelaa
section
open Go.RowKit Go.Lib
set_option maxRecDepth 100000

def rowsP : List P9 → List Value
  | [] => []
  | p :: l => p.arr.toList ++ rowsP l
theorem rowsP_len : ∀ l : List P9, (rowsP l).length = l.length * 9
  | [] => rfl
  | p :: l => by simp only [rowsP, List.length_append, rowsP_len l, List.length_cons]; show 9 + _ = _; omega
theorem rowsP_app : ∀ a b : List P9, rowsP (a ++ b) = rowsP a ++ rowsP b
  | [], b => rfl
  | p :: a, b => by simp [rowsP, rowsP_app a b]
theorem rowsP_take : ∀ (k : Nat) (l : List P9), (rowsP l).take (k * 9) = rowsP (l.take k)
  | 0, l => by simp [rowsP]
  | k + 1, [] => by simp [rowsP]
  | k + 1, p :: l => by
    rw [rowsP, List.take_succ_cons, rowsP, ← rowsP_take k l, show (k + 1) * 9 = p.arr.toList.length + k * 9 by show _ = 9 + _; omega, List.take_length_add_append]
theorem rowsP_drop : ∀ (k : Nat) (l : List P9), (rowsP l).drop (k * 9) = rowsP (l.drop k)
  | 0, l => by simp
  | k + 1, [] => by simp [rowsP]
  | k + 1, p :: l => by
    rw [rowsP, List.drop_succ_cons, ← rowsP_drop k l, show (k + 1) * 9 = p.arr.toList.length + k * 9 by show _ = 9 + _; omega, List.drop_length_add_append]
theorem rowsP_get : ∀ (l : List P9) (i : Nat) (v : P9), l[i]? = some v → ∀ (j : Nat) (u : Value), v.arr.toList[j]? = some u → (rowsP l)[i * 9 + j]? = some u
  | [], i, v, h, _, _, _ => by simp at h
  | x :: l, 0, v, h, j, u, hu => by
    simp at h; subst h
    have hj : j < 9 := (List.getElem?_eq_some_iff.1 hu).1
    rw [rowsP, List.getElem?_append_left (by show _ < 9; omega), Nat.zero_mul, Nat.zero_add]
    exact hu
  | x :: l, i + 1, v, h, j, u, hu => by
    simp only [List.getElem?_cons_succ] at h
    have h1 := rowsP_get l i v h j u hu
    rw [rowsP, List.getElem?_append_right (by show 9 ≤ _; omega)]
    show (rowsP l)[(i + 1) * 9 + j - 9]? = some u
    rw [show (i + 1) * 9 + j - 9 = i * 9 + j by omega]
    exact h1
theorem rowsP_one (l : List P9) : ∀ u ∈ rowsP l, u.oneCell' = true := by
  induction l with
  | nil => intro u hu; simp [rowsP] at hu
  | cons p l ih =>
    intro u hu
    rw [rowsP] at hu
    rcases List.mem_append.1 hu with h | h
    · simp [P9.arr] at h
      rcases h with rfl | rfl | rfl | rfl | rfl | rfl | rfl | rfl | rfl <;> rfl
    · exact ih u h
theorem infoP9 : (Try.prog.info? 40).map (fun i => (i.zero, i.size, i.bytes)) = some (some (.agg #[.int .i64 0, .int .i64 0, .int .i64 0, .int .u64 0, .int .i64 0, .int .u64 0, .int .u64 0, .int .u64 0, .int .u64 0]), 9, 72) := by kernel_rfl
theorem infoPs : (Try.prog.info? 30).map (fun i => (i.zero, i.size, i.bytes)) = some (some (.slice none 0 0), 1, 24) := by kernel_rfl
/-- A piece: where it lies, its room, its pointers. -/
structure Bp where
  p : Option Addr
  c : Nat
  ps : List P9
def Bp.v (x : Bp) : Value := .slice x.p x.ps.length x.c
def rowsB (ls : List Bp) : List Value := ls.map Bp.v
theorem rowsB_len (ls : List Bp) : (rowsB ls).length = ls.length := by simp [rowsB]
/-- A list of pieces that can be read. -/
structure OwnB (w : World) (q : Option Addr) (n c : Nat) (ls : List Bp) : Prop where
  ow : w.ownsRow 0 30 1 (.slice q n c) n (rowsB ls)
  ln : ls.length = n
  it : ∀ x ∈ ls, Rv w x.p (rowsP x.ps) ∧ (∀ k ∈ blk x.p, k ∉ blk q ∧ k < w.heap.size) ∧ x.ps.length ≤ x.c
theorem OwnB.k0 {w w' : World} {q : Option Addr} {n c : Nat} {ls : List Bp} (h : OwnB w q n c ls) (hf : Frm [] w w') : OwnB w' q n c ls :=
  ⟨ownsRow_kept h.ow hf (by simp), h.ln, fun x hx => ⟨(h.it x hx).1.kept hf (by simp), fun k hk => ⟨((h.it x hx).2.1 k hk).1, Nat.lt_of_lt_of_le ((h.it x hx).2.1 k hk).2 hf.size⟩, (h.it x hx).2.2⟩⟩
theorem OwnB.at {w : World} {q : Option Addr} {n c : Nat} {ls : List Bp} (h : OwnB w q n c ls) {i : Nat} {x : Bp} (hx : ls[i]? = some x) : ∃ g, q = some ⟨g, 0, none⟩ ∧ w.cell? ⟨g, i, none⟩ = some (.slice x.p x.ps.length x.c) := by
  have hlt : i < n := by rw [← h.ln]; exact (List.getElem?_eq_some_iff.1 hx).1
  rcases h.ow.2 with ⟨_, h0⟩ | ⟨g, c', cur, he, _, hg, _⟩
  · omega
  · simp only [Value.slice.injEq] at he
    obtain ⟨rfl, _, _⟩ := he
    refine ⟨g, rfl, ?_⟩
    rw [World.ownsRow.cellAt h.ow i (by omega)]
    simp [rowsB, hx, Bp.v]
def CutP (w : World) (n : Nat) (l : List P9) (e : Ending) (w' : World) : Prop := ∃ q m cq ls, e = .returned (.slice q m cq) ∧ OwnB w' q m cq ls ∧ ls.map Bp.ps = cutL n l ∧ Frm [] w w' ∧ ∀ k ∈ blk q, w.heap.size ≤ k
set_option maxHeartbeats 6400000 in
theorem cutp_any (n : Nat) (hn : 1 ≤ n ∧ n ≤ 1048576) (p : Option Addr) (L c : Nat) (l : List P9) (w : World) (hr : Rv w p (rowsP l)) (hL : l.length = L) (hb : L ≤ 1000000) (hc : L ≤ c ∧ c ≤ 9223372036854775807) :
    Calls Try.prog 31 #[.slice p L c, .int .i64 (n : Int)] w (CutP w n l) := by
  obtain ⟨PO, hPO⟩ : ∃ PO : Ending → World → Prop, CutP w n l = PO := ⟨_, rfl⟩
  rw [hPO]
  have HP : Hid (∀ q m cq ls w', OwnB w' q m cq ls → ls.map Bp.ps = cutL n l → Frm [] w w' → (∀ k ∈ blk q, w.heap.size ≤ k) → PO (.returned (.slice q m cq)) w') := hid (fun q m cq ls w' h1 h2 h3 h4 => by rw [← hPO]; exact ⟨q, m, cq, ls, rfl, h1, h2, h3, h4⟩)
  have HR := hid hr
  have HL := hid hL
  obtain ⟨hn0, hn1⟩ := hn
  clear hr hL hPO
  go_enter Try.func31, Try.ntmps31
  go_wp2_with fail
  go_loopw [0, 5] (fun s0 s5 wr => ∃ (t r : Nat) (pa : Option Addr) (ca : Nat) (q : Option Addr) (cq : Nat) (ls : List Bp), s0 = .slice pa r ca ∧ s5 = .slice q t cq ∧ r ≤ L ∧ r ≤ ca ∧ ca ≤ 9223372036854775807 ∧ t ≤ L ∧ Hid (t * n + r = L ∨ (r = 0 ∧ L ≤ t * n ∧ t * n < L + n)) ∧ Hid (Frm [] w wr ∧ Rv w pa (rowsP (l.drop (t * n))) ∧ OwnB wr q t cq ls ∧ ls.map Bp.ps = (List.range t).map (fun i => pc n i l) ∧ ∀ k ∈ blk q, w.heap.size ≤ k)) (fun s0 _ _ => lenK s0)
  case atStart => exact ⟨0, L, p, c, none, 0, [], rfl, rfl, Nat.le_refl _, hc.1, hc.2, Nat.zero_le _, hid (Or.inl (by omega)), hid ⟨Frm.refl _ _, by simpa using HR.out, ⟨⟨rfl, Or.inl ⟨rfl, rfl⟩⟩, rfl, by simp⟩, rfl, by simp [blk]⟩⟩
  case round =>
    obtain ⟨t, r, pa, ca, q, cq, ls, rfl, rfl, hrL, hrc, hca, htL, hT, hin⟩ := hrel
    by_cases hlt : 0 < r
    · have t1 : (0 : Int) < (r : Int) := by omega
      obtain ⟨k, hk⟩ : ∃ k, min n r = k := ⟨_, rfl⟩
      have hkb : 0 < k ∧ k ≤ r ∧ k ≤ n ∧ k ≤ ca ∧ (k = n ∨ k = r) := by omega
      have hmin : ∀ (ts : Array TypeId) (ty : TypeId) (W : World), Sem.run Try.prog (Builtin.min_ ts ty #[.int .i64 (n : Int), .int .i64 (r : Int)]) W = .ok (.int .i64 (k : Int)) W := by
        intro ts ty W
        have h := run_min_int2 (P := Try.prog) (w := W) ts ty .i64 .i64 (n : Int) (r : Int)
        rw [h]
        have e : (if (r : Int) < (n : Int) then (r : Int) else (n : Int)) = (k : Int) := by split <;> omega
        first | rw [e] | simp [e] | (simp; omega)
      have hTT : Hid (t * n + r = L) := hid (by rcases hT.out with h | h <;> omega)
      have hsl1 := fun W => sl_h (P := Try.prog) Try.underlying30 infoP9 pa r ca k (by omega) W
      have hsl2 := fun W => sl_l (P := Try.prog) Try.underlying30 infoP9 pa r ca k (by omega) W
      have hdl : (l.drop (t * n)).length = r := by rw [List.length_drop, HL.out]; have := hTT.out; omega
      have hrp := partAt_rv (sz := 9) pa ca k (rowsP (l.drop (t * n))) r (by rw [rowsP_len, hdl]) (by omega) hrc hin.out.2.1
      rw [rowsP_drop, List.drop_drop] at hrp
      obtain ⟨pp, hpp⟩ : ∃ z, partAt pa ca k 9 = z := ⟨_, rfl⟩
      rw [hpp] at hrp hsl2
      have HRP : Hid (Rv w pp (rowsP (l.drop ((t + 1) * n)))) := hid (by
        rcases Nat.lt_or_ge r n with h1 | h1
        · rw [List.drop_of_length_le (by rw [HL.out, Nat.succ_mul]; have := hTT.out; omega)]; exact Or.inl rfl
        · rw [Nat.succ_mul, show n = k by omega]; rw [show n = k by omega] at hrp; exact hrp)
      have hpl : ((l.drop (t * n)).take k).length = k := by rw [List.length_take, hdl]; omega
      have hpe : (l.drop (t * n)).take k = pc n t l := by
        unfold pc
        rcases Nat.lt_or_ge r n with h1 | h1
        · rw [List.take_of_length_le (by omega), List.take_of_length_le (by omega)]
        · rw [show k = n by omega]
      have HPL := hid hpl
      have HPE := hid hpe
      have HIN := hid hin.out
      have HOE : Hid ((wr.alloc (.cells #[] 40)).ownsRow 0 40 9 (.slice (some ⟨wr.heap.size, 0, none⟩) 0 0) 0 (rowsP [])) := hid ⟨rfl, Or.inr ⟨wr.heap.size, 0, #[], rfl, by omega, heap_alloc_new _ _, by simp, by unfold maxLen; omega, rfl, rfl⟩⟩
      have HRT : Hid (Rv (wr.alloc (.cells #[] 40)) pa (rowsP ((l.drop (t * n)).take k))) := hid (by
        rw [← rowsP_take]
        exact ((hin.out.2.1.takeV).kept hin.out.1 (by simp)).kept ((Frm.refl [] wr).alloc (.cells #[] 40)) (by simp))
      have hkb1 := hkb.1
      clear hrp hpl hpe hin hT hk hpp hdl
      go_wp2_with (at_builtin; refine wpList_appV rfl _ _ 30 rfl 40 9 72 _ Try.underlying30 infoP9 rfl (by decide) (some ⟨wr.heap.size, 0, none⟩) 0 0 (rowsP []) rfl HOE.out pa k ca (rowsP ((l.drop (t * n)).take k)) rfl (by rw [rowsP_len, HPL.out]) (fun h0 _ => by omega) HRT.out (rowsP_one _) (by unfold maxLen; omega) (by omega) ?_)
      intro p2 c2 w1 ho1 hf1 hb1
      have hf1' : Frm [] wr w1 := ((Frm.refl [] wr).alloc (.cells #[] 40)).trans hf1.out (fun i hi hl => by simp [blk] at hi; omega)
      have HB1 : Hid (∀ i ∈ blk p2, wr.heap.size ≤ i) := hid (fun i hi => (hb1.out i hi).elim (fun h => by simp [blk] at h; omega) (fun h => by first | omega | (simp at h; omega)))
      have HO1 : Hid (w1.ownsRow 0 40 9 (.slice p2 k c2) k (rowsP (pc n t l))) := hid (by
        have h := ho1.out
        rw [HPE.out] at h
        simpa [rowsP] using h)
      have HF1 := hid hf1'
      have e0 : 0 + k = k := by omega
      try rw [e0]
      have HA := hid ((Frm.refl [] w1).alloc (.cells #[.slice p2 k c2] 30))
      have HRV := hid (rv_block (heap_alloc_new w1 (.cells #[.slice p2 k c2] 30)))
      have HOW := hid (ownsRow_kept HIN.out.2.2.1.ow (hf1'.trans HA.out (by simp)) (by simp))
      clear ho1 hf1 hb1 hf1' HOE HRT
      go_wp2_with (at_builtin; refine wpList_appV rfl _ _ 61 rfl 30 1 24 _ Try.underlying61 infoPs rfl (by decide) q t cq (rowsB ls) rfl HOW.out (some ⟨w1.heap.size, 0, none⟩) 1 1 [.slice p2 k c2] rfl rfl (by simp) HRV.out (by intro u hu; simp at hu; subst hu; rfl) (by unfold maxLen; omega) (by omega) ?_)
      intro q3 c3 w3 ho3 hf3 hb3
      have HNX : Hid (Frm [] w w3 ∧ OwnB w3 q3 (t + 1) c3 (ls ++ [⟨p2, c2, pc n t l⟩]) ∧ (ls ++ [(⟨p2, c2, pc n t l⟩ : Bp)]).map Bp.ps = (List.range (t + 1)).map (fun i => pc n i l) ∧ ∀ k ∈ blk q3, w.heap.size ≤ k) := hid (by
        obtain ⟨a1, a2, a3, a4, a5⟩ := HIN.out
        have hz := a1.size
        have hz1 := HF1.out.size
        have hzA := HA.out.size
        have hz3 := hf3.out.size
        have hlow := ownsRow_low a3.ow
        have hF : Frm (blk q) wr w3 := ((HF1.out.trans HA.out (by simp)).mono (by simp)).trans hf3.out (fun k hk _ => hk)
        have hF1 : Frm (blk q) w1 w3 := (HA.out.mono (by simp)).trans hf3.out (fun k hk _ => hk)
        have hkl : (pc n t l).length = k := by rw [← HPE.out]; exact HPL.out
        have hbq : ∀ i ∈ blk q3, i ∈ blk q ∨ w1.heap.size ≤ i := fun i hi => (hb3.out i hi).imp (fun h => h) (fun h => by first | omega | (simp at h; omega))
        refine ⟨a1.trans hF (fun i hi hl => by have := a5 i hi; omega), ⟨?_, by rw [List.length_append, a3.ln]; rfl, fun y hy => ?_⟩, ?_, fun i hi => ?_⟩
        · have h := ho3.out
          unfold rowsB at h ⊢
          rw [List.map_append]
          simpa [Bp.v, hkl] using h
        · rcases List.mem_append.1 hy with hy | hy
          · obtain ⟨b1, b2, b3⟩ := a3.it y hy
            exact ⟨b1.kept hF (fun i hi hm => (b2 i hi).1 hm), fun i hi => ⟨fun hm => by
              rcases hbq i hm with h | h
              · exact (b2 i hi).1 h
              · have := (b2 i hi).2; omega, by have := (b2 i hi).2; omega⟩, b3⟩
          · rw [List.mem_singleton] at hy
            subst hy
            have hl1 := ownsRow_low HO1.out
            have hnq : ∀ i ∈ blk p2, i ∉ blk q := fun i hi hm => by have := HB1.out i hi; have := hlow i hm; omega
            have hrv : Rv w1 p2 (rowsP (pc n t l)) := by
              rcases HO1.out.2 with ⟨_, h0⟩ | ⟨g, c', cur, he, _⟩
              · omega
              · simp only [Value.slice.injEq] at he
                obtain ⟨rfl, _, _⟩ := he
                have hcell := fun i hi => World.ownsRow.cellAt HO1.out i hi
                refine Or.inr ⟨g, 0, rfl, fun i u hu => ?_⟩
                have hi := (List.getElem?_eq_some_iff.1 hu).1
                rw [rowsP_len, hkl] at hi
                rw [Nat.zero_add, hcell i hi]
                exact hu
            refine ⟨hrv.kept hF1 hnq, fun i hi => ⟨fun hm => ?_, by have := hl1 i hi; have := hF1.size; omega⟩, ?_⟩
            · rcases hbq i hm with h | h
              · exact hnq i hi h
              · have := hl1 i hi; omega
            · show (pc n t l).length ≤ c2
              rw [hkl]
              rcases HO1.out.2 with ⟨_, h0⟩ | ⟨g, c', cur, he, _, _, hc, _⟩
              · omega
              · simp only [Value.slice.injEq] at he
                omega
        · rw [List.map_append, a4, List.range_succ, List.map_append, List.map_singleton, List.map_singleton]
        · rcases hbq i hi with h | h
          · exact a5 i h
          · omega)
      have HT2 : Hid ((t + 1) * n + (r - k) = L ∨ (r - k = 0 ∧ L ≤ (t + 1) * n ∧ (t + 1) * n < L + n)) := hid (by have := hTT.out; rw [Nat.succ_mul]; omega)
      have hb2 : r - k ≤ L ∧ r - k ≤ ca - k ∧ ca - k ≤ 9223372036854775807 ∧ t + 1 ≤ L := by
        have h1 := hTT.out
        have h2 : t ≤ t * n := Nat.le_mul_of_pos_right t hn0
        omega
      clear ho3 hf3 hb3 HOW HRV HA HIN hmin hsl1
      go_wp2_with fail
      go_roundw
      case rel => exact ⟨t + 1, r - k, pp, ca - k, q3, c3, _, rfl, by go_num, hb2.1, hb2.2.1, hb2.2.2.1, hb2.2.2.2, HT2, hid ⟨HNX.out.1, HRP.out, HNX.out.2.1, HNX.out.2.2.1, HNX.out.2.2.2⟩⟩
      case measure => first | (simp [lenK]; done) | (simp [lenK]; omega)
    · obtain rfl : r = 0 := by omega
      have HFIN : Hid (np n L = t) := hid (by rcases hT.out with h | ⟨_, h1, h2⟩ <;> exact np_eq hn0 (by omega) (by omega))
      have HIN := hid hin.out
      clear hin hT
      go_wp2_with fail
      first | go_returns | skip
      exact HP.out q t cq ls wr HIN.out.2.2.1 (by rw [HIN.out.2.2.2.1]; unfold cutL; rw [HL.out, HFIN.out]) HIN.out.1 HIN.out.2.2.2.2
end
section
open Go.RowKit Go.Lib
set_option maxRecDepth 100000

theorem bv_len (zs : List Int) : (bv zs).length = zs.length := by simp [bv]
theorem bv_app (a b : List Int) : bv (a ++ b) = bv a ++ bv b := by simp [bv]
def flat (ls : List Bk) : List Int := (ls.map Bk.bs).flatten
theorem flat_step {ls : List Bk} {i : Nat} {x : Bk} (h : ls[i]? = some x) : flat (ls.take (i + 1)) = flat (ls.take i) ++ x.bs := by
  unfold flat
  rw [List.take_add_one, h]
  simp
theorem flat_le (ls : List Bk) (i : Nat) : (flat (ls.take i)).length ≤ (flat ls).length := by
  have h : flat ls = flat (ls.take i) ++ flat (ls.drop i) := by
    unfold flat
    rw [← List.flatten_append, ← List.map_append, List.take_append_drop]
  rw [h, List.length_append]; omega
def JoinA (w : World) (ls : List Bk) (e : Ending) (w' : World) : Prop := ∃ x : Bk, e = .returned x.v ∧ x.bs = flat ls ∧ BkOk w' x ∧ Frm [] w w' ∧ ∀ k ∈ blk x.p, w.heap.size ≤ k
set_option maxHeartbeats 12800000 in
theorem join_any (q : Option Addr) (m cq : Nat) (ls : List Bk) (w : World) (h : OwnK w q m cq ls) (hm : 1 ≤ m) (hmc : m ≤ cq ∧ cq ≤ 9223372036854775807) (hb : (flat ls).length ≤ 65536) (hne : ∀ x ∈ ls, x.bs ≠ []) :
    Calls Try.prog 33 #[.slice q m cq, .slice none 0 0] w (JoinA w ls) := by
  obtain ⟨PO, hPO⟩ : ∃ PO : Ending → World → Prop, JoinA w ls = PO := ⟨_, rfl⟩
  rw [hPO]
  have HP : Hid (∀ (p : Option Addr) (n c : Nat) (bs : List Int) w', bs.length = n → bs = flat ls → BkOk w' ⟨p, c, bs⟩ → Frm [] w w' → (∀ k ∈ blk p, w.heap.size ≤ k) → PO (.returned (.slice p n c)) w') := hid (fun p n c bs w' h0 h1 h2 h3 h4 => by subst h0; rw [← hPO]; exact ⟨⟨p, c, bs⟩, rfl, h1, h2, h3, h4⟩)
  have H := hid h
  have HNE := hid hne
  have HMM := hid hmc
  obtain ⟨N, hN⟩ : ∃ q, (flat ls).length = q := ⟨_, rfl⟩
  have HN := hid hN
  rw [hN] at hb
  have hln := h.ln
  have HLN := hid hln
  obtain ⟨x0, hx0⟩ : ∃ x, ls[0]? = some x := ⟨_, List.getElem?_eq_getElem (by rw [hln]; omega)⟩
  have HX0 := hid hx0
  obtain ⟨g, cur, hq, _, hc0⟩ := h.at hx0
  subst hq
  have hx0m := List.mem_of_getElem? hx0
  obtain ⟨k0, hk0⟩ : ∃ q, x0.bs.length = q := ⟨_, rfl⟩
  have HK0 := hid hk0
  rw [hk0] at hc0
  have hk0N : k0 ≤ N := by
    have h1 := flat_step hx0
    have h2 := flat_le ls (0 + 1)
    rw [h1, List.length_append] at h2
    omega
  have HRD0 := hid (h.it x0 hx0m).1
  have HM := hid hm
  have hmb : m ≤ 9223372036854775807 := by have := hmc; omega
  clear h hne hmc hN hln hx0 hx0m hk0 hPO
  go_enter Try.func33, Try.ntmps33
  have hm0 : ((m : Int) == 0) = false := by simp; omega
  by_cases h1 : m = 1
  · subst h1
    have HFE : Hid (flat ls = x0.bs) := hid (by
      have h2 := flat_step HX0.out
      rw [List.take_of_length_le (by rw [HLN.out]; omega)] at h2
      rw [h2]; rfl)
    go_wp2_with (at_builtin; refine wpList_appB rfl _ _ 22 rfl 5 Try.underlying22 infoU8 none 0 0 [] rfl rfl (Own.nil _ _) x0.p k0 x0.c x0.bs rfl HK0.out.symm (fun h0 _ => absurd h0 (HNE.out x0 (List.mem_of_getElem? HX0.out))) HRD0.out.rd (by simp only [List.length_nil]; rw [HK0.out]; omega) ?_)
    intro xs p2 c2 w1 hxs ho1 hf1 hb1
    have hxe : xs = x0.bs := by simpa using hxs.out
    subst hxe
    have HF1 : Hid (Frm [] w w1) := hid (by have := hf1.out; simpa [blk] using this)
    have HB1 : Hid (∀ k ∈ blk p2, w.heap.size ≤ k) := hid (fun k hk => by have := hb1.out k hk; simpa [blk] using this)
    have HO1 := hid ho1.out
    clear hxs ho1 hf1 hb1
    go_wp2_with fail
    first | go_returns | skip
    exact HP.out p2 _ c2 _ _ rfl HFE.out.symm (BkOk.of_own (x := ⟨p2, c2, x0.bs⟩) HO1.out) HF1.out HB1.out
  · have hm1 : ((m : Int) == 1) = false := by simp; omega
    have hm2 : 2 ≤ m := by have := HM.out; omega
    go_wp2_with fail
    go_loopw [44, 5] (fun i s5 wr => ∃ (t : Nat) (f : Nat), t ≤ m ∧ i = .int .i64 (t : Int) ∧ s5 = .int .i64 (f : Int) ∧ f ≤ N ∧ Hid (wr = w ∧ f = (flat (ls.take t)).length)) (fun i _ _ => m - (intOf i).toNat)
    case atStart => exact ⟨0, 0, Nat.zero_le _, rfl, rfl, Nat.zero_le _, hid ⟨rfl, rfl⟩⟩
    case round =>
      obtain ⟨t, f, ht, rfl, rfl, hfN, hin⟩ := hrel
      have hwr := hin.out.1
      have HFF := hid hin.out.2
      subst hwr
      clear hin
      by_cases hlt : t < m
      · have t1 : (t : Int) < (m : Int) := by omega
        obtain ⟨x, hx⟩ : ∃ x, ls[t]? = some x := ⟨_, List.getElem?_eq_getElem (by rw [HLN.out]; exact hlt)⟩
        obtain ⟨g', _, hg', _, hct⟩ := H.out.at hx
        obtain rfl : g = g' := by simpa using hg'
        have HST := hid (flat_step hx)
        obtain ⟨kx, hkx⟩ : ∃ q, x.bs.length = q := ⟨_, rfl⟩
        rw [hkx] at hct
        have hfx : f + kx ≤ N := by
          have h2 := flat_le ls (t + 1)
          rw [HST.out, List.length_append, hkx, ← HFF.out, HN.out] at h2
          exact h2
        have HF2 : Hid (f + kx = (flat (ls.take (t + 1))).length) := hid (by rw [HST.out, List.length_append, hkx, ← HFF.out])
        clear hx hkx hg'
        go_wp2_with fail
        go_roundw
        case rel => exact ⟨t + 1, f + kx, by omega, by go_num, by go_num, hfx, hid ⟨by first | rfl | trivial, HF2.out⟩⟩
        case measure => first | (simp [intOf]; done) | (simp [intOf]; omega)
      · obtain rfl : t = m := by omega
        have hfe : f = N := by rw [HFF.out, List.take_of_length_le (by rw [HLN.out]; exact Nat.le_refl _), HN.out]
        subst hfe
        obtain ⟨cs, hrunM, hle, _⟩ := Lib.run_makeNoZero (P := Try.prog) wr #[3] 22 5 Try.underlying22 f (by omega)
        have hcall : (callFunc 48 #[.int .i64 (f : Int)]).run Try.prog wr = .ok (.value (.slice (some ⟨wr.heap.size, 0, none⟩) f cs.size)) ((wr.alloc (.cells cs 5)).drewN 2) := by
          rw [run_callFunc_extern Try.func48 (by kernel_rfl) (by kernel_rfl) (by kernel_rfl) (e := Extern.BytealgMakeNoZero.makeNoZero #[3] #[22]) (by kernel_rfl), hrunM]
          rfl
        clear hrunM
        have i1 : (f : Int) ≤ (cs.size : Int) := by omega
        go_upto_region 18 with fail
        obtain ⟨W1, hW1⟩ : ∃ q, (wr.alloc (.cells cs 5)).drewN 2 = q := ⟨_, rfl⟩
        have hfA : Frm [] wr W1 := by rw [← hW1]; exact ((Frm.refl [] wr).alloc _).drewN 2
        have hbg : W1.heap[wr.heap.size]? = some (.cells cs.toList.toArray 5 (0, 0)) := by rw [← hW1]; exact heap_alloc_to _ _ rfl
        have q0 : W1.cell? ⟨g, 0, none⟩ = some (.slice x0.p k0 x0.c) := (hfA.cell (World.block_lt_of_cell? wr _ hc0) (by simp)).trans hc0
        obtain ⟨gb, hgb⟩ : ∃ q, wr.heap.size = q := ⟨_, rfl⟩
        rw [hgb] at hbg ⊢
        have HGB := hid hgb
        have HFA := hid hfA
        have HBG := hid hbg
        have HC := hid hle
        have HRV0 : Hid (Rv W1 x0.p (bv x0.bs)) := hid ((HRD0.out.rd.kept hfA (by simp)).rv)
        have hdn0 : Hid (0 + f * 1 ≤ cs.toList.length) := hid (by rw [Array.length_toList]; omega)
        have hmn0 : Hid (k0 = min k0 f) := hid (by omega)
        have hln0 : Hid ((bv x0.bs).length = k0 * 1) := hid (by rw [bv_len, HK0.out]; omega)
        rw [hW1]
        clear hW1 hfA hbg hgb hcall hc0 i1
        obtain ⟨w2, hrun2, hg2', hf2'⟩ := run_copyG (P := Try.prog) (w := W1) Try.underlying22 infoU8 3 (by decide) (some ⟨gb, 0, none⟩) f f gb 0 cs.toList 5 HBG.out (fun _ => rfl) hdn0.out x0.p k0 x0.c k0 (bv x0.bs) hmn0.out hln0.out HRV0.out bv_one
        have hg2 := hid hg2'
        have hf2 := hid hf2'
        clear hg2' hf2'
        go_upto_region 19 with fail
        have HB2 : Hid (∃ D : List Value, w2.heap[gb]? = some (.cells (bv (flat (ls.take 1)) ++ D).toArray 5 (0, 0)) ∧ f ≤ (bv (flat (ls.take 1)) ++ D).length) := hid (by
          refine ⟨cs.toList.drop k0, ?_, ?_⟩
          · have h2 := hg2.out
            have h3 := flat_step HX0.out
            rw [h3]
            simpa [flat] using h2
          · have h3 := flat_step HX0.out
            have := HC.out
            have hk := HK0.out
            rw [h3]
            simp [flat, bv_len, hk]
            omega)
        have HF2 : Hid (Frm [gb] W1 w2) := hf2
        clear hrun2
        have hk1 : k0 = (flat (ls.take 1)).length := by
          have h3 := flat_step HX0.out
          rw [h3]
          simp [flat, HK0.out]
        have HK1 := hid hk1
        clear hg2 hf2 hk1 q0
        have hsl : ∀ W : World, (Instr.slice 25 (.slice (some ⟨g, 0, none⟩) t cq) (some (.int .i64 1)) none none).run Try.prog W = .ok (.slice (partAt (some ⟨g, 0, none⟩) cq 1 1) (t - 1) (cq - 1)) W := fun W => sl_l (P := Try.prog) Try.underlying25 infoK (some ⟨g, 0, none⟩) t cq 1 (by omega) W
        have hpa : partAt (some ⟨g, 0, none⟩) cq 1 1 = some ⟨g, 1, none⟩ := by
          unfold partAt
          rw [if_neg (by have := HMM.out; omega)]
          simp [Addr.add]
        rw [hpa] at hsl
        have hnsl : t - 1 ≤ 9223372036854775807 := by omega
        clear hpa
        go_wp2_with fail
        obtain ⟨wA, rfl⟩ : ∃ z, z = wr := ⟨_, rfl⟩
        go_loopw [72, 9, 11] (fun i s9 s11 wr' => ∃ (j b : Nat), j ≤ t - 1 ∧ i = .int .i64 (j : Int) ∧ s9 = .int .i64 (b : Int) ∧ b ≤ f ∧ Hid (b = (flat (ls.take (j + 1))).length ∧ Frm [gb] W1 wr' ∧ ∃ D : List Value, wr'.heap[gb]? = some (.cells (bv (flat (ls.take (j + 1))) ++ D).toArray 5 (0, 0)) ∧ f ≤ (bv (flat (ls.take (j + 1))) ++ D).length)) (fun i _ _ _ => (t - 1) - (intOf i).toNat)
        case atStart => exact ⟨0, k0, Nat.zero_le _, rfl, rfl, hk0N, hid ⟨HK1.out, HF2.out, HB2.out⟩⟩
        case round =>
          obtain ⟨j, b, hj, rfl, rfl, hbf, hin⟩ := hrel
          by_cases hlt3 : j < t - 1
          · have t1 : (j : Int) < ((t - 1 : Nat) : Int) := by omega
            obtain ⟨x, hx⟩ : ∃ x, ls[j + 1]? = some x := ⟨_, List.getElem?_eq_getElem (by rw [HLN.out]; omega)⟩
            obtain ⟨g', _, hg', _, hct⟩ := H.out.at hx
            obtain rfl : g = g' := by simpa using hg'
            have hxm := List.mem_of_getElem? hx
            have HST := hid (flat_step hx)
            obtain ⟨kx, hkx⟩ : ∃ q, x.bs.length = q := ⟨_, rfl⟩
            rw [hkx] at hct
            have hbx : b + kx ≤ f := by
              have h2 := flat_le ls (j + 1 + 1)
              rw [HST.out, List.length_append, hkx, ← hin.out.1, HN.out] at h2
              exact h2
            have hFr : Frm [] wA wr := HFA.out.trans hin.out.2.1 (fun i hi hl => by rw [List.mem_singleton] at hi; have := HGB.out; omega)
            have q1 : wr.cell? ⟨g, 1 + j, none⟩ = some (.slice x.p kx x.c) := by
              rw [show 1 + j = j + 1 by omega]
              exact (hFr.cell (World.block_lt_of_cell? wA _ hct) (by simp)).trans hct
            have HRVX : Hid (Rv wr x.p (bv x.bs)) := hid (((H.out.it x hxm).1.rd.kept hFr (by simp)).rv)
            obtain ⟨pp, hpp⟩ : ∃ z, partAt (some ⟨gb, 0, none⟩) f b 1 = z := ⟨_, rfl⟩
            have hppe : Hid (0 < f - b → pp = some ⟨gb, b, none⟩) := hid (fun h0 => by
              rw [← hpp]
              unfold partAt
              rw [if_neg (by omega)]
              simp [Addr.add]
              omega)
            have hslB := fun W => sl_l (P := Try.prog) Try.underlying22 infoU8 (some ⟨gb, 0, none⟩) f f b hbf W
            rw [hpp] at hslB
            have hcn : (Builtin.copy_ #[22, 22] 3 #[.slice pp (f - b) (f - b), .slice none 0 0]).run Try.prog wr = .ok (.int .i64 0) wr := run_copy_none (P := Try.prog) wr _ _ _ _ pp none (f - b) (f - b) 0 0 Try.underlying22 (by kernel_rfl) (Nat.zero_min _)
            obtain ⟨hbe, hfb, D, hgD, hfD⟩ := hin.out
            have hblen : (bv (flat (ls.take (j + 1)))).length = b := by rw [bv_len]; exact hbe.symm
            obtain ⟨w5, hrun5, hg5, hf5⟩ := run_copyG (P := Try.prog) (w := wr) Try.underlying22 infoU8 3 (by decide) pp (f - b) (f - b) gb b _ 5 hgD hppe.out (by omega) x.p kx x.c kx (bv x.bs) (by omega) (by rw [bv_len, hkx]; omega) HRVX.out bv_one
            have HNX : Hid (b + kx = (flat (ls.take (j + 1 + 1))).length ∧ Frm [gb] W1 w5 ∧ ∃ D : List Value, w5.heap[gb]? = some (.cells (bv (flat (ls.take (j + 1 + 1))) ++ D).toArray 5 (0, 0)) ∧ f ≤ (bv (flat (ls.take (j + 1 + 1))) ++ D).length) := hid (by
              refine ⟨by rw [HST.out, List.length_append, hkx, ← hbe], hfb.trans hf5 (fun i hi _ => hi), (bv (flat (ls.take (j + 1))) ++ D).drop (b + kx * 1), ?_, ?_⟩
              · rw [hg5, List.take_append_of_le_length (by omega), List.take_of_length_le (by omega), HST.out, bv_app]
              · rw [HST.out, bv_app, List.length_append, List.length_append, List.length_drop, hblen, bv_len, hkx]
                omega)
            have HB5 := hid hbx
            clear hpp hin hbe hfb hgD hfD hblen hg5 hf5 hx hxm hg' hct hFr hppe HRVX HST
            go_wp2_with fail
            go_roundw
            case rel => exact ⟨j + 1, b + kx, by omega, by go_num, by go_num, hbx, HNX⟩
            case measure => first | (simp [intOf]; done) | (simp [intOf]; omega)
          · obtain rfl : j = t - 1 := by omega
            have hjt : t - 1 + 1 = t := by omega
            have hFr : Frm [] wA wr := HFA.out.trans hin.out.2.1 (fun i hi hl => by rw [List.mem_singleton] at hi; have := HGB.out; omega)
            have HFIN : Hid (BkOk wr ⟨some ⟨gb, 0, none⟩, f, flat ls⟩) := hid (by
              obtain ⟨hbe, hfb, D, hgD, hfD⟩ := hin.out
              rw [hjt, List.take_of_length_le (by rw [HLN.out]; exact Nat.le_refl _)] at hgD
              refine ⟨Or.inr ⟨gb, _, rfl, hgD, ?_⟩, fun k hk => by simp [blk] at hk; subst hk; exact lt_of_heap hgD, Nat.le_of_eq HN.out, by show f ≤ _; omega⟩
              show List.take _ (bv (flat ls) ++ D) = _
              rw [List.take_append_of_le_length (by rw [bv_len]; exact Nat.le_refl _), List.take_of_length_le (by rw [bv_len]; exact Nat.le_refl _)])
            have HFR := hid hFr
            clear hin hFr hjt
            go_wp2_with fail
            first | go_returns | skip
            exact HP.out _ f f (flat ls) _ HN.out rfl HFIN.out HFR.out (fun k hk => by simp [blk] at hk; have := HGB.out; omega)
theorem str_injB {xs ys : List Int} (hx : ∀ z ∈ xs, 0 ≤ z ∧ z < 256) (hy : ∀ z ∈ ys, 0 ≤ z ∧ z < 256) (h : strOfNums xs = strOfNums ys) : xs = ys := by
  have h1 := congrArg (fun s : ByteArray => s.data.toList) h
  simp only [strOfNums_data] at h1
  have key : ∀ zs : List Int, (∀ z ∈ zs, 0 ≤ z ∧ z < 256) → (zs.map fun n => UInt8.ofNat n.toNat).map (fun b => (b.toNat : Int)) = zs := by
    intro zs hz
    rw [List.map_map]
    conv => rhs; rw [← List.map_id zs]
    apply List.map_congr_left
    intro z hm
    have := hz z hm
    simp
    omega
  rw [← key xs hx, ← key ys hy, h1]
theorem toInjB {xs ys : List Int} (h : (strOfNums xs).toList = (strOfNums ys).toList) : strOfNums xs = strOfNums ys := by
  rw [Lib.strOfNums_toList, Lib.strOfNums_toList] at h
  have h2 : (strOfNums xs).data.toList = (strOfNums ys).data.toList := h
  have h3 := Array.toList_inj.1 h2
  cases hs : strOfNums xs
  cases ht : strOfNums ys
  rw [hs, ht] at h3
  simp only at h3
  rw [h3]
theorem str_txB (B : ByteArray) : strOfNums (tx B) = B := by
  cases B with
  | mk d => simp [strOfNums, tx, Function.comp_def]
theorem ba_injB {A B : ByteArray} (h : A.toList = B.toList) : A = B := by
  rw [← str_txB A, ← str_txB B] at h ⊢
  exact toInjB h
theorem str_eqB {xs ys : List Int} (hx : ∀ z ∈ xs, 0 ≤ z ∧ z < 256) (hy : ∀ z ∈ ys, 0 ≤ z ∧ z < 256) : ((strOfNums xs).toList == (strOfNums ys).toList) = decide (xs = ys) := by
  by_cases h : xs = ys
  · subst h; simp
  · rw [decide_eq_false h]
    refine beq_eq_false_iff_ne.2 (fun he => h (str_injB hx hy (ba_injB he)))
set_option maxHeartbeats 1600000 in
theorem equalB_any (p q : Option Addr) (n c m d : Nat) (a b : List Int) (w : World) (ha : Rd w p a) (hb : Rd w q b) (hn : a.length = n) (hm : b.length = m) (hza : ∀ z ∈ a, 0 ≤ z ∧ z < 256) (hzb : ∀ z ∈ b, 0 ≤ z ∧ z < 256) :
    Calls Try.prog 57 #[.slice p n c, .slice q m d] w fun e w' => e = .returned (.bool (decide (a = b))) ∧ w' = w := by
  have h1 := cv_any (P := Try.prog) (w := w) 22 5 9 Try.underlying22 Try.underlying5 Try.underlying9 (n := n) ha c hn
  have h2 := cv_any (P := Try.prog) (w := w) 22 5 9 Try.underlying22 Try.underlying5 Try.underlying9 (n := m) hb d hm
  have h3 := str_eqB hza hzb
  obtain ⟨B, hB⟩ : ∃ q, decide (a = b) = q := ⟨_, rfl⟩
  rw [hB] at h3 ⊢
  clear hB ha hb hza hzb hn hm
  go_enter Try.func57, Try.ntmps57
  go_wp2_with fail
  first | go_returns | skip
  first | exact ⟨rfl, rfl⟩ | (simp [h3]; done) | (refine ⟨?_, rfl⟩; simp [h3])
/-- How many blocks an object may take. -/
def costI (size : Int) : Int := if size ≤ 0 then 0 else (size - 1) / 1024 + 1 + ((size - 1) / 1024 / 16 + 1) + 1
set_option maxHeartbeats 1600000 in
theorem up_any (a b : Int) (w : World) (ha : 1 ≤ a ∧ a ≤ 9223372036854775807) (hb : b = 1024 ∨ b = 16) :
    Calls Try.prog 30 #[.int .i64 a, .int .i64 b] w fun e w' => e = .returned (.int .i64 ((a - 1) / b + 1)) ∧ w' = w := by
  obtain ⟨ha0, ha1⟩ := ha
  rcases hb with rfl | rfl
  · go_enter Try.func30, Try.ntmps30
    go_wp2_with fail
    first | go_returns | skip
    exact ⟨rfl, rfl⟩
  · go_enter Try.func30, Try.ntmps30
    go_wp2_with fail
    first | go_returns | skip
    exact ⟨rfl, rfl⟩
set_option maxHeartbeats 1600000 in
theorem cost_any (size : Int) (w : World) (h : -9223372036854775808 ≤ size ∧ size ≤ 9223372036854775807) :
    Calls Try.prog 15 #[.int .i64 size] w fun e w' => e = .returned (.int .i64 (costI size)) ∧ w' = w := by
  obtain ⟨E, hE⟩ : ∃ q, costI size = q := ⟨_, rfl⟩
  rw [hE]
  have HE := hid hE
  obtain ⟨h0, h1⟩ := h
  clear hE
  by_cases hs : size ≤ 0
  · have HEE : Hid (E = 0) := hid (by rw [← HE.out]; unfold costI; rw [if_pos hs])
    go_enter Try.func15, Try.ntmps15
    go_wp2_with fail
    first | go_returns | skip
    exact ⟨by rw [HEE.out]; rfl, rfl⟩
  · obtain ⟨k, hk⟩ : ∃ k, (size - 1) / 1024 = k := ⟨_, rfl⟩
    have hkb : 0 ≤ k ∧ k ≤ 9007199254740991 := by omega
    obtain ⟨hk0, hk1⟩ := hkb
    have HEE : Hid (E = k + 1 + (k / 16 + 1) + 1) := hid (by rw [← HE.out]; unfold costI; rw [if_neg hs, hk])
    have H1 := hid (up_any size 1024 w ⟨by omega, h1⟩ (Or.inl rfl))
    rw [hk] at H1
    have H2 := hid (up_any (k + 1) 16 w ⟨by omega, by omega⟩ (Or.inr rfl))
    rw [show k + 1 - 1 = k by omega] at H2
    clear hk
    go_enter Try.func15, Try.ntmps15
    go_wp2_with fail
    refine H1.out.mono ?_
    rintro e w' ⟨rfl, rfl⟩
    go_wp2_with fail
    refine H2.out.mono ?_
    rintro e w' ⟨rfl, rfl⟩
    go_wp2_with fail
    first | go_returns | skip
    exact ⟨by rw [HEE.out]; rfl, rfl⟩
end
end Go.Proofs.Ytkolbijhekbelaa
