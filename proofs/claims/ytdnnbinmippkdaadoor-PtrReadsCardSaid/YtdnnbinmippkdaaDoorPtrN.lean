/- Contracts of package ptr: Decode of a pointer. -/
import Derived.Test.YtdnnbinmippkdaaDoorPtrM
namespace Go.Proofs.YtdnnbinmippkdaaDoor
open Go.RowKit
set_option maxRecDepth 100000

def zero9 : P9 := ⟨0, 0, 0, 0, 0, 0, 0, 0, 0⟩
/-- Noughts to the end, taken up. -/
theorem pad_end (bs : List Int) (q L : Nat) (hL : bs.length = L) (hq : q ≤ L) :
    readS () q 0 (padT (bs.drop q) q (L : Int)) = if (bs.drop q).all (· == 0) then ((), L, 0) else ((), q, 14) := by
  have hlen : (bs.drop q).length = L - q := by rw [List.length_drop, hL]
  rw [readS_ok]
  unfold padT
  rw [if_neg (by omega), if_neg (by rw [hlen]; omega), show ((L : Int) - q).toNat = L - q by omega, List.take_of_length_le (by omega)]
  by_cases h : (bs.drop q).all (· == 0) = true
  · rw [if_neg (by rw [h]; simp), if_pos h]
    simp
    omega
  · rw [if_pos (by simpa using h), if_neg h]
    simp
/-- What Decode answers. -/
def decP (bs : List Int) : P9 × Int :=
  if bs.length ≠ 64 then (zero9, 41) else if (bs.drop 48).all (· == 0) = false then (zero9, 41) else if checkP (rdP bs 0) = 0 then (rdP bs 0, 0) else (zero9, checkP (rdP bs 0))
/-- A pointer is stored. -/
def st9 (w : World) (b : Nat) (p : P9) : World :=
  ((((((((w.setCell ⟨b, 0, none⟩ (.int .i64 p.top)).setCell ⟨b, 1, none⟩ (.int .i64 p.at_)).setCell ⟨b, 2, none⟩ (.int .i64 p.bytes)).setCell ⟨b, 3, none⟩ (.int .u64 p.birth)).setCell ⟨b, 4, none⟩ (.int .i64 p.kind)).setCell ⟨b, 5, none⟩ (.int .u64 p.sa)).setCell ⟨b, 6, none⟩ (.int .u64 p.sb)).setCell ⟨b, 7, none⟩ (.int .u64 p.sc)).setCell ⟨b, 8, none⟩ (.int .u64 p.sd)
theorem st9_row {w : World} {b : Nat} {T : TypeId} (p q : P9) (h : w.heap[b]? = some (.cells q.arr T (0, 0))) : (st9 w b p).heap[b]? = some (.cells p.arr T (0, 0)) ∧ Frm [b] w (st9 w b p) := by
  have h4 := sets_row b T [(0, .int .i64 p.top), (1, .int .i64 p.at_), (2, .int .i64 p.bytes), (3, .int .u64 p.birth), (4, .int .i64 p.kind), (5, .int .u64 p.sa), (6, .int .u64 p.sb), (7, .int .u64 p.sc), (8, .int .u64 p.sd)] w q.arr h
  unfold P9.arr at h4 ⊢
  simp only [List.foldl, List.setIfInBounds_toArray, List.set_cons_zero, List.set_cons_succ] at h4
  exact h4
theorem ptr_row {W : World} {pb : Nat} {p : P9} {T : TypeId} (h : W.heap[pb]? = some (.cells p.arr T (0, 0))) :
    W.cell? ⟨pb, 0, none⟩ = some (.int .i64 p.top) ∧ W.cell? ⟨pb, 1, none⟩ = some (.int .i64 p.at_) ∧ W.cell? ⟨pb, 2, none⟩ = some (.int .i64 p.bytes) ∧ W.cell? ⟨pb, 3, none⟩ = some (.int .u64 p.birth) ∧ W.cell? ⟨pb, 4, none⟩ = some (.int .i64 p.kind) ∧ W.cell? ⟨pb, 5, none⟩ = some (.int .u64 p.sa) ∧ W.cell? ⟨pb, 6, none⟩ = some (.int .u64 p.sb) ∧ W.cell? ⟨pb, 7, none⟩ = some (.int .u64 p.sc) ∧ W.cell? ⟨pb, 8, none⟩ = some (.int .u64 p.sd) := by
  refine ⟨?_, ?_, ?_, ?_, ?_, ?_, ?_, ?_, ?_⟩ <;> (rw [cell_of_row W _ _ _ _ _ h]; rfl)
theorem ptr_froz {W : World} {pb : Nat} {p : P9} {T : TypeId} (h : W.heap[pb]? = some (.cells p.arr T (0, 0))) :
    W.frozen? ⟨pb, 0, none⟩ = false ∧ W.frozen? ⟨pb, 1, none⟩ = false ∧ W.frozen? ⟨pb, 2, none⟩ = false ∧ W.frozen? ⟨pb, 3, none⟩ = false ∧ W.frozen? ⟨pb, 4, none⟩ = false ∧ W.frozen? ⟨pb, 5, none⟩ = false ∧ W.frozen? ⟨pb, 6, none⟩ = false ∧ W.frozen? ⟨pb, 7, none⟩ = false ∧ W.frozen? ⟨pb, 8, none⟩ = false :=
  ⟨frozen_of_row W pb 0 _ _ h, frozen_of_row W pb 1 _ _ h, frozen_of_row W pb 2 _ _ h, frozen_of_row W pb 3 _ _ h, frozen_of_row W pb 4 _ _ h, frozen_of_row W pb 5 _ _ h, frozen_of_row W pb 6 _ _ h, frozen_of_row W pb 7 _ _ h, frozen_of_row W pb 8 _ _ h⟩
/-- A result's block, a nought's, and the thing's. -/
structure TK (w0 W : World) (T : TypeId) (z p : Array Value) (rb tb : Nat) : Prop where
  rr : W.heap[rb]? = some (.cells z T (0, 0))
  nr : W.heap[rb + 1]? = some (.cells z T (0, 0))
  tr : W.heap[tb]? = some (.cells p T (0, 0))
  fr : Frm [] w0 W
  hr : w0.heap.size ≤ rb
theorem TK.call {w0 W W' : World} {T : TypeId} {z p : Array Value} {rb tb : Nat} {S : List Nat} (h : TK w0 W T z p rb tb) (hf : Frm S W W') (h1 : rb ∉ S) (h2 : rb + 1 ∉ S) (h3 : tb ∉ S) (h4 : ∀ i ∈ S, w0.heap.size ≤ i) : TK w0 W' T z p rb tb :=
  ⟨hf.heap h.rr h1, hf.heap h.nr h2, hf.heap h.tr h3, h.fr.trans hf (fun i hi hl => by have := h4 i hi; omega), h.hr⟩
/-- Two new blocks of one kind. -/
theorem GP2.born {T : TypeId} (w : World) (z : P9) : ((w.alloc (.cells z.arr T)).alloc (.cells z.arr T)).heap[w.heap.size]? = some (.cells z.arr T (0, 0)) ∧ ((w.alloc (.cells z.arr T)).alloc (.cells z.arr T)).heap[w.heap.size + 1]? = some (.cells z.arr T (0, 0)) ∧ Frm [] w ((w.alloc (.cells z.arr T)).alloc (.cells z.arr T)) := by
  have h2 : Frm [] (w.alloc (.cells z.arr T)) ((w.alloc (.cells z.arr T)).alloc (.cells z.arr T)) := (Frm.refl _ _).alloc _
  exact ⟨h2.heap (heap_alloc_new _ _) (by simp), heap_alloc_to _ _ (by simp), ((Frm.refl _ _).alloc _).trans h2 (by simp)⟩
set_option maxHeartbeats 3200000 in
theorem takePtr_any (ad : Option Addr) (n c : Nat) (bs : List Int) (w : World) (hn : bs.length = n) (hl : n ≤ 140737488355328) (hrd : Rd w ad bs) (hb : ∀ z ∈ bs, 0 ≤ z ∧ z < 256) :
    Calls Tryd.prog 43 #[.slice ad n c, .int .i64 64, .func (.func 44) #[] #[], .int .i64 41, .func (.func 13) #[] #[]] w fun e w' => e = .returned (.tuple #[.agg (decP bs).1.arr, .int .i64 (decP bs).2]) ∧ Frm [] w w' := by
  have HRD := hid hrd
  have HB := hid hb
  have HN := hid hn
  clear hrd hb hn
  have hZ : zero9.arr = #[.int .i64 0, .int .i64 0, .int .i64 0, .int .u64 0, .int .i64 0, .int .u64 0, .int .u64 0, .int .u64 0, .int .u64 0] := rfl
  have HZ := hid hZ
  have hcf0 := fun b W => callable (P := Tryd.prog) Tryd.func44 (by kernel_rfl) (by kernel_rfl) #[.pointer (some ⟨b, 0, none⟩)] W
  by_cases h64 : n = 64
  case neg =>
    have hne : ((n : Int) != 64) = true := by simp; omega
    have hd : decP bs = (zero9, 41) := by unfold decP; rw [if_pos (by rw [HN.out]; exact h64)]
    rw [hd]
    dsimp only
    rw [hZ]
    clear hZ hd
    go_enter Tryd.func43, Tryd.ntmps43
    go_wp2_with fail
    go_returns
    exact ⟨rfl, (((Frm.refl [] w).alloc _).trans ((Frm.refl [] _).alloc _) (by simp))⟩
  subst h64
  obtain ⟨p, hp⟩ : ∃ p, rdP bs 0 = p := ⟨_, rfl⟩
  obtain ⟨R, hR⟩ : ∃ R, decP bs = R := ⟨_, rfl⟩
  obtain ⟨C, hC⟩ : ∃ C, checkP p = C := ⟨_, rfl⟩
  have hR1 : (bs.drop 48).all (· == 0) = false → R = (zero9, 41) := fun h => by rw [← hR]; unfold decP; rw [if_neg (by rw [HN.out]; omega), if_pos h]
  have hR2 : (bs.drop 48).all (· == 0) = true → C = 0 → R = (p, 0) := fun h h0 => by rw [← hR]; unfold decP; rw [if_neg (by rw [HN.out]; omega), if_neg (by rw [h]; simp), hp, hC, if_pos h0]
  have hR3 : (bs.drop 48).all (· == 0) = true → C ≠ 0 → R = (zero9, C) := fun h h0 => by rw [← hR]; unfold decP; rw [if_neg (by rw [HN.out]; omega), if_neg (by rw [h]; simp), hp, hC, if_neg h0]
  have HR1 := hid hR1
  have HR2 := hid hR2
  have HR3 := hid hR3
  have HG := hid (fun b g W (h : IsR W b g bs 0 0) => getPtr_any b g 0 bs HB.out W h (by rw [HN.out]; omega))
  have HCK := hid (fun W => check9_any p W)
  have HBN := hid (GP2.born (T := 26) w zero9)
  rw [hp] at HG
  rw [hC] at HCK
  rw [hR]
  rw [hZ] at HBN
  unfold P9.arr at HG HCK
  clear hp hZ hR1 hR2 hR3 hC hR
  go_enter Tryd.func43, Tryd.ntmps43
  go_wp2_with fail
  obtain ⟨rb, hrb⟩ : ∃ rb, w.heap.size = rb := ⟨_, rfl⟩
  obtain ⟨wa, hwa⟩ : ∃ wa, (w.alloc (.cells #[.int .i64 0, .int .i64 0, .int .i64 0, .int .u64 0, .int .i64 0, .int .u64 0, .int .u64 0, .int .u64 0, .int .u64 0] 26)).alloc (.cells #[.int .i64 0, .int .i64 0, .int .i64 0, .int .u64 0, .int .i64 0, .int .u64 0, .int .u64 0, .int .u64 0, .int .u64 0] 26) = wa := ⟨_, rfl⟩
  rw [hwa, hrb] at HBN
  rw [hwa, hrb]
  have HRB := hid hrb
  clear hwa hrb
  have h1 := newReader_any ad c bs wa (HRD.out.kept HBN.out.2.2 (by simp)) (by rw [HN.out]; omega)
  rw [HN.out] at h1
  refine h1.mono ?_
  rintro e w1 ⟨b, g, rfl, hr, hf, hb1, hg1⟩
  have HBN1 := hid (And.intro (hf.heap HBN.out.1 (by simp)) (And.intro (hf.heap HBN.out.2.1 (by simp)) (HBN.out.2.2.trans hf (by simp))))
  have HRR := hid hr
  have hlt := lt_of_heap HBN.out.2.1
  have HBG : Hid (rb + 1 < b ∧ rb + 1 < g) := hid ⟨by omega, by omega⟩
  clear h1 hr hf hb1 hg1 HBN hlt
  go_wp2_with fail
  refine (HG.out b g w1 HRR.out).mono ?_
  rintro e w2 ⟨rfl, hr2, hf2⟩
  have HR2' := hid hr2
  have HBN2 := hid (And.intro (hf2.heap HBN1.out.1 (by simp; have := HBG.out; omega)) (And.intro (hf2.heap HBN1.out.2.1 (by simp; have := HBG.out; omega)) (HBN1.out.2.2.trans hf2 (fun i hi hl => by simp at hi; have := HBG.out; have := HRB.out; omega))))
  have HLT := hid (And.intro (lt_of_heap hr2.1) (lt_of_heap hr2.2.1))
  clear hr2 hf2 HBN1 HRR
  go_wp2_with fail
  obtain ⟨tb, htb⟩ : ∃ tb, w2.heap.size = tb := ⟨_, rfl⟩
  have hfa : Frm [] w2 (w2.alloc (.cells #[.int .i64 p.top, .int .i64 p.at_, .int .i64 p.bytes, .int .u64 p.birth, .int .i64 p.kind, .int .u64 p.sa, .int .u64 p.sb, .int .u64 p.sc, .int .u64 p.sd] 26)) := (Frm.refl _ _).alloc _
  have htr := heap_alloc_new w2 (.cells #[.int .i64 p.top, .int .i64 p.at_, .int .i64 p.bytes, .int .u64 p.birth, .int .i64 p.kind, .int .u64 p.sa, .int .u64 p.sb, .int .u64 p.sc, .int .u64 p.sd] 26)
  obtain ⟨w3, hw3⟩ : ∃ w3, w2.alloc (.cells #[.int .i64 p.top, .int .i64 p.at_, .int .i64 p.bytes, .int .u64 p.birth, .int .i64 p.kind, .int .u64 p.sa, .int .u64 p.sb, .int .u64 p.sc, .int .u64 p.sd] 26) = w3 := ⟨_, rfl⟩
  rw [hw3] at hfa
  rw [hw3, htb] at htr
  have HLT2 : Hid (b < tb ∧ g < tb) := hid (by rw [← htb]; exact HLT.out)
  rw [hw3, htb]
  have HT : Hid (TK w w3 26 #[.int .i64 0, .int .i64 0, .int .i64 0, .int .u64 0, .int .i64 0, .int .u64 0, .int .u64 0, .int .u64 0, .int .u64 0] #[.int .i64 p.top, .int .i64 p.at_, .int .i64 p.bytes, .int .u64 p.birth, .int .i64 p.kind, .int .u64 p.sa, .int .u64 p.sb, .int .u64 p.sc, .int .u64 p.sd] rb tb) := hid ⟨hfa.heap HBN2.out.1 (by simp), hfa.heap HBN2.out.2.1 (by simp), htr, HBN2.out.2.2.trans hfa (by simp), by rw [HRB.out]; exact Nat.le_refl _⟩
  have HR3' := hid (HR2'.out.kept hfa (by simp) (by simp))
  clear hfa htr hw3 htb HBN2 HLT HR2'
  have hpe : readS () 48 0 (padT (bs.drop 48) 48 64) = if (bs.drop 48).all (· == 0) then ((), 64, 0) else ((), 48, 14) := pad_end bs 48 64 HN.out (by omega)
  have h4 := padR_any b g 48 bs 0 64 w3 HR3'.out (by omega) (by omega)
  rw [hpe] at h4
  refine h4.mono ?_
  clear h4 hpe HR3'
  rintro e w4 ⟨rfl, hr4, hf4⟩
  have HT4 := hid (HT.out.call hf4 (by simp; have := HBG.out; omega) (by simp; have := HBG.out; omega) (by simp; have := HLT2.out; omega) (fun i hi => by simp at hi; have := HBG.out; have := HRB.out; omega))
  clear hf4 HT
  by_cases hall : (bs.drop 48).all (· == 0) = true
  · rw [if_pos hall] at hr4
    have HR4 := hid hr4
    have HA := hid hall
    clear hr4 hall
    go_wp2_with fail
    have h5 := doneR_any b g 64 bs 0 w4 HR4.out
    rw [show doneS bs.length 64 0 = 0 by unfold doneS; rw [if_neg (by rw [HN.out]; omega)]] at h5
    refine h5.mono ?_
    clear h5
    rintro e w5 ⟨rfl, nq, hq⟩
    have hf5 : Frm [] w4 w5 := by rw [hq]; exact (Frm.refl _ _).drewN _
    have HT5 := hid (HT4.out.call hf5 (by simp) (by simp) (by simp) (by simp))
    clear hq hf5 HT4 HR4
    obtain ⟨q0, q1, q2, q3, q4, q5, q6, q7, q8⟩ := ptr_row (p := p) HT5.out.tr
    go_wp2_with fail
    refine (HCK.out w5).mono ?_
    rintro e w6 ⟨rfl, hf6⟩
    have HT6 := hid (HT5.out.call hf6 (by simp) (by simp) (by simp) (by simp))
    clear hf6 HT5 q0 q1 q2 q3 q4 q5 q6 q7 q8
    by_cases hC0 : C = 0
    · subst hC0
      obtain ⟨q0, q1, q2, q3, q4, q5, q6, q7, q8⟩ := ptr_row (p := p) HT6.out.tr
      obtain ⟨y0, y1, y2, y3, y4, y5, y6, y7, y8⟩ := ptr_row (p := zero9) HT6.out.rr
      obtain ⟨z0, z1, z2, z3, z4, z5, z6, z7, z8⟩ := ptr_froz (p := zero9) HT6.out.rr
      go_wp2_with fail
      show bodyPost _ _ _ _ _ (st9 w6 rb p)
      obtain ⟨h9, f9⟩ := st9_row p zero9 HT6.out.rr
      obtain ⟨wz, hwz⟩ : ∃ wz, st9 w6 rb p = wz := ⟨_, rfl⟩
      rw [hwz] at h9 f9 ⊢
      obtain ⟨g0, g1, g2, g3, g4, g5, g6, g7, g8⟩ := ptr_row (p := p) h9
      clear hwz
      exact bodyPost_ret (v := .tuple #[.agg #[.int .i64 p.top, .int .i64 p.at_, .int .i64 p.bytes, .int .u64 p.birth, .int .i64 p.kind, .int .u64 p.sa, .int .u64 p.sb, .int .u64 p.sc, .int .u64 p.sd], .int .i64 0]) (by simp [results, Tryd.results43, go_sem, g0, g1, g2, g3, g4, g5, g6, g7, g8]) rfl ⟨by rw [HR2.out HA.out trivial]; rfl, HT6.out.fr.trans f9 (fun i hi hl => by simp at hi; have := HT6.out.hr; omega)⟩
    · have hb : (C != 0) = true := by simpa using hC0
      obtain ⟨q0, q1, q2, q3, q4, q5, q6, q7, q8⟩ := ptr_row (p := zero9) HT6.out.nr
      obtain ⟨y0, y1, y2, y3, y4, y5, y6, y7, y8⟩ := ptr_row (p := zero9) HT6.out.rr
      obtain ⟨z0, z1, z2, z3, z4, z5, z6, z7, z8⟩ := ptr_froz (p := zero9) HT6.out.rr
      go_wp2_with fail
      show bodyPost _ _ _ _ _ (st9 w6 rb zero9)
      obtain ⟨h9, f9⟩ := st9_row zero9 zero9 HT6.out.rr
      obtain ⟨wz, hwz⟩ : ∃ wz, st9 w6 rb zero9 = wz := ⟨_, rfl⟩
      rw [hwz] at h9 f9 ⊢
      obtain ⟨g0, g1, g2, g3, g4, g5, g6, g7, g8⟩ := ptr_row (p := zero9) h9
      unfold zero9 at g0 g1 g2 g3 g4 g5 g6 g7 g8
      exact bodyPost_ret (v := .tuple #[.agg #[.int .i64 0, .int .i64 0, .int .i64 0, .int .u64 0, .int .i64 0, .int .u64 0, .int .u64 0, .int .u64 0, .int .u64 0], .int .i64 C]) (by simp [results, Tryd.results43, go_sem, g0, g1, g2, g3, g4, g5, g6, g7, g8]) rfl ⟨by rw [HR3.out HA.out hC0]; rfl, HT6.out.fr.trans f9 (fun i hi hl => by simp at hi; have := HT6.out.hr; omega)⟩
  · rw [if_neg hall] at hr4
    have HR4 := hid hr4
    have HAN := hid (HR1.out (by simpa using hall))
    clear hr4 hall
    go_wp2_with fail
    have h5 := doneR_any b g 48 bs 14 w4 HR4.out
    rw [show doneS bs.length 48 14 = 14 by unfold doneS; rw [if_neg (by omega)]] at h5
    refine h5.mono ?_
    clear h5
    rintro e w5 ⟨rfl, nq, hq⟩
    have hf5 : Frm [] w4 w5 := by rw [hq]; exact (Frm.refl _ _).drewN _
    have HT6 := hid (HT4.out.call hf5 (by simp) (by simp) (by simp) (by simp))
    clear hq hf5 HT4 HR4
    obtain ⟨q0, q1, q2, q3, q4, q5, q6, q7, q8⟩ := ptr_row (p := zero9) HT6.out.nr
    obtain ⟨y0, y1, y2, y3, y4, y5, y6, y7, y8⟩ := ptr_row (p := zero9) HT6.out.rr
    obtain ⟨z0, z1, z2, z3, z4, z5, z6, z7, z8⟩ := ptr_froz (p := zero9) HT6.out.rr
    go_wp2_with fail
    show bodyPost _ _ _ _ _ (st9 w5 rb zero9)
    obtain ⟨h9, f9⟩ := st9_row zero9 zero9 HT6.out.rr
    obtain ⟨wz, hwz⟩ : ∃ wz, st9 w5 rb zero9 = wz := ⟨_, rfl⟩
    rw [hwz] at h9 f9 ⊢
    obtain ⟨g0, g1, g2, g3, g4, g5, g6, g7, g8⟩ := ptr_row (p := zero9) h9
    unfold zero9 at g0 g1 g2 g3 g4 g5 g6 g7 g8
    exact bodyPost_ret (v := .tuple #[.agg #[.int .i64 0, .int .i64 0, .int .i64 0, .int .u64 0, .int .i64 0, .int .u64 0, .int .u64 0, .int .u64 0, .int .u64 0], .int .i64 41]) (by simp [results, Tryd.results43, go_sem, g0, g1, g2, g3, g4, g5, g6, g7, g8]) rfl ⟨by rw [HAN.out]; rfl, HT6.out.fr.trans f9 (fun i hi hl => by simp at hi; have := HT6.out.hr; omega)⟩
end Go.Proofs.YtdnnbinmippkdaaDoor
