/- Contracts of package ptr: Decode of an uberblock. -/
import Derived.Test.YtdnnbinmippkdaaDoorPtrQ
namespace Go.Proofs.YtdnnbinmippkdaaDoor
open Go.RowKit
set_option maxRecDepth 100000

def zero12 : U12 := ⟨0, 0, 0, zero9⟩
/-- What a body of 96 bytes is taken for. -/
def decBU (bs : List Int) : U12 × Int :=
  if lettersU bs = false then (zero12, 45) else if (bs.drop 76).all (· == 0) = false then (zero12, 45) else if checkU (rdU bs) = 0 then (rdU bs, 0) else (zero12, checkU (rdU bs))
/-- An uberblock is stored. -/
def st12 (w : World) (b : Nat) (u : U12) : World :=
  ((((((((((((w.setCell ⟨b, 0, none⟩ (.int .u64 u.pool)).setCell ⟨b, 1, none⟩ (.int .u64 u.txg)).setCell ⟨b, 2, none⟩ (.int .u64 u.note)).setCell ⟨b, 3, none⟩ (.int .i64 u.root.top)).setCell ⟨b, 4, none⟩ (.int .i64 u.root.at_)).setCell ⟨b, 5, none⟩ (.int .i64 u.root.bytes)).setCell ⟨b, 6, none⟩ (.int .u64 u.root.birth)).setCell ⟨b, 7, none⟩ (.int .i64 u.root.kind)).setCell ⟨b, 8, none⟩ (.int .u64 u.root.sa)).setCell ⟨b, 9, none⟩ (.int .u64 u.root.sb)).setCell ⟨b, 10, none⟩ (.int .u64 u.root.sc)).setCell ⟨b, 11, none⟩ (.int .u64 u.root.sd))
theorem st12_row {w : World} {b : Nat} {T : TypeId} (u q : U12) (h : w.heap[b]? = some (.cells q.arr T (0, 0))) : (st12 w b u).heap[b]? = some (.cells u.arr T (0, 0)) ∧ Frm [b] w (st12 w b u) := by
  have h4 := sets_row b T [(0, .int .u64 u.pool), (1, .int .u64 u.txg), (2, .int .u64 u.note), (3, .int .i64 u.root.top), (4, .int .i64 u.root.at_), (5, .int .i64 u.root.bytes), (6, .int .u64 u.root.birth), (7, .int .i64 u.root.kind), (8, .int .u64 u.root.sa), (9, .int .u64 u.root.sb), (10, .int .u64 u.root.sc), (11, .int .u64 u.root.sd)] w q.arr h
  unfold U12.arr at h4 ⊢
  simp only [List.foldl, List.setIfInBounds_toArray, List.set_cons_zero, List.set_cons_succ] at h4
  exact h4
theorem ub_row {W : World} {pb : Nat} {u : U12} {T : TypeId} (h : W.heap[pb]? = some (.cells u.arr T (0, 0))) :
    W.cell? ⟨pb, 0, none⟩ = some (.int .u64 u.pool) ∧ W.cell? ⟨pb, 1, none⟩ = some (.int .u64 u.txg) ∧ W.cell? ⟨pb, 2, none⟩ = some (.int .u64 u.note) ∧ W.cell? ⟨pb, 3, none⟩ = some (.int .i64 u.root.top) ∧ W.cell? ⟨pb, 4, none⟩ = some (.int .i64 u.root.at_) ∧ W.cell? ⟨pb, 5, none⟩ = some (.int .i64 u.root.bytes) ∧ W.cell? ⟨pb, 6, none⟩ = some (.int .u64 u.root.birth) ∧ W.cell? ⟨pb, 7, none⟩ = some (.int .i64 u.root.kind) ∧ W.cell? ⟨pb, 8, none⟩ = some (.int .u64 u.root.sa) ∧ W.cell? ⟨pb, 9, none⟩ = some (.int .u64 u.root.sb) ∧ W.cell? ⟨pb, 10, none⟩ = some (.int .u64 u.root.sc) ∧ W.cell? ⟨pb, 11, none⟩ = some (.int .u64 u.root.sd) := by
  refine ⟨?_, ?_, ?_, ?_, ?_, ?_, ?_, ?_, ?_, ?_, ?_, ?_⟩ <;> (rw [cell_of_row W _ _ _ _ _ h]; rfl)
theorem ub_froz {W : World} {pb : Nat} {u : U12} {T : TypeId} (h : W.heap[pb]? = some (.cells u.arr T (0, 0))) :
    W.frozen? ⟨pb, 0, none⟩ = false ∧ W.frozen? ⟨pb, 1, none⟩ = false ∧ W.frozen? ⟨pb, 2, none⟩ = false ∧ W.frozen? ⟨pb, 3, none⟩ = false ∧ W.frozen? ⟨pb, 4, none⟩ = false ∧ W.frozen? ⟨pb, 5, none⟩ = false ∧ W.frozen? ⟨pb, 6, none⟩ = false ∧ W.frozen? ⟨pb, 7, none⟩ = false ∧ W.frozen? ⟨pb, 8, none⟩ = false ∧ W.frozen? ⟨pb, 9, none⟩ = false ∧ W.frozen? ⟨pb, 10, none⟩ = false ∧ W.frozen? ⟨pb, 11, none⟩ = false :=
  ⟨frozen_of_row W pb 0 _ _ h, frozen_of_row W pb 1 _ _ h, frozen_of_row W pb 2 _ _ h, frozen_of_row W pb 3 _ _ h, frozen_of_row W pb 4 _ _ h, frozen_of_row W pb 5 _ _ h, frozen_of_row W pb 6 _ _ h, frozen_of_row W pb 7 _ _ h, frozen_of_row W pb 8 _ _ h, frozen_of_row W pb 9 _ _ h, frozen_of_row W pb 10 _ _ h, frozen_of_row W pb 11 _ _ h⟩
theorem GP2.bornA {T : TypeId} (w : World) (z : Array Value) : ((w.alloc (.cells z T)).alloc (.cells z T)).heap[w.heap.size]? = some (.cells z T (0, 0)) ∧ ((w.alloc (.cells z T)).alloc (.cells z T)).heap[w.heap.size + 1]? = some (.cells z T (0, 0)) ∧ Frm [] w ((w.alloc (.cells z T)).alloc (.cells z T)) := by
  have h2 : Frm [] (w.alloc (.cells z T)) ((w.alloc (.cells z T)).alloc (.cells z T)) := (Frm.refl _ _).alloc _
  exact ⟨h2.heap (heap_alloc_new _ _) (by simp), heap_alloc_to _ _ (by simp), ((Frm.refl _ _).alloc _).trans h2 (by simp)⟩
set_option maxHeartbeats 3200000 in
theorem takeUber_any (ad : Option Addr) (c : Nat) (bs : List Int) (w : World) (hn : bs.length = 96) (hrd : Rd w ad bs) (hb : ∀ z ∈ bs, 0 ≤ z ∧ z < 256) :
    Calls Tryd.prog 52 #[.slice ad 96 c, .int .i64 96, .func (.func 53) #[] #[], .int .i64 45, .func (.func 22) #[] #[]] w fun e w' => e = .returned (.tuple #[.agg (decBU bs).1.arr, .int .i64 (decBU bs).2]) ∧ Frm [] w w' := by
  have HRD := hid hrd
  have HB := hid hb
  have HN := hid hn
  clear hrd hb hn
  have hZ : zero12.arr = #[.int .u64 0, .int .u64 0, .int .u64 0, .int .i64 0, .int .i64 0, .int .i64 0, .int .u64 0, .int .i64 0, .int .u64 0, .int .u64 0, .int .u64 0, .int .u64 0] := rfl
  have HZ := hid hZ
  have hcf0 := fun b W => callable (P := Tryd.prog) Tryd.func53 (by kernel_rfl) (by kernel_rfl) #[.pointer (some ⟨b, 0, none⟩)] W
  obtain ⟨u, hu⟩ : ∃ u, rdU bs = u := ⟨_, rfl⟩
  obtain ⟨R, hR⟩ : ∃ R, decBU bs = R := ⟨_, rfl⟩
  obtain ⟨C, hC⟩ : ∃ C, checkU u = C := ⟨_, rfl⟩
  obtain ⟨ok, hok⟩ : ∃ ok, lettersU bs = ok := ⟨_, rfl⟩
  have hR0 : ok = false → R = (zero12, 45) := fun h => by rw [← hR]; unfold decBU; rw [hok, if_pos h]
  have hR1 : ok = true → (bs.drop 76).all (· == 0) = false → R = (zero12, 45) := fun h0 h => by rw [← hR]; unfold decBU; rw [hok, if_neg (by rw [h0]; simp), if_pos h]
  have hR2 : ok = true → (bs.drop 76).all (· == 0) = true → C = 0 → R = (u, 0) := fun h1 h h0 => by rw [← hR]; unfold decBU; rw [hok, if_neg (by rw [h1]; simp), if_neg (by rw [h]; simp), hu, hC, if_pos h0]
  have hR3 : ok = true → (bs.drop 76).all (· == 0) = true → C ≠ 0 → R = (zero12, C) := fun h1 h h0 => by rw [← hR]; unfold decBU; rw [hok, if_neg (by rw [h1]; simp), if_neg (by rw [h]; simp), hu, hC, if_neg h0]
  have HR0 := hid hR0
  have HR1 := hid hR1
  have HR2 := hid hR2
  have HR3 := hid hR3
  have HG := hid (fun b g W (h : IsR W b g bs 0 0) => getUber_any b g bs HB.out W h HN.out)
  have HCK := hid (fun W => checkU_any u W)
  have HBN := hid (GP2.bornA (T := 45) w zero12.arr)
  rw [hu, hok] at HG
  rw [hC] at HCK
  rw [hR]
  rw [hZ] at HBN
  unfold U12.arr at HG HCK
  clear hu hZ hR0 hR1 hR2 hR3 hC hR hok
  go_enter Tryd.func52, Tryd.ntmps52
  go_wp2_with fail
  obtain ⟨rb, hrb⟩ : ∃ rb, w.heap.size = rb := ⟨_, rfl⟩
  obtain ⟨wa, hwa⟩ : ∃ wa, (w.alloc (.cells #[.int .u64 0, .int .u64 0, .int .u64 0, .int .i64 0, .int .i64 0, .int .i64 0, .int .u64 0, .int .i64 0, .int .u64 0, .int .u64 0, .int .u64 0, .int .u64 0] 45)).alloc (.cells #[.int .u64 0, .int .u64 0, .int .u64 0, .int .i64 0, .int .i64 0, .int .i64 0, .int .u64 0, .int .i64 0, .int .u64 0, .int .u64 0, .int .u64 0, .int .u64 0] 45) = wa := ⟨_, rfl⟩
  rw [hwa, hrb] at HBN
  rw [hwa, hrb]
  have HRB := hid hrb
  clear hwa hrb
  have h1 := newReader_any ad c bs wa (HRD.out.kept HBN.out.2.2 (by simp)) (by rw [HN.out]; omega)
  rw [HN.out] at h1
  refine h1.mono ?_
  rintro e w1 ⟨b, g, rfl, hr, hf, hb1, hg1⟩
  have HBN1 := hid (And.intro (hf.heap HBN.out.1 (by simp)) (And.intro (hf.heap HBN.out.2.1 (by simp)) (HBN.out.2.2.trans hf (by simp))))
  have HRR := hid hr
  have hlt := lt_of_heap HBN.out.2.1
  have HBG : Hid (rb + 1 < b ∧ rb + 1 < g) := hid ⟨by omega, by omega⟩
  clear h1 hr hf hb1 hg1 HBN hlt
  go_wp2_with fail
  refine (HG.out b g w1 HRR.out).mono ?_
  rintro e w2 ⟨rfl, hr2, hf2⟩
  have HR2' := hid hr2
  have HBN2 := hid (And.intro (hf2.heap HBN1.out.1 (by simp; have := HBG.out; omega)) (And.intro (hf2.heap HBN1.out.2.1 (by simp; have := HBG.out; omega)) (HBN1.out.2.2.trans hf2 (fun i hi hl => by simp at hi; have := HBG.out; have := HRB.out; omega))))
  have HLT := hid (And.intro (lt_of_heap hr2.1) (lt_of_heap hr2.2.1))
  clear hr2 hf2 HBN1 HRR
  go_wp2_with fail
  obtain ⟨tb, htb⟩ : ∃ tb, w2.heap.size = tb := ⟨_, rfl⟩
  have hfa : Frm [] w2 (w2.alloc (.cells #[.int .u64 u.pool, .int .u64 u.txg, .int .u64 u.note, .int .i64 u.root.top, .int .i64 u.root.at_, .int .i64 u.root.bytes, .int .u64 u.root.birth, .int .i64 u.root.kind, .int .u64 u.root.sa, .int .u64 u.root.sb, .int .u64 u.root.sc, .int .u64 u.root.sd] 45)) := (Frm.refl _ _).alloc _
  have htr := heap_alloc_new w2 (.cells #[.int .u64 u.pool, .int .u64 u.txg, .int .u64 u.note, .int .i64 u.root.top, .int .i64 u.root.at_, .int .i64 u.root.bytes, .int .u64 u.root.birth, .int .i64 u.root.kind, .int .u64 u.root.sa, .int .u64 u.root.sb, .int .u64 u.root.sc, .int .u64 u.root.sd] 45)
  obtain ⟨w3, hw3⟩ : ∃ w3, w2.alloc (.cells #[.int .u64 u.pool, .int .u64 u.txg, .int .u64 u.note, .int .i64 u.root.top, .int .i64 u.root.at_, .int .i64 u.root.bytes, .int .u64 u.root.birth, .int .i64 u.root.kind, .int .u64 u.root.sa, .int .u64 u.root.sb, .int .u64 u.root.sc, .int .u64 u.root.sd] 45) = w3 := ⟨_, rfl⟩
  rw [hw3] at hfa
  rw [hw3, htb] at htr
  have HLT2 : Hid (b < tb ∧ g < tb) := hid (by rw [← htb]; exact HLT.out)
  rw [hw3, htb]
  have HT : Hid (TK w w3 45 #[.int .u64 0, .int .u64 0, .int .u64 0, .int .i64 0, .int .i64 0, .int .i64 0, .int .u64 0, .int .i64 0, .int .u64 0, .int .u64 0, .int .u64 0, .int .u64 0] #[.int .u64 u.pool, .int .u64 u.txg, .int .u64 u.note, .int .i64 u.root.top, .int .i64 u.root.at_, .int .i64 u.root.bytes, .int .u64 u.root.birth, .int .i64 u.root.kind, .int .u64 u.root.sa, .int .u64 u.root.sb, .int .u64 u.root.sc, .int .u64 u.root.sd] rb tb) := hid ⟨hfa.heap HBN2.out.1 (by simp), hfa.heap HBN2.out.2.1 (by simp), htr, HBN2.out.2.2.trans hfa (by simp), by rw [HRB.out]; exact Nat.le_refl _⟩
  have HR3' := hid (HR2'.out.kept hfa (by simp) (by simp))
  clear hfa htr hw3 htb HBN2 HLT HR2'
  have hpe : readS () 76 0 (padT (bs.drop 76) 76 96) = if (bs.drop 76).all (· == 0) then ((), 96, 0) else ((), 76, 14) := pad_end bs 76 96 HN.out (by omega)
  have h4 := padR_any b g 76 bs 0 96 w3 HR3'.out (by omega) (by omega)
  rw [hpe] at h4
  refine h4.mono ?_
  clear h4 hpe HR3'
  rintro e w4 ⟨rfl, hr4, hf4⟩
  have HT4 := hid (HT.out.call hf4 (by simp; have := HBG.out; omega) (by simp; have := HBG.out; omega) (by simp; have := HLT2.out; omega) (fun i hi => by simp at hi; have := HBG.out; have := HRB.out; omega))
  clear hf4 HT
  cases ok
  case false =>
    clear hr4
    obtain ⟨q0, q1, q2, q3, q4, q5, q6, q7, q8, q9, q10, q11⟩ := ub_row (u := zero12) HT4.out.nr
    obtain ⟨y0, y1, y2, y3, y4, y5, y6, y7, y8, y9, y10, y11⟩ := ub_row (u := zero12) HT4.out.rr
    obtain ⟨z0, z1, z2, z3, z4, z5, z6, z7, z8, z9, z10, z11⟩ := ub_froz (u := zero12) HT4.out.rr
    go_wp2_with fail
    show bodyPost _ _ _ _ _ (st12 w4 rb zero12)
    obtain ⟨h9, f9⟩ := st12_row zero12 zero12 HT4.out.rr
    obtain ⟨wz, hwz⟩ : ∃ wz, st12 w4 rb zero12 = wz := ⟨_, rfl⟩
    rw [hwz] at h9 f9 ⊢
    obtain ⟨g0, g1, g2, g3, g4, g5, g6, g7, g8, g9, g10, g11⟩ := ub_row (u := zero12) h9
    unfold zero12 zero9 at g0 g1 g2 g3 g4 g5 g6 g7 g8 g9 g10 g11
    clear hwz
    exact bodyPost_ret (v := .tuple #[.agg #[.int .u64 0, .int .u64 0, .int .u64 0, .int .i64 0, .int .i64 0, .int .i64 0, .int .u64 0, .int .i64 0, .int .u64 0, .int .u64 0, .int .u64 0, .int .u64 0], .int .i64 45]) (by simp [results, Tryd.results52, go_sem, g0, g1, g2, g3, g4, g5, g6, g7, g8, g9, g10, g11]) rfl ⟨by rw [HR0.out (by first | rfl | trivial)]; rfl, HT4.out.fr.trans f9 (fun i hi hl => by simp at hi; have := HT4.out.hr; omega)⟩
  by_cases hall : (bs.drop 76).all (· == 0) = true
  · rw [if_pos hall] at hr4
    have HR4 := hid hr4
    have HA := hid hall
    clear hr4 hall
    go_wp2_with fail
    have h5 := doneR_any b g 96 bs 0 w4 HR4.out
    rw [show doneS bs.length 96 0 = 0 by unfold doneS; rw [if_neg (by rw [HN.out]; omega)]] at h5
    refine h5.mono ?_
    clear h5
    rintro e w5 ⟨rfl, nq, hq⟩
    have hf5 : Frm [] w4 w5 := by rw [hq]; exact (Frm.refl _ _).drewN _
    have HT5 := hid (HT4.out.call hf5 (by simp) (by simp) (by simp) (by simp))
    clear hq hf5 HT4 HR4
    obtain ⟨q0, q1, q2, q3, q4, q5, q6, q7, q8, q9, q10, q11⟩ := ub_row (u := u) HT5.out.tr
    go_wp2_with fail
    refine (HCK.out w5).mono ?_
    rintro e w6 ⟨rfl, hf6⟩
    have HT6 := hid (HT5.out.call hf6 (by simp) (by simp) (by simp) (by simp))
    clear hf6 HT5 q0 q1 q2 q3 q4 q5 q6 q7 q8 q9 q10 q11
    by_cases hC0 : C = 0
    · subst hC0
      obtain ⟨q0, q1, q2, q3, q4, q5, q6, q7, q8, q9, q10, q11⟩ := ub_row (u := u) HT6.out.tr
      obtain ⟨y0, y1, y2, y3, y4, y5, y6, y7, y8, y9, y10, y11⟩ := ub_row (u := zero12) HT6.out.rr
      obtain ⟨z0, z1, z2, z3, z4, z5, z6, z7, z8, z9, z10, z11⟩ := ub_froz (u := zero12) HT6.out.rr
      go_wp2_with fail
      show bodyPost _ _ _ _ _ (st12 w6 rb u)
      obtain ⟨h9, f9⟩ := st12_row u zero12 HT6.out.rr
      obtain ⟨wz, hwz⟩ : ∃ wz, st12 w6 rb u = wz := ⟨_, rfl⟩
      rw [hwz] at h9 f9 ⊢
      obtain ⟨g0, g1, g2, g3, g4, g5, g6, g7, g8, g9, g10, g11⟩ := ub_row (u := u) h9
      clear hwz
      exact bodyPost_ret (v := .tuple #[.agg #[.int .u64 u.pool, .int .u64 u.txg, .int .u64 u.note, .int .i64 u.root.top, .int .i64 u.root.at_, .int .i64 u.root.bytes, .int .u64 u.root.birth, .int .i64 u.root.kind, .int .u64 u.root.sa, .int .u64 u.root.sb, .int .u64 u.root.sc, .int .u64 u.root.sd], .int .i64 0]) (by simp [results, Tryd.results52, go_sem, g0, g1, g2, g3, g4, g5, g6, g7, g8, g9, g10, g11]) rfl ⟨by rw [HR2.out (by first | rfl | trivial) HA.out (by first | rfl | trivial)]; rfl, HT6.out.fr.trans f9 (fun i hi hl => by simp at hi; have := HT6.out.hr; omega)⟩
    · have hb : (C != 0) = true := by simpa using hC0
      obtain ⟨q0, q1, q2, q3, q4, q5, q6, q7, q8, q9, q10, q11⟩ := ub_row (u := zero12) HT6.out.nr
      obtain ⟨y0, y1, y2, y3, y4, y5, y6, y7, y8, y9, y10, y11⟩ := ub_row (u := zero12) HT6.out.rr
      obtain ⟨z0, z1, z2, z3, z4, z5, z6, z7, z8, z9, z10, z11⟩ := ub_froz (u := zero12) HT6.out.rr
      go_wp2_with fail
      show bodyPost _ _ _ _ _ (st12 w6 rb zero12)
      obtain ⟨h9, f9⟩ := st12_row zero12 zero12 HT6.out.rr
      obtain ⟨wz, hwz⟩ : ∃ wz, st12 w6 rb zero12 = wz := ⟨_, rfl⟩
      rw [hwz] at h9 f9 ⊢
      obtain ⟨g0, g1, g2, g3, g4, g5, g6, g7, g8, g9, g10, g11⟩ := ub_row (u := zero12) h9
      unfold zero12 zero9 at g0 g1 g2 g3 g4 g5 g6 g7 g8 g9 g10 g11
      clear hwz
      exact bodyPost_ret (v := .tuple #[.agg #[.int .u64 0, .int .u64 0, .int .u64 0, .int .i64 0, .int .i64 0, .int .i64 0, .int .u64 0, .int .i64 0, .int .u64 0, .int .u64 0, .int .u64 0, .int .u64 0], .int .i64 C]) (by simp [results, Tryd.results52, go_sem, g0, g1, g2, g3, g4, g5, g6, g7, g8, g9, g10, g11]) rfl ⟨by rw [HR3.out (by first | rfl | trivial) HA.out hC0]; rfl, HT6.out.fr.trans f9 (fun i hi hl => by simp at hi; have := HT6.out.hr; omega)⟩
  · rw [if_neg hall] at hr4
    have HR4 := hid hr4
    have HAN := hid (HR1.out (by first | rfl | trivial) (by simpa using hall))
    clear hr4 hall
    go_wp2_with fail
    have h5 := doneR_any b g 76 bs 14 w4 HR4.out
    rw [show doneS bs.length 76 14 = 14 by unfold doneS; rw [if_neg (by omega)]] at h5
    refine h5.mono ?_
    clear h5
    rintro e w5 ⟨rfl, nq, hq⟩
    have hf5 : Frm [] w4 w5 := by rw [hq]; exact (Frm.refl _ _).drewN _
    have HT6 := hid (HT4.out.call hf5 (by simp) (by simp) (by simp) (by simp))
    clear hq hf5 HT4 HR4
    obtain ⟨q0, q1, q2, q3, q4, q5, q6, q7, q8, q9, q10, q11⟩ := ub_row (u := zero12) HT6.out.nr
    obtain ⟨y0, y1, y2, y3, y4, y5, y6, y7, y8, y9, y10, y11⟩ := ub_row (u := zero12) HT6.out.rr
    obtain ⟨z0, z1, z2, z3, z4, z5, z6, z7, z8, z9, z10, z11⟩ := ub_froz (u := zero12) HT6.out.rr
    go_wp2_with fail
    show bodyPost _ _ _ _ _ (st12 w5 rb zero12)
    obtain ⟨h9, f9⟩ := st12_row zero12 zero12 HT6.out.rr
    obtain ⟨wz, hwz⟩ : ∃ wz, st12 w5 rb zero12 = wz := ⟨_, rfl⟩
    rw [hwz] at h9 f9 ⊢
    obtain ⟨g0, g1, g2, g3, g4, g5, g6, g7, g8, g9, g10, g11⟩ := ub_row (u := zero12) h9
    unfold zero12 zero9 at g0 g1 g2 g3 g4 g5 g6 g7 g8 g9 g10 g11
    clear hwz
    exact bodyPost_ret (v := .tuple #[.agg #[.int .u64 0, .int .u64 0, .int .u64 0, .int .i64 0, .int .i64 0, .int .i64 0, .int .u64 0, .int .i64 0, .int .u64 0, .int .u64 0, .int .u64 0, .int .u64 0], .int .i64 45]) (by simp [results, Tryd.results52, go_sem, g0, g1, g2, g3, g4, g5, g6, g7, g8, g9, g10, g11]) rfl ⟨by rw [HAN.out]; rfl, HT6.out.fr.trans f9 (fun i hi hl => by simp at hi; have := HT6.out.hr; omega)⟩
end Go.Proofs.YtdnnbinmippkdaaDoor
