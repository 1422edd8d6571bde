/- Contracts of package ptr: a label's Check. -/
import Derived.Test.YtdnnbinmippkdaaDoorPtrH
namespace Go.Proofs.YtdnnbinmippkdaaDoor
open Go.RowKit
set_option maxRecDepth 100000

/-- A top's three numbers. -/
structure T3 where
  kind : Int
  leaves : Int
  sectors : Int
instance : Inhabited T3 := ⟨⟨0, 0, 0⟩⟩
/-- May a top be? -/
def T3.may (t : T3) : Prop := 324 ≤ t.sectors ∧ t.sectors ≤ 8192 ∧ ((t.kind = 1 ∧ t.leaves = 1) ∨ (t.kind = 2 ∧ 2 ≤ t.leaves ∧ t.leaves ≤ 5) ∨ (t.kind = 3 ∧ 3 ≤ t.leaves ∧ t.leaves ≤ 5))
instance (t : T3) : Decidable t.may := by unfold T3.may; infer_instance
set_option maxHeartbeats 3200000 in
theorem mayBe_any (kind leaves sectors : Int) (w : World) :
    Calls Tryd.prog 39 #[.agg #[.int .i64 kind, .int .i64 leaves, .int .i64 sectors]] w fun e w' => e = .returned (.bool (decide (T3.may ⟨kind, leaves, sectors⟩))) ∧ Frm [] w w' := by
  obtain ⟨B, hB⟩ : ∃ B, decide (T3.may ⟨kind, leaves, sectors⟩) = B := ⟨_, rfl⟩
  have HB : Hid (((324 ≤ sectors ∧ sectors ≤ 8192 ∧ ((kind = 1 ∧ leaves = 1) ∨ (kind = 2 ∧ 2 ≤ leaves ∧ leaves ≤ 5) ∨ (kind = 3 ∧ 3 ≤ leaves ∧ leaves ≤ 5))) → B = true) ∧ (¬ (324 ≤ sectors ∧ sectors ≤ 8192 ∧ ((kind = 1 ∧ leaves = 1) ∨ (kind = 2 ∧ 2 ≤ leaves ∧ leaves ≤ 5) ∨ (kind = 3 ∧ 3 ≤ leaves ∧ leaves ≤ 5))) → B = false)) := hid (by
    rw [← hB]
    exact ⟨fun h => decide_eq_true (p := T3.may ⟨kind, leaves, sectors⟩) h, fun h => decide_eq_false (p := T3.may ⟨kind, leaves, sectors⟩) h⟩)
  rw [hB]
  clear hB
  go_enter Tryd.func39, Tryd.ntmps39
  by_cases h1 : sectors < 324
  · go_wp2_with fail
    go_returns
    exact ⟨by rw [show B = false from HB.out.2 (by omega)]; first | rfl | simp_all, (Frm.refl _ _).alloc _⟩
  by_cases h2 : 8192 < sectors
  · go_wp2_with fail
    go_returns
    exact ⟨by rw [show B = false from HB.out.2 (by omega)]; first | rfl | simp_all, (Frm.refl _ _).alloc _⟩
  by_cases k1 : kind = 1
  · subst k1
    by_cases l1 : leaves = 1
    · subst l1
      go_wp2_with fail
      go_returns
      exact ⟨by rw [show B = true from HB.out.1 ⟨by omega, by omega, Or.inl ⟨(by first | rfl | trivial), (by first | rfl | trivial)⟩⟩]; first | rfl | simp_all, (Frm.refl _ _).alloc _⟩
    · have hb : (leaves == 1) = false := by simpa using l1
      go_wp2_with fail
      go_returns
      exact ⟨by rw [show B = false from HB.out.2 (by omega)]; first | rfl | simp_all, (Frm.refl _ _).alloc _⟩
  by_cases k2 : kind = 2
  · subst k2
    by_cases l1 : 2 ≤ leaves
    · by_cases l2 : leaves ≤ 5
      · go_wp2_with fail
        go_returns
        exact ⟨by rw [show B = true from HB.out.1 ⟨by omega, by omega, Or.inr (Or.inl ⟨(by first | rfl | trivial), by omega, by omega⟩)⟩]; first | rfl | simp_all, (Frm.refl _ _).alloc _⟩
      · have l2' : 5 < leaves := by omega
        go_wp2_with fail
        go_returns
        exact ⟨by rw [show B = false from HB.out.2 (by omega)]; first | rfl | simp_all, (Frm.refl _ _).alloc _⟩
    · have l1' : leaves < 2 := by omega
      go_wp2_with fail
      go_returns
      exact ⟨by rw [show B = false from HB.out.2 (by omega)]; first | rfl | simp_all, (Frm.refl _ _).alloc _⟩
  by_cases k3 : kind = 3
  · subst k3
    by_cases l1 : 3 ≤ leaves
    · by_cases l2 : leaves ≤ 5
      · go_wp2_with fail
        go_returns
        exact ⟨by rw [show B = true from HB.out.1 ⟨by omega, by omega, Or.inr (Or.inr ⟨(by first | rfl | trivial), by omega, by omega⟩)⟩]; first | rfl | simp_all, (Frm.refl _ _).alloc _⟩
      · have l2' : 5 < leaves := by omega
        go_wp2_with fail
        go_returns
        exact ⟨by rw [show B = false from HB.out.2 (by omega)]; first | rfl | simp_all, (Frm.refl _ _).alloc _⟩
    · have l1' : leaves < 3 := by omega
      go_wp2_with fail
      go_returns
      exact ⟨by rw [show B = false from HB.out.2 (by omega)]; first | rfl | simp_all, (Frm.refl _ _).alloc _⟩
  have b1 : (kind == 1) = false := by simpa using k1
  have b2 : (kind == 2) = false := by simpa using k2
  have b3 : (kind == 3) = false := by simpa using k3
  go_wp2_with fail
  go_returns
  exact ⟨by rw [show B = false from HB.out.2 (by omega)]; first | rfl | simp_all, (Frm.refl _ _).alloc _⟩
/-- A list of tops that can be read. -/
def RdT (w : World) (p : Option Addr) (ts : List T3) : Prop := ts = [] ∨ ∃ g o, p = some ⟨g, o, none⟩ ∧ ∀ i, i < ts.length → w.cell? ⟨g, o + i * 3, none⟩ = some (.int .i64 (ts.getD i default).kind) ∧ w.cell? ⟨g, o + i * 3 + 1, none⟩ = some (.int .i64 (ts.getD i default).leaves) ∧ w.cell? ⟨g, o + i * 3 + 2, none⟩ = some (.int .i64 (ts.getD i default).sectors)
theorem RdT.kept {S : List Nat} {w w' : World} {p : Option Addr} {ts : List T3} (h : RdT w p ts) (hf : Frm S w w') (hn : ∀ k ∈ blk p, k ∉ S) : RdT w' p ts := by
  rcases h with h | ⟨g, o, rfl, h⟩
  · exact Or.inl h
  · refine Or.inr ⟨g, o, rfl, fun i hi => ?_⟩
    obtain ⟨h0, h1, h2⟩ := h i hi
    have hl := World.block_lt_of_cell? w _ h0
    have hg : g ∉ S := hn g (by simp [blk])
    exact ⟨(hf.cell (p := ⟨g, o + i * 3, none⟩) hl hg).trans h0, (hf.cell (p := ⟨g, o + i * 3 + 1, none⟩) hl hg).trans h1, (hf.cell (p := ⟨g, o + i * 3 + 2, none⟩) hl hg).trans h2⟩
/-- A label's numbers. -/
structure LabV where
  pool : Int
  p : Option Addr
  n : Nat
  c : Nat
  top : Int
  place : Int
  ts : List T3
def LabV.arr (l : LabV) : Array Value := #[.int .u64 l.pool, .slice l.p l.n l.c, .int .i64 l.top, .int .i64 l.place]
/-- What CheckLabel answers. -/
def checkL (l : LabV) : Int :=
  if l.n < 1 ∨ 4 < l.n ∨ l.top < 0 ∨ (l.n : Int) ≤ l.top then 42
  else if ¬ l.ts.all (fun t => decide t.may) = true then 42
  else if l.place < 0 ∨ (l.ts.getD l.top.toNat default).leaves ≤ l.place then 42 else 0
/-- What is known of a label that came in. -/
structure LabV.ok (w : World) (l : LabV) : Prop where
  len : l.ts.length = l.n
  rd : RdT w l.p l.ts
  le : l.n ≤ l.c
  mx : l.c ≤ 9223372036854775807
  pool : 0 ≤ l.pool ∧ l.pool < 18446744073709551616
  top : -9223372036854775808 ≤ l.top ∧ l.top ≤ 9223372036854775807
theorem LabV.ok.kept {w w' : World} {l : LabV} (h : l.ok w) (hf : Frm [] w w') : l.ok w' := ⟨h.len, h.rd.kept hf (by simp), h.le, h.mx, h.pool, h.top⟩
set_option maxHeartbeats 3200000 in
theorem checkL_any (l : LabV) (w : World) (hl : l.ok w) :
    Calls Tryd.prog 18 #[.agg l.arr] w fun e w' => e = .returned (.int .i64 (checkL l)) ∧ Frm [] w w' := by
  obtain ⟨R, hR⟩ : ∃ R, checkL l = R := ⟨_, rfl⟩
  have HR := hid hR
  rw [hR]
  have hrow := heap_alloc_new w (.cells #[.int .u64 l.pool, .slice l.p l.n l.c, .int .i64 l.top, .int .i64 l.place] 37)
  have HFA : Hid (Frm [] w (w.alloc (.cells #[.int .u64 l.pool, .slice l.p l.n l.c, .int .i64 l.top, .int .i64 l.place] 37))) := hid ((Frm.refl _ _).alloc _)
  have HOK := hid hl
  have hn1 := hl.le
  have hn2 := hl.mx
  obtain ⟨tt0, tt1⟩ := hl.top
  unfold LabV.arr
  obtain ⟨lb, hlb⟩ : ∃ lb, w.heap.size = lb := ⟨_, rfl⟩
  obtain ⟨wa, hwa⟩ : ∃ wa, w.alloc (.cells #[.int .u64 l.pool, .slice l.p l.n l.c, .int .i64 l.top, .int .i64 l.place] 37) = wa := ⟨_, rfl⟩
  rw [hlb, hwa] at hrow
  rw [hwa] at HFA
  have HROW := hid hrow
  have c0 : wa.cell? ⟨lb, 0, none⟩ = some (.int .u64 l.pool) := by rw [cell_of_row wa _ _ _ _ _ hrow]; rfl
  have c1 : wa.cell? ⟨lb, 1, none⟩ = some (.slice l.p l.n l.c) := by rw [cell_of_row wa _ _ _ _ _ hrow]; rfl
  have c2 : wa.cell? ⟨lb, 2, none⟩ = some (.int .i64 l.top) := by rw [cell_of_row wa _ _ _ _ _ hrow]; rfl
  have c3 : wa.cell? ⟨lb, 3, none⟩ = some (.int .i64 l.place) := by rw [cell_of_row wa _ _ _ _ _ hrow]; rfl
  have HBAD : Hid (l.n < 1 ∨ 4 < l.n ∨ l.top < 0 ∨ (l.n : Int) ≤ l.top → R = 42) := hid (fun h => by
    rw [← hR]; unfold checkL; rw [if_pos h])
  clear hl hR hrow
  go_enter Tryd.func18, Tryd.ntmps18
  by_cases h1 : (l.n : Int) < 1
  · go_wp2_with fail
    go_returns
    exact ⟨by rw [HBAD.out (by omega)]; rfl, HFA.out⟩
  by_cases h2 : 4 < (l.n : Int)
  · go_wp2_with fail
    go_returns
    exact ⟨by rw [HBAD.out (by omega)]; rfl, HFA.out⟩
  by_cases h3 : l.top < 0
  · go_wp2_with fail
    go_returns
    exact ⟨by rw [HBAD.out (by omega)]; rfl, HFA.out⟩
  by_cases h4 : (l.n : Int) ≤ l.top
  · go_wp2_with fail
    go_returns
    exact ⟨by rw [HBAD.out (by omega)]; rfl, HFA.out⟩
  obtain ⟨tp, htp⟩ : ∃ tp : Nat, l.top = tp := ⟨l.top.toNat, by omega⟩
  have HTP := hid htp
  rw [htp] at hwa c2 h3 h4 ⊢
  have h5 : ¬ (l.n < 1 ∨ 4 < l.n ∨ l.top < 0 ∨ (l.n : Int) ≤ l.top) := by omega
  have HR2 : Hid ((if ¬ l.ts.all (fun t => decide t.may) = true then 42 else if l.place < 0 ∨ (l.ts.getD tp default).leaves ≤ l.place then 42 else 0) = R) := hid (by
    have h := HR.out
    unfold checkL at h
    rw [if_neg h5, htp] at h
    simpa using h)
  clear HBAD HR h5 htp tt0 tt1
  go_wp2_with fail
  clear hwa hlb c0 c2
  have ht4 : (tp : Int) < (l.n : Int) := by omega
  go_loopw [29] (fun i wr => ∃ j : Nat, j ≤ l.n ∧ i = .int .i64 j ∧ Hid (∀ k, k < j → (l.ts.getD k default).may) ∧ Hid (Frm [] wa wr)) (fun i _ => l.n - (intOf i).toNat)
  case atStart => exact ⟨0, by omega, rfl, hid (fun k hk => by omega), hid (Frm.refl _ _)⟩
  case round =>
    obtain ⟨j, hj, rfl, hmay, hf⟩ := hrel
    have hlen := HOK.out.len
    have hrow := hf.out.heap HROW.out (by simp)
    have c1 : wr.cell? ⟨lb, 1, none⟩ = some (.slice l.p l.n l.c) := by rw [cell_of_row wr _ _ _ _ _ hrow]; rfl
    have c2 : wr.cell? ⟨lb, 2, none⟩ = some (.int .i64 l.top) := by rw [cell_of_row wr _ _ _ _ _ hrow]; rfl
    have c3 : wr.cell? ⟨lb, 3, none⟩ = some (.int .i64 l.place) := by rw [cell_of_row wr _ _ _ _ _ hrow]; rfl
    rw [HTP.out] at c2
    obtain ⟨g, o, hp, hat⟩ : ∃ g o, l.p = some ⟨g, o, none⟩ ∧ ∀ i, i < l.n → wr.cell? ⟨g, o + i * 3, none⟩ = some (.int .i64 (l.ts.getD i default).kind) ∧ wr.cell? ⟨g, o + i * 3 + 1, none⟩ = some (.int .i64 (l.ts.getD i default).leaves) ∧ wr.cell? ⟨g, o + i * 3 + 2, none⟩ = some (.int .i64 (l.ts.getD i default).sectors) := by
      rcases HOK.out.rd.kept (HFA.out.trans hf.out (by simp)) (by simp) with h | ⟨g, o, e, h⟩
      · rw [h] at hlen; simp at hlen; omega
      · exact ⟨g, o, e, fun i hi => h i (by rw [hlen]; exact hi)⟩
    rw [hp] at c1 ⊢
    have HF := hid (HFA.out.trans hf.out (by simp))
    clear hrow
    by_cases hlt : j < l.n
    · have t1 : (j : Int) < (l.n : Int) := by omega
      obtain ⟨k0, k1, k2⟩ := hat j hlt
      have HALL : Hid (¬ (l.ts.getD j default).may → R = 42) := hid (fun h => by
        rw [← HR2.out, if_pos]
        intro ha
        rw [List.all_eq_true] at ha
        have h1 := ha (l.ts.getD j default) (by
          rw [List.getD_eq_getElem?_getD, List.getElem?_eq_getElem (by rw [hlen]; exact hlt)]
          exact List.getElem_mem _)
        exact h (of_decide_eq_true h1))
      have HMY : Hid ((l.ts.getD j default).may → ∀ k, k < j + 1 → (l.ts.getD k default).may) := hid (fun h k hk => by
        by_cases hkj : k < j
        · exact hmay.out k hkj
        · obtain rfl : k = j := by omega
          exact h)
      obtain ⟨t, ht⟩ : ∃ t, l.ts.getD j default = t := ⟨_, rfl⟩
      rw [ht] at k0 k1 k2 HALL HMY
      obtain ⟨kind, leaves, sectors⟩ := t
      simp only at k0 k1 k2
      have HMB := hid (fun W => mayBe_any kind leaves sectors W)
      clear ht hat hlen c1 c2 c3
      go_wp2_with fail
      refine (HMB.out _).mono ?_
      rintro e w2 ⟨rfl, hf2⟩
      have HF2 := hid ((HF.out.alloc (.cells #[.int .i64 kind, .int .i64 leaves, .int .i64 sectors] 39)).trans hf2 (by simp))
      have HG2 := hid ((hf.out.alloc (.cells #[.int .i64 kind, .int .i64 leaves, .int .i64 sectors] 39)).trans hf2 (by simp))
      by_cases hm : T3.may ⟨kind, leaves, sectors⟩
      · rw [decide_eq_true hm]
        have HM2 := hid (HMY.out hm)
        clear hf2 hm HALL HMY hmay hf k0 k1 k2
        go_wp2_with fail
        go_roundw
        case rel => exact ⟨j + 1, by omega, by go_num, HM2, HG2⟩
        case measure => simp [intOf]; omega
      · rw [decide_eq_false hm]
        have HA2 := hid (HALL.out hm)
        clear hf2 hm HALL HMY hmay hf k0 k1 k2
        go_wp2_with fail
        go_returns
        exact ⟨by rw [HA2.out]; rfl, HF2.out⟩
    · obtain rfl : j = l.n := by omega
      obtain ⟨_, k1, _⟩ := hat tp (by omega)
      have hall : l.ts.all (fun t => decide t.may) = true := by
        rw [List.all_eq_true]
        intro t ht
        obtain ⟨i, hi, rfl⟩ := List.getElem_of_mem ht
        have h := hmay.out i (by omega)
        rw [List.getD_eq_getElem?_getD, List.getElem?_eq_getElem hi] at h
        exact decide_eq_true h
      have hr := HR2.out
      rw [if_neg (by simp [hall])] at hr
      obtain ⟨lv, hlv⟩ : ∃ lv, (l.ts.getD tp default).leaves = lv := ⟨_, rfl⟩
      rw [hlv] at k1 hr
      have HRR := hid hr
      clear hat hlen hall hr hlv hmay hlt hf
      by_cases h1 : l.place < 0
      · have d1 : decide (l.place < 0) = true := by simpa using h1
        have HRX : Hid (R = 42) := hid (by rw [← HRR.out, if_pos (Or.inl h1)])
        go_wp2_with fail
        go_quiet (fail)
        go_wp2_with fail
        go_returns
        exact ⟨by rw [HRX.out]; rfl, HF.out.drewN _⟩
      · have d1 : decide (l.place < 0) = false := by simpa using h1
        by_cases h2 : lv ≤ l.place
        · have HRX : Hid (R = 42) := hid (by rw [← HRR.out, if_pos (Or.inr h2)])
          go_wp2_with fail
          go_quiet (fail)
          go_wp2_with fail
          go_returns
          exact ⟨by rw [HRX.out]; rfl, HF.out.drewN _⟩
        · have HRX : Hid (R = 0) := hid (by rw [← HRR.out, if_neg (fun h => h.elim h1 h2)])
          go_wp2_with fail
          go_quiet (fail)
          go_wp2_with fail
          go_returns
          exact ⟨by rw [HRX.out]; rfl, HF.out.drewN _⟩
end Go.Proofs.YtdnnbinmippkdaaDoor
