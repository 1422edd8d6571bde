/- The document's Check of a label. The document's Encode of a label. -/
import Derived.Test.YtdnnbinmippkdaaDoorPtrI
import Derived.BigQuiet
import Derived.Test.YtdnnbinmippkdaaDoorPtrBa
import Derived.Test.YtdnnbinmippkdaaDoorPtrK
import Derived.Test.YtdnnbinmippkdaaDoorPtrV
namespace Go.Proofs.YtdnnbinmippkdaaDoor
section
open Go.RowKit
set_option maxRecDepth 100000

set_option maxHeartbeats 3200000 in
theorem refMade_any (kind leaves sectors : Int) (w : World) :
    Calls Tryd.prog 40 #[.agg #[.int .i64 kind, .int .i64 leaves, .int .i64 sectors]] w fun e w' => e = .returned (.bool (decide (T3.may ⟨kind, leaves, sectors⟩))) ∧ Frm [] w w' := by
  obtain ⟨B, hB⟩ : ∃ B, decide (T3.may ⟨kind, leaves, sectors⟩) = B := ⟨_, rfl⟩
  have HB : Hid (((324 ≤ sectors ∧ sectors ≤ 8192 ∧ ((kind = 1 ∧ leaves = 1) ∨ (kind = 2 ∧ 2 ≤ leaves ∧ leaves ≤ 5) ∨ (kind = 3 ∧ 3 ≤ leaves ∧ leaves ≤ 5))) → B = true) ∧ (¬ (324 ≤ sectors ∧ sectors ≤ 8192 ∧ ((kind = 1 ∧ leaves = 1) ∨ (kind = 2 ∧ 2 ≤ leaves ∧ leaves ≤ 5) ∨ (kind = 3 ∧ 3 ≤ leaves ∧ leaves ≤ 5))) → B = false)) := hid (by
    rw [← hB]
    exact ⟨fun h => decide_eq_true (p := T3.may ⟨kind, leaves, sectors⟩) h, fun h => decide_eq_false (p := T3.may ⟨kind, leaves, sectors⟩) h⟩)
  rw [hB]
  clear hB
  go_enter Tryd.func40, Tryd.ntmps40
  by_cases h1 : sectors < 324
  · go_wp2_with fail
    go_returns
    exact ⟨by rw [show B = false from HB.out.2 (by omega)]; first | rfl | simp_all, (Frm.refl _ _).alloc _⟩
  by_cases h2 : 8192 < sectors
  · go_wp2_with fail
    go_returns
    exact ⟨by rw [show B = false from HB.out.2 (by omega)]; first | rfl | simp_all, (Frm.refl _ _).alloc _⟩
  by_cases h3 : 5 < leaves
  · go_wp2_with fail
    go_returns
    exact ⟨by rw [show B = false from HB.out.2 (by omega)]; first | rfl | simp_all, (Frm.refl _ _).alloc _⟩
  by_cases k1 : kind = 1
  · subst k1
    by_cases l1 : leaves = 1
    · subst l1
      go_wp2_with fail
      go_returns
      exact ⟨by rw [show B = true from HB.out.1 ⟨by omega, by omega, Or.inl ⟨(by first | rfl | trivial), (by first | rfl | trivial)⟩⟩]; first | rfl | simp_all, (Frm.refl _ _).alloc _⟩
    · have hb : (leaves == 1) = false := by simpa using l1
      go_wp2_with fail
      go_returns
      exact ⟨by rw [show B = false from HB.out.2 (by omega)]; first | rfl | simp_all, (Frm.refl _ _).alloc _⟩
  by_cases k2 : kind = 2
  · subst k2
    by_cases l1 : 2 ≤ leaves
    · go_wp2_with fail
      go_returns
      exact ⟨by rw [show B = true from HB.out.1 ⟨by omega, by omega, Or.inr (Or.inl ⟨(by first | rfl | trivial), by omega, by omega⟩)⟩]; first | rfl | simp_all, (Frm.refl _ _).alloc _⟩
    · have l1' : leaves < 2 := by omega
      go_wp2_with fail
      go_returns
      exact ⟨by rw [show B = false from HB.out.2 (by omega)]; first | rfl | simp_all, (Frm.refl _ _).alloc _⟩
  by_cases k3 : kind = 3
  · subst k3
    by_cases l1 : 3 ≤ leaves
    · go_wp2_with fail
      go_returns
      exact ⟨by rw [show B = true from HB.out.1 ⟨by omega, by omega, Or.inr (Or.inr ⟨(by first | rfl | trivial), by omega, by omega⟩)⟩]; first | rfl | simp_all, (Frm.refl _ _).alloc _⟩
    · have l1' : leaves < 3 := by omega
      go_wp2_with fail
      go_returns
      exact ⟨by rw [show B = false from HB.out.2 (by omega)]; first | rfl | simp_all, (Frm.refl _ _).alloc _⟩
  have b1 : (kind == 1) = false := by simpa using k1
  have b2 : (kind == 2) = false := by simpa using k2
  have b3 : (kind == 3) = false := by simpa using k3
  go_wp2_with fail
  go_returns
  exact ⟨by rw [show B = false from HB.out.2 (by omega)]; first | rfl | simp_all, (Frm.refl _ _).alloc _⟩
set_option maxHeartbeats 3200000 in
theorem refCheckL_any (l : LabV) (w : World) (hl : l.ok w) :
    Calls Tryd.prog 19 #[.agg l.arr] w fun e w' => e = .returned (.int .i64 (checkL l)) ∧ Frm [] w w' := by
  obtain ⟨R, hR⟩ : ∃ R, checkL l = R := ⟨_, rfl⟩
  have HR := hid hR
  rw [hR]
  have hrow := heap_alloc_new w (.cells #[.int .u64 l.pool, .slice l.p l.n l.c, .int .i64 l.top, .int .i64 l.place] 37)
  have HFA : Hid (Frm [] w (w.alloc (.cells #[.int .u64 l.pool, .slice l.p l.n l.c, .int .i64 l.top, .int .i64 l.place] 37))) := hid ((Frm.refl _ _).alloc _)
  have HOK := hid hl
  have hn1 := hl.le
  have hn2 := hl.mx
  obtain ⟨tt0, tt1⟩ := hl.top
  unfold LabV.arr
  obtain ⟨lb, hlb⟩ : ∃ lb, w.heap.size = lb := ⟨_, rfl⟩
  obtain ⟨wa, hwa⟩ : ∃ wa, w.alloc (.cells #[.int .u64 l.pool, .slice l.p l.n l.c, .int .i64 l.top, .int .i64 l.place] 37) = wa := ⟨_, rfl⟩
  rw [hlb, hwa] at hrow
  rw [hwa] at HFA
  have HROW := hid hrow
  have c1 : wa.cell? ⟨lb, 1, none⟩ = some (.slice l.p l.n l.c) := by rw [cell_of_row wa _ _ _ _ _ hrow]; rfl
  have c2 : wa.cell? ⟨lb, 2, none⟩ = some (.int .i64 l.top) := by rw [cell_of_row wa _ _ _ _ _ hrow]; rfl
  have c3 : wa.cell? ⟨lb, 3, none⟩ = some (.int .i64 l.place) := by rw [cell_of_row wa _ _ _ _ _ hrow]; rfl
  have d1 : wa.drew.cell? ⟨lb, 1, none⟩ = some (.slice l.p l.n l.c) := c1
  have d2 : wa.drew.cell? ⟨lb, 2, none⟩ = some (.int .i64 l.top) := c2
  have d3 : wa.drew.cell? ⟨lb, 3, none⟩ = some (.int .i64 l.place) := c3
  have HBAD : Hid (l.n < 1 ∨ 4 < l.n ∨ l.top < 0 ∨ (l.n : Int) ≤ l.top → R = 42) := hid (fun h => by
    rw [← hR]; unfold checkL; rw [if_pos h])
  clear hl hR hrow
  go_enter Tryd.func19, Tryd.ntmps19
  by_cases h1 : (l.n : Int) < 1
  · have g1 : decide ((l.n : Int) < 1) = true := by simpa using h1
    go_wp2_with fail
    go_quiet (fail)
    go_wp2_with fail
    go_returns
    exact ⟨by rw [HBAD.out (by omega)]; rfl, HFA.out.drewN _⟩
  have g1 : decide ((l.n : Int) < 1) = false := by simpa using h1
  by_cases h2 : 4 < (l.n : Int)
  · have g2 : decide (4 < (l.n : Int)) = true := by simpa using h2
    go_wp2_with fail
    go_quiet (fail)
    go_wp2_with fail
    go_returns
    exact ⟨by rw [HBAD.out (by omega)]; rfl, HFA.out.drewN _⟩
  have g2 : decide (4 < (l.n : Int)) = false := by simpa using h2
  by_cases h3 : l.top < 0
  · have g3 : decide (l.top < 0) = true := by simpa using h3
    go_wp2_with fail
    go_quiet (fail)
    go_wp2_with fail
    go_returns
    exact ⟨by rw [HBAD.out (by omega)]; rfl, HFA.out.drewN _⟩
  have g3 : decide (l.top < 0) = false := by simpa using h3
  by_cases h4 : (l.n : Int) ≤ l.top
  · have g4 : decide ((l.n : Int) ≤ l.top) = true := by simpa using h4
    go_wp2_with fail
    go_quiet (fail)
    go_wp2_with fail
    go_returns
    exact ⟨by rw [HBAD.out (by omega)]; rfl, HFA.out.drewN _⟩
  obtain ⟨tp, htp⟩ : ∃ tp : Nat, l.top = tp := ⟨l.top.toNat, by omega⟩
  have HTP := hid htp
  have h5 : ¬ (l.n < 1 ∨ 4 < l.n ∨ l.top < 0 ∨ (l.n : Int) ≤ l.top) := by omega
  have HR2 : Hid ((if ¬ l.ts.all (fun t => decide t.may) = true then 42 else if l.place < 0 ∨ (l.ts.getD tp default).leaves ≤ l.place then 42 else 0) = R) := hid (by
    have h := HR.out
    unfold checkL at h
    rw [if_neg h5, htp] at h
    simpa using h)
  have HPL : Hid (l.place < 0 ∨ (l.ts.getD tp default).leaves ≤ l.place → R = 42) := hid (fun h => by
    rw [← HR2.out]
    split
    · rfl
    · first | rfl | rw [if_pos h])
  rw [htp] at hwa c2 d2 h3 h4 ⊢
  have g3 : decide ((tp : Int) < 0) = false := by simp
  have g4 : decide (l.n ≤ tp) = false := by simp; omega
  clear HBAD HR h5 htp tt0 tt1
  have hlen := HOK.out.len
  obtain ⟨g, o, hp, hat⟩ : ∃ g o, l.p = some ⟨g, o, none⟩ ∧ ∀ i, i < l.n → wa.cell? ⟨g, o + i * 3, none⟩ = some (.int .i64 (l.ts.getD i default).kind) ∧ wa.cell? ⟨g, o + i * 3 + 1, none⟩ = some (.int .i64 (l.ts.getD i default).leaves) ∧ wa.cell? ⟨g, o + i * 3 + 2, none⟩ = some (.int .i64 (l.ts.getD i default).sectors) := by
    rcases HOK.out.rd.kept HFA.out (by simp) with h | ⟨g, o, e, h⟩
    · rw [h] at hlen; simp at hlen; omega
    · exact ⟨g, o, e, fun i hi => h i (by rw [hlen]; exact hi)⟩
  have HP := hid hp
  rw [hp] at hwa c1 d1 ⊢
  have ht4 : (tp : Int) < (l.n : Int) := by omega
  obtain ⟨_, k1, _⟩ := hat tp (by omega)
  have HAT := hid hat
  obtain ⟨lv, hlv⟩ : ∃ lv, (l.ts.getD tp default).leaves = lv := ⟨_, rfl⟩
  rw [hlv] at k1 HPL HR2
  have k1' : wa.drew.cell? ⟨g, o + tp * 3 + 1, none⟩ = some (.int .i64 lv) := k1
  clear hat hlv hlen
  by_cases h6 : l.place < 0
  · have g6 : decide (l.place < 0) = true := by simpa using h6
    go_wp2_with fail
    go_quiet (fail)
    go_wp2_with fail
    go_returns
    exact ⟨by rw [HPL.out (Or.inl h6)]; rfl, HFA.out.drewN _⟩
  have g6 : decide (l.place < 0) = false := by simpa using h6
  by_cases h7 : lv ≤ l.place
  · have g7 : decide (lv ≤ l.place) = true := by simpa using h7
    go_wp2_with fail
    go_quiet (fail)
    go_wp2_with fail
    go_returns
    exact ⟨by rw [HPL.out (Or.inr h7)]; rfl, HFA.out.drewN _⟩
  have g7 : decide (lv ≤ l.place) = false := by simpa using h7
  have HGD : Hid (l.ts.all (fun t => decide t.may) = true → R = 0) := hid (fun h => by rw [← HR2.out, if_neg (by simp [h]), if_neg (fun h => h.elim h6 h7)])
  have HNM : Hid (∀ j, j < l.n → ¬ (l.ts.getD j default).may → R = 42) := hid (fun j hj h => by
    rw [← HR2.out, if_pos]
    intro ha
    rw [List.all_eq_true] at ha
    have h1 := ha (l.ts.getD j default) (by
      rw [List.getD_eq_getElem?_getD, List.getElem?_eq_getElem (by rw [HOK.out.len]; exact hj)]
      exact List.getElem_mem _)
    exact h (of_decide_eq_true h1))
  go_wp2_with fail
  go_quiet (fail)
  go_wp2_with fail
  clear hwa hlb c1 c2 c3 d1 d2 d3 k1 k1' g1 g2 g3 g4 g6 g7 h1 h2 h3 h4 h6 h7 HPL HR2
  go_loopw [3, 4] (fun i v wr => ∃ j : Nat, j ≤ l.n ∧ i = .int .i64 j ∧ Hid (∀ k, k < j → (l.ts.getD k default).may) ∧ Hid (Frm [] wa wr)) (fun i _ _ => l.n - (intOf i).toNat)
  case atStart => exact ⟨0, by omega, rfl, hid (fun k hk => by omega), hid (by first | exact (Frm.refl _ _).drewN _ | exact (Frm.refl _ _).drew | exact Frm.refl _ _)⟩
  case round =>
    obtain ⟨j, hj, rfl, hmay, hf⟩ := hrel
    have hrow := hf.out.heap HROW.out (by simp)
    have c1 : wr.cell? ⟨lb, 1, none⟩ = some (.slice (some ⟨g, o, none⟩) l.n l.c) := by rw [cell_of_row wr _ _ _ _ _ hrow, ← HP.out]; rfl
    have HF := hid (HFA.out.trans hf.out (by simp))
    clear hrow
    by_cases hlt : j < l.n
    · have t1 : (j : Int) < (l.n : Int) := by omega
      obtain ⟨k0, k1, k2⟩ := HAT.out j hlt
      have k0 := (hf.out.cell (p := ⟨g, o + j * 3, none⟩) (World.block_lt_of_cell? wa _ k0) (by simp)).trans k0
      have k1 := (hf.out.cell (p := ⟨g, o + j * 3 + 1, none⟩) (World.block_lt_of_cell? wa _ k1) (by simp)).trans k1
      have k2 := (hf.out.cell (p := ⟨g, o + j * 3 + 2, none⟩) (World.block_lt_of_cell? wa _ k2) (by simp)).trans k2
      have HALL := hid (HNM.out j hlt)
      have HMY : Hid ((l.ts.getD j default).may → ∀ k, k < j + 1 → (l.ts.getD k default).may) := hid (fun h k hk => by
        by_cases hkj : k < j
        · exact hmay.out k hkj
        · obtain rfl : k = j := by omega
          exact h)
      obtain ⟨t, ht⟩ : ∃ t, l.ts.getD j default = t := ⟨_, rfl⟩
      rw [ht] at k0 k1 k2 HALL HMY
      obtain ⟨kind, leaves, sectors⟩ := t
      simp only at k0 k1 k2
      have HMB := hid (fun W => refMade_any kind leaves sectors W)
      clear ht
      go_wp2_with fail
      refine (HMB.out _).mono ?_
      rintro e w2 ⟨rfl, hf2⟩
      have HF2 := hid (HF.out.trans hf2 (by simp))
      have HG2 := hid (hf.out.trans hf2 (by simp))
      by_cases hm : T3.may ⟨kind, leaves, sectors⟩
      · rw [decide_eq_true hm]
        have HM2 := hid (HMY.out hm)
        clear hf2 hm HALL HMY hmay hf k0 k1 k2
        go_wp2_with fail
        go_roundw
        case rel => exact ⟨j + 1, by omega, by go_num, HM2, HG2⟩
        case measure => simp [intOf]; omega
      · rw [decide_eq_false hm]
        have HA2 := hid (HALL.out hm)
        clear hf2 hm HALL HMY hmay hf k0 k1 k2
        go_wp2_with fail
        go_returns
        exact ⟨by rw [HA2.out]; rfl, HF2.out⟩
    · obtain rfl : j = l.n := by omega
      have hall : l.ts.all (fun t => decide t.may) = true := by
        rw [List.all_eq_true]
        intro t ht
        obtain ⟨i, hi, rfl⟩ := List.getElem_of_mem ht
        have h := hmay.out i (by have := HOK.out.len; omega)
        rw [List.getD_eq_getElem?_getD, List.getElem?_eq_getElem hi] at h
        exact decide_eq_true h
      have HR0 := hid (HGD.out hall)
      clear hall hmay hlt hf
      go_wp2_with fail
      go_returns
      exact ⟨by rw [HR0.out]; rfl, HF.out⟩
end
section
open Go.RowKit
set_option maxRecDepth 100000

theorem step_appD {P : Program} {w : World} {ops : Array Oper} {o : Oper} {a : Act} {K : Act → World → Prop} {Q : Exit → Act → World → Prop} {Z : Prop} (hgd : o.guard = none) (sl x : Operand) (t : TypeId)
    (ho : o.op = .call { callee := .builtin .append, args := #[sl, x], argTypes := #[t, t] })
    (E : TypeId) (ht : P.underlying t = some (.slice E)) (hI : (P.info? E).map (fun i => (i.zero, i.size, i.bytes)) = some (some (.int .u8 0), 1, 1))
    (p0 : Option Addr) (n0 c0 : Nat) (zs : List Int) (hs : a.eval sl = .slice p0 n0 c0) (hn0 : n0 = zs.length) (hown : Own w E (.slice p0 zs.length c0) zs)
    (p : Option Addr) (n c : Nat) (ns : List Int) (hx : a.eval x = .slice p n c) (hn : n = ns.length) (hp : ns = [] → p = none → c = 0) (hrd : Rd w p ns) (hsz : zs.length + ns.length ≤ 140737488355328)
    (h : ∀ xs p2 c2 w', Hid (xs = zs ++ ns) → Hid (Own w' E (.slice p2 xs.length c2) xs) → Hid (Frm (blk p0) w w') → Hid (∀ k ∈ blk p2, k ∈ blk p0 ∨ w.heap.size ≤ k) → K (a.put o.dst (.slice p2 xs.length c2)) w') :
    if Region.wanted o (yielded ops a.tmps) = true then Oper.wp P o a w K Q else Z := by
  have hw : Region.wanted o (yielded ops a.tmps) = true := by simp [Region.wanted, hgd]
  rw [if_pos hw]
  subst hn
  subst hn0
  obtain ⟨v', w', hrun, h1, h2, h3⟩ := run_appB (P := P) (w := w) t o.type E ht hI _ zs hown p c ns hp hrd hsz
  obtain ⟨xs, hxs⟩ : ∃ xs, xs = zs ++ ns := ⟨_, rfl⟩
  rw [← hxs] at h1
  obtain ⟨p2, c2, rfl, _, _, _, hb⟩ := h1.shape
  rw [hb, own_blk] at h3
  rw [own_blk] at h2
  unfold Oper.wp
  simp [execOp, ho, resolve, invoke, builtin, hs, hx, hrun, Result.andThen]
  exact h xs p2 c2 w' hxs h1 h2 h3
set_option maxHeartbeats 6400000 in
theorem refEncodeL_any (l : LabV) (w : World) (hl : l.ok w) :
    Calls Tryd.prog 16 #[.agg l.arr] w (EncD w (sealB (labB l)) (checkL l)) := by
  have HCK := hid (refCheckL_any l (w.alloc (.cells l.arr 37)) (hl.kept ((Frm.refl _ _).alloc _)))
  have HCF : Hid (checkL l = 0 → l.fits) := hid (fun h => checkL_ok hl h)
  obtain ⟨C, hC⟩ : ∃ C, checkL l = C := ⟨_, rfl⟩
  rw [hC] at HCK HCF ⊢
  obtain ⟨PO, hPO⟩ : ∃ PO, EncD w (sealB (labB l)) C = PO := ⟨_, rfl⟩
  rw [hPO]
  have HPO := hid hPO
  have HOK := hid hl
  have HROW := hid (heap_alloc_new w (.cells l.arr 37))
  have HFA : Hid (Frm [] w (w.alloc (.cells l.arr 37))) := hid ((Frm.refl _ _).alloc _)
  have hle := hl.le
  have hmx := hl.mx
  clear hl hC hPO
  unfold LabV.arr at HCK HROW HFA ⊢
  obtain ⟨lb, hlb⟩ : ∃ lb, w.heap.size = lb := ⟨_, rfl⟩
  obtain ⟨wa, hwa⟩ : ∃ wa, w.alloc (.cells #[.int .u64 l.pool, .slice l.p l.n l.c, .int .i64 l.top, .int .i64 l.place] 37) = wa := ⟨_, rfl⟩
  rw [hwa] at HFA HCK
  rw [hwa, hlb] at HROW
  have HLB := hid hlb
  obtain ⟨q0, q1, q2, q3⟩ := lb_row (l := l) HROW.out
  go_enter Tryd.func16, Tryd.ntmps16
  go_wp2_with fail
  refine HCK.out.mono ?_
  rintro e w1 ⟨rfl, hf1⟩
  have HF1 := hid (HFA.out.trans hf1 (by simp))
  have HR1 := hid (hf1.heap HROW.out (by simp))
  clear hf1 q0 q1 q2 q3 hwa hlb HROW HFA HCK
  by_cases hC0 : C = 0
  case neg =>
    have hb : (C != 0) = true := by simpa using hC0
    go_wp2_with fail
    rw [← HPO.out]
    exact Or.inl ⟨hC0, rfl, HF1.out⟩
  subst hC0
  have HFT := hid (HCF.out rfl)
  have hn4 := HFT.out.n
  have hfb : Frm [] w1 (w1.alloc (.cells #[.int .u8 85, .int .u8 67, .int .u8 76, .int .u8 66] 5 (4, 5))) := (Frm.refl _ _).alloc _
  have hcv := conv_const w1 #[.int .u8 85, .int .u8 67, .int .u8 76, .int .u8 66] 4 4
  have HRD := hid (rd_markP (w := w1) (zs := [85, 67, 76, 66]) (E := 5) (fr := (4, 5)))
  have hrb := hfb.heap HR1.out (by simp)
  have q0 := (lb_row (l := l) hrb).1
  have HRB := hid hrb
  have HFB := hid (HF1.out.trans hfb (by simp))
  clear hfb hrb HR1 HCF
  go_wp2_with fail
  obtain ⟨gb, hgb⟩ : ∃ gb, w1.heap.size = gb := ⟨_, rfl⟩
  obtain ⟨wb, hwb⟩ : ∃ wb, w1.alloc (.cells #[.int .u8 85, .int .u8 67, .int .u8 76, .int .u8 66] 5 (4, 5)) = wb := ⟨_, rfl⟩
  have hrd : Rd (w1.alloc (.cells #[.int .u8 85, .int .u8 67, .int .u8 76, .int .u8 66] 5 (4, 5))) (some ⟨w1.heap.size, 0, none⟩) [85, 67, 76, 66] := HRD.out
  rw [hwb] at HRB HFB hrd
  rw [hgb] at hrd
  rw [hwb, hgb]
  have HRD2 := hid hrd
  clear hrd HRD hcv q0 hwb hgb
  have h1 := refNumC_any gb 4 [85, 67, 76, 66] l.pool 8 wb HRD2.out rfl HOK.out.pool (by omega) (by omega) (by omega)
  refine h1.mono ?_
  rintro e x1 ⟨p1, c1, rfl, o1, f1, n1⟩
  obtain ⟨Z1, hZ1⟩ : ∃ Z, [85, 67, 76, 66] ++ le l.pool 8 = Z := ⟨_, rfl⟩
  have hz1 : Z1.length = 12 := by rw [← hZ1]; simp [le_length]
  rw [hZ1] at o1
  have HZ1 := hid hZ1
  have HO1 : Hid (Own x1 5 (.slice p1 12 c1) Z1) := hid o1
  have hr1 := f1.heap HRB.out (by simp)
  have R1 := hid hr1
  have HFX := hid (HFB.out.trans f1 (by simp))
  have HG1 : Hid (∀ i ∈ blk p1, w.heap.size ≤ i ∧ lb < i) := hid (fun i hi => by have h1 := n1 i hi; have h2 := lt_of_heap HRB.out; have h3 := HFB.out.size; exact ⟨by omega, by omega⟩)
  clear h1 o1 f1 n1 HRB HFB HRD2 HF1 hZ1
  have e1 : IntKind.u8.wrap l.top = l.top := IntWalk.u8_in _ (by have := HFT.out.top; omega)
  have e2 : IntKind.u8.wrap l.place = l.place := IntWalk.u8_in _ (by have := HFT.out.place; omega)
  have e3 : IntKind.u8.wrap (l.n : Int) = (l.n : Int) := IntWalk.u8_in _ (by omega)
  obtain ⟨q0, q1, q2, q3⟩ := lb_row (l := l) hr1
  have hlt := lt_of_heap hr1
  have HRZ : Hid (Rd (x1.alloc (.cells #[.int .u8 l.top, .int .u8 l.place, .int .u8 (l.n : Int)] 5)) (some ⟨x1.heap.size, 0, none⟩) [l.top, l.place, (l.n : Int)]) := hid (own_of_block (E := 5) (zs := [l.top, l.place, (l.n : Int)]) (heap_alloc_new x1 _) (by simp [maxLen])).rd
  have HOA := hid (HO1.out.kept ((Frm.refl [] x1).alloc (.cells #[.int .u8 l.top, .int .u8 l.place, .int .u8 (l.n : Int)] 5)) (by simp))
  have HF3 : Hid (Frm [] x1 (x1.alloc (.cells #[.int .u8 l.top, .int .u8 l.place, .int .u8 (l.n : Int)] 5))) := hid ((Frm.refl _ _).alloc _)
  clear hr1
  go_wp2_with (at_builtin; refine wpList_appB rfl _ _ 28 rfl 5 Tryd.underlying28 infoB p1 _ c1 Z1 rfl hz1.symm (by rw [hz1]; exact HOA.out) (some ⟨x1.heap.size, 0, none⟩) 3 3 [l.top, l.place, (l.n : Int)] rfl rfl (by simp) HRZ.out (by rw [hz1]; simp) ?_)
  intro xs p2 c2 x2 hxs ho2 hf2 hfr2
  have hxe : xs = headL l := by
    rw [hxs.out, ← HZ1.out]
    unfold headL
    rw [le_one' l.top HFT.out.top.1 HFT.out.top.2, le_one' l.place HFT.out.place.1 HFT.out.place.2, le_one' (l.n : Int) (by omega) (by omega)]
    simp
  have hxl : xs.length = 15 := by rw [hxe, headL_length]
  have hfx : Frm (blk p1) x1 x2 := (HF3.out.mono (by simp)).trans hf2.out (fun i hi _ => hi)
  have HB2 : Hid (BufN x1 p1 x2 p2 15 c2 (headL l ++ topsT l.ts 0)) := hid (by
    have h := ho2.out
    rw [hxl, hxe] at h
    refine ⟨by simpa [topsT] using h, by simp [topsT, headL_length], hfx, fun i hi => (hfr2.out i hi).imp id (fun h => by omega)⟩)
  rw [hxl]
  clear hxs ho2 hf2 hfr2 hxe hxl hfx HOA HRZ HF3 HO1 q0 q1 q2 q3 hlt e1 e2 e3 hz1
  go_wp2_with fail
  go_loopw [5, 6] (fun v i wr => ∃ (j m d : Nat) (q : Option Addr), j ≤ l.n ∧ i = .int .i64 j ∧ v = .slice q m d ∧ Hid (m = 15 + 6 * j) ∧ Hid (BufN x1 p1 wr q m d (headL l ++ topsT l.ts j))) (fun _ i _ => l.n - (intOf i).toNat)
  case atStart => exact ⟨0, 15, c2, p2, by omega, rfl, rfl, hid rfl, HB2⟩
  case round =>
    clear HB2
    obtain ⟨j, m, d, q, hj, rfl, rfl, hm, hb⟩ := hrel
    have hlen := HOK.out.len
    have HGq : Hid (∀ i ∈ blk q, w.heap.size ≤ i ∧ lb < i) := hid (fun i hi => (hb.out.bk i hi).elim (HG1.out i) (fun h => by have h2 := HFX.out.size; have h3 := lt_of_heap R1.out; exact ⟨by omega, by omega⟩))
    have HRr := hid (hb.out.fr.heap R1.out (fun h => by have := (HG1.out _ h).2; omega))
    obtain ⟨q0, q1, q2, q3⟩ := lb_row (l := l) HRr.out
    have hlt0 := lt_of_heap HRr.out
    by_cases hlt : j < l.n
    · have t1 : (j : Int) < (l.n : Int) := by omega
      obtain ⟨g, o, hp, HAT⟩ : ∃ g o, l.p = some ⟨g, o, none⟩ ∧ Hid (g < w.heap.size ∧ ∀ W, Frm [] w W ∨ (∃ W0, Frm [] w W0 ∧ Frm (blk p1) W0 W) → W.cell? ⟨g, o + j * 3, none⟩ = some (.int .i64 (l.ts.getD j default).kind) ∧ W.cell? ⟨g, o + j * 3 + 1, none⟩ = some (.int .i64 (l.ts.getD j default).leaves) ∧ W.cell? ⟨g, o + j * 3 + 2, none⟩ = some (.int .i64 (l.ts.getD j default).sectors)) := by
        rcases HOK.out.rd with h | ⟨g, o, e, h⟩
        · rw [h] at hlen; simp at hlen; omega
        · have h3 := h j (by omega)
          have hg := World.block_lt_of_cell? w _ h3.1
          have hg' : g < w.heap.size := hg
          refine ⟨g, o, e, hid ⟨hg, fun W hW => ?_⟩⟩
          have key : ∀ k, W.cell? ⟨g, k, none⟩ = w.cell? ⟨g, k, none⟩ := fun k => by
            rcases hW with hW | ⟨W0, h0, h1⟩
            · exact hW.cell (p := ⟨g, k, none⟩) hg' (by simp)
            · exact (h1.cell (p := ⟨g, k, none⟩) (Nat.lt_of_lt_of_le hg' h0.size) (fun h => by have := (HG1.out g h).1; omega)).trans (h0.cell (p := ⟨g, k, none⟩) hg' (by simp))
          exact ⟨(key _).trans h3.1, (key _).trans h3.2.1, (key _).trans h3.2.2⟩
      rw [hp] at q1
      have HFJ := hid (HFT.out.each j hlt)
      have hsu : topsT l.ts (j + 1) = topsT l.ts j ++ (le (l.ts.getD j default).kind 1 ++ le (l.ts.getD j default).leaves 1 ++ le (l.ts.getD j default).sectors 4) := rfl
      obtain ⟨t, ht⟩ : ∃ t, l.ts.getD j default = t := ⟨_, rfl⟩
      rw [ht] at HAT HFJ hsu
      obtain ⟨⟨a0, a1⟩, ⟨b0, b1⟩, ⟨s0, s1⟩⟩ := HFJ.out
      obtain ⟨kind, leaves, sectors⟩ := t
      simp only at HAT HFJ hsu a0 a1 b0 b1 s0 s1
      obtain ⟨k0, k1, k2⟩ := HAT.out.2 wr (Or.inr ⟨x1, HFX.out, hb.out.fr⟩)
      obtain ⟨YJ, hYJ⟩ : ∃ Y, headL l ++ topsT l.ts j = Y := ⟨_, rfl⟩
      have HSU : Hid (headL l ++ topsT l.ts (j + 1) = YJ ++ (le kind 1 ++ le leaves 1 ++ le sectors 4)) := hid (by rw [hsu, ← hYJ, ← List.append_assoc])
      rw [hYJ] at hb
      have hyl : YJ.length = m := hb.out.len
      have hm' : m ≤ 39 := by have := hm.out; omega
      have w1' : IntKind.u8.wrap kind = kind := IntWalk.u8_in _ (by omega)
      have w2' : IntKind.u8.wrap leaves = leaves := IntWalk.u8_in _ (by omega)
      have w3' : IntKind.u64.wrap sectors = sectors := IntWalk.u64_in _ (by omega)
      have HP := hid hp
      clear ht hsu hYJ hlen hp
      go_wp2_with fail
      have hf7 : Frm [] wr wr.drew := (Frm.refl [] wr).drew
      have HRZ : Hid (Rd (wr.drew.alloc (.cells #[.int .u8 kind, .int .u8 leaves] 5)) (some ⟨wr.heap.size, 0, none⟩) [kind, leaves]) := hid (own_of_block (E := 5) (zs := [kind, leaves]) (heap_alloc_new wr.drew _) (by simp [maxLen])).rd
      have HBA := hid (hb.out.post (hf7.alloc (.cells #[.int .u8 kind, .int .u8 leaves] 5)))
      have HRA := hid ((hf7.alloc (.cells #[.int .u8 kind, .int .u8 leaves] 5)).heap HRr.out (by simp))
      have HOA : Hid (Own (wr.drew.alloc (.cells #[.int .u8 kind, .int .u8 leaves] 5)) 5 (.slice q YJ.length d) YJ) := hid (by rw [hyl]; exact HBA.out.own)
      have HYL : Hid (m = YJ.length) := hid hyl.symm
      have HSZ : Hid (YJ.length + ([kind, leaves] : List Int).length ≤ 140737488355328) := hid (by rw [hyl]; simp; omega)
      clear hf7 hb hyl
      go_region_law ((refine step_appD (by rfl) _ _ 28 (by rfl) 5 Tryd.underlying28 infoB q m d YJ (by rfl) HYL.out HOA.out (some ⟨wr.heap.size, 0, none⟩) 2 2 [kind, leaves] (by rfl) (by rfl) (by simp) HRZ.out HSZ.out ?_; intro xs p3 c3 w8 hxs ho3 hf3 hfr3))
      all_goals
        have hyl := HYL.out.symm
        obtain ⟨YK, hYK⟩ : ∃ Y, YJ ++ [kind, leaves] = Y := ⟨_, rfl⟩
        have hxe : xs = YK := by rw [hxs.out, hYK]
        have hxl : xs.length = m + 2 := by rw [hxs.out, List.length_append, hyl]; rfl
        have HB8 : Hid (BufN x1 p1 w8 p3 (m + 2) c3 YK) := hid (by
          have h := ho3.out
          rw [hxl, hxe] at h
          exact HBA.out.trans ⟨h, by rw [← hxe]; exact hxl, hf3.out, fun i hi => hfr3.out i hi⟩)
        have HR8 := hid (hf3.out.heap HRA.out (fun h => by have := (HGq.out _ h).2; omega))
        have HYK : Hid (YK ++ le sectors 4 = headL l ++ topsT l.ts (j + 1)) := hid (by
          rw [HSU.out, ← hYK, le_one' kind a0 a1, le_one' leaves b0 b1]
          simp)
        rw [hxl]
        clear hxs ho3 hf3 hfr3 hxe hxl hYK HBA HRA HRZ HOA HYL HSZ HRr hyl HSU k0 k1 k2 q0 q1 q2 q3 hlt0 w1' w2'
        obtain ⟨q0, q1, q2, q3⟩ := lb_row (l := l) HR8.out
        rw [HP.out] at q1
        obtain ⟨k0, k1, k2⟩ := HAT.out.2 w8 (Or.inr ⟨x1, HFX.out, HB8.out.fr⟩)
        go_wp2_with fail
        refine (refNum_any p3 (m + 2) c3 YK sectors 4 w8 HB8.out.own ⟨s0, by omega⟩ (by omega) (by omega)).mono ?_
        rintro e w9 ⟨p4, c4, rfl, b4⟩
        have HB9 : Hid (BufN x1 p1 w9 p4 (m + 2 + 4) c4 (headL l ++ topsT l.ts (j + 1))) := hid (by rw [← HYK.out]; exact HB8.out.trans b4)
        clear b4 HB8 HR8 HYK q0 q1 q2 q3 k0 k1 k2 w3'
        go_wp2_with fail
        go_roundw
        case rel => exact ⟨j + 1, m + 2 + 4, c4, p4, by omega, by go_num, rfl, hid (by have := hm.out; omega), HB9⟩
        case measure => simp [intOf]; omega
    · obtain rfl : j = l.n := by omega
      have hm' : m ≤ 96 := by have := hm.out; omega
      have HE : Hid (bodyL l ++ List.replicate (96 - m) 0 = labB l) := hid (by unfold labB; rw [show 96 - m = 81 - 6 * l.n by have := hm.out; omega])
      have HBY : Hid (∀ z ∈ bodyL l, 0 ≤ z ∧ z < 256) := hid (fun z hz => labB_byte l z (List.mem_append_left _ hz))
      have HBB : Hid (BufN x1 p1 wr q m d (bodyL l)) := hb
      have HLL : Hid ((sealB (labB l)).length = 128) := hid (by rw [sealB_length, labB_length hn4])
      clear hb hlt
      go_wp2_with fail
      refine (refSummed_any q m d (bodyL l) wr HBB.out.own HBY.out hm').mono ?_
      rintro e w9 ⟨p4, c4, rfl, b4⟩
      rw [HE.out] at b4
      have HB9 := hid (HBB.out.trans b4)
      clear b4 HBB q0 q1 q2 q3 hlt0
      go_wp2_with fail
      rw [← HPO.out]
      refine Or.inr ⟨rfl, p4, 128, c4, rfl, HLL.out.symm, HB9.out.own, HFX.out.trans HB9.out.fr (fun i hi hl => by have := (HG1.out i hi).1; omega), fun i hi => ?_⟩
      rcases HB9.out.bk i hi with h | h
      · exact (HG1.out i h).1
      · exact Nat.le_trans HFX.out.size h
end
end Go.Proofs.YtdnnbinmippkdaaDoor
