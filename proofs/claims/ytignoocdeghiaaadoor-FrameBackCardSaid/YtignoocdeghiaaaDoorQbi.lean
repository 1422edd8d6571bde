/- FrameBack for any request, any reply, any bytes. -/
import Derived.Test.YtignoocdeghiaaaDoorQbh
import Derived.Test.YtignoocdeghiaaaDoorQau
import Derived.Deep.CutBlock
namespace Go.Proofs.YtignoocdeghiaaaDoor
section
open Go.RowKit Go.Lib
set_option maxRecDepth 100000

theorem frm_bdQ2 {b : List Int} (hb : ∀ z ∈ b, 0 ≤ z ∧ z < 256) : ∀ z ∈ frm b, 0 ≤ z ∧ z < 256 := by
  intro z hz
  unfold frm at hz
  rcases List.mem_append.1 hz with h | h
  · rcases List.mem_append.1 h with h | h
    · exact le_bd _ _ z h
    · exact hb z h
  · exact le_bd _ _ z h
/-- A request that was laid down is read as it was. -/
theorem readBackQ {r : Rq} {ds : List Int} (hm : MayQ r) (hl : ds.length = r.dl) (hz : ∀ z ∈ ds, 0 ≤ z ∧ z < 256) (V : World) (p : Option Addr) (n c : Nat) (ho : Own V 5 (.slice p n c) (frm (inQ r ds))) (hn : (frm (inQ r ds)).length = n) (hpr : Primes V) :
    Calls Tryd.prog 17 #[.slice p n c] V fun e w' => ∃ p n c, e = .returned (.tuple #[.agg (Rq.mk r.ses r.id r.verb r.name r.item r.other r.path r.at_ r.many p n c).arr, .int .i64 0]) ∧ ds.length = n ∧ Rd w' p ds ∧ Frm [] V w' := by
  obtain ⟨h1, h2, h3⟩ := back_q hm hl
  refine (readRequest_any p n c _ V hn (own_capD ho).2.1 ho.rd (frm_bdQ2 (inQ_bd hz)) hpr).mono ?_
  rintro e w' ⟨p, n, c, he, hn, ho, hnw, hf⟩
  rw [h1, h3] at he
  rw [h2] at hn ho
  subst hn
  exact ⟨p, _, c, he, rfl, ho.rd, hf⟩
theorem readBackA {r : Ra} {L : List ByteArray} {ds : List Int} (hm : MayA r L) (hL : L.length = r.ln) (hl : ds.length = r.dl) (hz : ∀ z ∈ ds, 0 ≤ z ∧ z < 256) (V : World) (p : Option Addr) (n c : Nat) (ho : Own V 5 (.slice p n c) (frm (inA r L ds))) (hn : (frm (inA r L ds)).length = n) (hpr : Primes V) :
    Calls Tryd.prog 19 #[.slice p n c] V fun e w' => ∃ lp lc p n c, e = .returned (.tuple #[.agg (Ra.mk r.ses r.id r.err r.num r.text lp r.ln lc p n c).arr, .int .i64 0]) ∧ ds.length = n ∧ Rd w' p ds ∧ RdL w' lp L ∧ Frm [] V w' := by
  obtain ⟨h1, h2, h3, h4⟩ := back_a hm hL hl
  refine (readReply_any p n c _ V hn (own_capD ho).2.1 ho.rd (frm_bdQ2 (inA_bd hz)) hpr).mono ?_
  rintro e w' ⟨lp, ln, lc, p, n, c, he, hn, ho, hnw, hll, hrl, hnl, hf⟩
  rw [h1, h4] at he
  rw [h3] at hn ho
  rw [h2] at hll hrl
  rw [hL] at hll
  subst hn hll
  exact ⟨lp, lc, p, _, c, he, rfl, ho.rd, hrl, hf⟩
/-- What was read is laid down as the same bytes. -/
theorem layBackQ {bs : List Int} (hb : ∀ z ∈ bs, 0 ≤ z ∧ z < 256) (h : rqE bs = 0) (V : World) (p : Option Addr) (n c : Nat) (hn : n = (rqD bs).length) (ho : Own V 5 (.slice p n c) (rqD bs)) (hpr : Primes V) :
    Calls Tryd.prog 10 #[.agg (rqG bs p n c).arr] V fun e w' => ∃ q m d, e = .returned (.tuple #[.slice q m d, .int .i64 0]) ∧ bs.length = m ∧ Rd w' q bs ∧ Frm [] V w' := by
  subst hn
  obtain ⟨h1, h2⟩ := back_b hb h p c
  have hG : rqG bs p (rqD bs).length c = reqT (midF bs) (s0F bs) p (rqD bs).length c := by unfold rqG; rw [if_pos h]
  have hdp : (rqG bs p (rqD bs).length c).dp = p ∧ (rqG bs p (rqD bs).length c).dl = (rqD bs).length ∧ (rqG bs p (rqD bs).length c).dc = c := by rw [hG]; exact ⟨rfl, rfl, rfl⟩
  have hz : ∀ z ∈ rqD bs, 0 ≤ z ∧ z < 256 := fun z hz => hb z (by
    rw [← h2]
    unfold frm inQ bodyQ
    simp only [List.mem_append]
    exact Or.inl (Or.inr (Or.inr (Or.inr hz))))
  have hrq := request_any (rqG bs p (rqD bs).length c) (rqD bs) V (by rw [hdp.1]; exact ho.rd) (by rw [hdp.2.1]) (fun _ hp => by rw [hdp.1] at hp; rw [hdp.2.2]; exact (own_capD ho).2.2 hp) hz hpr
  refine hrq.mono ?_
  intro e w' he
  obtain ⟨q, m, d, e1, e2, e3, _, e5⟩ := he.one (by rw [hdp.2.1])
  have e6 : frmR (rqG bs p (rqD bs).length c) (rqD bs) = bs := by unfold frmR; rw [if_pos h1, h2]
  have e7 : errQ (rqG bs p (rqD bs).length c) = 0 := by unfold errQ; rw [if_pos h1]
  rw [e6] at e2 e3
  rw [e7] at e1
  exact ⟨q, m, d, e1, e2, e3.rd, e5⟩
theorem layBackA {bs : List Int} (hb : ∀ z ∈ bs, 0 ≤ z ∧ z < 256) (h : raE bs = 0) (V : World) (lp : Option Addr) (ln lc : Nat) (p : Option Addr) (n c : Nat) (hn : n = (raD bs).length) (ho : Own V 5 (.slice p n c) (raD bs)) (hln : ln = (raL bs).length) (hrl : RdL V lp (raL bs)) (hpr : Primes V) :
    Calls Tryd.prog 12 #[.agg (raG bs lp ln lc p n c).arr] V fun e w' => ∃ q m d, e = .returned (.tuple #[.slice q m d, .int .i64 0]) ∧ bs.length = m ∧ Rd w' q bs ∧ Frm [] V w' := by
  subst hn hln
  obtain ⟨h1, h2⟩ := back_ba hb h lp lc p c
  have hG : raG bs lp (raL bs).length lc p (raD bs).length c = repT (midF bs) (s0F bs) lp (raL bs).length lc p (raD bs).length c := by unfold raG; rw [if_pos h]
  obtain ⟨G, hGG⟩ : ∃ G, raG bs lp (raL bs).length lc p (raD bs).length c = G := ⟨_, rfl⟩
  have hdp : G.dp = p ∧ G.dl = (raD bs).length ∧ G.dc = c ∧ G.lp = lp ∧ G.ln = (raL bs).length := by rw [← hGG, hG]; exact ⟨rfl, rfl, rfl, rfl, rfl⟩
  rw [hGG] at h1 h2 ⊢
  have hz : ∀ z ∈ raD bs, 0 ≤ z ∧ z < 256 := fun z hz => hb z (by
    rw [← h2]
    unfold frm inA bodyA
    simp only [List.mem_append]
    exact Or.inl (Or.inr (Or.inr (Or.inr hz))))
  have hrq := reply_any G (raL bs) (raD bs) V (by rw [hdp.2.2.2.2]) (by rw [hdp.2.2.2.1]; exact hrl) (by rw [hdp.1]; exact ho.rd) (by rw [hdp.2.1]) (fun _ hp => by rw [hdp.1] at hp; rw [hdp.2.2.1]; exact (own_capD ho).2.2 hp) hz hpr
  refine hrq.mono ?_
  intro e w' he
  obtain ⟨q, m, d, e1, e2, e3, _, e5⟩ := he.oneA (by rw [hdp.2.1])
  have e6 : frmA G (raL bs) (raD bs) = bs := by unfold frmA; rw [if_pos h1, h2]
  have e7 : errA G (raL bs) = 0 := by unfold errA; rw [if_pos h1]
  rw [e6] at e2 e3
  rw [e7] at e1
  exact ⟨q, m, d, e1, e2, e3.rd, e5⟩
set_option maxHeartbeats 51200000 in
theorem backLaw_any (r : Rq) (ds : List Int) (ra : Ra) (L : List ByteArray) (da : List Int) (bp : Option Addr) (bl bc : Nat) (bs : List Int) (w : World) (hd : Rd w r.dp ds) (hl : ds.length = r.dl) (hn : ds = [] → r.dp = none → r.dc = 0) (hz : ∀ z ∈ ds, 0 ≤ z ∧ z < 256)
    (hL : L.length = ra.ln) (hln : ra.ln ≤ 9223372036854775807) (hrl : RdL w ra.lp L) (had : Rd w ra.dp da) (hal : da.length = ra.dl) (han : da = [] → ra.dp = none → ra.dc = 0) (haz : ∀ z ∈ da, 0 ≤ z ∧ z < 256)
    (hbd : Rd w bp bs) (hbl : bs.length = bl) (hbc : bl ≤ bc) (hbz : ∀ z ∈ bs, 0 ≤ z ∧ z < 256) (hpr : Primes w) :
    Calls Tryd.prog 6 #[.agg r.arr, .agg ra.arr, .slice bp bl bc] w fun e w' => e = .returned (.bool true) ∧ Frm [] w w' := by
  obtain ⟨PO, hPO⟩ : ∃ PO : Ending → World → Prop, (fun e w' => e = .returned (.bool true) ∧ Frm [] w w') = PO := ⟨_, rfl⟩
  rw [hPO]
  have HP : Hid (∀ w', Frm [] w w' → PO (.returned (.bool true)) w') := hid (fun w' h => by rw [← hPO]; exact ⟨rfl, h⟩)
  have HAW := hid (fun W (hf : Frm [] w W) => awakeF_any W (hpr.kept hf))
  have HRQ := hid (fun W (hf : Frm [] w W) => (request_any r ds W (hd.kept hf (by simp)) hl hn hz (hpr.kept hf)).mono (fun e w' h => h.one hl))
  have HRA := hid (fun W (hf : Frm [] w W) => (reply_any ra L da W hL (hrl.kept hf (by simp)) (had.kept hf (by simp)) hal han haz (hpr.kept hf)).mono (fun e w' h => h.oneA hal))
  have HBQ := hid (fun (hm : MayQ r) V p n c ho hn hp => readBackQ (ds := ds) hm hl hz V p n c ho hn hp)
  have HBA := hid (fun (hm : MayA ra L) V p n c ho hn hp => readBackA (ds := da) hm hL hal haz V p n c ho hn hp)
  have HB3 := hid (fun W (hf : Frm [] w W) => readRequest_any bp bl bc bs W hbl hbc (hbd.kept hf (by simp)) hbz (hpr.kept hf))
  have HB4 := hid (fun W (hf : Frm [] w W) => readReply_any bp bl bc bs W hbl hbc (hbd.kept hf (by simp)) hbz (hpr.kept hf))
  have HL3 := hid (fun (h : rqE bs = 0) V p n c hn ho hp => layBackQ hbz h V p n c hn ho hp)
  have HL4 := hid (fun (h : raE bs = 0) V lp ln lc p n c hn ho hln hrl hp => layBackA hbz h V lp ln lc p n c hn ho hln hrl hp)
  have HPR := hid (fun W (hf : Frm [] w W) => hpr.kept hf)
  have HDD := hid (fun W (hf : Frm [] w W) => hd.kept hf (by simp))
  have HAD := hid (fun W (hf : Frm [] w W) => had.kept hf (by simp))
  have HAL := hid (fun W (hf : Frm [] w W) => hrl.kept hf (by simp))
  have HCV := hid (fun W (hf : Frm [] w W) => cv_any (P := Tryd.prog) (w := W) 22 5 9 Tryd.underlying22 Tryd.underlying5 Tryd.underlying9 (hbd.kept hf (by simp)) bc hbl)
  have HLD := hid hl
  have HLA := hid hal
  have HLL := hid hL
  obtain ⟨wa, hwa⟩ : ∃ z, w.alloc (.cells r.arr 24) = z := ⟨_, rfl⟩
  have hra := heap_alloc_new w (.cells r.arr 24)
  have hfa : Frm [] w wa := by rw [← hwa]; exact (Frm.refl _ _).alloc _
  obtain ⟨ba, hba⟩ : ∃ z, w.heap.size = z := ⟨_, rfl⟩
  rw [hwa, hba] at hra
  obtain ⟨wb, hwb⟩ : ∃ z, wa.alloc (.cells ra.arr 32) = z := ⟨_, rfl⟩
  have hrb := heap_alloc_new wa (.cells ra.arr 32)
  have hfb : Frm [] wa wb := by rw [← hwb]; exact (Frm.refl _ _).alloc _
  obtain ⟨bb, hbb⟩ : ∃ z, wa.heap.size = z := ⟨_, rfl⟩
  rw [hwb, hbb] at hrb
  have hbs : ba + 1 = bb := by rw [← hbb, ← hwa, ← hba]; simp
  have HBS := hid hbs
  have HBA1 := hid hba
  have HBB := hid hbb
  have HWA := hid hwa
  have HWB := hid hwb
  have HF : Hid (Frm [] w wb) := hid (hfa.trans hfb (by simp))
  have HXQ : Hid (∀ V, Frm [] wb V → V.heap[ba]? = some (.cells r.arr 24 (0, 0)) ∧ V.heap[bb]? = some (.cells ra.arr 32 (0, 0))) := hid (fun V hf => ⟨hf.heap (hfb.heap hra (by simp)) (by simp), hf.heap hrb (by simp)⟩)
  have HE1 : Hid ((MayQ r ∧ errQ r = 0 ∧ frmR r ds = frm (inQ r ds)) ∨ errQ r ≠ 0) := hid (by
    by_cases hm : MayQ r
    · exact Or.inl ⟨hm, by unfold errQ; rw [if_pos hm], by unfold frmR; rw [if_pos hm]⟩
    · exact Or.inr (by unfold errQ; rw [if_neg hm]; omega))
  have HE2 : Hid ((MayA ra L ∧ errA ra L = 0 ∧ frmA ra L da = frm (inA ra L da)) ∨ errA ra L ≠ 0) := hid (by
    by_cases hm : MayA ra L
    · exact Or.inl ⟨hm, by unfold errA; rw [if_pos hm], by unfold frmA; rw [if_pos hm]⟩
    · exact Or.inr (by unfold errA; rw [if_neg hm]; omega))
  obtain ⟨E1, hE1⟩ : ∃ z, errQ r = z := ⟨_, rfl⟩
  obtain ⟨E2, hE2⟩ : ∃ z, errA ra L = z := ⟨_, rfl⟩
  rw [hE1] at HRQ HE1
  rw [hE2] at HRA HE2
  clear hPO hd hl hn hz hL hrl had hal han haz hbd hbc hbz hpr hra hfa hrb hfb hwa hwb hba hbb hbs hE1 hE2
  obtain ⟨ses, id, verb, name, item, other, path, at_, many, dp, dl, dc⟩ := r
  obtain ⟨ase, aid, err, num, text, lp, ln, lc, ep, el, ec⟩ := ra
  unfold Rq.arr at HRQ HWA HBQ HXQ
  unfold Ra.arr at HRA HWB HBA HXQ
  unfold Rq.arr Ra.arr
  simp only at HRQ HRA HWA HWB HBQ HBA HXQ HDD HAD HAL HLD HLA HLL hln ⊢
  have HX : Hid (∀ V, Frm [] wb V → (V.cell? ⟨ba, 0, none⟩ = some (.int .i64 ses) ∧ V.cell? ⟨ba, 1, none⟩ = some (.int .i64 id) ∧ V.cell? ⟨ba, 2, none⟩ = some (.int .i64 verb) ∧ V.cell? ⟨ba, 3, none⟩ = some (.string name) ∧ V.cell? ⟨ba, 4, none⟩ = some (.string item) ∧ V.cell? ⟨ba, 5, none⟩ = some (.string other) ∧ V.cell? ⟨ba, 6, none⟩ = some (.string path) ∧ V.cell? ⟨ba, 7, none⟩ = some (.int .i64 at_) ∧ V.cell? ⟨ba, 8, none⟩ = some (.int .i64 many) ∧ V.cell? ⟨ba, 9, none⟩ = some (.slice dp dl dc)) ∧ (V.cell? ⟨bb, 0, none⟩ = some (.int .i64 ase) ∧ V.cell? ⟨bb, 1, none⟩ = some (.int .i64 aid) ∧ V.cell? ⟨bb, 2, none⟩ = some (.int .i64 err) ∧ V.cell? ⟨bb, 3, none⟩ = some (.int .i64 num) ∧ V.cell? ⟨bb, 4, none⟩ = some (.string text) ∧ V.cell? ⟨bb, 5, none⟩ = some (.slice lp ln lc) ∧ V.cell? ⟨bb, 6, none⟩ = some (.slice ep el ec))) := hid (fun V hf => by
    obtain ⟨e1, e2⟩ := HXQ.out V hf
    exact ⟨rq_cells (r := ⟨ses, id, verb, name, item, other, path, at_, many, dp, dl, dc⟩) e1, ra_cells (r := ⟨ase, aid, err, num, text, lp, ln, lc, ep, el, ec⟩) e2⟩)
  go_enter Tryd.func6, Tryd.ntmps6
  go_upto_region 1 with fail
  first | rw [HBB.out] | skip
  first | rw [HWA.out] | skip
  first | rw [HBA1.out] | skip
  first | rw [HBB.out] | skip
  first | rw [HBS.out] | skip
  first | rw [HWB.out] | skip
  clear HBB HWA HBA1 HBS HWB
  go_wp2_with fail
  refine (HAW.out wb HF.out).mono ?_
  rintro e w1 ⟨rfl, hf1⟩
  have HF1 := hid hf1
  clear hf1 HAW
  obtain ⟨⟨x0, x1, x2, x3, x4, x5, x6, x7, x8, x9⟩, ⟨y0, y1, y2, y3, y4, y5, y6⟩⟩ := HX.out w1 HF1.out
  go_wp2_with fail
  refine (HRQ.out w1 (HF.out.trans HF1.out (by simp))).mono ?_
  rintro e w2 ⟨p2, n2, c2, rfl, hn2, ho2, hb2, hf2⟩
  have HF2 : Hid (Frm [] wb w2) := hid (HF1.out.trans hf2 (by simp))
  have HO2 := hid ho2
  have HN2 := hid hn2
  clear hn2 ho2 hb2 hf2
  clear x0 x1 x2 x3 x4 x5 x6 x7 x8 x9 y0 y1 y2 y3 y4 y5 y6 HRQ
  go_upto_if 33 with fail
  go_cut [] (fun wx => Hid (Frm [] wb wx))
  case first =>
    by_cases hc : E1 = 0
    case neg =>
      have hb : (E1 == 0) = false := by simpa using hc
      clear hc
      go_wp2_with fail
      go_meet
      case rel => exact HF2
    subst hc
    obtain ⟨hm, _, hfe⟩ : MayQ _ ∧ _ ∧ _ := HE1.out.elim (fun h => h) (fun h => absurd rfl h)
    rw [hfe] at HO2 HN2
    have HRR := hid (HBQ.out hm w2 p2 n2 c2 HO2.out HN2.out (HPR.out w2 (HF.out.trans HF2.out (by simp))))
    clear hm hfe
    go_wp2_with fail
    refine HRR.out.mono ?_
    rintro e w3 ⟨p3, n3, c3, rfl, hn3, hr3, hf3⟩
    obtain ⟨qb, hqb⟩ : ∃ z, w3.heap.size = z := ⟨_, rfl⟩
    obtain ⟨w4, hw4⟩ : ∃ z, w3.alloc (.cells #[.int .i64 ses, .int .i64 id, .int .i64 verb, .string name, .string item, .string other, .string path, .int .i64 at_, .int .i64 many, .slice p3 n3 c3] 24) = z := ⟨_, rfl⟩
    have hrow4 := heap_alloc_new w3 (.cells #[.int .i64 ses, .int .i64 id, .int .i64 verb, .string name, .string item, .string other, .string path, .int .i64 at_, .int .i64 many, .slice p3 n3 c3] 24)
    rw [hw4, hqb] at hrow4
    have hf4 : Frm [] w3 w4 := by rw [← hw4]; exact (Frm.refl _ _).alloc _
    have HF4 : Hid (Frm [] wb w4) := hid ((HF2.out.trans hf3 (by simp)).trans hf4 (by simp))
    have HSQ := hid (sameQ_any ses id verb name item other path at_ many dp p3 dl dc n3 c3 ds w4 (HDD.out w4 (HF.out.trans HF4.out (by simp))) (hr3.kept hf4 (by simp)) HLD.out hn3)
    have u0 : w4.cell? ⟨qb, 0, none⟩ = some (.int .i64 ses) := by rw [cell_of_row _ _ _ _ _ _ hrow4]; rfl
    have u1 : w4.cell? ⟨qb, 1, none⟩ = some (.int .i64 id) := by rw [cell_of_row _ _ _ _ _ _ hrow4]; rfl
    have u2 : w4.cell? ⟨qb, 2, none⟩ = some (.int .i64 verb) := by rw [cell_of_row _ _ _ _ _ _ hrow4]; rfl
    have u3 : w4.cell? ⟨qb, 3, none⟩ = some (.string name) := by rw [cell_of_row _ _ _ _ _ _ hrow4]; rfl
    have u4 : w4.cell? ⟨qb, 4, none⟩ = some (.string item) := by rw [cell_of_row _ _ _ _ _ _ hrow4]; rfl
    have u5 : w4.cell? ⟨qb, 5, none⟩ = some (.string other) := by rw [cell_of_row _ _ _ _ _ _ hrow4]; rfl
    have u6 : w4.cell? ⟨qb, 6, none⟩ = some (.string path) := by rw [cell_of_row _ _ _ _ _ _ hrow4]; rfl
    have u7 : w4.cell? ⟨qb, 7, none⟩ = some (.int .i64 at_) := by rw [cell_of_row _ _ _ _ _ _ hrow4]; rfl
    have u8 : w4.cell? ⟨qb, 8, none⟩ = some (.int .i64 many) := by rw [cell_of_row _ _ _ _ _ _ hrow4]; rfl
    have u9 : w4.cell? ⟨qb, 9, none⟩ = some (.slice p3 n3 c3) := by rw [cell_of_row _ _ _ _ _ _ hrow4]; rfl
    obtain ⟨⟨x0, x1, x2, x3, x4, x5, x6, x7, x8, x9⟩, ⟨y0, y1, y2, y3, y4, y5, y6⟩⟩ := HX.out w4 HF4.out
    have HQB := hid hqb
    have HW4 := hid hw4
    clear hqb hw4 hrow4 hf4 hr3 hn3 hf3 HRR
    go_upto_region 5 with fail
    first | rw [HQB.out] | skip
    first | rw [HW4.out] | skip
    clear HQB HW4
    go_wp2_with fail
    refine HSQ.out.mono ?_
    rintro e w5 ⟨rfl, hf5⟩
    have HF5 : Hid (Frm [] wb w5) := hid (HF4.out.trans hf5 (by simp))
    clear x0 x1 x2 x3 x4 x5 x6 x7 x8 x9 y0 y1 y2 y3 y4 y5 y6 hf5 HSQ u0 u1 u2 u3 u4 u5 u6 u7 u8 u9
    go_wp2_with fail
    go_meet
    case rel => exact HF5
  have HC1 := hid hcut.out
  clear hcut HF1 HF2 HO2 HN2 HE1 HBQ
  generalize wc = v1 at *
  obtain ⟨⟨x0, x1, x2, x3, x4, x5, x6, x7, x8, x9⟩, ⟨y0, y1, y2, y3, y4, y5, y6⟩⟩ := HX.out v1 HC1.out
  go_wp2_with fail
  refine (HRA.out v1 (HF.out.trans HC1.out (by simp))).mono ?_
  rintro e w2 ⟨p2, n2, c2, rfl, hn2, ho2, hb2, hf2⟩
  have HF2 : Hid (Frm [] wb w2) := hid (HC1.out.trans hf2 (by simp))
  have HO2 := hid ho2
  have HN2 := hid hn2
  clear hn2 ho2 hb2 hf2
  clear x0 x1 x2 x3 x4 x5 x6 x7 x8 x9 y0 y1 y2 y3 y4 y5 y6 HRA
  go_upto_if 54 with fail
  go_cut [] (fun wx => Hid (Frm [] wb wx))
  case first =>
    by_cases hc : E2 = 0
    case neg =>
      have hb : (E2 == 0) = false := by simpa using hc
      clear hc
      go_wp2_with fail
      go_meet
      case rel => exact HF2
    subst hc
    obtain ⟨hm, _, hfe⟩ : MayA _ _ ∧ _ ∧ _ := HE2.out.elim (fun h => h) (fun h => absurd rfl h)
    rw [hfe] at HO2 HN2
    have HRR := hid (HBA.out hm w2 p2 n2 c2 HO2.out HN2.out (HPR.out w2 (HF.out.trans HF2.out (by simp))))
    clear hm hfe
    go_wp2_with fail
    refine HRR.out.mono ?_
    rintro e w3 ⟨lp3, lc3, p3, n3, c3, rfl, hn3, hr3, hl3, hf3⟩
    obtain ⟨qb, hqb⟩ : ∃ z, w3.heap.size = z := ⟨_, rfl⟩
    obtain ⟨w4, hw4⟩ : ∃ z, w3.alloc (.cells #[.int .i64 ase, .int .i64 aid, .int .i64 err, .int .i64 num, .string text, .slice lp3 ln lc3, .slice p3 n3 c3] 32) = z := ⟨_, rfl⟩
    have hrow4 := heap_alloc_new w3 (.cells #[.int .i64 ase, .int .i64 aid, .int .i64 err, .int .i64 num, .string text, .slice lp3 ln lc3, .slice p3 n3 c3] 32)
    rw [hw4, hqb] at hrow4
    have hf4 : Frm [] w3 w4 := by rw [← hw4]; exact (Frm.refl _ _).alloc _
    have HF4 : Hid (Frm [] wb w4) := hid ((HF2.out.trans hf3 (by simp)).trans hf4 (by simp))
    have HSQ := hid (sameA_any ase aid err num text lp lp3 ln lc lc3 ep p3 el ec n3 c3 L da w4 HLL.out hln (HAL.out w4 (HF.out.trans HF4.out (by simp))) (hl3.kept hf4 (by simp)) (HAD.out w4 (HF.out.trans HF4.out (by simp))) (hr3.kept hf4 (by simp)) HLA.out hn3)
    have u0 : w4.cell? ⟨qb, 0, none⟩ = some (.int .i64 ase) := by rw [cell_of_row _ _ _ _ _ _ hrow4]; rfl
    have u1 : w4.cell? ⟨qb, 1, none⟩ = some (.int .i64 aid) := by rw [cell_of_row _ _ _ _ _ _ hrow4]; rfl
    have u2 : w4.cell? ⟨qb, 2, none⟩ = some (.int .i64 err) := by rw [cell_of_row _ _ _ _ _ _ hrow4]; rfl
    have u3 : w4.cell? ⟨qb, 3, none⟩ = some (.int .i64 num) := by rw [cell_of_row _ _ _ _ _ _ hrow4]; rfl
    have u4 : w4.cell? ⟨qb, 4, none⟩ = some (.string text) := by rw [cell_of_row _ _ _ _ _ _ hrow4]; rfl
    have u5 : w4.cell? ⟨qb, 5, none⟩ = some (.slice lp3 ln lc3) := by rw [cell_of_row _ _ _ _ _ _ hrow4]; rfl
    have u6 : w4.cell? ⟨qb, 6, none⟩ = some (.slice p3 n3 c3) := by rw [cell_of_row _ _ _ _ _ _ hrow4]; rfl
    obtain ⟨⟨x0, x1, x2, x3, x4, x5, x6, x7, x8, x9⟩, ⟨y0, y1, y2, y3, y4, y5, y6⟩⟩ := HX.out w4 HF4.out
    have HQB := hid hqb
    have HW4 := hid hw4
    clear hqb hw4 hrow4 hf4 hr3 hn3 hf3 hl3 HRR
    go_upto_region 11 with fail
    first | rw [HQB.out] | skip
    first | rw [HW4.out] | skip
    clear HQB HW4
    go_wp2_with fail
    refine HSQ.out.mono ?_
    rintro e w5 ⟨rfl, hf5⟩
    have HF5 : Hid (Frm [] wb w5) := hid (HF4.out.trans hf5 (by simp))
    clear x0 x1 x2 x3 x4 x5 x6 x7 x8 x9 y0 y1 y2 y3 y4 y5 y6 hf5 HSQ u0 u1 u2 u3 u4 u5 u6
    go_wp2_with fail
    go_meet
    case rel => exact HF5
  have HC2 := hid hcut.out
  clear hcut HF2 HO2 HN2 HE2 HBA HC1
  generalize wc = v2 at *
  go_wp2_with fail
  refine (HB3.out v2 (HF.out.trans HC2.out (by simp))).mono ?_
  rintro e w2 ⟨p2, n2, c2, rfl, hn2, ho2, hb2, hf2⟩
  have HL3X := hid (fun (h : rqE bs = 0) V (hf : Frm [] w2 V) => HL3.out h V p2 n2 c2 hn2 (ho2.kept hf (by simp)) (HPR.out V (((HF.out.trans HC2.out (by simp)).trans hf2 (by simp)).trans hf (by simp))))
  obtain ⟨R, hR⟩ : ∃ R, rqG bs p2 n2 c2 = R := ⟨_, rfl⟩
  obtain ⟨E, hE⟩ : ∃ E, rqE bs = E := ⟨_, rfl⟩
  rw [hR, hE] at HL3X
  rw [hR, hE]
  clear hR hE hn2 ho2 hb2 HL3 HB3
  obtain ⟨r0, r1, r2, r3, r4, r5, r6, r7, r8, rp, rl, rc⟩ := R
  unfold Rq.arr at HL3X
  unfold Rq.arr
  simp only at HL3X ⊢
  obtain ⟨qb, hqb⟩ : ∃ z, w2.heap.size = z := ⟨_, rfl⟩
  obtain ⟨w4, hw4⟩ : ∃ z, w2.alloc (.cells #[.int .i64 r0, .int .i64 r1, .int .i64 r2, .string r3, .string r4, .string r5, .string r6, .int .i64 r7, .int .i64 r8, .slice rp rl rc] 24) = z := ⟨_, rfl⟩
  have hrow4 := heap_alloc_new w2 (.cells #[.int .i64 r0, .int .i64 r1, .int .i64 r2, .string r3, .string r4, .string r5, .string r6, .int .i64 r7, .int .i64 r8, .slice rp rl rc] 24)
  rw [hw4, hqb] at hrow4
  have hf4 : Frm [] w2 w4 := by rw [← hw4]; exact (Frm.refl _ _).alloc _
  have HF4 : Hid (Frm [] wb w4) := hid ((HC2.out.trans hf2 (by simp)).trans hf4 (by simp))
  have HF24 := hid hf4
  have HROW4 := hid hrow4
  have HQB := hid hqb
  have HW4 := hid hw4
  clear hqb hw4 hrow4 hf4 hf2
  go_upto_if 75 with fail
  first | rw [HQB.out] | skip
  first | rw [HW4.out] | skip
  clear HQB HW4
  go_cut [] (fun wx => Hid (Frm [] wb wx))
  case first =>
    by_cases hc : E = 0
    case neg =>
      have hb : (E == 0) = false := by simpa using hc
      clear hc
      go_wp2_with fail
      go_meet
      case rel => exact HF4
    subst hc
    have HRR := hid (HL3X.out rfl w4 HF24.out)
    have u0 : w4.cell? ⟨qb, 0, none⟩ = some (.int .i64 r0) := by rw [cell_of_row _ _ _ _ _ _ HROW4.out]; rfl
    have u1 : w4.cell? ⟨qb, 1, none⟩ = some (.int .i64 r1) := by rw [cell_of_row _ _ _ _ _ _ HROW4.out]; rfl
    have u2 : w4.cell? ⟨qb, 2, none⟩ = some (.int .i64 r2) := by rw [cell_of_row _ _ _ _ _ _ HROW4.out]; rfl
    have u3 : w4.cell? ⟨qb, 3, none⟩ = some (.string r3) := by rw [cell_of_row _ _ _ _ _ _ HROW4.out]; rfl
    have u4 : w4.cell? ⟨qb, 4, none⟩ = some (.string r4) := by rw [cell_of_row _ _ _ _ _ _ HROW4.out]; rfl
    have u5 : w4.cell? ⟨qb, 5, none⟩ = some (.string r5) := by rw [cell_of_row _ _ _ _ _ _ HROW4.out]; rfl
    have u6 : w4.cell? ⟨qb, 6, none⟩ = some (.string r6) := by rw [cell_of_row _ _ _ _ _ _ HROW4.out]; rfl
    have u7 : w4.cell? ⟨qb, 7, none⟩ = some (.int .i64 r7) := by rw [cell_of_row _ _ _ _ _ _ HROW4.out]; rfl
    have u8 : w4.cell? ⟨qb, 8, none⟩ = some (.int .i64 r8) := by rw [cell_of_row _ _ _ _ _ _ HROW4.out]; rfl
    have u9 : w4.cell? ⟨qb, 9, none⟩ = some (.slice rp rl rc) := by rw [cell_of_row _ _ _ _ _ _ HROW4.out]; rfl
    go_wp2_with fail
    refine HRR.out.mono ?_
    rintro e w5 ⟨q5, m5, d5, rfl, hm5, hr5, hf5⟩
    have HF5 : Hid (Frm [] wb w5) := hid (HF4.out.trans hf5 (by simp))
    have cv1 := cv_any (P := Tryd.prog) (w := w5) 22 5 9 Tryd.underlying22 Tryd.underlying5 Tryd.underlying9 hr5 d5 hm5
    have cv2 := HCV.out w5 (HF.out.trans HF5.out (by simp))
    clear hm5 hr5 hf5 HRR u0 u1 u2 u3 u4 u5 u6 u7 u8 u9
    go_wp2_with fail
    go_meet
    case rel => exact HF5
  have HC3 := hid hcut.out
  clear hcut HF4 HF24 HROW4 HL3X HC2
  generalize wc = v3 at *
  go_wp2_with fail
  refine (HB4.out v3 (HF.out.trans HC3.out (by simp))).mono ?_
  rintro e w2 ⟨lp2, ln2, lc2, p2, n2, c2, rfl, hn2, ho2, hb2, hll2, hrl2, hnl2, hf2⟩
  have HL3X := hid (fun (h : raE bs = 0) V (hf : Frm [] w2 V) => HL4.out h V lp2 ln2 lc2 p2 n2 c2 hn2 (ho2.kept hf (by simp)) hll2 (hrl2.kept hf (by simp)) (HPR.out V (((HF.out.trans HC3.out (by simp)).trans hf2 (by simp)).trans hf (by simp))))
  obtain ⟨R, hR⟩ : ∃ R, raG bs lp2 ln2 lc2 p2 n2 c2 = R := ⟨_, rfl⟩
  obtain ⟨E, hE⟩ : ∃ E, raE bs = E := ⟨_, rfl⟩
  rw [hR, hE] at HL3X
  rw [hR, hE]
  clear hR hE hn2 ho2 hb2 HL4 HB4 hll2 hrl2 hnl2
  obtain ⟨r0, r1, r2, r3, r4, lr, lm, lx, rp, rl, rc⟩ := R
  unfold Ra.arr at HL3X
  unfold Ra.arr
  simp only at HL3X ⊢
  obtain ⟨qb, hqb⟩ : ∃ z, w2.heap.size = z := ⟨_, rfl⟩
  obtain ⟨w4, hw4⟩ : ∃ z, w2.alloc (.cells #[.int .i64 r0, .int .i64 r1, .int .i64 r2, .int .i64 r3, .string r4, .slice lr lm lx, .slice rp rl rc] 32) = z := ⟨_, rfl⟩
  have hrow4 := heap_alloc_new w2 (.cells #[.int .i64 r0, .int .i64 r1, .int .i64 r2, .int .i64 r3, .string r4, .slice lr lm lx, .slice rp rl rc] 32)
  rw [hw4, hqb] at hrow4
  have hf4 : Frm [] w2 w4 := by rw [← hw4]; exact (Frm.refl _ _).alloc _
  have HF4 : Hid (Frm [] wb w4) := hid ((HC3.out.trans hf2 (by simp)).trans hf4 (by simp))
  have HF24 := hid hf4
  have HROW4 := hid hrow4
  have HQB := hid hqb
  have HW4 := hid hw4
  clear hqb hw4 hrow4 hf4 hf2
  go_upto_if 96 with fail
  first | rw [HQB.out] | skip
  first | rw [HW4.out] | skip
  clear HQB HW4
  go_cut [] (fun wx => Hid (Frm [] wb wx))
  case first =>
    by_cases hc : E = 0
    case neg =>
      have hb : (E == 0) = false := by simpa using hc
      clear hc
      go_wp2_with fail
      go_meet
      case rel => exact HF4
    subst hc
    have HRR := hid (HL3X.out rfl w4 HF24.out)
    have u0 : w4.cell? ⟨qb, 0, none⟩ = some (.int .i64 r0) := by rw [cell_of_row _ _ _ _ _ _ HROW4.out]; rfl
    have u1 : w4.cell? ⟨qb, 1, none⟩ = some (.int .i64 r1) := by rw [cell_of_row _ _ _ _ _ _ HROW4.out]; rfl
    have u2 : w4.cell? ⟨qb, 2, none⟩ = some (.int .i64 r2) := by rw [cell_of_row _ _ _ _ _ _ HROW4.out]; rfl
    have u3 : w4.cell? ⟨qb, 3, none⟩ = some (.int .i64 r3) := by rw [cell_of_row _ _ _ _ _ _ HROW4.out]; rfl
    have u4 : w4.cell? ⟨qb, 4, none⟩ = some (.string r4) := by rw [cell_of_row _ _ _ _ _ _ HROW4.out]; rfl
    have u5 : w4.cell? ⟨qb, 5, none⟩ = some (.slice lr lm lx) := by rw [cell_of_row _ _ _ _ _ _ HROW4.out]; rfl
    have u6 : w4.cell? ⟨qb, 6, none⟩ = some (.slice rp rl rc) := by rw [cell_of_row _ _ _ _ _ _ HROW4.out]; rfl
    go_wp2_with fail
    refine HRR.out.mono ?_
    rintro e w5 ⟨q5, m5, d5, rfl, hm5, hr5, hf5⟩
    have HF5 : Hid (Frm [] wb w5) := hid (HF4.out.trans hf5 (by simp))
    have cv1 := cv_any (P := Tryd.prog) (w := w5) 22 5 9 Tryd.underlying22 Tryd.underlying5 Tryd.underlying9 hr5 d5 hm5
    have cv2 := HCV.out w5 (HF.out.trans HF5.out (by simp))
    clear hm5 hr5 hf5 HRR u0 u1 u2 u3 u4 u5 u6
    go_wp2_with fail
    go_meet
    case rel => exact HF5
  have HC4 := hid hcut.out
  clear hcut
  generalize wc = v4 at *
  go_wp2_with fail
  first | go_returns | skip
  exact HP.out _ (HF.out.trans HC4.out (by simp))
end
end Go.Proofs.YtignoocdeghiaaaDoor
