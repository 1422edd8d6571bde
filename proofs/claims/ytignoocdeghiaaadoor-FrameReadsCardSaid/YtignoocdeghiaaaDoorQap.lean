/- Frames: ReadRequest. Frames: Request. The law's awake: its numbers. The law's awake. Contracts of the document's writer (layer 1). Frames: the document's number and text behind bytes. Frames: the document's text and a request's body. -/
import Derived.Test.YtignoocdeghiaaaDoorQao
import Derived.Test.YtignoocdeghiaaaDoorQan
import Derived.Test.YtignoocdeghiaaaDoorQab
namespace Go.Proofs.YtignoocdeghiaaaDoor
section
open Go.RowKit Go.Lib
set_option maxRecDepth 100000

set_option maxHeartbeats 12800000 in
theorem readRequest_any (p : Option Addr) (n c : Nat) (bs : List Int) (w : World) (hn : bs.length = n) (hnc : n ≤ c) (hrd : Rd w p bs) (hb : ∀ z ∈ bs, 0 ≤ z ∧ z < 256) (hpr : Primes w) :
    Calls Tryd.prog 17 #[.slice p n c] w (ReadQA w bs) := by
  obtain ⟨PO, hPO⟩ : ∃ PO : Ending → World → Prop, ReadQA w bs = PO := ⟨_, rfl⟩
  rw [hPO]
  have HP := hid (show ∀ e w', ReadQA w bs e w' → PO e w' from fun e w' h => by rw [← hPO]; exact h)
  obtain ⟨wa, hwa⟩ : ∃ z, w.alloc (.cells #[.int .i64 0, .int .i64 0, .int .i64 0, .string ⟨#[]⟩, .string ⟨#[]⟩, .string ⟨#[]⟩, .string ⟨#[]⟩, .int .i64 0, .int .i64 0, .slice none 0 0] 24) = z := ⟨_, rfl⟩
  have hrowa := heap_alloc_new w (.cells #[.int .i64 0, .int .i64 0, .int .i64 0, .string ⟨#[]⟩, .string ⟨#[]⟩, .string ⟨#[]⟩, .string ⟨#[]⟩, .int .i64 0, .int .i64 0, .slice none 0 0] 24)
  have hfa : Frm [] w wa := by rw [← hwa]; exact (Frm.refl _ _).alloc _
  obtain ⟨br, hbr⟩ : ∃ z, w.heap.size = z := ⟨_, rfl⟩
  rw [hwa, hbr] at hrowa
  have HBR := hid hbr
  have HWA := hid hwa
  have HROW := hid hrowa
  have HFA := hid hfa
  have HRQ := hid (readQ_any p n c bs wa hn hnc (hrd.kept hfa (by simp)) hb (hpr.kept hfa))
  clear hn hnc hrd hb hpr hPO hbr hwa hrowa hfa
  go_enter Tryd.func17, Tryd.ntmps17
  go_upto_region 1 with fail
  first | rw [HWA.out] | skip
  first | rw [HBR.out] | skip
  go_wp2_with fail
  refine HRQ.out.mono ?_
  rintro e w1 ⟨q, m, d, rfl, hm, ho, hnw, hf⟩
  obtain ⟨R, hR⟩ : ∃ R, rqG bs q m d = R := ⟨_, rfl⟩
  obtain ⟨E, hE⟩ : ∃ E, rqE bs = E := ⟨_, rfl⟩
  rw [hR, hE]
  have HR := hid hR
  have HE := hid hE
  have HM := hid hm
  have HO := hid ho
  have HNW := hid hnw
  have HF := hid hf
  obtain ⟨a0, a1, a2, a3, a4, a5, a6, a7, a8, dp, dl, dc⟩ := R
  unfold Rq.arr
  simp only
  have hrow := hf.heap HROW.out (by simp)
  have z0 : w1.cell? ⟨br, 0, none⟩ = some (.int .i64 0) := by rw [cell_of_row _ _ _ _ _ _ hrow]; rfl
  have y0 := frozen_of_row w1 br 0 _ _ hrow
  have z1 : w1.cell? ⟨br, 1, none⟩ = some (.int .i64 0) := by rw [cell_of_row _ _ _ _ _ _ hrow]; rfl
  have y1 := frozen_of_row w1 br 1 _ _ hrow
  have z2 : w1.cell? ⟨br, 2, none⟩ = some (.int .i64 0) := by rw [cell_of_row _ _ _ _ _ _ hrow]; rfl
  have y2 := frozen_of_row w1 br 2 _ _ hrow
  have z3 : w1.cell? ⟨br, 3, none⟩ = some (.string ⟨#[]⟩) := by rw [cell_of_row _ _ _ _ _ _ hrow]; rfl
  have y3 := frozen_of_row w1 br 3 _ _ hrow
  have z4 : w1.cell? ⟨br, 4, none⟩ = some (.string ⟨#[]⟩) := by rw [cell_of_row _ _ _ _ _ _ hrow]; rfl
  have y4 := frozen_of_row w1 br 4 _ _ hrow
  have z5 : w1.cell? ⟨br, 5, none⟩ = some (.string ⟨#[]⟩) := by rw [cell_of_row _ _ _ _ _ _ hrow]; rfl
  have y5 := frozen_of_row w1 br 5 _ _ hrow
  have z6 : w1.cell? ⟨br, 6, none⟩ = some (.string ⟨#[]⟩) := by rw [cell_of_row _ _ _ _ _ _ hrow]; rfl
  have y6 := frozen_of_row w1 br 6 _ _ hrow
  have z7 : w1.cell? ⟨br, 7, none⟩ = some (.int .i64 0) := by rw [cell_of_row _ _ _ _ _ _ hrow]; rfl
  have y7 := frozen_of_row w1 br 7 _ _ hrow
  have z8 : w1.cell? ⟨br, 8, none⟩ = some (.int .i64 0) := by rw [cell_of_row _ _ _ _ _ _ hrow]; rfl
  have y8 := frozen_of_row w1 br 8 _ _ hrow
  have z9 : w1.cell? ⟨br, 9, none⟩ = some (.slice none 0 0) := by rw [cell_of_row _ _ _ _ _ _ hrow]; rfl
  have y9 := frozen_of_row w1 br 9 _ _ hrow
  clear hR hE hm ho hnw hf HRQ
  go_wp2_with fail
  obtain ⟨h5, f5⟩ := sets_rowF br 24 [(0, .int .i64 a0), (1, .int .i64 a1), (2, .int .i64 a2), (3, .string a3), (4, .string a4), (5, .string a5), (6, .string a6), (7, .int .i64 a7), (8, .int .i64 a8), (9, .slice dp dl dc)] w1 _ hrow
  simp only [List.foldl, List.setIfInBounds_toArray, List.set_cons_zero, List.set_cons_succ] at h5
  obtain ⟨Wz, hWz⟩ : ∃ z, setsF w1 br [(0, .int .i64 a0), (1, .int .i64 a1), (2, .int .i64 a2), (3, .string a3), (4, .string a4), (5, .string a5), (6, .string a6), (7, .int .i64 a7), (8, .int .i64 a8), (9, .slice dp dl dc)] = z := ⟨_, rfl⟩
  rw [hWz] at h5 f5
  have hwz : ((((((((((w1.setCell ⟨br, 0, none⟩ (.int .i64 a0)).setCell ⟨br, 1, none⟩ (.int .i64 a1)).setCell ⟨br, 2, none⟩ (.int .i64 a2)).setCell ⟨br, 3, none⟩ (.string a3)).setCell ⟨br, 4, none⟩ (.string a4)).setCell ⟨br, 5, none⟩ (.string a5)).setCell ⟨br, 6, none⟩ (.string a6)).setCell ⟨br, 7, none⟩ (.int .i64 a7)).setCell ⟨br, 8, none⟩ (.int .i64 a8)).setCell ⟨br, 9, none⟩ (.slice dp dl dc)) = Wz := hWz
  rw [hwz]
  have u0 : Wz.cell? ⟨br, 0, none⟩ = some (.int .i64 a0) := by rw [cell_of_row _ _ _ _ _ _ h5]; rfl
  have u1 : Wz.cell? ⟨br, 1, none⟩ = some (.int .i64 a1) := by rw [cell_of_row _ _ _ _ _ _ h5]; rfl
  have u2 : Wz.cell? ⟨br, 2, none⟩ = some (.int .i64 a2) := by rw [cell_of_row _ _ _ _ _ _ h5]; rfl
  have u3 : Wz.cell? ⟨br, 3, none⟩ = some (.string a3) := by rw [cell_of_row _ _ _ _ _ _ h5]; rfl
  have u4 : Wz.cell? ⟨br, 4, none⟩ = some (.string a4) := by rw [cell_of_row _ _ _ _ _ _ h5]; rfl
  have u5 : Wz.cell? ⟨br, 5, none⟩ = some (.string a5) := by rw [cell_of_row _ _ _ _ _ _ h5]; rfl
  have u6 : Wz.cell? ⟨br, 6, none⟩ = some (.string a6) := by rw [cell_of_row _ _ _ _ _ _ h5]; rfl
  have u7 : Wz.cell? ⟨br, 7, none⟩ = some (.int .i64 a7) := by rw [cell_of_row _ _ _ _ _ _ h5]; rfl
  have u8 : Wz.cell? ⟨br, 8, none⟩ = some (.int .i64 a8) := by rw [cell_of_row _ _ _ _ _ _ h5]; rfl
  have u9 : Wz.cell? ⟨br, 9, none⟩ = some (.slice dp dl dc) := by rw [cell_of_row _ _ _ _ _ _ h5]; rfl
  refine bodyPost_ret (v := .tuple #[.agg #[.int .i64 a0, .int .i64 a1, .int .i64 a2, .string a3, .string a4, .string a5, .string a6, .int .i64 a7, .int .i64 a8, .slice dp dl dc], .int .i64 E]) (by simp [results, Tryd.results17, go_sem, u0, u1, u2, u3, u4, u5, u6, u7, u8, u9]) rfl ?_
  have hlow := lt_of_heap HROW.out
  exact HP.out _ _ ⟨q, m, d, by rw [HR.out, HE.out]; rfl, HM.out, HO.out.kept f5 (by rw [own_blk]; exact fun k hk hm => by rw [List.mem_singleton] at hm; have := HNW.out k hk; omega), fun k hk => by have h1 := HNW.out k hk; have h2 := HFA.out.size; omega, (HFA.out.trans HF.out (by simp)).trans f5 (fun i hi hl => by rw [List.mem_singleton] at hi; have := HBR.out; omega)⟩
end
section
open Go.RowKit Go.Lib
set_option maxRecDepth 100000

theorem EncF.pre {w w0 w' : World} {zs : List Int} {err : Int} {e : Ending} (h : EncF w0 zs err e w') (hf : Frm [] w w0) : EncF w zs err e w' := by
  obtain ⟨h1, h2 | ⟨h2, g, n, h3, h4, h5, h6⟩⟩ := h
  · exact ⟨hf.trans h1 (by simp), Or.inl h2⟩
  · exact ⟨hf.trans h1 (by simp), Or.inr ⟨h2, g, n, h3, h4, h5, Nat.le_trans hf.size h6⟩⟩
/-- One form for both. -/
def frmR (r : Rq) (ds : List Int) : List Int := if MayQ r then frm (inQ r ds) else []
theorem frm_len (b : List Int) : (frm b).length = b.length + 12 := by unfold frm; simp only [List.length_append, le_length]; omega
theorem EncF.one {w w' : World} {r : Rq} {ds : List Int} {e : Ending} (hl : ds.length = r.dl) (h : EncF w (frm (inQ r ds)) (errQ r) e w') : ∃ q n c, e = .returned (.tuple #[.slice q n c, .int .i64 (errQ r)]) ∧ (frmR r ds).length = n ∧ Own w' 5 (.slice q n c) (frmR r ds) ∧ (∀ k ∈ blk q, w.heap.size ≤ k) ∧ Frm [] w w' := by
  obtain ⟨h1, ⟨h2, h3⟩ | ⟨h2, g, n, h3, h4, h5, h6⟩⟩ := h
  · have h0 : ¬ MayQ r := fun hm => by unfold errQ at h2; rw [if_pos hm] at h2; exact h2 rfl
    unfold frmR
    rw [if_neg h0]
    exact ⟨none, 0, 0, h3, rfl, Own.nil _ _, by simp [blk], h1⟩
  · have h0 : MayQ r := by
      by_cases hm : MayQ r
      · exact hm
      · unfold errQ at h2; rw [if_neg hm] at h2; omega
    unfold frmR
    rw [if_pos h0]
    subst h4
    exact ⟨some ⟨g, 0, none⟩, _, _, by rw [h3, h2], rfl, own_of_block h5 (by rw [frm_len]; have := inQ_len h0 hl; unfold maxLen; omega), fun k hk => by simp [blk] at hk; subst hk; exact h6, h1⟩
set_option maxHeartbeats 1600000 in
theorem request_any (r : Rq) (ds : List Int) (w : World) (hd : Rd w r.dp ds) (hl : ds.length = r.dl) (hn : ds = [] → r.dp = none → r.dc = 0) (hz : ∀ z ∈ ds, 0 ≤ z ∧ z < 256) (hpr : Primes w) :
    Calls Tryd.prog 10 #[.agg r.arr] w (EncF w (frm (inQ r ds)) (errQ r)) := by
  obtain ⟨PO, hPO⟩ : ∃ PO : Ending → World → Prop, EncF w (frm (inQ r ds)) (errQ r) = PO := ⟨_, rfl⟩
  rw [hPO]
  have HP : Hid (∀ e w', EncF w (frm (inQ r ds)) (errQ r) e w' → PO e w') := hid (fun e w' h => by rw [← hPO]; exact h)
  have HFA : Hid (Frm [] w (w.alloc (.cells r.arr 24))) := hid ((Frm.refl _ _).alloc _)
  have HLY := hid (layQ_any r ds (w.alloc (.cells r.arr 24)) (hd.kept HFA.out (by simp)) hl hn hz (hpr.kept HFA.out))
  have HLL := hid hl
  clear hd hl hn hz hpr hPO
  obtain ⟨ses, id, verb, name, item, other, path, at_, many, dp, dl, dc⟩ := r
  unfold Rq.arr at HLY HFA ⊢
  simp only at HLY HFA ⊢
  go_enter Tryd.func10, Tryd.ntmps10
  go_wp2_with fail
  refine HLY.out.mono ?_
  intro e w1 h1
  have H1 := hid (HP.out e w1 (h1.pre HFA.out))
  obtain ⟨q, n, c, rfl, _⟩ := h1.one HLL.out
  clear h1 HLY
  go_wp2_with fail
  first | go_returns | skip
  exact H1.out
end
section
open Go.RowKit Go.Lib
set_option maxRecDepth 100000

def rT : Rq := ⟨1, 2, 3, ⟨#[]⟩, ⟨#[]⟩, ⟨#[]⟩, ⟨#[]⟩, 0, 0, none, 0, 0⟩
def fT : List Int := frm (inQ rT [])
theorem fT_len : fT.length = 41 := by kernel_rfl
theorem fT_may : errQ rT = 0 := by kernel_rfl
theorem fT_11 : fT.take 11 = [37, 0, 0, 0, 1, 1, 2, 0, 0, 0, 3] := by kernel_rfl
theorem fT_bd : ∀ z ∈ fT, 0 ≤ z ∧ z < 256 := by
  have h : (fT.all fun z => decide (0 ≤ z ∧ z < 256)) = true := by kernel_rfl
  intro z hz
  have h1 := (List.all_eq_true.1 h) z hz
  exact of_decide_eq_true h1
theorem fT_err : rqE fT = 0 := by kernel_rfl
theorem fT_num : leV (fT.take 4) = 37 := by kernel_rfl
theorem fT_feed : feedR fT = ([fT], [], 0) := by
  rw [feedR_next (by rw [fT_len]; omega) (by rw [fT_num]; omega) (by rw [fT_num, fT_len]; omega), fT_num]
  have h1 : fT.take (4 + (37 : Int).toNat) = fT := List.take_of_length_le (by rw [fT_len]; decide)
  have h2 : fT.drop (4 + (37 : Int).toNat) = [] := List.drop_eq_nil_of_le (by rw [fT_len]; decide)
  rw [h1, h2, feedR_short (by simp)]
theorem fT_feed10 : feedR (fT.take 10) = ([], fT.take 10, 0) := by
  have hl : (fT.take 10).length = 10 := by rw [List.length_take, fT_len]; rfl
  have hn : leV ((fT.take 10).take 4) = 37 := by rw [List.take_take]; exact fT_num
  exact feedR_wait (by rw [hl]; omega) (by rw [hn]; omega) (by rw [hn, hl]; omega)
theorem fT_get (p : Option Addr) (n c : Nat) : rqG fT p n c = ⟨1, 2, 3, ⟨#[]⟩, ⟨#[]⟩, ⟨#[]⟩, ⟨#[]⟩, 0, 0, p, n, c⟩ := by
  have h0 : (q1 (midF fT) (s0F fT)).1 = 1 := by kernel_rfl
  have h1 : (q2 (midF fT) (s0F fT)).1 = 2 := by kernel_rfl
  have h2 : (q3 (midF fT) (s0F fT)).1 = 3 := by kernel_rfl
  have h3 : strOfNums (q4 (midF fT) (s0F fT)).1 = ⟨#[]⟩ := by kernel_rfl
  have h4 : strOfNums (q5 (midF fT) (s0F fT)).1 = ⟨#[]⟩ := by kernel_rfl
  have h5 : strOfNums (q6 (midF fT) (s0F fT)).1 = ⟨#[]⟩ := by kernel_rfl
  have h6 : strOfNums (q7 (midF fT) (s0F fT)).1 = ⟨#[]⟩ := by kernel_rfl
  have h7 : (q8 (midF fT) (s0F fT)).1 = 0 := by kernel_rfl
  have h8 : (q9 (midF fT) (s0F fT)).1 = 0 := by kernel_rfl
  unfold rqG
  rw [if_pos fT_err]
  unfold reqT
  rw [h0, h1, h2, h3, h4, h5, h6, h7, h8]
end
section
open Go.RowKit Go.Lib
set_option maxRecDepth 100000

set_option maxHeartbeats 12800000 in
theorem awakeF_any (w : World) (hpr : Primes w) : Calls Tryd.prog 9 #[] w fun e w' => e = .returned (.bool true) ∧ Frm [] w w' := by
  obtain ⟨PO, hPO⟩ : ∃ PO : Ending → World → Prop, (fun e w' => e = .returned (.bool true) ∧ Frm [] w w') = PO := ⟨_, rfl⟩
  rw [hPO]
  have HP : Hid (∀ w', Frm [] w w' → PO (.returned (.bool true)) w') := hid (fun w' h => by rw [← hPO]; exact ⟨rfl, h⟩)
  have HPR := hid hpr
  have hrq := request_any rT [] w (Rd.nil _ _) rfl (fun _ _ => rfl) (by simp) hpr
  rw [fT_may] at hrq
  unfold rT Rq.arr at hrq
  simp only at hrq
  have HRQ := hid hrq
  have hbp : ∀ W, (Instr.build 24 #[(0, .int .i64 1), (1, .int .i64 2), (2, .int .i64 3)]).run Tryd.prog W = .ok (.agg #[.int .i64 1, .int .i64 2, .int .i64 3, .string ⟨#[]⟩, .string ⟨#[]⟩, .string ⟨#[]⟩, .string ⟨#[]⟩, .int .i64 0, .int .i64 0, .slice none 0 0]) W := fun W => run_build W _ _ _ (by kernel_rfl)
  clear hPO hpr hrq
  go_enter Tryd.func9, Tryd.ntmps9
  go_wp2_with fail
  refine HRQ.out.mono ?_
  rintro e w1 ⟨hf1, ⟨h0, _⟩ | ⟨_, g, n, rfl, hn, hrow, hg⟩⟩
  · exact absurd rfl h0
  have hn41 : n = 41 := by rw [hn]; exact fT_len
  subst hn41
  have HF1 := hid hf1
  have HROW : Hid (w1.heap[g]? = some (.cells (bv fT).toArray 5 (0, 0))) := hid hrow
  have HG := hid hg
  have HRD := hid (fun (W : World) (S : List Nat) (hf : Frm S w1 W) (hS : g ∉ S) => (own_of_block (E := 5) (hf.heap HROW.out hS) (by rw [fT_len]; unfold maxLen; omega)).rd)
  have HLN := hid (newLine_any w1)
  clear hf1 hrow hg hn HRQ hbp
  go_wp2_with fail
  refine HLN.out.mono ?_
  rintro e w2 ⟨lb, rfl, hl2, hf2, hlb⟩
  have HNE : Hid (lb ≠ g ∧ w.heap.size ≤ lb) := hid ⟨by have := lt_of_heap HROW.out; omega, by have := HF1.out.size; omega⟩
  have hl10 : (fT.take 10).length = 10 := by rw [List.length_take, fT_len]; rfl
  have hfd := feed_any w2 lb none 0 0 [] hl2 (some ⟨g, 0, none⟩) 10 41 (fT.take 10) ((HRD.out w2 [] hf2 (by simp)).take 10) hl10 (by simp) (fun z hz => fT_bd z (List.mem_of_mem_take (by simpa using hz))) (by omega)
  have HFD := hid hfd
  have HF2 := hid hf2
  have hs1 := fun W => sl_h (P := Tryd.prog) Tryd.underlying22 infoU8E (some ⟨g, 0, none⟩) 41 41 10 (by omega) W
  have hs2 := fun W => sl_l (P := Tryd.prog) (sz := 1) Tryd.underlying22 infoU8E (some ⟨g, 0, none⟩) 41 41 10 (by omega) W
  rw [part1 g 0 41 10 (by omega)] at hs2
  have HLB := hid hlb
  clear hl2 hf2 hlb hl10 hfd HLN
  go_wp2_with fail
  refine HFD.out.mono ?_
  rintro e w3 ⟨qf, t, cf, ls, p, n, c, rfl, how, hls, hnk, hln, hf3, hap, -, -⟩
  rw [List.nil_append, fT_feed10] at hls hln ⊢
  simp only at hls hln ⊢
  obtain rfl : ls = [] := by simpa using hls
  obtain rfl : t = 0 := how.ln.symm
  obtain rfl : n = 10 := by rw [← hln.wt.ln, List.length_take, fT_len]; rfl
  have HL3 := hid hln
  have HF3 : Hid (Frm [lb] w2 w3) := hid (hf3.mono (by simp [ft]))
  have HAP : Hid (∀ k ∈ ft p c, w2.heap.size ≤ k) := hid (fun k hk => by rcases hap k hk with h | h; · simp [ft] at h
                                                                         · exact h)
  have HLL := hid (lineLeft_any w3 lb p 10 c (fT.take 10) hln)
  have HF13 : Hid (Frm [lb] w1 w3) := hid ((HF2.out.mono (by simp)).trans HF3.out (fun i hi _ => hi))
  have hl31 : (fT.drop 10).length = 31 := by rw [List.length_drop, fT_len]
  have hrd : Rd w3 (some ⟨g, 10, none⟩) (fT.drop 10) := by
    have h := (HRD.out w3 [lb] HF13.out (by simpa using fun h => HNE.out.1 h.symm)).drop 10
    simpa using h
  have HFD2 := hid (feed_any w3 lb p 10 c (fT.take 10) hln (some ⟨g, 10, none⟩) 31 31 (fT.drop 10) hrd hl31 (by simp) (by rw [List.take_append_drop]; exact fT_bd) (by omega))
  clear how hls hnk hln hf3 hap hrd hl31 HFD hs1
  go_wp2_with fail
  refine HLL.out.mono ?_
  rintro e w3' ⟨rfl, rfl⟩
  clear HLL
  go_wp2_with fail
  refine HFD2.out.mono ?_
  rintro e w4 ⟨qf2, t2, cf2, ls2, p2, n2, c2, rfl, how, hls, hnk, hln, hf4, -, -, -⟩
  rw [List.take_append_drop, fT_feed] at hls hln ⊢
  simp only at hls hln ⊢
  obtain rfl : t2 = 1 := by have h := congrArg List.length hls; simp at h; rw [← how.ln]; exact h
  have HF4 : Hid (Frm (lb :: ft p c) w1 w4) := hid ((HF13.out.mono (by simp)).trans hf4 (fun i hi _ => hi))
  have hgl := lt_of_heap HROW.out
  have hgn : g ∉ lb :: ft p c := fun hm => by
    rcases List.mem_cons.1 hm with h | h
    · exact HNE.out.1 h.symm
    · have h1 := HAP.out g h; have h2 := HF2.out.size; omega
  have HFW : Hid (Frm [] w w4) := hid (HF1.out.trans HF4.out (fun i hi hl => by
    rcases List.mem_cons.1 hi with h | h
    · have := HNE.out.2; omega
    · have h1 := HAP.out i h; have h2 := HF2.out.size; have h3 := HF1.out.size; omega))
  have hprw := HPR.out.kept HFW.out
  have HRR := hid (readRequest_any (some ⟨g, 0, none⟩) 41 41 fT w4 fT_len (by omega) (HRD.out w4 _ HF4.out hgn) fT_bd hprw)
  clear how hls hnk hln hf4 HFD2 hs2
  go_wp2_with fail
  refine HRR.out.mono ?_
  rintro e w5 ⟨q5, n5, c5, rfl, -, -, -, hf5⟩
  rw [fT_err, fT_get]
  unfold Rq.arr
  simp only
  obtain ⟨q6, hq6⟩ : ∃ z, w5.heap.size = z := ⟨_, rfl⟩
  obtain ⟨w6, hw6⟩ : ∃ z, w5.alloc (.cells #[.int .i64 1, .int .i64 2, .int .i64 3, .string ⟨#[]⟩, .string ⟨#[]⟩, .string ⟨#[]⟩, .string ⟨#[]⟩, .int .i64 0, .int .i64 0, .slice q5 n5 c5] 24) = z := ⟨_, rfl⟩
  have hrow6 := heap_alloc_new w5 (.cells #[.int .i64 1, .int .i64 2, .int .i64 3, .string ⟨#[]⟩, .string ⟨#[]⟩, .string ⟨#[]⟩, .string ⟨#[]⟩, .int .i64 0, .int .i64 0, .slice q5 n5 c5] 24)
  rw [hw6, hq6] at hrow6
  have hf6 : Frm [] w5 w6 := by rw [← hw6]; exact (Frm.refl _ _).alloc _
  have HF6 : Hid (Frm [] w w6) := hid ((HFW.out.trans hf5 (by simp)).trans hf6 (by simp))
  have hrd6 := (HRD.out w6 _ ((HF4.out.trans hf5 (by simp)).trans hf6 (by simp)) hgn).take 11
  have hl11 : (fT.take 11).length = 11 := by rw [List.length_take, fT_len]; rfl
  have hcv := cv_any (P := Tryd.prog) 22 5 9 Tryd.underlying22 rfl rfl hrd6 41 hl11
  rw [fT_11, show strOfNums [37, 0, 0, 0, 1, 1, 2, 0, 0, 0, 3] = ⟨#[37, 0, 0, 0, 1, 1, 2, 0, 0, 0, 3]⟩ from by kernel_rfl] at hcv
  have hs3 := fun W => sl_h (P := Tryd.prog) Tryd.underlying22 infoU8E (some ⟨g, 0, none⟩) 41 41 11 (by omega) W
  have c2 : w6.cell? ⟨q6, 2, none⟩ = some (.int .i64 3) := by rw [cell_of_row _ _ _ _ _ _ hrow6]; rfl
  clear hrow6 hf6 hrd6 hl11 hf5 hgl hgn hprw HRR
  go_upto_region 9 with fail
  first | rw [hq6] | skip
  first | rw [hw6] | skip
  clear hq6 hw6
  go_wp2_with fail
  first | go_returns | skip
  exact HP.out _ HF6.out
end
section
open Go.RowKit
set_option maxRecDepth 100000

theorem World.cell_of_heap {w : World} {b : Nat} {cs : Array Value} {T : TypeId} (h : w.heap[b]? = some (.cells cs T (0, 0))) (i : Nat) : w.cell? ⟨b, i, none⟩ = cs[i]? := cell_of_row w b i cs T (0, 0) h
end
section
open Go.RowKit Go.Lib
set_option maxRecDepth 100000

/-- Bytes of one's own at p behind a step that may have written into them, or moved them. -/
structure BufF (w : World) (p : Option Addr) (w' : World) (p' : Option Addr) (n' c' : Nat) (zs : List Int) : Prop where
  own : Own w' 5 (.slice p' n' c') zs
  len : zs.length = n'
  fr : Frm (blk p) w w'
  bk : ∀ i ∈ blk p', i ∈ blk p ∨ w.heap.size ≤ i
theorem BufF.trans {w w1 w2 : World} {p p1 p2 : Option Addr} {n1 c1 n2 c2 : Nat} {zs ys : List Int} (h : BufF w p w1 p1 n1 c1 zs) (k : BufF w1 p1 w2 p2 n2 c2 ys) : BufF w p w2 p2 n2 c2 ys :=
  ⟨k.own, k.len, h.fr.trans k.fr (fun i hi hl => (h.bk i hi).elim id (fun h => absurd hl (Nat.not_lt.2 h))), fun i hi => (k.bk i hi).elim (h.bk i) (fun h2 => Or.inr (Nat.le_trans h.fr.size h2))⟩
theorem BufF.pre {w w0 w1 : World} {p p1 : Option Addr} {n1 c1 : Nat} {zs : List Int} (hf : Frm [] w w0) (h : BufF w0 p w1 p1 n1 c1 zs) : BufF w p w1 p1 n1 c1 zs :=
  ⟨h.own, h.len, (hf.mono (by simp)).trans h.fr (fun i hi _ => hi), fun i hi => (h.bk i hi).imp id (fun h2 => Nat.le_trans hf.size h2)⟩
theorem BufF.post {w w1 w2 : World} {p p1 : Option Addr} {n1 c1 : Nat} {zs : List Int} (h : BufF w p w1 p1 n1 c1 zs) (hf : Frm [] w1 w2) : BufF w p w2 p1 n1 c1 zs :=
  ⟨h.own.kept hf (by simp), h.len, h.fr.trans hf (by simp), h.bk⟩
theorem BufF.nil {w w1 : World} {p1 : Option Addr} {n1 c1 : Nat} {zs : List Int} (h : BufF w none w1 p1 n1 c1 zs) : Frm [] w w1 ∧ ∀ i ∈ blk p1, w.heap.size ≤ i :=
  ⟨h.fr, fun i hi => (h.bk i hi).elim (fun h => by simp [blk] at h) id⟩
theorem BufF.self {w : World} {p : Option Addr} {n c : Nat} {zs : List Int} (h : Own w 5 (.slice p n c) zs) (hn : zs.length = n) : BufF w p w p n c zs := ⟨h, hn, Frm.refl _ _, fun _ hi => Or.inl hi⟩
set_option maxHeartbeats 1600000 in
theorem refNumF_any (p0 : Option Addr) (m c0 : Nat) (zs : List Int) (n : Int) (k : Nat) (w : World) (ho : Own w 5 (.slice p0 m c0) zs) (hm : zs.length = m) (hm2 : m ≤ 1099511627776) (hn : 0 ≤ n) (hn2 : n < 9223372036854775808) (hk : k ≤ 8) :
    Calls Tryd.prog 39 #[.slice p0 m c0, .int .i64 n, .int .i64 (k : Int)] w fun e w' => ∃ p c, e = .returned (.slice p (m + k) c) ∧ BufF w p0 w' p (m + k) c (zs ++ le n k) := by
  have HO0 := hid ho
  have HM := hid hm
  clear ho hm
  go_enter Tryd.func39, Tryd.ntmps39
  go_wp2_with fail
  go_loopw [0, 1, 7] (fun b v i wr => ∃ (j : Nat) (p : Option Addr) (c : Nat), j ≤ k ∧ i = .int .i64 j ∧ v = .int .i64 (n / 2 ^ (8 * j)) ∧ b = .slice p (m + j) c ∧ Hid (BufF w p0 wr p (m + j) c (zs ++ le n j))) (fun _ _ i _ => k - (intOf i).toNat)
  case atStart => exact ⟨0, p0, c0, Nat.zero_le _, rfl, by simp, rfl, hid (by rw [show zs ++ le n 0 = zs by simp [le]]; exact BufF.self HO0.out HM.out)⟩
  case round =>
    obtain ⟨j, p, c, hj, rfl, rfl, rfl, hb⟩ := hrel
    have hq : 0 ≤ n / 2 ^ (8 * j) ∧ n / 2 ^ (8 * j) < 9223372036854775808 := by
      refine ⟨Int.ediv_nonneg hn (Int.pow_nonneg (by decide)), ?_⟩
      exact Int.lt_of_le_of_lt (Int.ediv_le_self _ hn) hn2
    have hsucc : n / 2 ^ (8 * (j + 1)) = n / 2 ^ (8 * j) / 256 := by
      rw [Int.ediv_ediv_of_nonneg (Int.pow_nonneg (by decide)), Nat.mul_add, Int.pow_add]; rfl
    have HS := hid hsucc
    have hle := le_succ n j
    have HLE := hid hle
    have HL := hid (le_length n j)
    clear hsucc hle
    obtain ⟨q, hqq⟩ : ∃ q, n / 2 ^ (8 * j) = q := ⟨_, rfl⟩
    rw [hqq] at hq HS HLE ⊢
    clear hqq
    obtain ⟨hq0, hq1⟩ := hq
    by_cases hlt : j < k
    · have hrd : Rd (wr.alloc (.cells #[.int .u8 (q % 256)] 5)) (some ⟨wr.heap.size, 0, none⟩) [q % 256] :=
        (own_of_block (E := 5) (zs := [q % 256]) (heap_alloc_new wr _) (by simp [maxLen])).rd
      have HRD := hid hrd
      have HFA := hid ((Frm.refl [] wr).alloc (.cells #[.int .u8 (q % 256)] 5))
      have HO := hid (hb.out.own.kept HFA.out (by simp))
      have htm : Int.tmod q 256 = q % 256 := Int.tmod_eq_emod_of_nonneg hq0
      have htd : Int.tdiv q 256 = q / 256 := Int.tdiv_eq_ediv_of_nonneg hq0
      clear hrd
      go_wp2_with (at_builtin; refine wpList_appB rfl _ _ 22 rfl 5 Tryd.underlying22 infoE p _ c (zs ++ le n j) rfl hb.out.len.symm (by rw [hb.out.len]; exact HO.out) (some ⟨wr.heap.size, 0, none⟩) 1 1 [q % 256] rfl rfl (by simp) HRD.out (by rw [hb.out.len]; simp; omega) ?_)
      intro xs p2 c2 w2 hxs ho2 hf2 hfr2
      have hxe : xs = zs ++ le n (j + 1) := by rw [hxs.out, HLE.out]
      have hxl : xs.length = m + (j + 1) := by rw [hxe, List.length_append, HM.out, le_length]
      rw [hxl]
      have HXL := hid hxl
      have HXE := hid hxe
      clear hxl hxe
      go_wp2_with fail
      go_roundw
      case rel =>
        refine ⟨j + 1, p2, c2, by omega, by go_num, by rw [HS.out], rfl, hid ?_⟩
        have h := ho2.out
        rw [HXL.out, HXE.out] at h
        exact hb.out.trans (BufF.pre HFA.out ⟨h, by rw [← HXE.out, HXL.out], hf2.out, fun i hi => (hfr2.out i hi).imp id (fun h => by simpa using h)⟩)
      case measure => simp [intOf]; omega
    · obtain rfl : j = k := by omega
      go_wp2_with fail
      go_returns
      exact ⟨p, c, rfl, hb.out⟩
end
section
open Go.RowKit Go.Lib
set_option maxRecDepth 100000

/-- append of a text, as a law of the walk. -/
theorem wpList_appSF {P : Program} {w : World} {ops : Array Oper} {rest : List Oper} {o : Oper} {a : Act} {Q : Exit → Act → World → Prop} (hgd : o.guard = none) (sl x : Operand) (t u : TypeId)
    (ho : o.op = .call { callee := .builtin .append, args := #[sl, x], argTypes := #[t, u] })
    (E : TypeId) (ht : P.underlying t = some (.slice E)) (hu : P.underlying u = some .string) (hI : (P.info? E).map (fun i => (i.zero, i.size, i.bytes)) = some (some (.int .u8 0), 1, 1))
    (p0 : Option Addr) (n0 c0 : Nat) (zs : List Int) (hs : a.eval sl = .slice p0 n0 c0) (hn0 : n0 = zs.length) (hown : Own w E (.slice p0 zs.length c0) zs)
    (s : ByteArray) (hx : a.eval x = .string s) (hsz : zs.length + s.size ≤ 140737488355328)
    (h : ∀ xs p2 c2 w', Hid (xs = zs ++ tx s) → Hid (Own w' E (.slice p2 xs.length c2) xs) → Hid (Frm (blk p0) w w') → Hid (∀ k ∈ blk p2, k ∈ blk p0 ∨ w.heap.size ≤ k) → wpList P ops Q rest (a.put o.dst (.slice p2 xs.length c2)) w') :
    wpList P ops Q (o :: rest) a w := by
  refine wpList_plain hgd fun K hK => ?_
  subst hn0
  obtain ⟨v', w', hrun, h1, h2, h3⟩ := run_appS (P := P) (w := w) t u o.type E ht hu hI _ zs hown s hsz
  obtain ⟨xs, hxs⟩ : ∃ xs, xs = zs ++ tx s := ⟨_, rfl⟩
  rw [← hxs] at h1
  obtain ⟨p2, c2, rfl, _, _, _, hb⟩ := h1.shape
  rw [hb, own_blk] at h3
  rw [own_blk] at h2
  unfold Oper.wp
  simp [execOp, ho, resolve, invoke, builtin, hs, hx, hrun, Result.andThen]
  exact hK _ _ (h xs p2 c2 w' hxs h1 h2 h3)
set_option maxHeartbeats 1600000 in
theorem refTextF_any (p0 : Option Addr) (m c0 : Nat) (zs : List Int) (t : ByteArray) (w : World) (ho : Own w 5 (.slice p0 m c0) zs) (hm : zs.length = m) (hm2 : m ≤ 1000000) (ht : t.size ≤ 1000000) :
    Calls Tryd.prog 53 #[.slice p0 m c0, .string t] w fun e w' => ∃ p n c, e = .returned (.slice p n c) ∧ BufF w p0 w' p n c (zs ++ txF t) := by
  have HN := hid (refNumF_any p0 m c0 zs (t.size : Int) 2 w ho hm (by omega) (by omega) (by omega) (by omega))
  have HM := hid hm
  clear ho hm
  go_enter Tryd.func53, Tryd.ntmps53
  go_wp2_with fail
  refine HN.out.mono ?_
  rintro e w1 ⟨p, c, rfl, hb⟩
  have HB := hid hb
  obtain ⟨n, hn⟩ : ∃ z, m + 2 = z := ⟨_, rfl⟩
  rw [hn] at HB ⊢
  clear hb HN
  go_wp2_with (at_builtin; refine wpList_appSF rfl _ _ 22 9 rfl 5 Tryd.underlying22 Tryd.underlying9 infoE p n c (zs ++ le t.size 2) rfl HB.out.len.symm (by rw [HB.out.len]; exact HB.out.own) t rfl (by rw [HB.out.len]; omega) ?_)
  intro xs p2 c2 w2 hxs ho2 hf2 hfr2
  go_wp2_with fail
  first | go_returns | skip
  refine ⟨p2, xs.length, c2, rfl, ?_⟩
  have he : xs = zs ++ txF t := by rw [hxs.out]; unfold txF; rfl
  have h := HB.out.trans (⟨ho2.out, rfl, hf2.out, hfr2.out⟩ : BufF w1 p w2 p2 xs.length c2 xs)
  rw [← he]
  exact h
set_option maxHeartbeats 12800000 in
theorem askBody_any (r : Rq) (ds : List Int) (w : World) (hm : MayQ r) (hd : Rd w r.dp ds) (hl : ds.length = r.dl) (hn : ds = [] → r.dp = none → r.dc = 0) :
    Calls Tryd.prog 30 #[.agg r.arr] w fun e w' => ∃ p n c, e = .returned (.slice p n c) ∧ BufF w none w' p n c (bodyQ r ds) := by
  obtain ⟨PO, hPO⟩ : ∃ PO : Ending → World → Prop, (fun e w' => ∃ p n c, e = .returned (.slice p n c) ∧ BufF w none w' p n c (bodyQ r ds)) = PO := ⟨_, rfl⟩
  rw [hPO]
  have HP : Hid (∀ p n c w', BufF w none w' p n c (bodyQ r ds) → PO (.returned (.slice p n c)) w') := hid (fun p n c w' h => by rw [← hPO]; exact ⟨p, n, c, rfl, h⟩)
  have HD := hid (fun W (hf : Frm [] w W) => hd.kept hf (by simp))
  have HN := hid hn
  have HL := hid hl
  obtain ⟨w0, hw0⟩ : ∃ z, w.alloc (.cells r.arr 24) = z := ⟨_, rfl⟩
  have hrow := heap_alloc_new w (.cells r.arr 24)
  obtain ⟨bx, hbx⟩ : ∃ z, w.heap.size = z := ⟨_, rfl⟩
  have HF0 : Hid (Frm [] w w0) := hid (by rw [← hw0]; exact (Frm.refl _ _).alloc _)
  rw [hw0, hbx] at hrow
  have HR : Hid (∀ W, Frm [] w0 W → W.heap[bx]? = some (.cells r.arr 24 (0, 0))) := hid (fun W hf => hf.heap hrow (by simp))
  have HW0 := hid hw0
  have HBX := hid hbx
  have HB0 : Hid (BufF w none w0 none 0 0 []) := hid ⟨Own.nil _ _, rfl, HF0.out.mono (by simp), by simp [blk]⟩
  obtain ⟨m0, m1, m2, m3, m4, m5, m6, m7, m8, m9⟩ := hm
  obtain ⟨ses, id, verb, name, item, other, path, at_, many, dp, dl, dc⟩ := r
  unfold Rq.arr at HR HW0 ⊢
  simp only at HR HW0 HD HN HL m0 m1 m2 m3 m4 m5 m6 m7 m8 m9 ⊢
  have HRC : Hid (∀ W, Frm [] w0 W → W.cell? ⟨bx, 0, none⟩ = some (.int .i64 ses) ∧ W.cell? ⟨bx, 1, none⟩ = some (.int .i64 id) ∧ W.cell? ⟨bx, 2, none⟩ = some (.int .i64 verb) ∧ W.cell? ⟨bx, 3, none⟩ = some (.string name) ∧ W.cell? ⟨bx, 4, none⟩ = some (.string item) ∧ W.cell? ⟨bx, 5, none⟩ = some (.string other) ∧ W.cell? ⟨bx, 6, none⟩ = some (.string path) ∧ W.cell? ⟨bx, 7, none⟩ = some (.int .i64 at_) ∧ W.cell? ⟨bx, 8, none⟩ = some (.int .i64 many) ∧ W.cell? ⟨bx, 9, none⟩ = some (.slice dp dl dc)) := hid (fun W hf => rq_cells (r := ⟨ses, id, verb, name, item, other, path, at_, many, dp, dl, dc⟩) (HR.out W hf))
  clear hPO hd hn hl hw0 hrow hbx
  go_enter Tryd.func30, Tryd.ntmps30
  go_upto_region 1 with fail
  first | rw [HW0.out] | skip
  first | rw [HBX.out] | skip
  have HB00 : Hid (BufF w0 none w0 none 0 0 []) := hid (BufF.self (Own.nil _ _) rfl)
  have hn0 : 0 ≤ 0 := Nat.le_refl _
  obtain ⟨d0, d1, d2, d3, d4, d5, d6, d7, d8, d9⟩ := HRC.out w0 HB00.out.nil.1
  have HC := hid (refNumF_any none 0 0 [] ses 1 w0 HB00.out.own HB00.out.len (by omega) (by omega) (by omega) (by omega))
  go_wp2_with fail
  refine HC.out.mono ?_
  rintro e w1 ⟨p1, c1, rfl, hb⟩
  obtain ⟨n1, hnn⟩ : ∃ z, 0 + 1 = z := ⟨_, rfl⟩
  rw [hnn] at hb
  try rw [hnn]
  try simp only [Nat.zero_add] at hnn
  try rw [hnn]
  obtain ⟨z1, hz1⟩ : ∃ z, [] ++ le ses 1 = z := ⟨_, rfl⟩
  rw [hz1] at hb
  have hn1 : n1 ≤ 1 := by rw [← hb.len, ← hz1, List.length_append, HB00.out.len, le_length]; omega
  have HB1 : Hid (BufF w0 none w1 p1 n1 c1 z1) := hid (HB00.out.trans hb)
  have HZ1 := hid hz1
  clear hb hz1 HC d0 d1 d2 d3 d4 d5 d6 d7 d8 d9 hnn HB00
  obtain ⟨d0, d1, d2, d3, d4, d5, d6, d7, d8, d9⟩ := HRC.out w1 HB1.out.nil.1
  have HC := hid (refNumF_any p1 n1 c1 z1 id 4 w1 HB1.out.own HB1.out.len (by omega) (by omega) (by omega) (by omega))
  go_wp2_with fail
  refine HC.out.mono ?_
  rintro e w2 ⟨p2, c2, rfl, hb⟩
  obtain ⟨n2, hnn⟩ : ∃ z, n1 + 4 = z := ⟨_, rfl⟩
  rw [hnn] at hb
  try rw [hnn]
  try simp only [Nat.zero_add] at hnn
  try rw [hnn]
  obtain ⟨z2, hz2⟩ : ∃ z, z1 ++ le id 4 = z := ⟨_, rfl⟩
  rw [hz2] at hb
  have hn2 : n2 ≤ 5 := by rw [← hb.len, ← hz2, List.length_append, HB1.out.len, le_length]; omega
  have HB2 : Hid (BufF w0 none w2 p2 n2 c2 z2) := hid (HB1.out.trans hb)
  have HZ2 := hid hz2
  clear hb hz2 HC d0 d1 d2 d3 d4 d5 d6 d7 d8 d9 hnn HB1
  obtain ⟨d0, d1, d2, d3, d4, d5, d6, d7, d8, d9⟩ := HRC.out w2 HB2.out.nil.1
  have HC := hid (refNumF_any p2 n2 c2 z2 verb 1 w2 HB2.out.own HB2.out.len (by omega) (by omega) (by omega) (by omega))
  go_wp2_with fail
  refine HC.out.mono ?_
  rintro e w3 ⟨p3, c3, rfl, hb⟩
  obtain ⟨n3, hnn⟩ : ∃ z, n2 + 1 = z := ⟨_, rfl⟩
  rw [hnn] at hb
  try rw [hnn]
  try simp only [Nat.zero_add] at hnn
  try rw [hnn]
  obtain ⟨z3, hz3⟩ : ∃ z, z2 ++ le verb 1 = z := ⟨_, rfl⟩
  rw [hz3] at hb
  have hn3 : n3 ≤ 6 := by rw [← hb.len, ← hz3, List.length_append, HB2.out.len, le_length]; omega
  have HB3 : Hid (BufF w0 none w3 p3 n3 c3 z3) := hid (HB2.out.trans hb)
  have HZ3 := hid hz3
  clear hb hz3 HC d0 d1 d2 d3 d4 d5 d6 d7 d8 d9 hnn HB2
  obtain ⟨d0, d1, d2, d3, d4, d5, d6, d7, d8, d9⟩ := HRC.out w3 HB3.out.nil.1
  have HC := hid (refTextF_any p3 n3 c3 z3 name w3 HB3.out.own HB3.out.len (by omega) (by omega))
  go_wp2_with fail
  refine HC.out.mono ?_
  rintro e w4 ⟨p4, n4, c4, rfl, hb⟩
  obtain ⟨z4, hz4⟩ : ∃ z, z3 ++ txF name = z := ⟨_, rfl⟩
  rw [hz4] at hb
  have hn4 : n4 ≤ 248 := by rw [← hb.len, ← hz4, List.length_append, HB3.out.len, txF_len]; omega
  have HB4 : Hid (BufF w0 none w4 p4 n4 c4 z4) := hid (HB3.out.trans hb)
  have HZ4 := hid hz4
  clear hb hz4 HC d0 d1 d2 d3 d4 d5 d6 d7 d8 d9 HB3
  obtain ⟨d0, d1, d2, d3, d4, d5, d6, d7, d8, d9⟩ := HRC.out w4 HB4.out.nil.1
  have HC := hid (refTextF_any p4 n4 c4 z4 item w4 HB4.out.own HB4.out.len (by omega) (by omega))
  go_wp2_with fail
  refine HC.out.mono ?_
  rintro e w5 ⟨p5, n5, c5, rfl, hb⟩
  obtain ⟨z5, hz5⟩ : ∃ z, z4 ++ txF item = z := ⟨_, rfl⟩
  rw [hz5] at hb
  have hn5 : n5 ≤ 490 := by rw [← hb.len, ← hz5, List.length_append, HB4.out.len, txF_len]; omega
  have HB5 : Hid (BufF w0 none w5 p5 n5 c5 z5) := hid (HB4.out.trans hb)
  have HZ5 := hid hz5
  clear hb hz5 HC d0 d1 d2 d3 d4 d5 d6 d7 d8 d9 HB4
  obtain ⟨d0, d1, d2, d3, d4, d5, d6, d7, d8, d9⟩ := HRC.out w5 HB5.out.nil.1
  have HC := hid (refTextF_any p5 n5 c5 z5 other w5 HB5.out.own HB5.out.len (by omega) (by omega))
  go_wp2_with fail
  refine HC.out.mono ?_
  rintro e w6 ⟨p6, n6, c6, rfl, hb⟩
  obtain ⟨z6, hz6⟩ : ∃ z, z5 ++ txF other = z := ⟨_, rfl⟩
  rw [hz6] at hb
  have hn6 : n6 ≤ 732 := by rw [← hb.len, ← hz6, List.length_append, HB5.out.len, txF_len]; omega
  have HB6 : Hid (BufF w0 none w6 p6 n6 c6 z6) := hid (HB5.out.trans hb)
  have HZ6 := hid hz6
  clear hb hz6 HC d0 d1 d2 d3 d4 d5 d6 d7 d8 d9 HB5
  obtain ⟨d0, d1, d2, d3, d4, d5, d6, d7, d8, d9⟩ := HRC.out w6 HB6.out.nil.1
  have HC := hid (refTextF_any p6 n6 c6 z6 path w6 HB6.out.own HB6.out.len (by omega) (by omega))
  go_wp2_with fail
  refine HC.out.mono ?_
  rintro e w7 ⟨p7, n7, c7, rfl, hb⟩
  obtain ⟨z7, hz7⟩ : ∃ z, z6 ++ txF path = z := ⟨_, rfl⟩
  rw [hz7] at hb
  have hn7 : n7 ≤ 974 := by rw [← hb.len, ← hz7, List.length_append, HB6.out.len, txF_len]; omega
  have HB7 : Hid (BufF w0 none w7 p7 n7 c7 z7) := hid (HB6.out.trans hb)
  have HZ7 := hid hz7
  clear hb hz7 HC d0 d1 d2 d3 d4 d5 d6 d7 d8 d9 HB6
  obtain ⟨d0, d1, d2, d3, d4, d5, d6, d7, d8, d9⟩ := HRC.out w7 HB7.out.nil.1
  have HC := hid (refNumF_any p7 n7 c7 z7 at_ 6 w7 HB7.out.own HB7.out.len (by omega) (by omega) (by omega) (by omega))
  go_wp2_with fail
  refine HC.out.mono ?_
  rintro e w8 ⟨p8, c8, rfl, hb⟩
  obtain ⟨n8, hnn⟩ : ∃ z, n7 + 6 = z := ⟨_, rfl⟩
  rw [hnn] at hb
  try rw [hnn]
  try simp only [Nat.zero_add] at hnn
  try rw [hnn]
  obtain ⟨z8, hz8⟩ : ∃ z, z7 ++ le at_ 6 = z := ⟨_, rfl⟩
  rw [hz8] at hb
  have hn8 : n8 ≤ 980 := by rw [← hb.len, ← hz8, List.length_append, HB7.out.len, le_length]; omega
  have HB8 : Hid (BufF w0 none w8 p8 n8 c8 z8) := hid (HB7.out.trans hb)
  have HZ8 := hid hz8
  clear hb hz8 HC d0 d1 d2 d3 d4 d5 d6 d7 d8 d9 hnn HB7
  obtain ⟨d0, d1, d2, d3, d4, d5, d6, d7, d8, d9⟩ := HRC.out w8 HB8.out.nil.1
  have HC := hid (refNumF_any p8 n8 c8 z8 many 6 w8 HB8.out.own HB8.out.len (by omega) (by omega) (by omega) (by omega))
  go_wp2_with fail
  refine HC.out.mono ?_
  rintro e w9 ⟨p9, c9, rfl, hb⟩
  obtain ⟨n9, hnn⟩ : ∃ z, n8 + 6 = z := ⟨_, rfl⟩
  rw [hnn] at hb
  try rw [hnn]
  try simp only [Nat.zero_add] at hnn
  try rw [hnn]
  obtain ⟨z9, hz9⟩ : ∃ z, z8 ++ le many 6 = z := ⟨_, rfl⟩
  rw [hz9] at hb
  have hn9 : n9 ≤ 986 := by rw [← hb.len, ← hz9, List.length_append, HB8.out.len, le_length]; omega
  have HB9 : Hid (BufF w0 none w9 p9 n9 c9 z9) := hid (HB8.out.trans hb)
  have HZ9 := hid hz9
  clear hb hz9 HC d0 d1 d2 d3 d4 d5 d6 d7 d8 d9 hnn HB8
  obtain ⟨d0, d1, d2, d3, d4, d5, d6, d7, d8, d9⟩ := HRC.out w9 HB9.out.nil.1
  have HC := hid (refNumF_any p9 n9 c9 z9 (dl : Int) 2 w9 HB9.out.own HB9.out.len (by omega) (by omega) (by omega) (by omega))
  go_wp2_with fail
  refine HC.out.mono ?_
  rintro e w10 ⟨p10, c10, rfl, hb⟩
  obtain ⟨n10, hnn⟩ : ∃ z, n9 + 2 = z := ⟨_, rfl⟩
  rw [hnn] at hb
  try rw [hnn]
  try simp only [Nat.zero_add] at hnn
  try rw [hnn]
  obtain ⟨z10, hz10⟩ : ∃ z, z9 ++ le (dl : Int) 2 = z := ⟨_, rfl⟩
  rw [hz10] at hb
  have hn10 : n10 ≤ 988 := by rw [← hb.len, ← hz10, List.length_append, HB9.out.len, le_length]; omega
  have HB10 : Hid (BufF w0 none w10 p10 n10 c10 z10) := hid (HB9.out.trans hb)
  have HZ10 := hid hz10
  clear hb hz10 HC d0 d1 d2 d3 d4 d5 d6 d7 d8 d9 hnn HB9
  obtain ⟨d0, d1, d2, d3, d4, d5, d6, d7, d8, d9⟩ := HRC.out w10 HB10.out.nil.1
  go_wp2_with (at_builtin; refine wpList_appB rfl _ _ 22 rfl 5 Tryd.underlying22 infoE p10 n10 c10 z10 rfl HB10.out.len.symm (by rw [HB10.out.len]; exact HB10.out.own) dp dl dc ds rfl HL.out.symm HN.out (HD.out _ (HF0.out.trans HB10.out.nil.1 (by simp))) (by rw [HB10.out.len, HL.out]; omega) ?_)
  intro xs p11 c11 w11 hxs ho11 hf11 hfr11
  clear d0 d1 d2 d3 d4 d5 d6 d7 d8 d9
  go_wp2_with fail
  first | go_returns | skip
  have he : xs = bodyQ ⟨ses, id, verb, name, item, other, path, at_, many, dp, dl, dc⟩ ds := by
    rw [hxs.out, ← HZ10.out, ← HZ9.out, ← HZ8.out, ← HZ7.out, ← HZ6.out, ← HZ5.out, ← HZ4.out, ← HZ3.out, ← HZ2.out, ← HZ1.out]
    unfold bodyQ
    simp [txT]
  refine HP.out _ _ _ _ ?_
  rw [← he]
  exact HB0.out.trans (HB10.out.trans (⟨ho11.out, rfl, hf11.out, hfr11.out⟩ : BufF w10 p10 w11 p11 xs.length c11 xs))
end
end Go.Proofs.YtignoocdeghiaaaDoor
