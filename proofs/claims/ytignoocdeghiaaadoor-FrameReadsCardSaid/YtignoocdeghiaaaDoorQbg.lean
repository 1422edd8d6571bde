/- Frames: any bytes are read as a reply. -/
import Derived.Test.YtignoocdeghiaaaDoorQbf
import Derived.Test.YtignoocdeghiaaaDoorQao
namespace Go.Proofs.YtignoocdeghiaaaDoor
section
open Go.RowKit Go.Lib
set_option maxRecDepth 100000

/-- What ReadReply answers as its error. -/
def raE (bs : List Int) : Int := if bs.length < 13 ∨ 65536 < bs.length then 230 else if leV (bs.take 4) ≠ ((bs.length - 4 : Nat) : Int) then 230 else if leV (endF bs) ≠ (shaD (midF bs)).a then 231 else if (nuS (midF bs) (0, 0) 1).1 ≠ 2 then 230 else if doneS (midF bs).length (a9 (midF bs) (s0F bs)).2.1 (a9 (midF bs) (s0F bs)).2.2 ≠ 0 then 230 else if ¬ MayA (repT (midF bs) (s0F bs) none (aK (midF bs) (s0F bs)) 0 none (a9 (midF bs) (s0F bs)).1.length 0) (a7 (midF bs) (s0F bs)).1 then 230 else 0
/-- What it answers as the reply; its list, its data. -/
def raG (bs : List Int) (lp : Option Addr) (ln lc : Nat) (p : Option Addr) (n c : Nat) : Ra := if raE bs = 0 then repT (midF bs) (s0F bs) lp ln lc p n c else (Ra.mk 0 0 0 0 ⟨#[]⟩ none 0 0 none 0 0)
def raL (bs : List Int) : List ByteArray := if raE bs = 0 then (a7 (midF bs) (s0F bs)).1 else []
def raD (bs : List Int) : List Int := if raE bs = 0 then (a9 (midF bs) (s0F bs)).1 else []
def ReadAA (w : World) (bs : List Int) (e : Ending) (w' : World) : Prop := ∃ lp ln lc p n c, e = .returned (.tuple #[.agg (raG bs lp ln lc p n c).arr, .int .i64 (raE bs)]) ∧ n = (raD bs).length ∧ Own w' 5 (.slice p n c) (raD bs) ∧ (∀ k ∈ blk p, w.heap.size ≤ k) ∧ ln = (raL bs).length ∧ RdL w' lp (raL bs) ∧ (∀ k ∈ blk lp, w.heap.size ≤ k) ∧ Frm [] w w'
theorem ReadAA.bad {w w' : World} {bs : List Int} {E : Int} (h : raE bs = E) (h0 : E ≠ 0) (hf : Frm [] w w') : ReadAA w bs (.returned (.tuple #[.agg #[.int .i64 0, .int .i64 0, .int .i64 0, .int .i64 0, .string ⟨#[]⟩, .slice none 0 0, .slice none 0 0], .int .i64 E])) w' := by
  have h1 : ¬ raE bs = 0 := by rw [h]; exact h0
  have hG : raG bs none 0 0 none 0 0 = (Ra.mk 0 0 0 0 ⟨#[]⟩ none 0 0 none 0 0) := by unfold raG; exact if_neg h1
  have hD : raD bs = [] := by unfold raD; exact if_neg h1
  have hL : raL bs = [] := by unfold raL; exact if_neg h1
  exact ⟨none, 0, 0, none, 0, 0, by rw [hG, h]; rfl, by rw [hD]; rfl, by rw [hD]; exact Own.nil _ _, by simp [blk], by rw [hL]; rfl, by rw [hL]; exact Or.inl rfl, by simp [blk], hf⟩
set_option maxHeartbeats 25600000 in
theorem readA_any (p : Option Addr) (n c : Nat) (bs : List Int) (w : World) (hn : bs.length = n) (hnc : n ≤ c) (hrd : Rd w p bs) (hb : ∀ z ∈ bs, 0 ≤ z ∧ z < 256) (hpr : Primes w) :
    Calls Tryd.prog 42 #[.slice p n c, .func (.func 32) #[] #[], .int .i64 2, .func (.func 43) #[] #[]] w (ReadAA w bs) := by
  obtain ⟨PO, hPO⟩ : ∃ PO : Ending → World → Prop, ReadAA w bs = PO := ⟨_, rfl⟩
  rw [hPO]
  have HP := hid (show ∀ e w', ReadAA w bs e w' → PO e w' from fun e w' h => by rw [← hPO]; exact h)
  have HRD := hid hrd
  have HB := hid hb
  have HPR := hid hpr
  have HLN := hid hn
  obtain ⟨wa, hwa⟩ : ∃ z, w.alloc (.cells #[.int .i64 0, .int .i64 0, .int .i64 0, .int .i64 0, .string ⟨#[]⟩, .slice none 0 0, .slice none 0 0] 32) = z := ⟨_, rfl⟩
  have hrowa := heap_alloc_new w (.cells #[.int .i64 0, .int .i64 0, .int .i64 0, .int .i64 0, .string ⟨#[]⟩, .slice none 0 0, .slice none 0 0] 32)
  have hfa : Frm [] w wa := by rw [← hwa]; exact (Frm.refl _ _).alloc _
  obtain ⟨br, hbr⟩ : ∃ z, w.heap.size = z := ⟨_, rfl⟩
  rw [hwa, hbr] at hrowa
  obtain ⟨wn, hwn⟩ : ∃ z, wa.alloc (.cells #[.int .i64 0, .int .i64 0, .int .i64 0, .int .i64 0, .string ⟨#[]⟩, .slice none 0 0, .slice none 0 0] 32) = z := ⟨_, rfl⟩
  have hrown := heap_alloc_new wa (.cells #[.int .i64 0, .int .i64 0, .int .i64 0, .int .i64 0, .string ⟨#[]⟩, .slice none 0 0, .slice none 0 0] 32)
  have hfn : Frm [] wa wn := by rw [← hwn]; exact (Frm.refl _ _).alloc _
  obtain ⟨bn, hbn⟩ : ∃ z, wa.heap.size = z := ⟨_, rfl⟩
  rw [hwn, hbn] at hrown
  have hbs : br + 1 = bn := by rw [← hbn, ← hwa, ← hbr]; simp
  have HBN := hid hbs
  have HBR := hid hbr
  have HF : Hid (Frm [] w wn) := hid (hfa.trans hfn (by simp))
  have HRR : Hid (∀ W, Frm [] wn W → W.heap[br]? = some (.cells #[.int .i64 0, .int .i64 0, .int .i64 0, .int .i64 0, .string ⟨#[]⟩, .slice none 0 0, .slice none 0 0] 32 (0, 0))) := hid (fun W hf => hf.heap (hfn.heap hrowa (by simp)) (by simp))
  have HRN : Hid (∀ W, Frm [] wn W → W.heap[bn]? = some (.cells #[.int .i64 0, .int .i64 0, .int .i64 0, .int .i64 0, .string ⟨#[]⟩, .slice none 0 0, .slice none 0 0] 32 (0, 0))) := hid (fun W hf => hf.heap hrown (by simp))
  have HWA := hid hwa
  have HWN := hid hwn
  have HBQ := hid hbn
  have HSZ : Hid (br < wn.heap.size) := hid (by have := lt_of_heap hrown; omega)
  clear hn hrd hb hpr hPO hrowa hfa hrown hfn hbr hbn hwa hwn hbs
  have HPAD : Hid (∀ W, Frm [] wn W → Rd W p bs ∧ Primes W) := hid (fun W hf => ⟨(HRD.out.kept HF.out (by simp)).kept hf (by simp), (HPR.out.kept HF.out).kept hf⟩)
  go_enter Tryd.func42, Tryd.ntmps42
  go_upto_region 2 with fail
  first | rw [HWA.out] | skip
  first | rw [HBR.out] | skip
  first | rw [HBQ.out] | skip
  first | rw [HBN.out] | skip
  first | rw [HWN.out] | skip
  have f0 : Frm [] wn wn := Frm.refl _ _
  by_cases h13 : n < 13
  · have d13 : decide ((n : Int) < 13) = true := decide_eq_true (by omega)
    have e13 : (n : Int) < 13 := by omega
    have hrr := HRR.out wn f0
    have hrn := HRN.out wn f0
    have z0 : wn.cell? ⟨bn, 0, none⟩ = some (.int .i64 0) := by rw [cell_of_row _ _ _ _ _ _ hrn]; rfl
    have v0 : wn.cell? ⟨br, 0, none⟩ = some (.int .i64 0) := by rw [cell_of_row _ _ _ _ _ _ hrr]; rfl
    have y0 := frozen_of_row wn br 0 _ _ hrr
    have z1 : wn.cell? ⟨bn, 1, none⟩ = some (.int .i64 0) := by rw [cell_of_row _ _ _ _ _ _ hrn]; rfl
    have v1 : wn.cell? ⟨br, 1, none⟩ = some (.int .i64 0) := by rw [cell_of_row _ _ _ _ _ _ hrr]; rfl
    have y1 := frozen_of_row wn br 1 _ _ hrr
    have z2 : wn.cell? ⟨bn, 2, none⟩ = some (.int .i64 0) := by rw [cell_of_row _ _ _ _ _ _ hrn]; rfl
    have v2 : wn.cell? ⟨br, 2, none⟩ = some (.int .i64 0) := by rw [cell_of_row _ _ _ _ _ _ hrr]; rfl
    have y2 := frozen_of_row wn br 2 _ _ hrr
    have z3 : wn.cell? ⟨bn, 3, none⟩ = some (.int .i64 0) := by rw [cell_of_row _ _ _ _ _ _ hrn]; rfl
    have v3 : wn.cell? ⟨br, 3, none⟩ = some (.int .i64 0) := by rw [cell_of_row _ _ _ _ _ _ hrr]; rfl
    have y3 := frozen_of_row wn br 3 _ _ hrr
    have z4 : wn.cell? ⟨bn, 4, none⟩ = some (.string ⟨#[]⟩) := by rw [cell_of_row _ _ _ _ _ _ hrn]; rfl
    have v4 : wn.cell? ⟨br, 4, none⟩ = some (.string ⟨#[]⟩) := by rw [cell_of_row _ _ _ _ _ _ hrr]; rfl
    have y4 := frozen_of_row wn br 4 _ _ hrr
    have z5 : wn.cell? ⟨bn, 5, none⟩ = some (.slice none 0 0) := by rw [cell_of_row _ _ _ _ _ _ hrn]; rfl
    have v5 : wn.cell? ⟨br, 5, none⟩ = some (.slice none 0 0) := by rw [cell_of_row _ _ _ _ _ _ hrr]; rfl
    have y5 := frozen_of_row wn br 5 _ _ hrr
    have z6 : wn.cell? ⟨bn, 6, none⟩ = some (.slice none 0 0) := by rw [cell_of_row _ _ _ _ _ _ hrn]; rfl
    have v6 : wn.cell? ⟨br, 6, none⟩ = some (.slice none 0 0) := by rw [cell_of_row _ _ _ _ _ _ hrr]; rfl
    have y6 := frozen_of_row wn br 6 _ _ hrr
    go_wp2_with fail
    obtain ⟨h5, f5⟩ := sets_rowF br 32 [(0, .int .i64 0), (1, .int .i64 0), (2, .int .i64 0), (3, .int .i64 0), (4, .string ⟨#[]⟩), (5, .slice none 0 0), (6, .slice none 0 0)] wn _ hrr
    simp only [List.foldl, List.setIfInBounds_toArray, List.set_cons_zero, List.set_cons_succ] at h5
    obtain ⟨Wz, hWz⟩ : ∃ z, setsF wn br [(0, .int .i64 0), (1, .int .i64 0), (2, .int .i64 0), (3, .int .i64 0), (4, .string ⟨#[]⟩), (5, .slice none 0 0), (6, .slice none 0 0)] = z := ⟨_, rfl⟩
    rw [hWz] at h5 f5
    have hwz : (((((((wn.setCell ⟨br, 0, none⟩ (.int .i64 0)).setCell ⟨br, 1, none⟩ (.int .i64 0)).setCell ⟨br, 2, none⟩ (.int .i64 0)).setCell ⟨br, 3, none⟩ (.int .i64 0)).setCell ⟨br, 4, none⟩ (.string ⟨#[]⟩)).setCell ⟨br, 5, none⟩ (.slice none 0 0)).setCell ⟨br, 6, none⟩ (.slice none 0 0)) = Wz := hWz
    rw [hwz]
    have u0 : Wz.cell? ⟨br, 0, none⟩ = some (.int .i64 0) := by rw [cell_of_row _ _ _ _ _ _ h5]; rfl
    have u1 : Wz.cell? ⟨br, 1, none⟩ = some (.int .i64 0) := by rw [cell_of_row _ _ _ _ _ _ h5]; rfl
    have u2 : Wz.cell? ⟨br, 2, none⟩ = some (.int .i64 0) := by rw [cell_of_row _ _ _ _ _ _ h5]; rfl
    have u3 : Wz.cell? ⟨br, 3, none⟩ = some (.int .i64 0) := by rw [cell_of_row _ _ _ _ _ _ h5]; rfl
    have u4 : Wz.cell? ⟨br, 4, none⟩ = some (.string ⟨#[]⟩) := by rw [cell_of_row _ _ _ _ _ _ h5]; rfl
    have u5 : Wz.cell? ⟨br, 5, none⟩ = some (.slice none 0 0) := by rw [cell_of_row _ _ _ _ _ _ h5]; rfl
    have u6 : Wz.cell? ⟨br, 6, none⟩ = some (.slice none 0 0) := by rw [cell_of_row _ _ _ _ _ _ h5]; rfl
    refine bodyPost_ret (v := .tuple #[.agg #[.int .i64 0, .int .i64 0, .int .i64 0, .int .i64 0, .string ⟨#[]⟩, .slice none 0 0, .slice none 0 0], .int .i64 230]) (by simp [results, Tryd.results42, go_sem, u0, u1, u2, u3, u4, u5, u6]) rfl ?_
    exact (HP.out _ _ (ReadAA.bad (E := 230) (by unfold raE; rw [if_pos (Or.inl (by rw [HLN.out]; exact h13))]) (by decide) ((HF.out.trans f0 (by simp)).trans f5 (fun i hi hl => by rw [List.mem_singleton] at hi; have := HBR.out; omega))))
  have d13 : decide ((n : Int) < 13) = false := decide_eq_false (by omega)
  have e13 : ¬ (n : Int) < 13 := by omega
  by_cases h65 : 65536 < n
  · have d65 : decide ((65536 : Int) < (n : Int)) = true := decide_eq_true (by omega)
    have e65 : (65536 : Int) < (n : Int) := by omega
    have hrr := HRR.out wn f0
    have hrn := HRN.out wn f0
    have z0 : wn.cell? ⟨bn, 0, none⟩ = some (.int .i64 0) := by rw [cell_of_row _ _ _ _ _ _ hrn]; rfl
    have v0 : wn.cell? ⟨br, 0, none⟩ = some (.int .i64 0) := by rw [cell_of_row _ _ _ _ _ _ hrr]; rfl
    have y0 := frozen_of_row wn br 0 _ _ hrr
    have z1 : wn.cell? ⟨bn, 1, none⟩ = some (.int .i64 0) := by rw [cell_of_row _ _ _ _ _ _ hrn]; rfl
    have v1 : wn.cell? ⟨br, 1, none⟩ = some (.int .i64 0) := by rw [cell_of_row _ _ _ _ _ _ hrr]; rfl
    have y1 := frozen_of_row wn br 1 _ _ hrr
    have z2 : wn.cell? ⟨bn, 2, none⟩ = some (.int .i64 0) := by rw [cell_of_row _ _ _ _ _ _ hrn]; rfl
    have v2 : wn.cell? ⟨br, 2, none⟩ = some (.int .i64 0) := by rw [cell_of_row _ _ _ _ _ _ hrr]; rfl
    have y2 := frozen_of_row wn br 2 _ _ hrr
    have z3 : wn.cell? ⟨bn, 3, none⟩ = some (.int .i64 0) := by rw [cell_of_row _ _ _ _ _ _ hrn]; rfl
    have v3 : wn.cell? ⟨br, 3, none⟩ = some (.int .i64 0) := by rw [cell_of_row _ _ _ _ _ _ hrr]; rfl
    have y3 := frozen_of_row wn br 3 _ _ hrr
    have z4 : wn.cell? ⟨bn, 4, none⟩ = some (.string ⟨#[]⟩) := by rw [cell_of_row _ _ _ _ _ _ hrn]; rfl
    have v4 : wn.cell? ⟨br, 4, none⟩ = some (.string ⟨#[]⟩) := by rw [cell_of_row _ _ _ _ _ _ hrr]; rfl
    have y4 := frozen_of_row wn br 4 _ _ hrr
    have z5 : wn.cell? ⟨bn, 5, none⟩ = some (.slice none 0 0) := by rw [cell_of_row _ _ _ _ _ _ hrn]; rfl
    have v5 : wn.cell? ⟨br, 5, none⟩ = some (.slice none 0 0) := by rw [cell_of_row _ _ _ _ _ _ hrr]; rfl
    have y5 := frozen_of_row wn br 5 _ _ hrr
    have z6 : wn.cell? ⟨bn, 6, none⟩ = some (.slice none 0 0) := by rw [cell_of_row _ _ _ _ _ _ hrn]; rfl
    have v6 : wn.cell? ⟨br, 6, none⟩ = some (.slice none 0 0) := by rw [cell_of_row _ _ _ _ _ _ hrr]; rfl
    have y6 := frozen_of_row wn br 6 _ _ hrr
    go_wp2_with fail
    obtain ⟨h5, f5⟩ := sets_rowF br 32 [(0, .int .i64 0), (1, .int .i64 0), (2, .int .i64 0), (3, .int .i64 0), (4, .string ⟨#[]⟩), (5, .slice none 0 0), (6, .slice none 0 0)] wn _ hrr
    simp only [List.foldl, List.setIfInBounds_toArray, List.set_cons_zero, List.set_cons_succ] at h5
    obtain ⟨Wz, hWz⟩ : ∃ z, setsF wn br [(0, .int .i64 0), (1, .int .i64 0), (2, .int .i64 0), (3, .int .i64 0), (4, .string ⟨#[]⟩), (5, .slice none 0 0), (6, .slice none 0 0)] = z := ⟨_, rfl⟩
    rw [hWz] at h5 f5
    have hwz : (((((((wn.setCell ⟨br, 0, none⟩ (.int .i64 0)).setCell ⟨br, 1, none⟩ (.int .i64 0)).setCell ⟨br, 2, none⟩ (.int .i64 0)).setCell ⟨br, 3, none⟩ (.int .i64 0)).setCell ⟨br, 4, none⟩ (.string ⟨#[]⟩)).setCell ⟨br, 5, none⟩ (.slice none 0 0)).setCell ⟨br, 6, none⟩ (.slice none 0 0)) = Wz := hWz
    rw [hwz]
    have u0 : Wz.cell? ⟨br, 0, none⟩ = some (.int .i64 0) := by rw [cell_of_row _ _ _ _ _ _ h5]; rfl
    have u1 : Wz.cell? ⟨br, 1, none⟩ = some (.int .i64 0) := by rw [cell_of_row _ _ _ _ _ _ h5]; rfl
    have u2 : Wz.cell? ⟨br, 2, none⟩ = some (.int .i64 0) := by rw [cell_of_row _ _ _ _ _ _ h5]; rfl
    have u3 : Wz.cell? ⟨br, 3, none⟩ = some (.int .i64 0) := by rw [cell_of_row _ _ _ _ _ _ h5]; rfl
    have u4 : Wz.cell? ⟨br, 4, none⟩ = some (.string ⟨#[]⟩) := by rw [cell_of_row _ _ _ _ _ _ h5]; rfl
    have u5 : Wz.cell? ⟨br, 5, none⟩ = some (.slice none 0 0) := by rw [cell_of_row _ _ _ _ _ _ h5]; rfl
    have u6 : Wz.cell? ⟨br, 6, none⟩ = some (.slice none 0 0) := by rw [cell_of_row _ _ _ _ _ _ h5]; rfl
    refine bodyPost_ret (v := .tuple #[.agg #[.int .i64 0, .int .i64 0, .int .i64 0, .int .i64 0, .string ⟨#[]⟩, .slice none 0 0, .slice none 0 0], .int .i64 230]) (by simp [results, Tryd.results42, go_sem, u0, u1, u2, u3, u4, u5, u6]) rfl ?_
    exact (HP.out _ _ (ReadAA.bad (E := 230) (by unfold raE; rw [if_pos (Or.inr (by rw [HLN.out]; exact h65))]) (by decide) ((HF.out.trans f0 (by simp)).trans f5 (fun i hi hl => by rw [List.mem_singleton] at hi; have := HBR.out; omega))))
  have d65 : decide ((65536 : Int) < (n : Int)) = false := decide_eq_false (by omega)
  have e65 : ¬ (65536 : Int) < (n : Int) := by omega
  have HE1 : Hid (¬ (bs.length < 13 ∨ 65536 < bs.length)) := hid (by rw [HLN.out]; omega)
  obtain ⟨g0, o0, rfl⟩ : ∃ g0 o0, p = some ⟨g0, o0, none⟩ := by
    rcases HRD.out with h | ⟨g, o, h, _⟩
    · have := HLN.out; rw [h] at this; simp at this; omega
    · exact ⟨g, o, h⟩
  have hsl1 := fun W => sl_h (P := Tryd.prog) Tryd.underlying22 infoU8E (some ⟨g0, o0, none⟩) n c 4 (by omega) W
  have hl4 : (bs.take 4).length = 4 := by rw [List.length_take, HLN.out]; omega
  have HB4 : Hid (∀ z ∈ bs.take 4, 0 ≤ z ∧ z < 256) := hid (fun z hz => HB.out z (List.mem_of_mem_take hz))
  have hnr := fun W (hf : Frm [] wn W) => newReader_any (some ⟨g0, o0, none⟩) c (bs.take 4) W ((HPAD.out W hf).1.take 4) (by omega)
  simp only [hl4] at hnr
  have HNR := hid hnr
  have HL4 := hid hl4
  clear hnr hl4
  go_wp2_with fail
  refine (HNR.out _ f0).mono ?_
  rintro e w1 ⟨r1, g1, rfl, hr1, hf1, hnb1, _⟩
  have HNM := hid (numR4 r1 g1 (bs.take 4) HL4.out HB4.out w1 hr1)
  obtain ⟨NZ, hNZ⟩ : ∃ z, leV (bs.take 4) = z := ⟨_, rfl⟩
  have hbd := leV_bd (bs.take 4) HB4.out
  rw [HL4.out, hNZ] at hbd
  rw [hNZ] at HNM
  obtain ⟨NN, rfl⟩ := Int.eq_ofNat_of_zero_le hbd.1
  have hNB : NN < 4294967296 := by have := hbd.2; simp at this; omega
  have HNZ := hid hNZ
  have HF1 := hid hf1
  have HNB1 := hid hnb1
  clear hr1 hf1 hnb1 hNZ hbd HNR hsl1 f0
  go_wp2_with fail
  refine HNM.out.mono ?_
  rintro e w2 ⟨rfl, hf2⟩
  have HF2 : Hid (Frm [] wn w2) := hid (HF1.out.trans hf2 (fun i hi hl => by rw [List.mem_singleton] at hi; subst hi; have := HNB1.out; omega))
  have hwn : IntKind.i64.wrap (NN : Int) = (NN : Int) := by rw [IntKind.wrap_i64]; omega
  clear hf2 HNM HF1 HNB1
  by_cases hNF : (NN : Int) = (n : Int) - 4
  case neg =>
    have b4 : ((NN : Int) != (n : Int) - 4) = true := by rw [bne_iff_ne]; exact hNF
    have hrr := HRR.out w2 HF2.out
    have hrn := HRN.out w2 HF2.out
    have z0 : w2.cell? ⟨bn, 0, none⟩ = some (.int .i64 0) := by rw [cell_of_row _ _ _ _ _ _ hrn]; rfl
    have v0 : w2.cell? ⟨br, 0, none⟩ = some (.int .i64 0) := by rw [cell_of_row _ _ _ _ _ _ hrr]; rfl
    have y0 := frozen_of_row w2 br 0 _ _ hrr
    have z1 : w2.cell? ⟨bn, 1, none⟩ = some (.int .i64 0) := by rw [cell_of_row _ _ _ _ _ _ hrn]; rfl
    have v1 : w2.cell? ⟨br, 1, none⟩ = some (.int .i64 0) := by rw [cell_of_row _ _ _ _ _ _ hrr]; rfl
    have y1 := frozen_of_row w2 br 1 _ _ hrr
    have z2 : w2.cell? ⟨bn, 2, none⟩ = some (.int .i64 0) := by rw [cell_of_row _ _ _ _ _ _ hrn]; rfl
    have v2 : w2.cell? ⟨br, 2, none⟩ = some (.int .i64 0) := by rw [cell_of_row _ _ _ _ _ _ hrr]; rfl
    have y2 := frozen_of_row w2 br 2 _ _ hrr
    have z3 : w2.cell? ⟨bn, 3, none⟩ = some (.int .i64 0) := by rw [cell_of_row _ _ _ _ _ _ hrn]; rfl
    have v3 : w2.cell? ⟨br, 3, none⟩ = some (.int .i64 0) := by rw [cell_of_row _ _ _ _ _ _ hrr]; rfl
    have y3 := frozen_of_row w2 br 3 _ _ hrr
    have z4 : w2.cell? ⟨bn, 4, none⟩ = some (.string ⟨#[]⟩) := by rw [cell_of_row _ _ _ _ _ _ hrn]; rfl
    have v4 : w2.cell? ⟨br, 4, none⟩ = some (.string ⟨#[]⟩) := by rw [cell_of_row _ _ _ _ _ _ hrr]; rfl
    have y4 := frozen_of_row w2 br 4 _ _ hrr
    have z5 : w2.cell? ⟨bn, 5, none⟩ = some (.slice none 0 0) := by rw [cell_of_row _ _ _ _ _ _ hrn]; rfl
    have v5 : w2.cell? ⟨br, 5, none⟩ = some (.slice none 0 0) := by rw [cell_of_row _ _ _ _ _ _ hrr]; rfl
    have y5 := frozen_of_row w2 br 5 _ _ hrr
    have z6 : w2.cell? ⟨bn, 6, none⟩ = some (.slice none 0 0) := by rw [cell_of_row _ _ _ _ _ _ hrn]; rfl
    have v6 : w2.cell? ⟨br, 6, none⟩ = some (.slice none 0 0) := by rw [cell_of_row _ _ _ _ _ _ hrr]; rfl
    have y6 := frozen_of_row w2 br 6 _ _ hrr
    go_wp2_with fail
    obtain ⟨h5, f5⟩ := sets_rowF br 32 [(0, .int .i64 0), (1, .int .i64 0), (2, .int .i64 0), (3, .int .i64 0), (4, .string ⟨#[]⟩), (5, .slice none 0 0), (6, .slice none 0 0)] w2 _ hrr
    simp only [List.foldl, List.setIfInBounds_toArray, List.set_cons_zero, List.set_cons_succ] at h5
    obtain ⟨Wz, hWz⟩ : ∃ z, setsF w2 br [(0, .int .i64 0), (1, .int .i64 0), (2, .int .i64 0), (3, .int .i64 0), (4, .string ⟨#[]⟩), (5, .slice none 0 0), (6, .slice none 0 0)] = z := ⟨_, rfl⟩
    rw [hWz] at h5 f5
    have hwz : (((((((w2.setCell ⟨br, 0, none⟩ (.int .i64 0)).setCell ⟨br, 1, none⟩ (.int .i64 0)).setCell ⟨br, 2, none⟩ (.int .i64 0)).setCell ⟨br, 3, none⟩ (.int .i64 0)).setCell ⟨br, 4, none⟩ (.string ⟨#[]⟩)).setCell ⟨br, 5, none⟩ (.slice none 0 0)).setCell ⟨br, 6, none⟩ (.slice none 0 0)) = Wz := hWz
    rw [hwz]
    have u0 : Wz.cell? ⟨br, 0, none⟩ = some (.int .i64 0) := by rw [cell_of_row _ _ _ _ _ _ h5]; rfl
    have u1 : Wz.cell? ⟨br, 1, none⟩ = some (.int .i64 0) := by rw [cell_of_row _ _ _ _ _ _ h5]; rfl
    have u2 : Wz.cell? ⟨br, 2, none⟩ = some (.int .i64 0) := by rw [cell_of_row _ _ _ _ _ _ h5]; rfl
    have u3 : Wz.cell? ⟨br, 3, none⟩ = some (.int .i64 0) := by rw [cell_of_row _ _ _ _ _ _ h5]; rfl
    have u4 : Wz.cell? ⟨br, 4, none⟩ = some (.string ⟨#[]⟩) := by rw [cell_of_row _ _ _ _ _ _ h5]; rfl
    have u5 : Wz.cell? ⟨br, 5, none⟩ = some (.slice none 0 0) := by rw [cell_of_row _ _ _ _ _ _ h5]; rfl
    have u6 : Wz.cell? ⟨br, 6, none⟩ = some (.slice none 0 0) := by rw [cell_of_row _ _ _ _ _ _ h5]; rfl
    refine bodyPost_ret (v := .tuple #[.agg #[.int .i64 0, .int .i64 0, .int .i64 0, .int .i64 0, .string ⟨#[]⟩, .slice none 0 0, .slice none 0 0], .int .i64 230]) (by simp [results, Tryd.results42, go_sem, u0, u1, u2, u3, u4, u5, u6]) rfl ?_
    exact (HP.out _ _ (ReadAA.bad (E := 230) (by unfold raE; rw [if_neg HE1.out, if_pos (by rw [HNZ.out, HLN.out]; omega)]) (by decide) ((HF.out.trans HF2.out (by simp)).trans f5 (fun i hi hl => by rw [List.mem_singleton] at hi; have := HBR.out; omega))))
  have HE2 : Hid (¬ leV (bs.take 4) ≠ ((bs.length - 4 : Nat) : Int)) := hid (by rw [HNZ.out, HLN.out]; omega)
  have b4 : ((NN : Int) != (n : Int) - 4) = false := by rw [bne_eq_false_iff_eq]; exact hNF
  have hslm : ∀ W, (Instr.slice 22 (.slice (some ⟨g0, o0, none⟩) n c) (some (.int .i64 4)) (some (.int .i64 ((n : Int) - 8))) none).run Tryd.prog W = .ok (.slice (some ⟨g0, o0 + 4, none⟩) (n - 8 - 4) (c - 4)) W := fun W => by
    have h := sl_lh (P := Tryd.prog) (sz := 1) Tryd.underlying22 infoU8E (some ⟨g0, o0, none⟩) n c 4 (n - 8) (by omega) (by omega) W
    rw [part1 g0 o0 c 4 (by omega), show ((n - 8 : Nat) : Int) = (n : Int) - 8 by omega] at h
    exact h
  have hsle : ∀ W, (Instr.slice 22 (.slice (some ⟨g0, o0, none⟩) n c) (some (.int .i64 ((n : Int) - 8))) none none).run Tryd.prog W = .ok (.slice (some ⟨g0, o0 + (n - 8), none⟩) 8 (c - (n - 8))) W := fun W => by
    have h := sl_l (P := Tryd.prog) (sz := 1) Tryd.underlying22 infoU8E (some ⟨g0, o0, none⟩) n c (n - 8) (by omega) W
    rw [part1 g0 o0 c (n - 8) (by omega), show ((n - 8 : Nat) : Int) = (n : Int) - 8 by omega, show n - (n - 8) = 8 by omega] at h
    exact h
  obtain ⟨mi, hmi⟩ : ∃ z, midF bs = z := ⟨_, rfl⟩
  obtain ⟨en, hen⟩ : ∃ z, endF bs = z := ⟨_, rfl⟩
  have hml : mi.length = n - 8 - 4 := by rw [← hmi]; unfold midF; rw [List.length_take, List.length_drop, HLN.out]; omega
  have hel : en.length = 8 := by rw [← hen]; unfold endF; rw [List.length_drop, HLN.out]; omega
  have HRM : Hid (∀ W, Frm [] wn W → Rd W (some ⟨g0, o0 + 4, none⟩) mi) := hid (fun W hf => by rw [← hmi]; exact ((HPAD.out W hf).1.drop 4).take _)
  have HRE : Hid (∀ W, Frm [] wn W → Rd W (some ⟨g0, o0 + (n - 8), none⟩) en) := hid (fun W hf => by rw [← hen, ← HLN.out]; exact (HPAD.out W hf).1.drop _)
  have HBM : Hid (∀ z ∈ mi, 0 ≤ z ∧ z < 256) := hid (fun z hz => by rw [← hmi] at hz; exact HB.out z (List.mem_of_mem_drop (List.mem_of_mem_take hz)))
  have HBE : Hid (∀ z ∈ en, 0 ≤ z ∧ z < 256) := hid (fun z hz => by rw [← hen] at hz; exact HB.out z (List.mem_of_mem_drop hz))
  have HMI := hid hmi
  have HEN := hid hen
  have hnr := fun W (hf : Frm [] wn W) => newReader_any (some ⟨g0, o0 + (n - 8), none⟩) (c - (n - 8)) en W (HRE.out W hf) (by omega)
  simp only [hel] at hnr
  have HNR := hid hnr
  have HEL : Hid (en.length = 8) := hid hel
  have HML := hid hml
  clear hnr hel hml hmi hen hwn
  go_wp2_with fail
  refine (HNR.out _ HF2.out).mono ?_
  rintro e w3 ⟨r3, g3, rfl, hr3, hf3, hnb3, _⟩
  have HNM := hid (numR8 r3 g3 en HEL.out HBE.out w3 hr3)
  have HF3 := hid hf3
  have HNB3 := hid hnb3
  clear hr3 hf3 hnb3 HNR
  go_wp2_with fail
  refine HNM.out.mono ?_
  rintro e w4 ⟨rfl, hf4⟩
  have HF4 : Hid (Frm [] wn w4) := hid (HF2.out.trans (HF3.out.trans hf4 (fun i hi hl => by rw [List.mem_singleton] at hi; subst hi; have := HNB3.out; omega)) (by simp))
  have HSE := hid (seal_any (some ⟨g0, o0 + 4, none⟩) (n - 8 - 4) (c - 4) mi w4 HML.out (by omega) (by omega) (HRM.out _ HF4.out) HBM.out (HPAD.out _ HF4.out).2)
  clear hf4 HNM HF3 HNB3
  go_wp2_with fail
  refine HSE.out.mono ?_
  rintro e w5 ⟨rfl, hf5⟩
  have HF5 : Hid (Frm [] wn w5) := hid (HF4.out.trans hf5 (by simp))
  clear hf5 HSE HF4 HF2
  obtain ⟨VE, hVE⟩ : ∃ z, leV en = z := ⟨_, rfl⟩
  obtain ⟨VS, hVS⟩ : ∃ z, (shaD mi).a = z := ⟨_, rfl⟩
  rw [hVE, hVS]
  by_cases hES : VE = VS
  case neg =>
    have b5 : (VE != VS) = true := by rw [bne_iff_ne]; exact hES
    have hrr := HRR.out w5 HF5.out
    have hrn := HRN.out w5 HF5.out
    have z0 : w5.cell? ⟨bn, 0, none⟩ = some (.int .i64 0) := by rw [cell_of_row _ _ _ _ _ _ hrn]; rfl
    have v0 : w5.cell? ⟨br, 0, none⟩ = some (.int .i64 0) := by rw [cell_of_row _ _ _ _ _ _ hrr]; rfl
    have y0 := frozen_of_row w5 br 0 _ _ hrr
    have z1 : w5.cell? ⟨bn, 1, none⟩ = some (.int .i64 0) := by rw [cell_of_row _ _ _ _ _ _ hrn]; rfl
    have v1 : w5.cell? ⟨br, 1, none⟩ = some (.int .i64 0) := by rw [cell_of_row _ _ _ _ _ _ hrr]; rfl
    have y1 := frozen_of_row w5 br 1 _ _ hrr
    have z2 : w5.cell? ⟨bn, 2, none⟩ = some (.int .i64 0) := by rw [cell_of_row _ _ _ _ _ _ hrn]; rfl
    have v2 : w5.cell? ⟨br, 2, none⟩ = some (.int .i64 0) := by rw [cell_of_row _ _ _ _ _ _ hrr]; rfl
    have y2 := frozen_of_row w5 br 2 _ _ hrr
    have z3 : w5.cell? ⟨bn, 3, none⟩ = some (.int .i64 0) := by rw [cell_of_row _ _ _ _ _ _ hrn]; rfl
    have v3 : w5.cell? ⟨br, 3, none⟩ = some (.int .i64 0) := by rw [cell_of_row _ _ _ _ _ _ hrr]; rfl
    have y3 := frozen_of_row w5 br 3 _ _ hrr
    have z4 : w5.cell? ⟨bn, 4, none⟩ = some (.string ⟨#[]⟩) := by rw [cell_of_row _ _ _ _ _ _ hrn]; rfl
    have v4 : w5.cell? ⟨br, 4, none⟩ = some (.string ⟨#[]⟩) := by rw [cell_of_row _ _ _ _ _ _ hrr]; rfl
    have y4 := frozen_of_row w5 br 4 _ _ hrr
    have z5 : w5.cell? ⟨bn, 5, none⟩ = some (.slice none 0 0) := by rw [cell_of_row _ _ _ _ _ _ hrn]; rfl
    have v5 : w5.cell? ⟨br, 5, none⟩ = some (.slice none 0 0) := by rw [cell_of_row _ _ _ _ _ _ hrr]; rfl
    have y5 := frozen_of_row w5 br 5 _ _ hrr
    have z6 : w5.cell? ⟨bn, 6, none⟩ = some (.slice none 0 0) := by rw [cell_of_row _ _ _ _ _ _ hrn]; rfl
    have v6 : w5.cell? ⟨br, 6, none⟩ = some (.slice none 0 0) := by rw [cell_of_row _ _ _ _ _ _ hrr]; rfl
    have y6 := frozen_of_row w5 br 6 _ _ hrr
    go_wp2_with fail
    obtain ⟨h5, f5⟩ := sets_rowF br 32 [(0, .int .i64 0), (1, .int .i64 0), (2, .int .i64 0), (3, .int .i64 0), (4, .string ⟨#[]⟩), (5, .slice none 0 0), (6, .slice none 0 0)] w5 _ hrr
    simp only [List.foldl, List.setIfInBounds_toArray, List.set_cons_zero, List.set_cons_succ] at h5
    obtain ⟨Wz, hWz⟩ : ∃ z, setsF w5 br [(0, .int .i64 0), (1, .int .i64 0), (2, .int .i64 0), (3, .int .i64 0), (4, .string ⟨#[]⟩), (5, .slice none 0 0), (6, .slice none 0 0)] = z := ⟨_, rfl⟩
    rw [hWz] at h5 f5
    have hwz : (((((((w5.setCell ⟨br, 0, none⟩ (.int .i64 0)).setCell ⟨br, 1, none⟩ (.int .i64 0)).setCell ⟨br, 2, none⟩ (.int .i64 0)).setCell ⟨br, 3, none⟩ (.int .i64 0)).setCell ⟨br, 4, none⟩ (.string ⟨#[]⟩)).setCell ⟨br, 5, none⟩ (.slice none 0 0)).setCell ⟨br, 6, none⟩ (.slice none 0 0)) = Wz := hWz
    rw [hwz]
    have u0 : Wz.cell? ⟨br, 0, none⟩ = some (.int .i64 0) := by rw [cell_of_row _ _ _ _ _ _ h5]; rfl
    have u1 : Wz.cell? ⟨br, 1, none⟩ = some (.int .i64 0) := by rw [cell_of_row _ _ _ _ _ _ h5]; rfl
    have u2 : Wz.cell? ⟨br, 2, none⟩ = some (.int .i64 0) := by rw [cell_of_row _ _ _ _ _ _ h5]; rfl
    have u3 : Wz.cell? ⟨br, 3, none⟩ = some (.int .i64 0) := by rw [cell_of_row _ _ _ _ _ _ h5]; rfl
    have u4 : Wz.cell? ⟨br, 4, none⟩ = some (.string ⟨#[]⟩) := by rw [cell_of_row _ _ _ _ _ _ h5]; rfl
    have u5 : Wz.cell? ⟨br, 5, none⟩ = some (.slice none 0 0) := by rw [cell_of_row _ _ _ _ _ _ h5]; rfl
    have u6 : Wz.cell? ⟨br, 6, none⟩ = some (.slice none 0 0) := by rw [cell_of_row _ _ _ _ _ _ h5]; rfl
    refine bodyPost_ret (v := .tuple #[.agg #[.int .i64 0, .int .i64 0, .int .i64 0, .int .i64 0, .string ⟨#[]⟩, .slice none 0 0, .slice none 0 0], .int .i64 231]) (by simp [results, Tryd.results42, go_sem, u0, u1, u2, u3, u4, u5, u6]) rfl ?_
    exact (HP.out _ _ (ReadAA.bad (E := 231) (by unfold raE; rw [if_neg HE1.out, if_neg HE2.out, if_pos (by rw [HEN.out, HMI.out, hVE, hVS]; exact hES)]) (by decide) ((HF.out.trans HF5.out (by simp)).trans f5 (fun i hi hl => by rw [List.mem_singleton] at hi; have := HBR.out; omega))))
  subst hES
  have HE3 : Hid (¬ leV (endF bs) ≠ (shaD (midF bs)).a) := hid (by rw [HEN.out, HMI.out, hVE, hVS]; simp)
  clear hVE hVS
  have hnr := fun W (hf : Frm [] wn W) => newReader_any (some ⟨g0, o0 + 4, none⟩) (c - 4) mi W (HRM.out W hf) (by rw [HML.out]; omega)
  simp only [HML.out] at hnr
  have HN6 := hid hnr
  clear hnr hslm hsle HRE HBE b4 d13 e13 d65 e65
  skip
  go_wp2_with fail
  refine (HN6.out _ HF5.out).mono ?_
  rintro e x6 ⟨r6, g6, rfl, hr6, hf6, hb6, hg6⟩
  obtain ⟨tb, htb⟩ : ∃ z, x6.heap.size = z := ⟨_, rfl⟩
  have htr := heap_alloc_new x6 (.cells #[.pointer (some ⟨r6, 0, none⟩)] 77)
  obtain ⟨W6, hW6⟩ : ∃ z, x6.alloc (.cells #[.pointer (some ⟨r6, 0, none⟩)] 77) = z := ⟨_, rfl⟩
  rw [hW6, htb] at htr
  have hfb : Frm [] x6 W6 := by rw [← hW6]; exact (Frm.refl _ _).alloc _
  have h5 := HF5.out.size
  have hc6 := hr6.cells
  have HNE : Hid (tb ≠ r6 ∧ wn.heap.size ≤ tb) := hid ⟨by omega, by have := hf6.size; omega⟩
  have HT6 : Hid (W6.cell? ⟨tb, 0, none⟩ = some (.pointer (some ⟨r6, 0, none⟩))) := hid (by rw [cell_of_row _ _ _ _ _ _ htr]; rfl)
  have HR6 : Hid (FrR wn W6 r6 g6 mi (0, 0)) := hid ⟨hr6.kept hfb (by simp) (by simp), (HF5.out.trans hf6 (by simp)).trans hfb (by simp), by omega, by omega⟩
  have HTB := hid htb
  have HWB := hid hW6
  clear hr6 hf6 hb6 hg6 htb hW6 hfb h5 hc6 htr
  go_upto_region 12 with fail
  first | rw [HTB.out] | skip
  first | rw [HWB.out] | skip
  have c6 := HT6.out
  have HTI := hid (tInt_any wn W6 r6 g6 mi HBM.out (0, 0) 1 (by omega) (by omega) HR6.out)
  obtain ⟨V1, hV1⟩ : ∃ z, nuS mi (0, 0) 1 = z := ⟨_, rfl⟩
  rw [hV1] at HTI
  have HV1 := hid hV1
  clear hV1
  go_wp2_with fail
  refine HTI.out.mono ?_
  rintro e w7 ⟨rfl, hr7, hf7⟩
  have HF7 : Hid (Frm [] wn w7) := hid hr7.2.1
  have HR7 := hid hr7
  have HT7 : Hid (w7.cell? ⟨tb, 0, none⟩ = some (.pointer (some ⟨r6, 0, none⟩))) := hid ((hf7.cell (World.block_lt_of_cell? _ _ HT6.out) (by simpa using HNE.out.1)).trans HT6.out)
  clear hr7 hf7 c6 HTI HT6 HR6
  obtain ⟨K1, s1⟩ := V1
  simp only at HR7 ⊢
  by_cases hk : K1 = 2
  case neg =>
    have bk : (K1 != 2) = true := by rw [bne_iff_ne]; exact hk
    have hrr := HRR.out w7 HF7.out
    have hrn := HRN.out w7 HF7.out
    have z0 : w7.cell? ⟨bn, 0, none⟩ = some (.int .i64 0) := by rw [cell_of_row _ _ _ _ _ _ hrn]; rfl
    have v0 : w7.cell? ⟨br, 0, none⟩ = some (.int .i64 0) := by rw [cell_of_row _ _ _ _ _ _ hrr]; rfl
    have y0 := frozen_of_row w7 br 0 _ _ hrr
    have z1 : w7.cell? ⟨bn, 1, none⟩ = some (.int .i64 0) := by rw [cell_of_row _ _ _ _ _ _ hrn]; rfl
    have v1 : w7.cell? ⟨br, 1, none⟩ = some (.int .i64 0) := by rw [cell_of_row _ _ _ _ _ _ hrr]; rfl
    have y1 := frozen_of_row w7 br 1 _ _ hrr
    have z2 : w7.cell? ⟨bn, 2, none⟩ = some (.int .i64 0) := by rw [cell_of_row _ _ _ _ _ _ hrn]; rfl
    have v2 : w7.cell? ⟨br, 2, none⟩ = some (.int .i64 0) := by rw [cell_of_row _ _ _ _ _ _ hrr]; rfl
    have y2 := frozen_of_row w7 br 2 _ _ hrr
    have z3 : w7.cell? ⟨bn, 3, none⟩ = some (.int .i64 0) := by rw [cell_of_row _ _ _ _ _ _ hrn]; rfl
    have v3 : w7.cell? ⟨br, 3, none⟩ = some (.int .i64 0) := by rw [cell_of_row _ _ _ _ _ _ hrr]; rfl
    have y3 := frozen_of_row w7 br 3 _ _ hrr
    have z4 : w7.cell? ⟨bn, 4, none⟩ = some (.string ⟨#[]⟩) := by rw [cell_of_row _ _ _ _ _ _ hrn]; rfl
    have v4 : w7.cell? ⟨br, 4, none⟩ = some (.string ⟨#[]⟩) := by rw [cell_of_row _ _ _ _ _ _ hrr]; rfl
    have y4 := frozen_of_row w7 br 4 _ _ hrr
    have z5 : w7.cell? ⟨bn, 5, none⟩ = some (.slice none 0 0) := by rw [cell_of_row _ _ _ _ _ _ hrn]; rfl
    have v5 : w7.cell? ⟨br, 5, none⟩ = some (.slice none 0 0) := by rw [cell_of_row _ _ _ _ _ _ hrr]; rfl
    have y5 := frozen_of_row w7 br 5 _ _ hrr
    have z6 : w7.cell? ⟨bn, 6, none⟩ = some (.slice none 0 0) := by rw [cell_of_row _ _ _ _ _ _ hrn]; rfl
    have v6 : w7.cell? ⟨br, 6, none⟩ = some (.slice none 0 0) := by rw [cell_of_row _ _ _ _ _ _ hrr]; rfl
    have y6 := frozen_of_row w7 br 6 _ _ hrr
    go_wp2_with fail
    obtain ⟨h5, f5⟩ := sets_rowF br 32 [(0, .int .i64 0), (1, .int .i64 0), (2, .int .i64 0), (3, .int .i64 0), (4, .string ⟨#[]⟩), (5, .slice none 0 0), (6, .slice none 0 0)] w7 _ hrr
    simp only [List.foldl, List.setIfInBounds_toArray, List.set_cons_zero, List.set_cons_succ] at h5
    obtain ⟨Wz, hWz⟩ : ∃ z, setsF w7 br [(0, .int .i64 0), (1, .int .i64 0), (2, .int .i64 0), (3, .int .i64 0), (4, .string ⟨#[]⟩), (5, .slice none 0 0), (6, .slice none 0 0)] = z := ⟨_, rfl⟩
    rw [hWz] at h5 f5
    have hwz : (((((((w7.setCell ⟨br, 0, none⟩ (.int .i64 0)).setCell ⟨br, 1, none⟩ (.int .i64 0)).setCell ⟨br, 2, none⟩ (.int .i64 0)).setCell ⟨br, 3, none⟩ (.int .i64 0)).setCell ⟨br, 4, none⟩ (.string ⟨#[]⟩)).setCell ⟨br, 5, none⟩ (.slice none 0 0)).setCell ⟨br, 6, none⟩ (.slice none 0 0)) = Wz := hWz
    rw [hwz]
    have u0 : Wz.cell? ⟨br, 0, none⟩ = some (.int .i64 0) := by rw [cell_of_row _ _ _ _ _ _ h5]; rfl
    have u1 : Wz.cell? ⟨br, 1, none⟩ = some (.int .i64 0) := by rw [cell_of_row _ _ _ _ _ _ h5]; rfl
    have u2 : Wz.cell? ⟨br, 2, none⟩ = some (.int .i64 0) := by rw [cell_of_row _ _ _ _ _ _ h5]; rfl
    have u3 : Wz.cell? ⟨br, 3, none⟩ = some (.int .i64 0) := by rw [cell_of_row _ _ _ _ _ _ h5]; rfl
    have u4 : Wz.cell? ⟨br, 4, none⟩ = some (.string ⟨#[]⟩) := by rw [cell_of_row _ _ _ _ _ _ h5]; rfl
    have u5 : Wz.cell? ⟨br, 5, none⟩ = some (.slice none 0 0) := by rw [cell_of_row _ _ _ _ _ _ h5]; rfl
    have u6 : Wz.cell? ⟨br, 6, none⟩ = some (.slice none 0 0) := by rw [cell_of_row _ _ _ _ _ _ h5]; rfl
    refine bodyPost_ret (v := .tuple #[.agg #[.int .i64 0, .int .i64 0, .int .i64 0, .int .i64 0, .string ⟨#[]⟩, .slice none 0 0, .slice none 0 0], .int .i64 230]) (by simp [results, Tryd.results42, go_sem, u0, u1, u2, u3, u4, u5, u6]) rfl ?_
    exact (HP.out _ _ (ReadAA.bad (E := 230) (by unfold raE; rw [if_neg HE1.out, if_neg HE2.out, if_neg HE3.out, if_pos (by rw [HMI.out, HV1.out]; exact hk)]) (by decide) ((HF.out.trans HF7.out (by simp)).trans f5 (fun i hi hl => by rw [List.mem_singleton] at hi; have := HBR.out; omega))))
  subst hk
  have HE4 : Hid (¬ (nuS (midF bs) (0, 0) 1).1 ≠ 2) := hid (by rw [HMI.out, HV1.out]; simp)
  have HS1 : Hid (s0F bs = s1) := hid (by unfold s0F; rw [HMI.out, HV1.out])
  have HM65 : Hid (mi.length ≤ 65536) := hid (by rw [HML.out]; omega)
  have HTR := hid (fun W (hr : FrR wn W r6 g6 mi s1) => tRep_any wn W r6 g6 mi HBM.out HM65.out s1 hr)
  obtain ⟨v11, hv11⟩ : ∃ z, a9 mi s1 = z := ⟨_, rfl⟩
  have HV11 := hid hv11
  clear hv11
  obtain ⟨K9, hK9⟩ : ∃ z, aK mi s1 = z := ⟨_, rfl⟩
  have HKN := hid hK9
  clear hK9
  obtain ⟨LA, hLA⟩ : ∃ z, (a7 mi s1).1 = z := ⟨_, rfl⟩
  have HLA := hid hLA
  have HLK : Hid (LA.length = K9) := hid (by rw [← hLA, ← HKN.out]; unfold a7; exact lsS_len _ _ _)
  clear hLA
  have HKX : Hid (∀ W x, W.cell? ⟨tb, 0, none⟩ = some (.pointer (some ⟨r6, 0, none⟩)) → Frm [r6] W x → x.cell? ⟨tb, 0, none⟩ = some (.pointer (some ⟨r6, 0, none⟩))) := hid (fun W x h hf => (hf.cell (World.block_lt_of_cell? _ _ h) (by simpa using HNE.out.1)).trans h)
  have c7 := HT7.out
  go_wp2_with fail
  refine (HTR.out _ HR7.out).mono ?_
  rintro e x8 ⟨lp1, lc1, p1, n1, c1, rfl, hn1, ho1, hnw1, hrl1, hnl1, hr8, hf8⟩
  unfold repT Ra.arr
  simp only [HV11.out, HKN.out] at hn1 ho1 hr8 ⊢
  have ht8 := HKX.out _ _ HT7.out hf8
  obtain ⟨qb, hqb⟩ : ∃ z, x8.heap.size = z := ⟨_, rfl⟩
  have hqr := heap_alloc_new x8 (.cells #[.int .i64 (a1 mi s1).1, .int .i64 (a2 mi s1).1, .int .i64 (a3 mi s1).1, .int .i64 (a4 mi s1).1, .string (strOfNums (a5 mi s1).1), .slice lp1 K9 lc1, .slice p1 n1 c1] 32)
  obtain ⟨W9, hWQ⟩ : ∃ z, x8.alloc (.cells #[.int .i64 (a1 mi s1).1, .int .i64 (a2 mi s1).1, .int .i64 (a3 mi s1).1, .int .i64 (a4 mi s1).1, .string (strOfNums (a5 mi s1).1), .slice lp1 K9 lc1, .slice p1 n1 c1] 32) = z := ⟨_, rfl⟩
  rw [hWQ, hqb] at hqr
  have hfq : Frm [] x8 W9 := by rw [← hWQ]; exact (Frm.refl _ _).alloc _
  have H9 := hid hqr
  have HR9 : Hid (FrR wn W9 r6 g6 mi v11.2) := hid (FrR.k0 hr8 hfq)
  have HO9 := hid (ho1.kept hfq (by simp))
  have HNW := hid hnw1
  have HNL := hid hnl1
  have HRL9 : Hid (RdL W9 lp1 LA) := hid (by rw [← HLA.out]; exact hrl1.kept hfq (by simp))
  have HN1 := hid hn1
  have HF9 : Hid (Frm [] wn W9) := hid HR9.out.2.1
  have HT9 : Hid (W9.cell? ⟨tb, 0, none⟩ = some (.pointer (some ⟨r6, 0, none⟩))) := hid ((hfq.cell (World.block_lt_of_cell? _ _ ht8) (by simp)).trans ht8)
  have HWQ := hid hWQ
  have HQB := hid hqb
  clear hqr hfq hr8 ho1 hnw1 hrl1 hnl1 hn1 hWQ hqb hf8 ht8 c7
  go_upto_region 15 with fail
  first | rw [HQB.out] | skip
  first | rw [HWQ.out] | skip
  have c9 := HT9.out
  have HDN := hid (doneR_any r6 g6 v11.2.1 mi v11.2.2 W9 HR9.out.1)
  obtain ⟨DN, hDN⟩ : ∃ z, doneS mi.length v11.2.1 v11.2.2 = z := ⟨_, rfl⟩
  rw [hDN] at HDN
  have HDE := hid hDN
  clear hDN
  have z0 : W9.cell? ⟨qb, 0, none⟩ = some (.int .i64 (a1 mi s1).1) := by rw [cell_of_row _ _ _ _ _ _ H9.out]; rfl
  have z1 : W9.cell? ⟨qb, 1, none⟩ = some (.int .i64 (a2 mi s1).1) := by rw [cell_of_row _ _ _ _ _ _ H9.out]; rfl
  have z2 : W9.cell? ⟨qb, 2, none⟩ = some (.int .i64 (a3 mi s1).1) := by rw [cell_of_row _ _ _ _ _ _ H9.out]; rfl
  have z3 : W9.cell? ⟨qb, 3, none⟩ = some (.int .i64 (a4 mi s1).1) := by rw [cell_of_row _ _ _ _ _ _ H9.out]; rfl
  have z4 : W9.cell? ⟨qb, 4, none⟩ = some (.string (strOfNums (a5 mi s1).1)) := by rw [cell_of_row _ _ _ _ _ _ H9.out]; rfl
  have z5 : W9.cell? ⟨qb, 5, none⟩ = some (.slice lp1 K9 lc1) := by rw [cell_of_row _ _ _ _ _ _ H9.out]; rfl
  have z6 : W9.cell? ⟨qb, 6, none⟩ = some (.slice p1 n1 c1) := by rw [cell_of_row _ _ _ _ _ _ H9.out]; rfl
  by_cases hd : DN = 0
  case neg =>
    have bd : (DN != 0) = true := by rw [bne_iff_ne]; exact hd
    go_wp2_with fail
    refine HDN.out.mono ?_
    rintro e w10 ⟨rfl, k10, rfl⟩
    have HF10 : Hid (Frm [] wn (W9.drewN k10)) := hid (HF9.out.trans ((Frm.refl [] W9).drewN _) (by simp))
    clear z0 z1 z2 z3 z4 z5 z6 c9
    have hrr := HRR.out (W9.drewN k10) HF10.out
    have hrn := HRN.out (W9.drewN k10) HF10.out
    have z0 : (W9.drewN k10).cell? ⟨bn, 0, none⟩ = some (.int .i64 0) := by rw [cell_of_row _ _ _ _ _ _ hrn]; rfl
    have v0 : (W9.drewN k10).cell? ⟨br, 0, none⟩ = some (.int .i64 0) := by rw [cell_of_row _ _ _ _ _ _ hrr]; rfl
    have y0 := frozen_of_row (W9.drewN k10) br 0 _ _ hrr
    have z1 : (W9.drewN k10).cell? ⟨bn, 1, none⟩ = some (.int .i64 0) := by rw [cell_of_row _ _ _ _ _ _ hrn]; rfl
    have v1 : (W9.drewN k10).cell? ⟨br, 1, none⟩ = some (.int .i64 0) := by rw [cell_of_row _ _ _ _ _ _ hrr]; rfl
    have y1 := frozen_of_row (W9.drewN k10) br 1 _ _ hrr
    have z2 : (W9.drewN k10).cell? ⟨bn, 2, none⟩ = some (.int .i64 0) := by rw [cell_of_row _ _ _ _ _ _ hrn]; rfl
    have v2 : (W9.drewN k10).cell? ⟨br, 2, none⟩ = some (.int .i64 0) := by rw [cell_of_row _ _ _ _ _ _ hrr]; rfl
    have y2 := frozen_of_row (W9.drewN k10) br 2 _ _ hrr
    have z3 : (W9.drewN k10).cell? ⟨bn, 3, none⟩ = some (.int .i64 0) := by rw [cell_of_row _ _ _ _ _ _ hrn]; rfl
    have v3 : (W9.drewN k10).cell? ⟨br, 3, none⟩ = some (.int .i64 0) := by rw [cell_of_row _ _ _ _ _ _ hrr]; rfl
    have y3 := frozen_of_row (W9.drewN k10) br 3 _ _ hrr
    have z4 : (W9.drewN k10).cell? ⟨bn, 4, none⟩ = some (.string ⟨#[]⟩) := by rw [cell_of_row _ _ _ _ _ _ hrn]; rfl
    have v4 : (W9.drewN k10).cell? ⟨br, 4, none⟩ = some (.string ⟨#[]⟩) := by rw [cell_of_row _ _ _ _ _ _ hrr]; rfl
    have y4 := frozen_of_row (W9.drewN k10) br 4 _ _ hrr
    have z5 : (W9.drewN k10).cell? ⟨bn, 5, none⟩ = some (.slice none 0 0) := by rw [cell_of_row _ _ _ _ _ _ hrn]; rfl
    have v5 : (W9.drewN k10).cell? ⟨br, 5, none⟩ = some (.slice none 0 0) := by rw [cell_of_row _ _ _ _ _ _ hrr]; rfl
    have y5 := frozen_of_row (W9.drewN k10) br 5 _ _ hrr
    have z6 : (W9.drewN k10).cell? ⟨bn, 6, none⟩ = some (.slice none 0 0) := by rw [cell_of_row _ _ _ _ _ _ hrn]; rfl
    have v6 : (W9.drewN k10).cell? ⟨br, 6, none⟩ = some (.slice none 0 0) := by rw [cell_of_row _ _ _ _ _ _ hrr]; rfl
    have y6 := frozen_of_row (W9.drewN k10) br 6 _ _ hrr
    go_wp2_with fail
    obtain ⟨h5, f5⟩ := sets_rowF br 32 [(0, .int .i64 0), (1, .int .i64 0), (2, .int .i64 0), (3, .int .i64 0), (4, .string ⟨#[]⟩), (5, .slice none 0 0), (6, .slice none 0 0)] (W9.drewN k10) _ hrr
    simp only [List.foldl, List.setIfInBounds_toArray, List.set_cons_zero, List.set_cons_succ] at h5
    obtain ⟨Wz, hWz⟩ : ∃ z, setsF (W9.drewN k10) br [(0, .int .i64 0), (1, .int .i64 0), (2, .int .i64 0), (3, .int .i64 0), (4, .string ⟨#[]⟩), (5, .slice none 0 0), (6, .slice none 0 0)] = z := ⟨_, rfl⟩
    rw [hWz] at h5 f5
    have hwz : ((((((((W9.drewN k10).setCell ⟨br, 0, none⟩ (.int .i64 0)).setCell ⟨br, 1, none⟩ (.int .i64 0)).setCell ⟨br, 2, none⟩ (.int .i64 0)).setCell ⟨br, 3, none⟩ (.int .i64 0)).setCell ⟨br, 4, none⟩ (.string ⟨#[]⟩)).setCell ⟨br, 5, none⟩ (.slice none 0 0)).setCell ⟨br, 6, none⟩ (.slice none 0 0)) = Wz := hWz
    rw [hwz]
    have u0 : Wz.cell? ⟨br, 0, none⟩ = some (.int .i64 0) := by rw [cell_of_row _ _ _ _ _ _ h5]; rfl
    have u1 : Wz.cell? ⟨br, 1, none⟩ = some (.int .i64 0) := by rw [cell_of_row _ _ _ _ _ _ h5]; rfl
    have u2 : Wz.cell? ⟨br, 2, none⟩ = some (.int .i64 0) := by rw [cell_of_row _ _ _ _ _ _ h5]; rfl
    have u3 : Wz.cell? ⟨br, 3, none⟩ = some (.int .i64 0) := by rw [cell_of_row _ _ _ _ _ _ h5]; rfl
    have u4 : Wz.cell? ⟨br, 4, none⟩ = some (.string ⟨#[]⟩) := by rw [cell_of_row _ _ _ _ _ _ h5]; rfl
    have u5 : Wz.cell? ⟨br, 5, none⟩ = some (.slice none 0 0) := by rw [cell_of_row _ _ _ _ _ _ h5]; rfl
    have u6 : Wz.cell? ⟨br, 6, none⟩ = some (.slice none 0 0) := by rw [cell_of_row _ _ _ _ _ _ h5]; rfl
    refine bodyPost_ret (v := .tuple #[.agg #[.int .i64 0, .int .i64 0, .int .i64 0, .int .i64 0, .string ⟨#[]⟩, .slice none 0 0, .slice none 0 0], .int .i64 230]) (by simp [results, Tryd.results42, go_sem, u0, u1, u2, u3, u4, u5, u6]) rfl ?_
    exact (HP.out _ _ (ReadAA.bad (E := 230) (by unfold raE; rw [if_neg HE1.out, if_neg HE2.out, if_neg HE3.out, if_neg HE4.out, if_pos (by rw [HMI.out, HS1.out, HV11.out, HDE.out]; exact hd)]) (by decide) ((HF.out.trans HF10.out (by simp)).trans f5 (fun i hi hl => by rw [List.mem_singleton] at hi; have := HBR.out; omega))))
  subst hd
  have HE5 : Hid (¬ doneS (midF bs).length (a9 (midF bs) (s0F bs)).2.1 (a9 (midF bs) (s0F bs)).2.2 ≠ 0) := hid (by rw [HMI.out, HS1.out, HV11.out, HDE.out]; simp)
  have hmq := fun W (hf : Frm [] W9 W) => mayA_any (repT mi s1 lp1 K9 lc1 p1 n1 c1) LA W HLK.out (HRL9.out.kept hf (by simp))
  by_cases hm : MayA (repT mi s1 lp1 K9 lc1 p1 n1 c1) LA
  case neg =>
    simp only [decide_eq_false hm] at hmq
    unfold repT Ra.arr at hmq
    simp only at hmq
    have HMQ := hid hmq
    clear hmq
    go_wp2_with fail
    refine HDN.out.mono ?_
    rintro e w10 ⟨rfl, k10, rfl⟩
    go_wp2_with fail
    refine (HMQ.out _ ((Frm.refl [] W9).drewN _)).mono ?_
    rintro e w11 ⟨rfl, hf11⟩
    have HF10 : Hid (Frm [] wn w11) := hid ((HF9.out.trans ((Frm.refl [] W9).drewN _) (by simp)).trans hf11 (by simp))
    clear z0 z1 z2 z3 z4 z5 z6 c9 hf11
    have hrr := HRR.out w11 HF10.out
    have hrn := HRN.out w11 HF10.out
    have z0 : w11.cell? ⟨bn, 0, none⟩ = some (.int .i64 0) := by rw [cell_of_row _ _ _ _ _ _ hrn]; rfl
    have v0 : w11.cell? ⟨br, 0, none⟩ = some (.int .i64 0) := by rw [cell_of_row _ _ _ _ _ _ hrr]; rfl
    have y0 := frozen_of_row w11 br 0 _ _ hrr
    have z1 : w11.cell? ⟨bn, 1, none⟩ = some (.int .i64 0) := by rw [cell_of_row _ _ _ _ _ _ hrn]; rfl
    have v1 : w11.cell? ⟨br, 1, none⟩ = some (.int .i64 0) := by rw [cell_of_row _ _ _ _ _ _ hrr]; rfl
    have y1 := frozen_of_row w11 br 1 _ _ hrr
    have z2 : w11.cell? ⟨bn, 2, none⟩ = some (.int .i64 0) := by rw [cell_of_row _ _ _ _ _ _ hrn]; rfl
    have v2 : w11.cell? ⟨br, 2, none⟩ = some (.int .i64 0) := by rw [cell_of_row _ _ _ _ _ _ hrr]; rfl
    have y2 := frozen_of_row w11 br 2 _ _ hrr
    have z3 : w11.cell? ⟨bn, 3, none⟩ = some (.int .i64 0) := by rw [cell_of_row _ _ _ _ _ _ hrn]; rfl
    have v3 : w11.cell? ⟨br, 3, none⟩ = some (.int .i64 0) := by rw [cell_of_row _ _ _ _ _ _ hrr]; rfl
    have y3 := frozen_of_row w11 br 3 _ _ hrr
    have z4 : w11.cell? ⟨bn, 4, none⟩ = some (.string ⟨#[]⟩) := by rw [cell_of_row _ _ _ _ _ _ hrn]; rfl
    have v4 : w11.cell? ⟨br, 4, none⟩ = some (.string ⟨#[]⟩) := by rw [cell_of_row _ _ _ _ _ _ hrr]; rfl
    have y4 := frozen_of_row w11 br 4 _ _ hrr
    have z5 : w11.cell? ⟨bn, 5, none⟩ = some (.slice none 0 0) := by rw [cell_of_row _ _ _ _ _ _ hrn]; rfl
    have v5 : w11.cell? ⟨br, 5, none⟩ = some (.slice none 0 0) := by rw [cell_of_row _ _ _ _ _ _ hrr]; rfl
    have y5 := frozen_of_row w11 br 5 _ _ hrr
    have z6 : w11.cell? ⟨bn, 6, none⟩ = some (.slice none 0 0) := by rw [cell_of_row _ _ _ _ _ _ hrn]; rfl
    have v6 : w11.cell? ⟨br, 6, none⟩ = some (.slice none 0 0) := by rw [cell_of_row _ _ _ _ _ _ hrr]; rfl
    have y6 := frozen_of_row w11 br 6 _ _ hrr
    go_wp2_with fail
    obtain ⟨h5, f5⟩ := sets_rowF br 32 [(0, .int .i64 0), (1, .int .i64 0), (2, .int .i64 0), (3, .int .i64 0), (4, .string ⟨#[]⟩), (5, .slice none 0 0), (6, .slice none 0 0)] w11 _ hrr
    simp only [List.foldl, List.setIfInBounds_toArray, List.set_cons_zero, List.set_cons_succ] at h5
    obtain ⟨Wz, hWz⟩ : ∃ z, setsF w11 br [(0, .int .i64 0), (1, .int .i64 0), (2, .int .i64 0), (3, .int .i64 0), (4, .string ⟨#[]⟩), (5, .slice none 0 0), (6, .slice none 0 0)] = z := ⟨_, rfl⟩
    rw [hWz] at h5 f5
    have hwz : (((((((w11.setCell ⟨br, 0, none⟩ (.int .i64 0)).setCell ⟨br, 1, none⟩ (.int .i64 0)).setCell ⟨br, 2, none⟩ (.int .i64 0)).setCell ⟨br, 3, none⟩ (.int .i64 0)).setCell ⟨br, 4, none⟩ (.string ⟨#[]⟩)).setCell ⟨br, 5, none⟩ (.slice none 0 0)).setCell ⟨br, 6, none⟩ (.slice none 0 0)) = Wz := hWz
    rw [hwz]
    have u0 : Wz.cell? ⟨br, 0, none⟩ = some (.int .i64 0) := by rw [cell_of_row _ _ _ _ _ _ h5]; rfl
    have u1 : Wz.cell? ⟨br, 1, none⟩ = some (.int .i64 0) := by rw [cell_of_row _ _ _ _ _ _ h5]; rfl
    have u2 : Wz.cell? ⟨br, 2, none⟩ = some (.int .i64 0) := by rw [cell_of_row _ _ _ _ _ _ h5]; rfl
    have u3 : Wz.cell? ⟨br, 3, none⟩ = some (.int .i64 0) := by rw [cell_of_row _ _ _ _ _ _ h5]; rfl
    have u4 : Wz.cell? ⟨br, 4, none⟩ = some (.string ⟨#[]⟩) := by rw [cell_of_row _ _ _ _ _ _ h5]; rfl
    have u5 : Wz.cell? ⟨br, 5, none⟩ = some (.slice none 0 0) := by rw [cell_of_row _ _ _ _ _ _ h5]; rfl
    have u6 : Wz.cell? ⟨br, 6, none⟩ = some (.slice none 0 0) := by rw [cell_of_row _ _ _ _ _ _ h5]; rfl
    refine bodyPost_ret (v := .tuple #[.agg #[.int .i64 0, .int .i64 0, .int .i64 0, .int .i64 0, .string ⟨#[]⟩, .slice none 0 0, .slice none 0 0], .int .i64 230]) (by simp [results, Tryd.results42, go_sem, u0, u1, u2, u3, u4, u5, u6]) rfl ?_
    exact (HP.out _ _ (ReadAA.bad (E := 230) (by unfold raE; rw [if_neg HE1.out, if_neg HE2.out, if_neg HE3.out, if_neg HE4.out, if_neg HE5.out, if_pos (by rw [HMI.out, HS1.out, HV11.out, ← HN1.out, HKN.out, HLA.out]; exact hm)]) (by decide) ((HF.out.trans HF10.out (by simp)).trans f5 (fun i hi hl => by rw [List.mem_singleton] at hi; have := HBR.out; omega))))
  simp only [decide_eq_true hm] at hmq
  have HE6 : Hid (raE bs = 0) := hid (by unfold raE; rw [if_neg HE1.out, if_neg HE2.out, if_neg HE3.out, if_neg HE4.out, if_neg HE5.out, if_neg (by rw [HMI.out, HS1.out, HV11.out, ← HN1.out, HKN.out, HLA.out]; exact fun h => h hm)])
  unfold repT Ra.arr at hmq
  simp only at hmq
  have HMQ := hid hmq
  clear hmq
  go_wp2_with fail
  refine HDN.out.mono ?_
  rintro e w10 ⟨rfl, k10, rfl⟩
  go_wp2_with fail
  refine (HMQ.out _ ((Frm.refl [] W9).drewN _)).mono ?_
  rintro e w11 ⟨rfl, hf11⟩
  have HF10 : Hid (Frm [] wn w11) := hid ((HF9.out.trans ((Frm.refl [] W9).drewN _) (by simp)).trans hf11 (by simp))
  have HLZ : Hid (RdL w11 lp1 LA) := hid ((HRL9.out.kept ((Frm.refl [] W9).drewN k10) (by simp)).kept hf11 (by simp))
  have HOZ : Hid (Own w11 5 (.slice p1 n1 c1) v11.1) := hid ((HO9.out.kept ((Frm.refl [] W9).drewN k10) (by simp)).kept hf11 (by simp))
  have hq9 := hf11.heap (((Frm.refl [] W9).drewN k10).heap H9.out (by simp)) (by simp)
  clear z0 z1 z2 z3 z4 z5 z6 c9 hf11
  have hrr := HRR.out w11 HF10.out
  have z0 : w11.cell? ⟨qb, 0, none⟩ = some (.int .i64 (a1 mi s1).1) := by rw [cell_of_row _ _ _ _ _ _ hq9]; rfl
  have v0 : w11.cell? ⟨br, 0, none⟩ = some (.int .i64 0) := by rw [cell_of_row _ _ _ _ _ _ hrr]; rfl
  have y0 := frozen_of_row w11 br 0 _ _ hrr
  have z1 : w11.cell? ⟨qb, 1, none⟩ = some (.int .i64 (a2 mi s1).1) := by rw [cell_of_row _ _ _ _ _ _ hq9]; rfl
  have v1 : w11.cell? ⟨br, 1, none⟩ = some (.int .i64 0) := by rw [cell_of_row _ _ _ _ _ _ hrr]; rfl
  have y1 := frozen_of_row w11 br 1 _ _ hrr
  have z2 : w11.cell? ⟨qb, 2, none⟩ = some (.int .i64 (a3 mi s1).1) := by rw [cell_of_row _ _ _ _ _ _ hq9]; rfl
  have v2 : w11.cell? ⟨br, 2, none⟩ = some (.int .i64 0) := by rw [cell_of_row _ _ _ _ _ _ hrr]; rfl
  have y2 := frozen_of_row w11 br 2 _ _ hrr
  have z3 : w11.cell? ⟨qb, 3, none⟩ = some (.int .i64 (a4 mi s1).1) := by rw [cell_of_row _ _ _ _ _ _ hq9]; rfl
  have v3 : w11.cell? ⟨br, 3, none⟩ = some (.int .i64 0) := by rw [cell_of_row _ _ _ _ _ _ hrr]; rfl
  have y3 := frozen_of_row w11 br 3 _ _ hrr
  have z4 : w11.cell? ⟨qb, 4, none⟩ = some (.string (strOfNums (a5 mi s1).1)) := by rw [cell_of_row _ _ _ _ _ _ hq9]; rfl
  have v4 : w11.cell? ⟨br, 4, none⟩ = some (.string ⟨#[]⟩) := by rw [cell_of_row _ _ _ _ _ _ hrr]; rfl
  have y4 := frozen_of_row w11 br 4 _ _ hrr
  have z5 : w11.cell? ⟨qb, 5, none⟩ = some (.slice lp1 K9 lc1) := by rw [cell_of_row _ _ _ _ _ _ hq9]; rfl
  have v5 : w11.cell? ⟨br, 5, none⟩ = some (.slice none 0 0) := by rw [cell_of_row _ _ _ _ _ _ hrr]; rfl
  have y5 := frozen_of_row w11 br 5 _ _ hrr
  have z6 : w11.cell? ⟨qb, 6, none⟩ = some (.slice p1 n1 c1) := by rw [cell_of_row _ _ _ _ _ _ hq9]; rfl
  have v6 : w11.cell? ⟨br, 6, none⟩ = some (.slice none 0 0) := by rw [cell_of_row _ _ _ _ _ _ hrr]; rfl
  have y6 := frozen_of_row w11 br 6 _ _ hrr
  have HLX : Hid (raL bs = LA) := hid (by unfold raL; rw [if_pos HE6.out, HMI.out, HS1.out, HLA.out])
  have HG : Hid (raG bs lp1 K9 lc1 p1 n1 c1 = repT mi s1 lp1 K9 lc1 p1 n1 c1) := hid (by unfold raG; rw [if_pos HE6.out, HMI.out, HS1.out])
  have HD : Hid (raD bs = v11.1) := hid (by unfold raD; rw [if_pos HE6.out, HMI.out, HS1.out, HV11.out])
  go_wp2_with fail
  obtain ⟨h5, f5⟩ := sets_rowF br 32 [(0, .int .i64 (a1 mi s1).1), (1, .int .i64 (a2 mi s1).1), (2, .int .i64 (a3 mi s1).1), (3, .int .i64 (a4 mi s1).1), (4, .string (strOfNums (a5 mi s1).1)), (5, .slice lp1 K9 lc1), (6, .slice p1 n1 c1)] w11 _ hrr
  simp only [List.foldl, List.setIfInBounds_toArray, List.set_cons_zero, List.set_cons_succ] at h5
  obtain ⟨Wz, hWz⟩ : ∃ z, setsF w11 br [(0, .int .i64 (a1 mi s1).1), (1, .int .i64 (a2 mi s1).1), (2, .int .i64 (a3 mi s1).1), (3, .int .i64 (a4 mi s1).1), (4, .string (strOfNums (a5 mi s1).1)), (5, .slice lp1 K9 lc1), (6, .slice p1 n1 c1)] = z := ⟨_, rfl⟩
  rw [hWz] at h5 f5
  have hwz : (((((((w11.setCell ⟨br, 0, none⟩ (.int .i64 (a1 mi s1).1)).setCell ⟨br, 1, none⟩ (.int .i64 (a2 mi s1).1)).setCell ⟨br, 2, none⟩ (.int .i64 (a3 mi s1).1)).setCell ⟨br, 3, none⟩ (.int .i64 (a4 mi s1).1)).setCell ⟨br, 4, none⟩ (.string (strOfNums (a5 mi s1).1))).setCell ⟨br, 5, none⟩ (.slice lp1 K9 lc1)).setCell ⟨br, 6, none⟩ (.slice p1 n1 c1)) = Wz := hWz
  rw [hwz]
  have u0 : Wz.cell? ⟨br, 0, none⟩ = some (.int .i64 (a1 mi s1).1) := by rw [cell_of_row _ _ _ _ _ _ h5]; rfl
  have u1 : Wz.cell? ⟨br, 1, none⟩ = some (.int .i64 (a2 mi s1).1) := by rw [cell_of_row _ _ _ _ _ _ h5]; rfl
  have u2 : Wz.cell? ⟨br, 2, none⟩ = some (.int .i64 (a3 mi s1).1) := by rw [cell_of_row _ _ _ _ _ _ h5]; rfl
  have u3 : Wz.cell? ⟨br, 3, none⟩ = some (.int .i64 (a4 mi s1).1) := by rw [cell_of_row _ _ _ _ _ _ h5]; rfl
  have u4 : Wz.cell? ⟨br, 4, none⟩ = some (.string (strOfNums (a5 mi s1).1)) := by rw [cell_of_row _ _ _ _ _ _ h5]; rfl
  have u5 : Wz.cell? ⟨br, 5, none⟩ = some (.slice lp1 K9 lc1) := by rw [cell_of_row _ _ _ _ _ _ h5]; rfl
  have u6 : Wz.cell? ⟨br, 6, none⟩ = some (.slice p1 n1 c1) := by rw [cell_of_row _ _ _ _ _ _ h5]; rfl
  refine bodyPost_ret (v := .tuple #[.agg #[.int .i64 (a1 mi s1).1, .int .i64 (a2 mi s1).1, .int .i64 (a3 mi s1).1, .int .i64 (a4 mi s1).1, .string (strOfNums (a5 mi s1).1), .slice lp1 K9 lc1, .slice p1 n1 c1], .int .i64 0]) (by simp [results, Tryd.results42, go_sem, u0, u1, u2, u3, u4, u5, u6]) rfl ?_
  exact (HP.out _ _ ⟨lp1, K9, lc1, p1, n1, c1, by rw [HG.out, HE6.out]; rfl, by rw [HD.out]; exact HN1.out, by rw [HD.out]; exact HOZ.out.kept f5 (by rw [own_blk]; exact fun k hk hm => by rw [List.mem_singleton] at hm; have h1 := HNW.out k hk; have h2 := HF7.out.size; have h3 := HSZ.out; omega), fun k hk => by have h1 := HNW.out k hk; have h2 := HF7.out.size; have h3 := HF.out.size; omega, by rw [HLX.out]; exact HLK.out.symm, by rw [HLX.out]; exact HLZ.out.kept f5 (fun k hk hm => by rw [List.mem_singleton] at hm; have h1 := HNL.out k hk; have h2 := HF7.out.size; have h3 := HSZ.out; omega), fun k hk => by have h1 := HNL.out k hk; have h2 := HF7.out.size; have h3 := HF.out.size; omega, (HF.out.trans HF10.out (by simp)).trans f5 (fun i hi hl => by rw [List.mem_singleton] at hi; have := HBR.out; omega)⟩)
end
end Go.Proofs.YtignoocdeghiaaaDoor
