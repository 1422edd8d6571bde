/- The program's sets: Find, Many, All, Clone. -/
import Derived.Test.YtkbppkimpefilaaRgF
namespace Go.Proofs.Ytkbppkimpefilaa
open Go.RowKit Go.Lib
set_option maxRecDepth 100000

def mx9 (a b : Int) : Int := if a < b then b else a
/-- The first that has room for so many. -/
def findL (many from_ : Int) : List Sp → Option Int
  | [] => none
  | y :: l => if mx9 y.a from_ ≤ y.e ∧ many ≤ y.e - mx9 y.a from_ then some (mx9 y.a from_) else findL many from_ l
def findR (l : List Sp) (many from_ : Int) : Int × Bool :=
  if many < 1 ∨ from_ < 0 then (0, false) else match findL many from_ l with
    | some a => (a, true)
    | none => (0, false)
theorem findL_skip {many from_ : Int} : ∀ {l : List Sp} {k : Nat}, (∀ j y, j < k → l[j]? = some y → ¬ (mx9 y.a from_ ≤ y.e ∧ many ≤ y.e - mx9 y.a from_)) → findL many from_ l = findL many from_ (l.drop k)
  | l, 0, _ => by simp
  | [], k + 1, _ => by simp
  | y :: l, k + 1, h => by
    have h0 := h 0 y (by omega) rfl
    simp only [findL, List.drop_succ_cons]
    rw [if_neg h0]
    exact findL_skip (fun j z hj hz => h (j + 1) z (by omega) (by simpa using hz))
theorem findR_hit {l : List Sp} {many from_ : Int} {q : Nat} {y : Sp} {a : Int} (h1 : 1 ≤ many ∧ 0 ≤ from_) (h : ∀ j y, j < q → l[j]? = some y → ¬ (mx9 y.a from_ ≤ y.e ∧ many ≤ y.e - mx9 y.a from_)) (hy : l[q]? = some y) (ha : mx9 y.a from_ = a) (hf : a ≤ y.e ∧ many ≤ y.e - a) : findR l many from_ = (a, true) := by
  have h2 : l.drop q = y :: l.drop (q + 1) := by
    obtain ⟨hlt, rfl⟩ := List.getElem?_eq_some_iff.1 hy
    exact List.drop_eq_getElem_cons hlt
  unfold findR
  rw [if_neg (by omega), findL_skip h, h2]
  simp only [findL]
  rw [ha, if_pos hf]
theorem findR_none {l : List Sp} {many from_ : Int} (h1 : 1 ≤ many ∧ 0 ≤ from_) (h : ∀ j y, j < l.length → l[j]? = some y → ¬ (mx9 y.a from_ ≤ y.e ∧ many ≤ y.e - mx9 y.a from_)) : findR l many from_ = (0, false) := by
  unfold findR
  rw [if_neg (by omega), findL_skip h, List.drop_length]
  rfl
set_option maxHeartbeats 6400000 in
theorem find_any (sb : Nat) (p : Option Addr) (c : Nat) (l : List Sp) (many from_ : Int) (w : World) (h : RSet w sb p c l) (hN : Norm 0 l) (hl : l.length ≤ 4096) (hm : -9223372036854775808 ≤ many ∧ many ≤ 9223372036854775807) (hf : -9223372036854775808 ≤ from_ ∧ from_ ≤ 9223372036854775807) :
    Calls Try.prog 75 #[.pointer (some ⟨sb, 0, none⟩), .int .i64 many, .int .i64 from_] w fun e w' => e = .returned (.tuple #[.int .i64 (findR l many from_).1, .bool (findR l many from_).2]) ∧ Frm [] w w' := by
  obtain ⟨PO, hPO⟩ : ∃ PO : Ending → World → Prop, (fun e w' => e = .returned (.tuple #[.int .i64 (findR l many from_).1, .bool (findR l many from_).2]) ∧ Frm [] w w') = PO := ⟨_, rfl⟩
  rw [hPO]
  have HP : Hid (∀ a b w', findR l many from_ = (a, b) → Frm [] w w' → PO (.returned (.tuple #[.int .i64 a, .bool b])) w') := hid (fun a b w' h1 h2 => by rw [← hPO]; refine ⟨?_, h2⟩; rw [h1])
  clear hPO
  obtain ⟨hm1, hm2⟩ := hm
  obtain ⟨hf1, hf2⟩ := hf
  have HR := hid h
  have HN := hid hN
  have hu : Try.prog.underlying 43 = some (.slice 39) := Try.underlying43
  have hcap := h.own.cap
  have x0 := h.cell
  have HBH := hid (fun W (hW : Frm [] w W) => behind_any sb p c l from_ W (h.k0 hW) hN (by omega))
  obtain ⟨L, hL⟩ : ∃ q, l.length = q := ⟨_, rfl⟩
  rw [hL] at x0 hl hcap
  have HL := hid hL
  have hs1 : ∀ (k : Nat) (W : World), k ≤ L → (Instr.sliceAt 43 (.slice p L c) (some (.int .i64 (k : Int))) none none).run Try.prog W = .ok (.slice (partAt p c k 2) (L - k) (c - k)) W := fun k W hk => by
    rw [run_sliceAt_slice (h := by rw [show Try.prog.elem 43 = 39 by simp [Program.elem, hu]]; exact hu)]
    exact sl_l hu infoSp p L c k hk W
  have HS1 := hid hs1
  have hcapL := hcap.1
  clear h hN hL hcap hs1
  go_enter Try.func75, Try.ntmps75
  by_cases b1 : many < 1
  · have HFR : Hid (findR l many from_ = (0, false)) := hid (by unfold findR; rw [if_pos (Or.inl b1)])
    go_wp2_with fail
    first | go_returns | skip
    exact HP.out _ _ _ HFR.out (Frm.refl _ _)
  by_cases b2 : from_ < 0
  · have HFR : Hid (findR l many from_ = (0, false)) := hid (by unfold findR; rw [if_pos (Or.inr b2)])
    go_wp2_with fail
    first | go_returns | skip
    exact HP.out _ _ _ HFR.out (Frm.refl _ _)
  have HNB : Hid (1 ≤ many ∧ 0 ≤ from_) := hid ⟨by omega, by omega⟩
  go_upto_region 3 with fail
  have HS0 : Hid (w.drew.cell? ⟨sb, 0, none⟩ = some (.slice p L c) ∧ Frm [] w w.drew) := hid ⟨x0, (Frm.refl [] w).drew⟩
  have HKS : Hid (∀ W W' : World, (W.cell? ⟨sb, 0, none⟩ = some (.slice p L c) ∧ Frm [] w W) → Frm [] W W' → (W'.cell? ⟨sb, 0, none⟩ = some (.slice p L c) ∧ Frm [] w W')) := hid (fun W W' hs hf => ⟨(hf.cell (World.block_lt_of_cell? W _ hs.1) (by simp)).trans hs.1, hs.2.trans hf (by simp)⟩)
  go_region_held3 (fun W => W.cell? ⟨sb, 0, none⟩ = some (.slice p L c) ∧ Frm [] w W) (first | (exact HS0.out) | (exact HKS.out _ _ (by assumption) (by assumption))) (((with_reducible refine (HBH.out _ (show _ ∧ Frm [] w _ by assumption).2).mono ?_); rintro e w3 ⟨k, rfl, hbk, hf3⟩; have hkL : k ≤ L := (HL.out ▸ hbk.1); have hs4 := fun W => HS1.out k W hkL))
  have hh := (show _ ∧ Frm [] w w3 by assumption)
  have HF3 := hid hh.2
  have HK := hid hbk
  have HSKIP : Hid (∀ j y, j < k → l[j]? = some y → ¬ (mx9 y.a from_ ≤ y.e ∧ many ≤ y.e - mx9 y.a from_)) := hid (fun j y hj hy h => by
    have h1 := hbk.2.1 j y hj hy
    have h2 := (HN.out.at hy)
    have h3 := HNB.out
    unfold mx9 at h
    unfold Sp.e at h1 h
    split at h <;> omega)
  have hmb : 1 ≤ many ∧ 0 ≤ from_ := HNB.out
  obtain ⟨hmb1, hmb2⟩ := hmb
  clear hh hbk hf3 hs4 HKS HS0 x0 b1 b2
  obtain ⟨N, hN⟩ : ∃ q, L - k = q := ⟨_, rfl⟩
  have HNL : Hid (k + N = L) := hid (by omega)
  have hNb : N ≤ 4096 := by omega
  obtain ⟨qs, hqs⟩ : ∃ q, partAt p c k 2 = q := ⟨_, rfl⟩
  have HQS := hid hqs
  rw [hN, hqs]
  clear hN hqs
  go_wp2_with fail
  go_loopw [26, 9, 10, 6, 7] (fun i s9 s10 s6 s7 wr => ∃ t : Nat, t ≤ N ∧ i = .int .i64 (t : Int) ∧ Hid ((∀ j y, j < k + t → l[j]? = some y → ¬ (mx9 y.a from_ ≤ y.e ∧ many ≤ y.e - mx9 y.a from_)) ∧ Frm [] w wr)) (fun i _ _ _ _ _ => N - (intOf i).toNat)
  case atStart => exact ⟨0, Nat.zero_le _, rfl, hid ⟨HSKIP.out, HF3.out⟩⟩
  case round =>
    clear HSKIP HF3
    obtain ⟨t, ht, rfl, hin⟩ := hrel
    by_cases hlt : t < N
    · have t1 : (t : Int) < (N : Int) := by omega
      obtain ⟨y, hy⟩ : ∃ y, l[k + t]? = some y := ⟨_, List.getElem?_eq_getElem (by have := HL.out; have := HNL.out; omega)⟩
      obtain ⟨g, hg, y0, y1⟩ := (HR.out.k0 hin.out.2).own.at hy
      subst hg
      rw [show (k + t) * 2 = k * 2 + t * 2 by omega] at y0 y1
      obtain rfl : qs = some ⟨g, k * 2, none⟩ := by rw [← HQS.out]; exact partAt_some (by have := HNL.out; omega)
      obtain ⟨w5, hw5⟩ : ∃ q, wr.alloc (.cells #[.int .i64 y.a, .int .i64 y.m] 39) = q := ⟨_, rfl⟩
      obtain ⟨b5, hb5⟩ : ∃ q, wr.heap.size = q := ⟨_, rfl⟩
      have hf5 : Frm [] wr w5 := by rw [← hw5]; exact (Frm.refl _ _).alloc _
      have g5 : w5.heap[b5]? = some (.cells #[.int .i64 y.a, .int .i64 y.m] 39 (0, 0)) := by rw [← hw5]; exact heap_alloc_to _ _ hb5
      have c0 : w5.cell? ⟨b5, 0, none⟩ = some (.int .i64 y.a) := by rw [cell_of_row _ _ _ _ _ _ g5]; rfl
      have c1 : w5.cell? ⟨b5, 1, none⟩ = some (.int .i64 y.m) := by rw [cell_of_row _ _ _ _ _ _ g5]; rfl
      have HF5 := hid (hin.out.2.trans hf5 (by simp))
      have HW5 := hid hw5
      have HB5 := hid hb5
      have HY := hid hy
      have HE := hid (end_any y (HN.out.fits hy) w5)
      have hya := HN.out.at hy
      have hyb : 0 ≤ y.a ∧ y.e ≤ 1099511627776 ∧ y.a < y.e := ⟨hya.1, hya.2.2, by unfold Sp.e; omega⟩
      obtain ⟨ye, hye⟩ : ∃ q, y.e = q := ⟨_, rfl⟩
      rw [hye] at HE hyb
      have HYE := hid hye
      have hfe : from_ < ye := by rw [← hye]; exact HK.out.2.2 (k + t) y (by omega) hy
      obtain ⟨hyb1, hyb2, hyb3⟩ := hyb
      clear hw5 hb5 hf5 g5 hy hya hye
      go_upto_region 6 with fail
      rw [HB5.out, HW5.out]
      clear HB5 HW5 y0 y1
      by_cases hmx : y.a < from_
      · have hgt : from_ > y.a := hmx
        have hmx9 : mx9 y.a from_ = from_ := by unfold mx9; rw [if_pos hmx]
        have HMX := hid hmx9
        by_cases hfit : many ≤ ye - from_
        · have HFR : Hid (findR l many from_ = (from_, true)) := hid (findR_hit HNB.out hin.out.1 HY.out hmx9 ⟨by rw [HYE.out]; omega, by rw [HYE.out]; exact hfit⟩)
          clear hmx9
          go_wp2_with fail
          refine HE.out.mono ?_
          rintro e w6 ⟨rfl, hf6⟩
          have HF6 := hid (HF5.out.trans hf6 (by simp))
          clear hf6 HE
          go_wp2_with fail
          first | go_returns | skip
          exact HP.out _ _ _ HFR.out HF6.out
        · have HNX : Hid (∀ j y, j < k + (t + 1) → l[j]? = some y → ¬ (mx9 y.a from_ ≤ y.e ∧ many ≤ y.e - mx9 y.a from_)) := hid (fun j z hj hz h => by
            rcases Nat.lt_or_ge j (k + t) with h5 | h5
            · exact hin.out.1 j z h5 hz h
            · obtain rfl : j = k + t := by omega
              rw [HY.out] at hz; cases hz
              rw [HMX.out, HYE.out] at h
              exact hfit h.2)
          clear hmx9
          go_wp2_with fail
          refine HE.out.mono ?_
          rintro e w6 ⟨rfl, hf6⟩
          have HF6 := hid (HF5.out.trans hf6 (by simp))
          clear hf6 HE
          go_wp2_with fail
          go_roundw
          case rel => exact ⟨t + 1, by omega, by go_num, hid ⟨HNX.out, HF6.out⟩⟩
          case measure => simp [intOf]; omega
      · have hgt : ¬ from_ > y.a := hmx
        have hmx9 : mx9 y.a from_ = y.a := by unfold mx9; rw [if_neg hmx]
        have HMX := hid hmx9
        by_cases hfit : many ≤ ye - y.a
        · have HFR : Hid (findR l many from_ = (y.a, true)) := hid (findR_hit HNB.out hin.out.1 HY.out hmx9 ⟨by rw [HYE.out]; omega, by rw [HYE.out]; exact hfit⟩)
          clear hmx9
          go_wp2_with fail
          refine HE.out.mono ?_
          rintro e w6 ⟨rfl, hf6⟩
          have HF6 := hid (HF5.out.trans hf6 (by simp))
          clear hf6 HE
          go_wp2_with fail
          first | go_returns | skip
          exact HP.out _ _ _ HFR.out HF6.out
        · have HNX : Hid (∀ j y, j < k + (t + 1) → l[j]? = some y → ¬ (mx9 y.a from_ ≤ y.e ∧ many ≤ y.e - mx9 y.a from_)) := hid (fun j z hj hz h => by
            rcases Nat.lt_or_ge j (k + t) with h5 | h5
            · exact hin.out.1 j z h5 hz h
            · obtain rfl : j = k + t := by omega
              rw [HY.out] at hz; cases hz
              rw [HMX.out, HYE.out] at h
              exact hfit h.2)
          clear hmx9
          go_wp2_with fail
          refine HE.out.mono ?_
          rintro e w6 ⟨rfl, hf6⟩
          have HF6 := hid (HF5.out.trans hf6 (by simp))
          clear hf6 HE
          go_wp2_with fail
          go_roundw
          case rel => exact ⟨t + 1, by omega, by go_num, hid ⟨HNX.out, HF6.out⟩⟩
          case measure => simp [intOf]; omega
    · have HFR : Hid (findR l many from_ = (0, false)) := hid (findR_none HNB.out (fun j z hj hz => hin.out.1 j z (by have := HL.out; have := HNL.out; omega) hz))
      obtain rfl : N = t := by omega
      go_wp2_with fail
      first | go_returns | skip
      exact HP.out _ _ _ HFR.out hin.out.2
end Go.Proofs.Ytkbppkimpefilaa
