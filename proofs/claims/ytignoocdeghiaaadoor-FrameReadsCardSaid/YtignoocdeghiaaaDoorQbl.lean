/- Frames: the document's body of a frame. Frames: plain facts: what the document's reader takes up is what the program's does. -/
import Derived.Test.YtignoocdeghiaaaDoorQau
import Derived.Test.YtignoocdeghiaaaDoorQar
import Derived.Test.YtignoocdeghiaaaDoorQay
import Derived.Test.YtignoocdeghiaaaDoorQac
import Derived.Test.YtignoocdeghiaaaDoorQbk
import Derived.BigQuiet
import Derived.Test.YtignoocdeghiaaaDoorQbh
namespace Go.Proofs.YtignoocdeghiaaaDoor
section
open Go.RowKit Go.Lib
set_option maxRecDepth 100000

set_option maxHeartbeats 3200000 in
theorem framedB_any (K : Int) (hK0 : 0 ≤ K) (hK1 : K < 256) (p : Option Addr) (n c : Nat) (bs : List Int) (w : World) (hd : Rd w p bs) (hl : bs.length = n) (hn : bs = [] → p = none → c = 0) (hz : ∀ z ∈ bs, 0 ≤ z ∧ z < 256) (hn2 : n ≤ 140737488351232) (hv : Vars w) :
    Calls Tryd.prog 15 #[.int .i64 K, .slice p n c] w fun e w' => ∃ p' n' c', e = .returned (.slice p' n' c') ∧ BufF w none w' p' n' c' (frm ([K] ++ bs)) := by
  obtain ⟨PO, hPO⟩ : ∃ PO : Ending → World → Prop, (fun e w' => ∃ p' n' c', e = .returned (.slice p' n' c') ∧ BufF w none w' p' n' c' (frm ([K] ++ bs))) = PO := ⟨_, rfl⟩
  rw [hPO]
  have HP : Hid (∀ p n c w', BufF w none w' p n c (frm ([K] ++ bs)) → PO (.returned (.slice p n c)) w') := hid (fun p n c w' h => by rw [← hPO]; exact ⟨p, n, c, rfl, h⟩)
  have HD := hid (fun W (hf : Frm [] w W) => hd.kept hf (by simp))
  have HN := hid hn
  have HL := hid hl
  have HZ := hid hz
  have HV := hid hv
  have hwu : IntKind.u8.wrap K = K := by rw [IntKind.wrap_u8]; omega
  have HOA := hid (own_of_block (E := 5) (zs := [K]) (heap_alloc_new w (.cells #[.int .u8 K] 5)) (by simp [maxLen]))
  have HFA := hid ((Frm.refl [] w).alloc (.cells #[.int .u8 K] 5))
  clear hPO hd hn hl hz hv
  go_enter Tryd.func15, Tryd.ntmps15
  go_wp2_with (at_builtin; refine wpList_appB rfl _ _ 22 rfl 5 Tryd.underlying22 infoE (some ⟨w.heap.size, 0, none⟩) 1 1 [K] rfl rfl HOA.out p n c bs rfl HL.out.symm HN.out (HD.out _ HFA.out) (by rw [HL.out]; simp; omega) ?_)
  intro xs p1 c1 w1 hxs ho1 hf1 hfr1
  have hfa : Frm [] w w1 := HFA.out.trans hf1.out (fun i hi hlt => by rw [blk_some, List.mem_singleton] at hi; subst hi; exact absurd hlt (Nat.lt_irrefl _))
  have hbk : ∀ i ∈ blk p1, w.heap.size ≤ i := fun i hi => by
    rcases hfr1.out i hi with h | h
    · rw [blk_some, List.mem_singleton] at h
      subst h
      exact Nat.le_refl _
    · exact Nat.le_of_succ_le h
  have HB1 : Hid (BufF w none w1 p1 xs.length c1 xs) := hid ⟨ho1.out, rfl, hfa, fun i hi => Or.inr (hbk i hi)⟩
  clear hfa hbk
  have HXL : Hid (xs.length = n + 1) := hid (by rw [hxs.out]; simp [HL.out])
  have HXE : Hid (xs = [K] ++ bs) := hid (by rw [hxs.out]; rfl)
  have hxz : ∀ z ∈ xs, 0 ≤ z ∧ z < 256 := by
    rw [HXE.out]
    intro z hz
    rcases List.mem_append.1 hz with h | h
    · rw [List.mem_singleton] at h; subst h; exact ⟨hK0, hK1⟩
    · exact HZ.out z h
  have HOF := hid (refOf_sha p1 xs.length c1 xs w1 rfl (fun h => by have := HXL.out; rw [h] at this; simp at this) (by have := HXL.out; omega) HB1.out.own.rd hxz (HV.out.kept HB1.out.nil.1))
  obtain ⟨S, hS⟩ : ∃ S, shaD xs = S := ⟨_, rfl⟩
  have hbd := shaD_bd xs
  rw [hS] at HOF hbd
  have HS := hid hS
  have HBD := hid hbd
  obtain ⟨N1, hN1⟩ : ∃ z, xs.length = z := ⟨_, rfl⟩
  rw [hN1] at HB1 HXL HOF ⊢
  have HN1 := hid hN1
  clear hxs ho1 hf1 hfr1 hxz hS hbd hwu hN1
  obtain ⟨sa, sb, sc, sd⟩ := S
  unfold S4.arr at HOF
  simp only at HOF HBD
  go_wp2_with fail
  refine HOF.out.mono ?_
  rintro e w2 ⟨rfl, hf2⟩
  obtain ⟨w3, hw3⟩ : ∃ z, w2.alloc (.cells #[.int .u64 sa, .int .u64 sb, .int .u64 sc, .int .u64 sd] 68) = z := ⟨_, rfl⟩
  have hrow := heap_alloc_new w2 (.cells #[.int .u64 sa, .int .u64 sb, .int .u64 sc, .int .u64 sd] 68)
  obtain ⟨sx, hsx⟩ : ∃ z, w2.heap.size = z := ⟨_, rfl⟩
  rw [hw3, hsx] at hrow
  have hf3 : Frm [] w2 w3 := by rw [← hw3]; exact (Frm.refl _ _).alloc _
  have HF3 : Hid (Frm [] w1 w3) := hid (hf2.trans hf3 (by simp))
  have HROW := hid hrow
  have HW3 := hid hw3
  have HSX := hid hsx
  have hws : wrap64 ((N1 : Int) + 8) = (N1 : Int) + 8 := by have := HXL.out; unfold wrap64; omega
  have HNU := hid (refNumF_any none 0 0 [] ((N1 : Int) + 8) 4 w3 (Own.nil _ _) rfl (by omega) (by omega) (by have := HXL.out; omega) (by omega))
  clear hf2 hw3 hrow hsx hf3 HOF
  go_upto_region 4 with fail
  first | rw [HSX.out] | skip
  first | rw [HW3.out] | skip
  go_wp2_with fail
  refine HNU.out.mono ?_
  rintro e w4 ⟨p4, c4, rfl, hb4⟩
  have HB4 := hid hb4
  have HB14 : Hid (Own w4 5 (.slice p1 N1 c1) xs) := hid ((HB1.out.own.kept HF3.out (by simp)).kept hb4.nil.1 (by simp))
  simp only [Nat.zero_add, List.nil_append] at HB4 ⊢
  clear hb4 HNU
  go_wp2_with (at_builtin; refine wpList_appB rfl _ _ 22 rfl 5 Tryd.underlying22 infoE p4 4 c4 (le ((N1 : Int) + 8) 4) rfl (le_length _ _).symm (by rw [le_length]; exact HB4.out.own) p1 N1 c1 xs rfl HN1.out.symm (fun h => by have h1 := HN1.out; have h2 := HXL.out; rw [h] at h1; simp at h1; omega) HB14.out.rd (by rw [le_length, HN1.out]; have := HXL.out; omega) ?_)
  intro ys p5 c5 w5 hys ho5 hf5 hfr5
  have HB5 : Hid (BufF w3 none w5 p5 ys.length c5 ys) := hid (HB4.out.trans ⟨ho5.out, rfl, hf5.out, hfr5.out⟩)
  have HYL : Hid (ys.length = N1 + 4) := hid (by rw [hys.out, List.length_append, le_length, HN1.out]; omega)
  have HYE : Hid (ys = le ((N1 : Int) + 8) 4 ++ xs) := hid hys.out
  have q5 : w5.cell? ⟨sx, 0, none⟩ = some (.int .u64 sa) := by rw [cell_of_row _ _ _ _ _ _ (HB5.out.nil.1.heap HROW.out (by simp))]; rfl
  obtain ⟨M, hM⟩ : ∃ z, ys.length = z := ⟨_, rfl⟩
  rw [hM] at HB5 HYL ⊢
  have HB6 : Hid (BufF w none w5 p5 M c5 ys) := hid (BufF.pre (HB1.out.nil.1.trans HF3.out (by simp)) HB5.out)
  clear hys ho5 hf5 hfr5 HB4 HB14 HF3 HB5 HROW HW3 HSX hws
  go_wp2_with fail
  go_loopw [8, 9, 10] (fun b v i wr => ∃ (j : Nat) (p : Option Addr) (c : Nat), j ≤ 8 ∧ i = .int .i64 j ∧ v = .int .u64 (sa / 2 ^ (8 * j)) ∧ b = .slice p (M + j) c ∧ Hid (BufF w none wr p (M + j) c (ys ++ le sa j))) (fun _ _ i _ => 8 - (intOf i).toNat)
  case atStart => exact ⟨0, p5, c5, Nat.zero_le _, rfl, by simp, rfl, hid (by rw [show ys ++ le sa 0 = ys by simp [le]]; exact HB6.out)⟩
  case round =>
    obtain ⟨j, p, c, hj, rfl, rfl, rfl, hb⟩ := hrel
    have hq : 0 ≤ sa / 2 ^ (8 * j) ∧ sa / 2 ^ (8 * j) < 18446744073709551616 := by
      refine ⟨Int.ediv_nonneg HBD.out.1 (Int.pow_nonneg (by decide)), ?_⟩
      exact Int.lt_of_le_of_lt (Int.ediv_le_self _ HBD.out.1) HBD.out.2
    have hsucc : sa / 2 ^ (8 * (j + 1)) = sa / 2 ^ (8 * j) / 256 := by
      rw [Int.ediv_ediv_of_nonneg (Int.pow_nonneg (by decide)), Nat.mul_add, Int.pow_add]; rfl
    have HSU := hid hsucc
    have hle := le_succ sa j
    have HLE := hid hle
    have HM := hid hM
    have hmb : M ≤ 140737488351240 := by have := HYL.out; have := HXL.out; omega
    clear hsucc hle hM
    obtain ⟨q, hqq⟩ : ∃ q, sa / 2 ^ (8 * j) = q := ⟨_, rfl⟩
    rw [hqq] at hq HSU HLE ⊢
    clear hqq
    obtain ⟨hq0, hq1⟩ := hq
    by_cases hlt : j < 8
    · have hrd : Rd (wr.alloc (.cells #[.int .u8 (q % 256)] 5)) (some ⟨wr.heap.size, 0, none⟩) [q % 256] :=
        (own_of_block (E := 5) (zs := [q % 256]) (heap_alloc_new wr _) (by simp [maxLen])).rd
      have HRD := hid hrd
      have HFB := hid ((Frm.refl [] wr).alloc (.cells #[.int .u8 (q % 256)] 5))
      have HO := hid (hb.out.own.kept HFB.out (by simp))
      clear hrd
      go_wp2_with (at_builtin; refine wpList_appB rfl _ _ 22 rfl 5 Tryd.underlying22 infoE p _ c (ys ++ le sa j) rfl hb.out.len.symm (by rw [hb.out.len]; exact HO.out) (some ⟨wr.heap.size, 0, none⟩) 1 1 [q % 256] rfl rfl (by simp) HRD.out (by rw [hb.out.len]; simp; omega) ?_)
      intro xs2 p2 c2 w2 hxs ho2 hf2 hfr2
      have hxe : xs2 = ys ++ le sa (j + 1) := by rw [hxs.out, HLE.out]
      have hxl : xs2.length = M + (j + 1) := by rw [hxe, List.length_append, HM.out, le_length]
      rw [hxl]
      have HXL2 := hid hxl
      have HXE2 := hid hxe
      clear hxl hxe
      go_wp2_with fail
      go_roundw
      case rel =>
        refine ⟨j + 1, p2, c2, by omega, by go_num, by rw [HSU.out], rfl, hid ?_⟩
        have h := ho2.out
        rw [HXL2.out, HXE2.out] at h
        exact hb.out.trans (BufF.pre HFB.out ⟨h, by rw [← HXE2.out, HXL2.out], hf2.out, fun i hi => (hfr2.out i hi).imp id (fun h => by simpa using h)⟩)
      case measure => simp [intOf]; omega
    · obtain rfl : j = 8 := by omega
      go_wp2_with fail
      first | go_returns | skip
      refine HP.out _ _ _ _ ?_
      have he : frm ([K] ++ bs) = ys ++ le sa 8 := by
        rw [← HXE.out, HYE.out]
        unfold frm
        rw [HS.out, HN1.out]
      rw [he]
      exact hb.out
theorem partP (g o c lo : Nat) (h : c ≠ lo) : partAt (some ⟨g, o, none⟩) c lo 1 = some ⟨g, o + lo, none⟩ := by
  unfold partAt
  rw [if_neg h]
  simp [Addr.add]
theorem frm_bdB {b : List Int} (hb : ∀ z ∈ b, 0 ≤ z ∧ z < 256) : ∀ z ∈ frm b, 0 ≤ z ∧ z < 256 := by
  intro z hz
  unfold frm at hz
  rcases List.mem_append.1 hz with h | h
  · rcases List.mem_append.1 h with h | h
    · exact le_bd _ _ z h
    · exact hb z h
  · exact le_bd _ _ z h
/-- A plain reader that is new since a world. -/
def FrQ (w0 w : World) (b : Nat) (p : Option Addr) (c : Nat) (bs : List Int) (s : Rst) : Prop := IsQ w b p c bs s.1 s.2 ∧ Frm [] w0 w ∧ w0.heap.size ≤ b ∧ ∀ k ∈ blk p, w0.heap.size ≤ k
theorem FrQ.k0 {w0 w w' : World} {b c : Nat} {p : Option Addr} {bs : List Int} {s : Rst} (h : FrQ w0 w b p c bs s) (hf : Frm [] w w') : FrQ w0 w' b p c bs s :=
  ⟨h.1.kept hf (by simp) (by simp), h.2.1.trans hf (by simp), h.2.2⟩
theorem FrQ.next {w0 w w' : World} {b c : Nat} {p : Option Addr} {bs : List Int} {s t : Rst} (h : FrQ w0 w b p c bs s) (h1 : IsQ w' b p c bs t.1 t.2) (hf : Frm [b] w w') : FrQ w0 w' b p c bs t :=
  ⟨h1, h.2.1.trans hf (fun i hi hl => by rw [List.mem_singleton] at hi; have := h.2.2.1; omega), h.2.2⟩
set_option maxHeartbeats 1600000 in
theorem refNum_anyQ (w0 w : World) (b c : Nat) (p : Option Addr) (bs : List Int) (hb : ∀ z ∈ bs, 0 ≤ z ∧ z < 256) (s : Rst) (k : Int) (hk0 : 0 ≤ k) (hk : k ≤ 7) (h : FrQ w0 w b p c bs s) :
    Calls Tryd.prog 57 #[.pointer (some ⟨b, 0, none⟩), .int .i64 k] w fun e w' => e = .returned (.int .i64 (nuS bs s k).1) ∧ FrQ w0 w' b p c bs (nuS bs s k).2 ∧ Frm [b] w w' := by
  have HN := hid (qnum_any b c s.1 p bs hb s.2 k _ h.1 (by omega) (by omega))
  have HBD := hid (nuS_bd hb s k hk)
  have HR := hid h
  obtain ⟨r, hr'⟩ : ∃ r, nuS bs s k = r := ⟨_, rfl⟩
  unfold nuS at hr'
  rw [hr'] at HN
  have hnu : nuS bs s k = r := hr'
  rw [hnu] at HBD ⊢
  have hwn : IntKind.i64.wrap r.1 = r.1 := by have := HBD.out; rw [IntKind.wrap_i64]; omega
  clear h hr' hnu hb
  go_enter Tryd.func57, Tryd.ntmps57
  go_wp2_with fail
  refine HN.out.mono ?_
  rintro e w2 ⟨rfl, h1, h2⟩
  have HX : Hid (FrQ w0 w2 b p c bs r.2 ∧ Frm [b] w w2) := hid ⟨HR.out.next h1 h2, h2⟩
  clear h1 h2 HN
  go_wp2_with fail
  first | go_returns | skip
  exact ⟨rfl, HX.out.1, HX.out.2⟩
/-- What the body's reader says of a frame of a kind. -/
def bodE (bs : List Int) (K : Int) : Int := if bs.length < 13 ∨ 65536 < bs.length then 230 else if leV (bs.take 4) ≠ ((bs.length - 4 : Nat) : Int) then 230 else if leV (endF bs) ≠ (shaD (midF bs)).a then 231 else if (midF bs).getD 0 0 ≠ K then 230 else 0
theorem midF_cons {bs : List Int} (h : 13 ≤ bs.length) : midF bs = [bs.getD 4 0] ++ (bs.drop 5).take (bs.length - 13) := by
  unfold midF
  have h1 : bs.drop 4 = bs.getD 4 0 :: bs.drop 5 := by
    rw [List.drop_eq_getElem_cons (by omega), List.getD_eq_getElem?_getD, List.getElem?_eq_getElem (by omega)]
    rfl
  rw [h1, show bs.length - 12 = (bs.length - 13) + 1 by omega, List.take_succ_cons]
  rfl
def BodA (w : World) (bs : List Int) (K : Int) (e : Ending) (w' : World) : Prop := Frm [] w w' ∧ ((bodE bs K ≠ 0 ∧ e = .returned (.tuple #[.pointer none, .int .i64 (bodE bs K)])) ∨ (bodE bs K = 0 ∧ ∃ b p c, e = .returned (.tuple #[.pointer (some ⟨b, 0, none⟩), .int .i64 0]) ∧ FrQ w w' b p c ((midF bs).drop 1) (0, 0)))
set_option maxHeartbeats 12800000 in
theorem body_any (p : Option Addr) (n c : Nat) (bs : List Int) (K : Int) (w : World) (hn : bs.length = n) (hnc : n ≤ c) (_hc : c ≤ 9223372036854775807) (hrd : Rd w p bs) (hb : ∀ z ∈ bs, 0 ≤ z ∧ z < 256) (hv : Vars w) :
    Calls Tryd.prog 56 #[.slice p n c, .int .i64 K] w (BodA w bs K) := by
  obtain ⟨PO, hPO⟩ : ∃ PO : Ending → World → Prop, BodA w bs K = PO := ⟨_, rfl⟩
  rw [hPO]
  have HBAD : Hid (∀ w' E, bodE bs K = E → E ≠ 0 → Frm [] w w' → PO (.returned (.tuple #[.pointer none, .int .i64 E])) w') := hid (fun w' E h1 h2 hf => by rw [← hPO]; exact ⟨hf, Or.inl ⟨by rw [h1]; exact h2, by rw [h1]⟩⟩)
  have HGD : Hid (∀ w' b q d, bodE bs K = 0 → Frm [] w w' → FrQ w w' b q d ((midF bs).drop 1) (0, 0) → PO (.returned (.tuple #[.pointer (some ⟨b, 0, none⟩), .int .i64 0])) w') := hid (fun w' b q d h1 hf h2 => by rw [← hPO]; exact ⟨hf, Or.inr ⟨h1, b, q, d, rfl, h2⟩⟩)
  have HRD := hid hrd
  have HLN := hid hn
  have HB := hid hb
  have HV := hid (fun W (hf : Frm [] w W) => hv.kept hf)
  clear hPO hn hrd hb hv
  go_enter Tryd.func56, Tryd.ntmps56
  by_cases h13 : n < 13
  case pos =>
    have d13 : decide ((n : Int) < 13) = true := decide_eq_true (by omega)
    have e13 : (n : Int) < 13 := by omega
    go_wp2_with fail
    first | go_returns | skip
    exact HBAD.out _ _ (by unfold bodE; rw [if_pos (Or.inl (by rw [HLN.out]; exact h13))]) (by decide) (Frm.refl _ _)
  have d13 : decide ((n : Int) < 13) = false := decide_eq_false (by omega)
  have e13 : ¬ (n : Int) < 13 := by omega
  by_cases h65 : 65536 < n
  case pos =>
    have d65 : decide ((65536 : Int) < (n : Int)) = true := decide_eq_true (by omega)
    have e65 : (65536 : Int) < (n : Int) := by omega
    go_wp2_with fail
    first | go_returns | skip
    exact HBAD.out _ _ (by unfold bodE; rw [if_pos (Or.inr (by rw [HLN.out]; exact h65))]) (by decide) (Frm.refl _ _)
  have d65 : decide ((65536 : Int) < (n : Int)) = false := decide_eq_false (by omega)
  have e65 : ¬ (65536 : Int) < (n : Int) := by omega
  have HE1 : Hid (¬ (bs.length < 13 ∨ 65536 < bs.length)) := hid (by rw [HLN.out]; omega)
  obtain ⟨g0, o0, rfl, hcell⟩ : ∃ g0 o0, p = some ⟨g0, o0, none⟩ ∧ ∀ i, i < n → w.cell? ⟨g0, o0 + i, none⟩ = some (.int .u8 (bs.getD i 0)) := by
    rcases HRD.out with h | ⟨g, o, h, hcc⟩
    · have := HLN.out; rw [h] at this; simp at this; omega
    · exact ⟨g, o, h, fun i hi => hcc i (by rw [HLN.out]; exact hi)⟩
  have k0 := hcell 0 (by omega)
  have k1 := hcell 1 (by omega)
  have k2 := hcell 2 (by omega)
  have k3 := hcell 3 (by omega)
  have k4 := hcell 4 (by omega)
  rw [Nat.add_zero] at k0
  have HV4 := hid (leV_at4 (al := bs) (a := 0) (by rw [HLN.out]; omega))
  rw [List.drop_zero] at HV4
  have b0 := HB.out _ (getD_memF (l := bs) (i := 0) (by rw [HLN.out]; omega))
  have b1 := HB.out _ (getD_memF (l := bs) (i := 1) (by rw [HLN.out]; omega))
  have b2 := HB.out _ (getD_memF (l := bs) (i := 2) (by rw [HLN.out]; omega))
  have b3 := HB.out _ (getD_memF (l := bs) (i := 3) (by rw [HLN.out]; omega))
  have b4 := HB.out _ (getD_memF (l := bs) (i := 4) (by rw [HLN.out]; omega))
  have HMC := hid (midF_cons (bs := bs) (by rw [HLN.out]; omega))
  simp only [Nat.zero_add] at HV4
  obtain ⟨x0, hx0⟩ : ∃ z, bs.getD 0 0 = z := ⟨_, rfl⟩
  obtain ⟨x1, hx1⟩ : ∃ z, bs.getD 1 0 = z := ⟨_, rfl⟩
  obtain ⟨x2, hx2⟩ : ∃ z, bs.getD 2 0 = z := ⟨_, rfl⟩
  obtain ⟨x3, hx3⟩ : ∃ z, bs.getD 3 0 = z := ⟨_, rfl⟩
  obtain ⟨x4, hx4⟩ : ∃ z, bs.getD 4 0 = z := ⟨_, rfl⟩
  rw [hx0] at k0 b0 HV4
  rw [hx1] at k1 b1 HV4
  rw [hx2] at k2 b2 HV4
  rw [hx3] at k3 b3 HV4
  rw [hx4] at k4 b4 HMC
  clear hx0 hx1 hx2 hx3 hx4 hcell
  have v1 : IntKind.i64.wrap x0 = x0 := by rw [IntKind.wrap_i64]; omega
  have v2 : IntKind.i64.wrap x1 = x1 := by rw [IntKind.wrap_i64]; omega
  have v3 : IntKind.i64.wrap x2 = x2 := by rw [IntKind.wrap_i64]; omega
  have v4 : IntKind.i64.wrap x3 = x3 := by rw [IntKind.wrap_i64]; omega
  have v44 : IntKind.i64.wrap x4 = x4 := by rw [IntKind.wrap_i64]; omega
  have v5 : IntKind.i64.wrap (256 * x3) = 256 * x3 := by rw [IntKind.wrap_i64]; omega
  have v6 : IntKind.i64.wrap (x2 + 256 * x3) = x2 + 256 * x3 := by rw [IntKind.wrap_i64]; omega
  have v7 : IntKind.i64.wrap (256 * (x2 + 256 * x3)) = 256 * (x2 + 256 * x3) := by rw [IntKind.wrap_i64]; omega
  have v8 : IntKind.i64.wrap (x1 + 256 * (x2 + 256 * x3)) = x1 + 256 * (x2 + 256 * x3) := by rw [IntKind.wrap_i64]; omega
  have v9 : IntKind.i64.wrap (256 * (x1 + 256 * (x2 + 256 * x3))) = 256 * (x1 + 256 * (x2 + 256 * x3)) := by rw [IntKind.wrap_i64]; omega
  have v10 : IntKind.i64.wrap (x0 + 256 * (x1 + 256 * (x2 + 256 * x3))) = x0 + 256 * (x1 + 256 * (x2 + 256 * x3)) := by rw [IntKind.wrap_i64]; omega
  go_wp2_with fail
  go_quiet (fail)
  obtain ⟨NZ, hNZ⟩ : ∃ z, x0 + 256 * (x1 + 256 * (x2 + 256 * x3)) = z := ⟨_, rfl⟩
  rw [hNZ] at HV4 ⊢
  have hNB : 0 ≤ NZ ∧ NZ < 4294967296 := by omega
  have HFQ := hid ((Frm.refl [] w).drewN nq)
  have HK4 : Hid (∀ V, Frm [] w V → V.cell? ⟨g0, o0 + 4, none⟩ = some (.int .u8 x4)) := hid (fun V hf => (hf.cell (p := ⟨g0, o0 + 4, none⟩) (World.block_lt_of_cell? _ _ k4) (by simp)).trans k4)
  obtain ⟨wq, hwq⟩ : ∃ z, w.drewN nq = z := ⟨_, rfl⟩
  rw [hwq] at HFQ ⊢
  clear hNZ k0 k1 k2 k3 k4 b0 b1 b2 b3 v1 v2 v3 v4 v5 v6 v7 v8 v9 v10 hwq d13 e13 d65 e65
  by_cases hNF : NZ = (n : Int) - 4
  case neg =>
    have b4 : (NZ != (n : Int) - 4) = true := by rw [bne_iff_ne]; exact hNF
    go_wp2_with fail
    first | go_returns | skip
    exact HBAD.out _ _ (by unfold bodE; rw [if_neg HE1.out, if_pos (by rw [HV4.out, HLN.out]; omega)]) (by decide) HFQ.out
  have HE2 : Hid (¬ leV (bs.take 4) ≠ ((bs.length - 4 : Nat) : Int)) := hid (by rw [HV4.out, HLN.out]; omega)
  have b5 : (NZ != (n : Int) - 4) = false := by rw [bne_eq_false_iff_eq]; exact hNF
  have hs1 : ∀ W, (Instr.slice 22 (.slice (some ⟨g0, o0, none⟩) n c) (some (.int .i64 5)) (some (.int .i64 ((n : Int) - 8))) none).run Tryd.prog W = .ok (.slice (some ⟨g0, o0 + 5, none⟩) (n - 8 - 5) (c - 5)) W := fun W => by
    have h := sl_lh (P := Tryd.prog) (sz := 1) Tryd.underlying22 infoU8E (some ⟨g0, o0, none⟩) n c 5 (n - 8) (by omega) (by omega) W
    rw [partP g0 o0 c 5 (by omega), show ((n - 8 : Nat) : Int) = (n : Int) - 8 by omega] at h
    exact h
  rw [show n - 8 - 5 = n - 13 by omega] at hs1
  have hrp : Rd w (some ⟨g0, o0 + 5, none⟩) ((bs.drop 5).take (n - 13)) := (HRD.out.drop 5).take _
  obtain ⟨MT, hMT⟩ : ∃ z, (bs.drop 5).take (n - 13) = z := ⟨_, rfl⟩
  have hml : MT.length = n - 13 := by rw [← hMT, List.length_take, List.length_drop, HLN.out]; omega
  rw [hMT] at hrp
  rw [HLN.out, hMT] at HMC
  have HMT : Hid (∀ z ∈ MT, 0 ≤ z ∧ z < 256) := hid (fun z hz => by rw [← hMT] at hz; exact HB.out z (List.mem_of_mem_drop (List.mem_of_mem_take hz)))
  have HML := hid hml
  have HRP : Hid (∀ V, Frm [] w V → Rd V (some ⟨g0, o0 + 5, none⟩) MT) := hid (fun V hf => hrp.kept hf (by simp))
  have hw8 : IntKind.i64.wrap ((n : Int) - 8) = (n : Int) - 8 := by rw [IntKind.wrap_i64]; omega
  clear hrp hMT hml
  go_upto_region 6 with fail
  have h4n : (4 : Int) < (n : Int) := by omega
  have hs0 : wq.drew.cell? ⟨g0, o0 + 4, none⟩ = some (.int .u8 x4) := HK4.out _ HFQ.out.drew
  have HFR := hid (framedB_any x4 (by omega) (by omega) (some ⟨g0, o0 + 5, none⟩) (n - 13) (c - 5) MT wq.drew (HRP.out _ HFQ.out.drew) HML.out (fun _ h1 => by cases h1) HMT.out (by omega) (HV.out _ HFQ.out.drew))
  refine wp_region_tail (S := fun W => (W.cell? ⟨g0, o0 + 4, none⟩ = some (.int .u8 x4))) 10 11 rfl (by kernel_rfl) (by kernel_rfl) ?_
  refine wpAnyHT_take (i := 0) (oi := _) (v := ?_) (by kernel_rfl) rfl (by kernel_rfl) (by kernel_rfl) (by kernel_rfl) (by kernel_rfl) (fun _ _ _ h => h) (Or.inl ⟨by rfl, ?_⟩) hs0 ?_
  rotate_left 1
  · (intro W hSw; obtain s0 := hSw; (try simp only [List.getElem_toArray, List.getElem_cons_zero]); go_simp; try with_reducible rfl)
  try simp only [List.getElem_toArray, List.getElem_cons_zero, Act.put, List.setIfInBounds_toArray, List.set_cons_zero, List.set_cons_succ]
  refine wpAnyHT_take (i := 1) (oi := _) (v := ?_) (by kernel_rfl) rfl (by kernel_rfl) (by kernel_rfl) (by kernel_rfl) (by kernel_rfl) (fun _ _ _ h => h) (Or.inl ⟨by rfl, ?_⟩) hs0 ?_
  rotate_left 1
  · (intro W hSw; obtain s0 := hSw; (try simp only [List.getElem_toArray, List.getElem_cons_succ, List.getElem_cons_zero]); go_simp; try with_reducible rfl)
  try simp only [List.getElem_toArray, List.getElem_cons_succ, List.getElem_cons_zero, Act.put, List.setIfInBounds_toArray, List.set_cons_zero, List.set_cons_succ]
  refine wpAnyHT_take (i := 2) (oi := _) (v := ?_) (by kernel_rfl) rfl (by kernel_rfl) (by kernel_rfl) (by kernel_rfl) (by kernel_rfl) (fun _ _ _ h => h) (Or.inl ⟨by rfl, ?_⟩) hs0 ?_
  rotate_left 1
  · (intro W hSw; obtain s0 := hSw; (try simp only [List.getElem_toArray, List.getElem_cons_succ, List.getElem_cons_zero]); go_simp; try with_reducible rfl)
  try simp only [List.getElem_toArray, List.getElem_cons_succ, List.getElem_cons_zero, Act.put, List.setIfInBounds_toArray, List.set_cons_zero, List.set_cons_succ]
  refine wpAnyHT_take (i := 3) (oi := _) (v := ?_) (by kernel_rfl) rfl (by kernel_rfl) (by kernel_rfl) (by kernel_rfl) (by kernel_rfl) (fun _ _ _ h => h) (Or.inl ⟨by rfl, ?_⟩) hs0 ?_
  rotate_left 1
  · (intro W hSw; obtain s0 := hSw; (try simp only [List.getElem_toArray, List.getElem_cons_succ, List.getElem_cons_zero]); go_simp; try with_reducible rfl)
  try simp only [List.getElem_toArray, List.getElem_cons_succ, List.getElem_cons_zero, Act.put, List.setIfInBounds_toArray, List.set_cons_zero, List.set_cons_succ]
  refine wpAnyHT_take (i := 4) (oi := _) (v := ?_) (by kernel_rfl) rfl (by kernel_rfl) (by kernel_rfl) (by kernel_rfl) (by kernel_rfl) (fun _ _ _ h => h) (Or.inl ⟨by rfl, ?_⟩) hs0 ?_
  rotate_left 1
  · (intro W hSw; obtain s0 := hSw; (try simp only [List.getElem_toArray, List.getElem_cons_succ, List.getElem_cons_zero]); go_simp; try with_reducible rfl)
  try simp only [List.getElem_toArray, List.getElem_cons_succ, List.getElem_cons_zero, Act.put, List.setIfInBounds_toArray, List.set_cons_zero, List.set_cons_succ]
  refine wpAnyHT_take (i := 5) (oi := _) (v := ?_) (by kernel_rfl) rfl (by kernel_rfl) (by kernel_rfl) (by kernel_rfl) (by kernel_rfl) (fun _ _ _ h => h) (Or.inl ⟨by rfl, ?_⟩) hs0 ?_
  rotate_left 1
  · (intro W hSw; obtain s0 := hSw; (try simp only [List.getElem_toArray, List.getElem_cons_succ, List.getElem_cons_zero]); go_simp; try with_reducible rfl)
  try simp only [List.getElem_toArray, List.getElem_cons_succ, List.getElem_cons_zero, Act.put, List.setIfInBounds_toArray, List.set_cons_zero, List.set_cons_succ]
  refine wpAnyHT_take (i := 6) (oi := _) (v := ?_) (by kernel_rfl) rfl (by kernel_rfl) (by kernel_rfl) (by kernel_rfl) (by kernel_rfl) (fun _ _ _ h => h) (Or.inl ⟨by rfl, ?_⟩) hs0 ?_
  rotate_left 1
  · (intro W hSw; obtain s0 := hSw; (try simp only [List.getElem_toArray, List.getElem_cons_succ, List.getElem_cons_zero]); go_simp; try with_reducible rfl)
  try simp only [List.getElem_toArray, List.getElem_cons_succ, List.getElem_cons_zero, Act.put, List.setIfInBounds_toArray, List.set_cons_zero, List.set_cons_succ]
  refine wpAnyHT_take (i := 7) (oi := _) (v := ?_) (by kernel_rfl) rfl (by kernel_rfl) (by kernel_rfl) (by kernel_rfl) (by kernel_rfl) (fun _ _ _ h => h) (Or.inl ⟨by rfl, ?_⟩) hs0 ?_
  rotate_left 1
  · (intro W hSw; obtain s0 := hSw; (try simp only [List.getElem_toArray, List.getElem_cons_succ, List.getElem_cons_zero]); go_simp; try with_reducible rfl)
  try simp only [List.getElem_toArray, List.getElem_cons_succ, List.getElem_cons_zero, Act.put, List.setIfInBounds_toArray, List.set_cons_zero, List.set_cons_succ]
  refine wpAnyHT_take (i := 8) (oi := _) (v := ?_) (by kernel_rfl) rfl (by kernel_rfl) (by kernel_rfl) (by kernel_rfl) (by kernel_rfl) (fun _ _ _ h => h) (Or.inl ⟨by rfl, ?_⟩) hs0 ?_
  rotate_left 1
  · (intro W hSw; obtain s0 := hSw; (try simp only [List.getElem_toArray, List.getElem_cons_succ, List.getElem_cons_zero]); go_simp; try with_reducible rfl)
  try simp only [List.getElem_toArray, List.getElem_cons_succ, List.getElem_cons_zero, Act.put, List.setIfInBounds_toArray, List.set_cons_zero, List.set_cons_succ]
  refine wpAnyHT_one (i := 9) rfl (by kernel_rfl) (by kernel_rfl) (fun K hK => ?_)
  try simp only [List.getElem_toArray, List.getElem_cons_succ, List.getElem_cons_zero]
  go_simp
  refine HFR.out.mono ?_
  rintro e w3 ⟨p3, n3, c3, rfl, hb3⟩
  refine hK _ _ ((hb3.nil.1.cell (World.block_lt_of_cell? _ _ hs0) (by simp)).trans hs0) ?_
  clear hK K
  try simp only [List.getElem_toArray, List.getElem_cons_succ, List.getElem_cons_zero, Act.put, List.setIfInBounds_toArray, List.set_cons_zero, List.set_cons_succ]
  refine wpAnyHT_end (by kernel_rfl) ?_
  simp only [List.drop_succ_cons, List.drop_zero]
  have HB3 := hid hb3
  have HF3 : Hid (Frm [] w w3) := hid (HFQ.out.drew.trans hb3.nil.1 (by simp))
  have HSE : Hid (¬ leV (endF bs) ≠ (shaD (midF bs)).a ↔ frm ([x4] ++ MT) = bs) := hid (by
    rw [← HMC.out]
    constructor
    · intro h
      exact (frm_of HB.out (by rw [HLN.out]; omega) (Classical.not_not.1 HE2.out) (Classical.not_not.1 h)).symm
    · intro h hne
      have h2 := frm_sum (midF bs)
      rw [h] at h2
      exact hne h2)
  have cv1 := cv_any (P := Tryd.prog) (w := w3) 22 5 9 Tryd.underlying22 Tryd.underlying5 Tryd.underlying9 hb3.own.rd c3 hb3.len
  have cv2 := cv_any (P := Tryd.prog) (w := w3) 22 5 9 Tryd.underlying22 Tryd.underlying5 Tryd.underlying9 (HRD.out.kept HF3.out (by simp)) c HLN.out
  have q4 := HK4.out _ HF3.out
  by_cases hE : frm ([x4] ++ MT) = bs
  case neg =>
    have HE3 : Hid (leV (endF bs) ≠ (shaD (midF bs)).a) := hid (Classical.byContradiction (fun h => hE (HSE.out.1 h)))
    have hst : ((strOfNums (frm ([x4] ++ MT))).toList == (strOfNums bs).toList) = false := beq_eq_false_iff_ne.2 (fun h => hE (by
      have h2 : strOfNums (frm ([x4] ++ MT)) = strOfNums bs := by
        rw [ByteArray.toList_eq, ByteArray.toList_eq] at h
        exact ByteArray.ext (Array.toList_inj.1 h)
      have h3 := congrArg tx h2
      rw [tx_str _ HB.out, tx_str] at h3
      · exact h3
      · rw [← HMC.out]
        exact frm_bdB (midF_bd HB.out)))
    generalize strOfNums (frm ([x4] ++ MT)) = S1 at hst cv1
    generalize strOfNums bs = S2 at hst cv2
    clear hb3 hE
    go_wp2_with fail
    first | go_returns | skip
    exact HBAD.out _ _ (by unfold bodE; rw [if_neg HE1.out, if_neg HE2.out, if_pos HE3.out]) (by decide) HF3.out
  have HE3 : Hid (¬ leV (endF bs) ≠ (shaD (midF bs)).a) := hid (HSE.out.2 hE)
  rw [hE] at cv1
  clear hb3 hE HSE
  generalize strOfNums bs = S2 at cv1 cv2
  by_cases hK : x4 = K
  case neg =>
    have bk : (x4 != K) = true := by rw [bne_iff_ne]; exact hK
    go_wp2_with fail
    first | go_returns | skip
    exact HBAD.out _ _ (by unfold bodE; rw [if_neg HE1.out, if_neg HE2.out, if_neg HE3.out, if_pos (by rw [HMC.out]; exact hK)]) (by decide) HF3.out
  have HE4 : Hid (bodE bs K = 0) := hid (by unfold bodE; rw [if_neg HE1.out, if_neg HE2.out, if_neg HE3.out, if_neg (by rw [HMC.out]; exact fun h => h hK)])
  subst hK
  have hop := open_any (some ⟨g0, o0 + 5, none⟩) (c - 5) MT w3 (HRP.out _ HF3.out) (fun _ h1 => by cases h1) (by rw [HML.out]; omega)
  rw [HML.out] at hop
  have HOP := hid hop
  clear hop
  go_wp2_with fail
  refine HOP.out.mono ?_
  rintro e w5 ⟨rb, pq, cq, rfl, hq, hf5, hnb, hnp⟩
  have HEND := hid (HGD.out w5 rb pq cq HE4.out (HF3.out.trans hf5 (by simp)) (by rw [HMC.out]; exact ⟨hq, HF3.out.trans hf5 (by simp), Nat.le_trans HF3.out.size hnb, fun k hk => Nat.le_trans HF3.out.size (hnp k hk)⟩))
  clear hq hf5 hnb hnp HOP
  go_wp2_with fail
  first | go_returns | skip
  exact HEND.out
end
section
open Go.RowKit Go.Lib
set_option maxRecDepth 100000

def txM (bs : List Int) (s : Rst) (m : Int) : List Int × Nat × Int := readS [] s.1 s.2 (textT (bs.drop s.1) m)
theorem txM_fit {bs : List Int} {pos : Nat} {s : ByteArray} {m : Int} {r : List Int} (h : bs.drop pos = txF s ++ r) (hs : s.size ≤ 65535) (hm : (s.size : Int) ≤ m) : txM bs (pos, 0) m = (tx s, pos + (2 + s.size), 0) ∧ bs.drop (pos + (2 + s.size)) = r := by
  have h2 : leV (le (s.size : Int) 2) = s.size := leV_fit _ _ (by omega) (by omega)
  have e : textT (bs.drop pos) m = (tx s, 2 + s.size, 0) := by
    rw [h]
    unfold txF
    have e3 : (le (s.size : Int) 2 ++ tx s ++ r).take 2 = le (s.size : Int) 2 := by
      rw [List.append_assoc, List.take_append_of_le_length (by simp [le_length]), List.take_of_length_le (by simp [le_length])]
    unfold textT
    rw [e3, h2, if_neg (by simp [le_length]), if_neg (by omega), Int.toNat_natCast, if_neg (by simp [le_length, tx_length])]
    have e4 : (le (s.size : Int) 2 ++ tx s ++ r).drop 2 = tx s ++ r := by
      rw [List.append_assoc, List.drop_append_of_le_length (by simp [le_length]), List.drop_of_length_le (by simp [le_length])]; rfl
    rw [e4, List.take_append_of_le_length (by simp [tx_length]), List.take_of_length_le (by simp [tx_length])]
  refine ⟨?_, by rw [← List.drop_drop, h, List.drop_append_of_le_length (by simp [txF_len]), List.drop_of_length_le (by simp [txF_len])]; rfl⟩
  unfold txM
  rw [readS_ok, e]
  rfl
theorem txM_inv {bs : List Int} (hb : ∀ z ∈ bs, 0 ≤ z ∧ z < 256) {s : Rst} {m : Int} (h : (txM bs s m).2.2 = 0) : s.2 = 0 ∧ bs.drop s.1 = txF (strOfNums (txM bs s m).1) ++ bs.drop (txM bs s m).2.1 := by
  by_cases he : s.2 = 0
  case neg =>
    unfold txM at h
    rw [readS_err _ _ _ _ he] at h
    exact absurd h he
  refine ⟨he, ?_⟩
  unfold txM at h ⊢
  rw [he, readS_ok] at h ⊢
  obtain ⟨ls, hls⟩ : ∃ ls, bs.drop s.1 = ls := ⟨_, rfl⟩
  have hlb : ∀ z ∈ ls, 0 ≤ z ∧ z < 256 := fun z hz => hb z (List.mem_of_mem_drop (by rw [hls]; exact hz))
  by_cases h1 : ls.length < 2
  · have e : textT (bs.drop s.1) m = ([], 0, 10) := by rw [hls]; unfold textT; rw [if_pos h1]
    rw [e] at h; simp at h
  by_cases h2 : m < leV (ls.take 2)
  · have e : textT (bs.drop s.1) m = ([], 0, 11) := by rw [hls]; unfold textT; rw [if_neg h1, if_pos h2]
    rw [e] at h; simp at h
  by_cases h3 : ls.length < 2 + (leV (ls.take 2)).toNat
  · have e : textT (bs.drop s.1) m = ([], 0, 10) := by rw [hls]; unfold textT; rw [if_neg h1, if_neg h2, if_pos h3]
    rw [e] at h; simp at h
  have e : textT (bs.drop s.1) m = ((ls.drop 2).take (leV (ls.take 2)).toNat, 2 + (leV (ls.take 2)).toNat, 0) := by rw [hls]; unfold textT; rw [if_neg h1, if_neg h2, if_neg h3]
  rw [e]
  simp only [if_true]
  have hlen2 : (ls.take 2).length = 2 := by simp; omega
  have hbd := leV_bd (ls.take 2) (fun z hz => hlb z (List.mem_of_mem_take hz))
  have hle := le_leV (ls.take 2) (fun z hz => hlb z (List.mem_of_mem_take hz))
  rw [hlen2] at hbd hle
  obtain ⟨n, hn⟩ := Int.eq_ofNat_of_zero_le hbd.1
  rw [hn] at hle h3 ⊢
  rw [Int.toNat_natCast] at h3 ⊢
  have hlt2 : ((ls.drop 2).take n).length = n := by simp; omega
  have hsz : (strOfNums ((ls.drop 2).take n)).size = n := by rw [strOfNums_size, hlt2]
  unfold txF
  rw [hsz, hle, tx_str _ (fun z hz => hlb z (List.mem_of_mem_drop (List.mem_of_mem_take hz))), ← List.take_add, ← List.drop_drop, hls, List.take_append_drop]
theorem bodE_ok {bs : List Int} {K : Int} (h : bodE bs K = 0) : 13 ≤ bs.length ∧ bs.length ≤ 65536 ∧ leV (bs.take 4) = ((bs.length - 4 : Nat) : Int) ∧ leV (endF bs) = (shaD (midF bs)).a ∧ (midF bs).getD 0 0 = K := by
  unfold bodE at h
  by_cases h1 : bs.length < 13 ∨ 65536 < bs.length
  · rw [if_pos h1] at h; omega
  rw [if_neg h1] at h
  by_cases h2 : leV (bs.take 4) ≠ ((bs.length - 4 : Nat) : Int)
  · rw [if_pos h2] at h; omega
  rw [if_neg h2] at h
  by_cases h3 : leV (endF bs) ≠ (shaD (midF bs)).a
  · rw [if_pos h3] at h; omega
  rw [if_neg h3] at h
  by_cases h4 : (midF bs).getD 0 0 ≠ K
  · rw [if_pos h4] at h; omega
  exact ⟨by omega, by omega, Classical.not_not.1 h2, Classical.not_not.1 h3, Classical.not_not.1 h4⟩
theorem mid_one {bs : List Int} (h : 13 ≤ bs.length) : midF bs = [(midF bs).getD 0 0] ++ (midF bs).drop 1 := by
  rw [midF_cons h]
  rfl
theorem nu_mid {bs : List Int} (h : 13 ≤ bs.length) : (nuS (midF bs) (0, 0) 1).1 = (midF bs).getD 0 0 := by
  rw [nu1_of (by rw [midF_cons h]; simp)]
/-- Where the body is refused, the program refuses likewise. -/
theorem bod_q {bs : List Int} (h : bodE bs 1 ≠ 0) : rqE bs = bodE bs 1 := by
  unfold bodE rqE at *
  by_cases h1 : bs.length < 13 ∨ 65536 < bs.length
  · rw [if_pos h1, if_pos h1]
  rw [if_neg h1] at h
  rw [if_neg h1, if_neg h1]
  by_cases h2 : leV (bs.take 4) ≠ ((bs.length - 4 : Nat) : Int)
  · rw [if_pos h2, if_pos h2]
  rw [if_neg h2] at h
  rw [if_neg h2, if_neg h2]
  by_cases h3 : leV (endF bs) ≠ (shaD (midF bs)).a
  · rw [if_pos h3, if_pos h3]
  rw [if_neg h3] at h
  rw [if_neg h3, if_neg h3, nu_mid (by omega)]
  by_cases h4 : (midF bs).getD 0 0 ≠ 1
  · rw [if_pos h4, if_pos h4]
  · rw [if_neg h4] at h; exact absurd rfl h
theorem bod_a {bs : List Int} (h : bodE bs 2 ≠ 0) : raE bs = bodE bs 2 := by
  unfold bodE raE at *
  by_cases h1 : bs.length < 13 ∨ 65536 < bs.length
  · rw [if_pos h1, if_pos h1]
  rw [if_neg h1] at h
  rw [if_neg h1, if_neg h1]
  by_cases h2 : leV (bs.take 4) ≠ ((bs.length - 4 : Nat) : Int)
  · rw [if_pos h2, if_pos h2]
  rw [if_neg h2] at h
  rw [if_neg h2, if_neg h2]
  by_cases h3 : leV (endF bs) ≠ (shaD (midF bs)).a
  · rw [if_pos h3, if_pos h3]
  rw [if_neg h3] at h
  rw [if_neg h3, if_neg h3, nu_mid (by omega)]
  by_cases h4 : (midF bs).getD 0 0 ≠ 2
  · rw [if_pos h4, if_pos h4]
  · rw [if_neg h4] at h; exact absurd rfl h
theorem two_q {bs : List Int} (h : bodE bs 1 = 0) : rqE bs = 0 ∨ rqE bs = 230 := by
  obtain ⟨h1, h2, h3, h4, h5⟩ := bodE_ok h
  unfold rqE
  rw [if_neg (by omega), if_neg (by simp [h3]), if_neg (by simp [h4])]
  split
  · exact Or.inr rfl
  · split
    · exact Or.inr rfl
    · split
      · exact Or.inr rfl
      · exact Or.inl rfl
theorem two_a {bs : List Int} (h : bodE bs 2 = 0) : raE bs = 0 ∨ raE bs = 230 := by
  obtain ⟨h1, h2, h3, h4, h5⟩ := bodE_ok h
  unfold raE
  rw [if_neg (by omega), if_neg (by simp [h3]), if_neg (by simp [h4])]
  split
  · exact Or.inr rfl
  · split
    · exact Or.inr rfl
    · split
      · exact Or.inr rfl
      · exact Or.inl rfl
theorem bod_frm {bs : List Int} {K : Int} (hb : ∀ z ∈ bs, 0 ≤ z ∧ z < 256) (h : bodE bs K = 0) : bs = frm ([K] ++ (midF bs).drop 1) := by
  obtain ⟨h1, h2, h3, h4, h5⟩ := bodE_ok h
  rw [← h5, ← mid_one h1]
  exact frm_of hb h1 h3 h4
def f1 (bs : List Int) := nuS bs (0, 0) 1
def f2 (bs : List Int) := nuS bs (f1 bs).2 4
def f3 (bs : List Int) := nuS bs (f2 bs).2 1
def f4 (bs : List Int) := txM bs (f3 bs).2 240
def f5 (bs : List Int) := txM bs (f4 bs).2 240
def f6 (bs : List Int) := txM bs (f5 bs).2 240
def f7 (bs : List Int) := txM bs (f6 bs).2 240
def f8 (bs : List Int) := nuS bs (f7 bs).2 6
def f9 (bs : List Int) := nuS bs (f8 bs).2 6
def f10 (bs : List Int) := nuS bs (f9 bs).2 2
def f11 (bs : List Int) := byS bs (f10 bs).2 (f10 bs).1
/-- A request as the document takes it up. -/
def reqD (bs : List Int) (p : Option Addr) (n c : Nat) : Rq := ⟨(f1 bs).1, (f2 bs).1, (f3 bs).1, strOfNums (f4 bs).1, strOfNums (f5 bs).1, strOfNums (f6 bs).1, strOfNums (f7 bs).1, (f8 bs).1, (f9 bs).1, p, n, c⟩
def okQ (M : List Int) : Prop := doneS M.length (f11 M).2.1 (f11 M).2.2 = 0 ∧ MayQ (reqD M none (f11 M).1.length 0)
theorem done_ok {n p : Nat} {e : Int} (h : doneS n p e = 0) : e = 0 ∧ n ≤ p := by
  unfold doneS at h
  split at h
  · omega
  · rename_i hx; omega
theorem docQ_to {M : List Int} (hb : ∀ z ∈ M, 0 ≤ z ∧ z < 256) (h : okQ M) (p : Option Addr) (c : Nat) : M = bodyQ (reqD M p (f11 M).1.length c) (f11 M).1 := by
  obtain ⟨he, hend⟩ := done_ok h.1
  obtain ⟨e10, d10, l10⟩ := byS_inv (s := (f10 M).2) (k := (f10 M).1) he
  obtain ⟨e9, d9, b9, _⟩ := nuS_inv hb (s := (f9 M).2) (k := 2) e10
  obtain ⟨e8, d8, b8, _⟩ := nuS_inv hb (s := (f8 M).2) (k := 6) e9
  obtain ⟨e7, d7, b7, _⟩ := nuS_inv hb (s := (f7 M).2) (k := 6) e8
  obtain ⟨e6, d6⟩ := txM_inv hb (s := (f6 M).2) e7
  obtain ⟨e5, d5⟩ := txM_inv hb (s := (f5 M).2) e6
  obtain ⟨e4, d4⟩ := txM_inv hb (s := (f4 M).2) e5
  obtain ⟨e3, d3⟩ := txM_inv hb (s := (f3 M).2) e4
  obtain ⟨e2, d2, b2, _⟩ := nuS_inv hb (s := (f2 M).2) (k := 1) e3
  obtain ⟨e1, d1, b1, _⟩ := nuS_inv hb (s := (f1 M).2) (k := 4) e2
  obtain ⟨e0, d0, b0, _⟩ := nuS_inv hb (s := ((0, 0) : Rst)) (k := 1) e1
  have d0' : M = le (f1 M).1 1 ++ M.drop (f1 M).2.1 := d0
  have d1' : M.drop (f1 M).2.1 = le (f2 M).1 4 ++ M.drop (f2 M).2.1 := d1
  have d2' : M.drop (f2 M).2.1 = le (f3 M).1 1 ++ M.drop (f3 M).2.1 := d2
  have d3' : M.drop (f3 M).2.1 = txF (strOfNums (f4 M).1) ++ M.drop (f4 M).2.1 := d3
  have d4' : M.drop (f4 M).2.1 = txF (strOfNums (f5 M).1) ++ M.drop (f5 M).2.1 := d4
  have d5' : M.drop (f5 M).2.1 = txF (strOfNums (f6 M).1) ++ M.drop (f6 M).2.1 := d5
  have d6' : M.drop (f6 M).2.1 = txF (strOfNums (f7 M).1) ++ M.drop (f7 M).2.1 := d6
  have d7' : M.drop (f7 M).2.1 = le (f8 M).1 6 ++ M.drop (f8 M).2.1 := d7
  have d8' : M.drop (f8 M).2.1 = le (f9 M).1 6 ++ M.drop (f9 M).2.1 := d8
  have d9' : M.drop (f9 M).2.1 = le (f10 M).1 2 ++ M.drop (f10 M).2.1 := d9
  have d10' : M.drop (f10 M).2.1 = (f11 M).1 ++ M.drop (f11 M).2.1 := d10
  have dend : M.drop (f11 M).2.1 = [] := List.drop_eq_nil_of_le hend
  have hlen : (((f11 M).1.length : Nat) : Int) = (f10 M).1 := l10
  have e : M = le (f1 M).1 1 ++ (le (f2 M).1 4 ++ (le (f3 M).1 1 ++ (txF (strOfNums (f4 M).1) ++ (txF (strOfNums (f5 M).1) ++ (txF (strOfNums (f6 M).1) ++ (txF (strOfNums (f7 M).1) ++ (le (f8 M).1 6 ++ (le (f9 M).1 6 ++ (le (f10 M).1 2 ++ (f11 M).1))))))))) := by
    conv => lhs; rw [d0', d1', d2', d3', d4', d5', d6', d7', d8', d9', d10', dend, List.append_nil]
  conv => lhs; rw [e]
  unfold bodyQ reqD
  simp [txT, hlen]
theorem docQ_of {M : List Int} {r : Rq} {ds : List Int} (hm : MayQ r) (hl : ds.length = r.dl) (h : M = bodyQ r ds) : okQ M ∧ (f11 M).1 = ds ∧ ∀ p n c, reqD M p n c = ⟨r.ses, r.id, r.verb, r.name, r.item, r.other, r.path, r.at_, r.many, p, n, c⟩ := by
  have hd : M.drop 0 = le r.ses 1 ++ (le r.id 4 ++ (le r.verb 1 ++ (txF r.name ++ (txF r.item ++ (txF r.other ++ (txF r.path ++ (le r.at_ 6 ++ (le r.many 6 ++ (le r.dl 2 ++ (ds ++ [])))))))))) := by
    rw [h]
    unfold bodyQ
    simp [txT]
  obtain ⟨m0, m1, m2, m3, m4, m5, m6, m7, m8, m9⟩ := hm
  obtain ⟨a1, d1⟩ := nuS_fit (k := 1) hd (by omega) (by omega) (by omega) (by omega)
  obtain ⟨a2, d2⟩ := nuS_fit (k := 4) d1 (by omega) (by omega) (by omega) (by omega)
  obtain ⟨a3, d3⟩ := nuS_fit (k := 1) d2 (by omega) (by omega) (by omega) (by omega)
  obtain ⟨a4, d4⟩ := txM_fit (m := 240) d3 (by omega) (by omega)
  obtain ⟨a5, d5⟩ := txM_fit (m := 240) d4 (by omega) (by omega)
  obtain ⟨a6, d6⟩ := txM_fit (m := 240) d5 (by omega) (by omega)
  obtain ⟨a7, d7⟩ := txM_fit (m := 240) d6 (by omega) (by omega)
  obtain ⟨a8, d8⟩ := nuS_fit (k := 6) d7 (by omega) (by omega) (by omega) (by omega)
  obtain ⟨a9, d9⟩ := nuS_fit (k := 6) d8 (by omega) (by omega) (by omega) (by omega)
  obtain ⟨a10, d10⟩ := nuS_fit (k := 2) d9 (by omega) (by omega) (by omega) (by omega)
  obtain ⟨a11, d11⟩ := byS_fit d10 hl
  have c1 : f1 M = nuS M (0, 0) 1 := rfl
  have c1 := c1.trans a1
  have c2 : f2 M = nuS M (f1 M).2 4 := rfl
  rw [c1] at c2
  have c2 := c2.trans a2
  have c3 : f3 M = nuS M (f2 M).2 1 := rfl
  rw [c2] at c3
  have c3 := c3.trans a3
  have c4 : f4 M = txM M (f3 M).2 240 := rfl
  rw [c3] at c4
  have c4 := c4.trans a4
  have c5 : f5 M = txM M (f4 M).2 240 := rfl
  rw [c4] at c5
  have c5 := c5.trans a5
  have c6 : f6 M = txM M (f5 M).2 240 := rfl
  rw [c5] at c6
  have c6 := c6.trans a6
  have c7 : f7 M = txM M (f6 M).2 240 := rfl
  rw [c6] at c7
  have c7 := c7.trans a7
  have c8 : f8 M = nuS M (f7 M).2 6 := rfl
  rw [c7] at c8
  have c8 := c8.trans a8
  have c9 : f9 M = nuS M (f8 M).2 6 := rfl
  rw [c8] at c9
  have c9 := c9.trans a9
  have c10 : f10 M = nuS M (f9 M).2 2 := rfl
  rw [c9] at c10
  have c10 := c10.trans a10
  have c11 : f11 M = byS M (f10 M).2 (f10 M).1 := rfl
  rw [c10] at c11
  have c11 := c11.trans a11
  have hreq : ∀ p n c, reqD M p n c = ⟨r.ses, r.id, r.verb, r.name, r.item, r.other, r.path, r.at_, r.many, p, n, c⟩ := fun p n c => by
    unfold reqD
    rw [c1, c2, c3, c4, c5, c6, c7, c8, c9]
    simp only [str_txF]
  have hval : (f11 M).1 = ds := by rw [c11]
  refine ⟨⟨?_, ?_⟩, hval, hreq⟩
  · have hlen := congrArg List.length d11
    rw [List.length_drop, List.length_nil] at hlen
    rw [c11]
    unfold doneS
    dsimp only
    rw [if_neg (by omega)]
  · rw [hreq, hval]
    exact ⟨m0, m1, m2, m3, m4, m5, m6, m7, m8, by show ds.length ≤ 2048; omega⟩
theorem bodyQ_dp (r : Rq) (ds : List Int) (p : Option Addr) (n c : Nat) (h : n = r.dl) : bodyQ ⟨r.ses, r.id, r.verb, r.name, r.item, r.other, r.path, r.at_, r.many, p, n, c⟩ ds = bodyQ r ds := by subst h; rfl
/-- What the document reads as a request is what the program reads. -/
theorem doc_q {bs : List Int} (hb : ∀ z ∈ bs, 0 ≤ z ∧ z < 256) (h : bodE bs 1 = 0) : (okQ ((midF bs).drop 1) → rqE bs = 0 ∧ rqD bs = (f11 ((midF bs).drop 1)).1 ∧ ∀ p n c, rqG bs p n c = reqD ((midF bs).drop 1) p n c) ∧ (¬ okQ ((midF bs).drop 1) → rqE bs = 230) := by
  have hf := bod_frm hb h
  have hmb := midF_bd hb
  have hmm := (bodE_ok h).1
  have h1 := (bodE_ok h).2.2.2.2
  have hone := mid_one hmm
  rw [h1] at hone
  obtain ⟨M, hM⟩ : ∃ M, (midF bs).drop 1 = M := ⟨_, rfl⟩
  have hMb : ∀ z ∈ M, 0 ≤ z ∧ z < 256 := fun z hz => hmb z (by rw [← hM] at hz; exact List.mem_of_mem_drop hz)
  rw [hM] at hf hone ⊢
  refine ⟨fun hok => ?_, fun hok => ?_⟩
  · have hbody := docQ_to hMb hok none 0
    have hbs : bs = frm (inQ (reqD M none (f11 M).1.length 0) (f11 M).1) := by
      unfold inQ
      rw [← hbody]
      exact hf
    obtain ⟨g1, g2, g3⟩ := back_q hok.2 (rfl : (f11 M).1.length = (reqD M none (f11 M).1.length 0).dl)
    rw [← hbs] at g1 g2 g3
    exact ⟨g1, g2, fun p n c => g3 p n c⟩
  · rcases two_q h with h0 | h0
    · exfalso
      obtain ⟨g1, g2⟩ := back_b hb h0 none 0
      have g3 := (frm_parts (inQ (rqG bs none (rqD bs).length 0) (rqD bs))).2.1
      rw [g2, hone] at g3
      have g4 : M = bodyQ (rqG bs none (rqD bs).length 0) (rqD bs) := by
        unfold inQ at g3
        exact List.append_cancel_left g3
      have hdl : (rqD bs).length = (rqG bs none (rqD bs).length 0).dl := by unfold rqG; rw [if_pos h0]; rfl
      exact hok (docQ_of g1 hdl g4).1
    · exact h0
end
end Go.Proofs.YtignoocdeghiaaaDoor
