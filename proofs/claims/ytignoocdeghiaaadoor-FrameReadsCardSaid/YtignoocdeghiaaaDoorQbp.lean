/- The law's reads: any bytes are read by the program as the document says. FrameReads for any bytes and any kind. -/
import Derived.Test.YtignoocdeghiaaaDoorQbo
import Derived.Test.YtignoocdeghiaaaDoorQbh
import Derived.Test.YtignoocdeghiaaaDoorQap
import Derived.Test.YtignoocdeghiaaaDoorQau
import Derived.Test.YtignoocdeghiaaaDoorQbl
import Derived.Test.YtignoocdeghiaaaDoorQay
namespace Go.Proofs.YtignoocdeghiaaaDoor
section
open Go.RowKit Go.Lib
set_option maxRecDepth 100000

theorem rqG_fix (bs : List Int) : ∃ (ses id verb : Int) (name item other path : ByteArray) (at_ many : Int), ∀ p n c, n = (rqD bs).length → ∃ p' n' c', (rqG bs p n c).arr = #[.int .i64 ses, .int .i64 id, .int .i64 verb, .string name, .string item, .string other, .string path, .int .i64 at_, .int .i64 many, .slice p' n' c'] ∧ (rqD bs).length = n' ∧ ∀ w : World, Rd w p (rqD bs) → Rd w p' (rqD bs) := by
  by_cases h : rqE bs = 0
  · refine ⟨(reqT (midF bs) (s0F bs) none 0 0).ses, (reqT (midF bs) (s0F bs) none 0 0).id, (reqT (midF bs) (s0F bs) none 0 0).verb, (reqT (midF bs) (s0F bs) none 0 0).name, (reqT (midF bs) (s0F bs) none 0 0).item, (reqT (midF bs) (s0F bs) none 0 0).other, (reqT (midF bs) (s0F bs) none 0 0).path, (reqT (midF bs) (s0F bs) none 0 0).at_, (reqT (midF bs) (s0F bs) none 0 0).many, fun p n c hn => ⟨p, n, c, ?_, hn.symm, fun w h => h⟩⟩
    unfold rqG; rw [if_pos h]; rfl
  · refine ⟨0, 0, 0, ⟨#[]⟩, ⟨#[]⟩, ⟨#[]⟩, ⟨#[]⟩, 0, 0, fun p n c hn => ⟨none, 0, 0, ?_, ?_, fun w _ => ?_⟩⟩
    · unfold rqG; rw [if_neg h]; rfl
    · unfold rqD; rw [if_neg h]; rfl
    · unfold rqD; rw [if_neg h]; exact Or.inl rfl
theorem raG_fix (bs : List Int) : ∃ (ses id err num : Int) (text : ByteArray), ∀ lp ln lc p n c, ln = (raL bs).length → n = (raD bs).length → ∃ lp' ln' lc' p' n' c', (raG bs lp ln lc p n c).arr = #[.int .i64 ses, .int .i64 id, .int .i64 err, .int .i64 num, .string text, .slice lp' ln' lc', .slice p' n' c'] ∧ (raL bs).length = ln' ∧ (raD bs).length = n' ∧ (∀ w : World, RdL w lp (raL bs) → RdL w lp' (raL bs)) ∧ ∀ w : World, Rd w p (raD bs) → Rd w p' (raD bs) := by
  by_cases h : raE bs = 0
  · refine ⟨(repT (midF bs) (s0F bs) none 0 0 none 0 0).ses, (repT (midF bs) (s0F bs) none 0 0 none 0 0).id, (repT (midF bs) (s0F bs) none 0 0 none 0 0).err, (repT (midF bs) (s0F bs) none 0 0 none 0 0).num, (repT (midF bs) (s0F bs) none 0 0 none 0 0).text, fun lp ln lc p n c hl hn => ⟨lp, ln, lc, p, n, c, ?_, hl.symm, hn.symm, fun w h => h, fun w h => h⟩⟩
    unfold raG; rw [if_pos h]; rfl
  · refine ⟨0, 0, 0, 0, ⟨#[]⟩, fun lp ln lc p n c hl hn => ⟨none, 0, 0, none, 0, 0, ?_, ?_, ?_, fun w _ => ?_, fun w _ => ?_⟩⟩
    · unfold raG; rw [if_neg h]; rfl
    · unfold raL; rw [if_neg h]; rfl
    · unfold raD; rw [if_neg h]; rfl
    · unfold raL; rw [if_neg h]; exact Or.inl rfl
    · unfold raD; rw [if_neg h]; exact Or.inl rfl
theorem raL_len {bs : List Int} (hb : ∀ z ∈ bs, 0 ≤ z ∧ z < 256) : (raL bs).length ≤ 240 := by
  by_cases h : raE bs = 0
  · have h1 := (back_ba hb h none 0 none 0).1
    obtain ⟨_, _, _, _, _, h2, _⟩ := h1
    have h3 : (raG bs none (raL bs).length 0 none (raD bs).length 0).ln = (raL bs).length := by unfold raG; rw [if_pos h]; rfl
    rw [h3] at h2
    exact h2
  · unfold raL; rw [if_neg h]; simp
set_option maxHeartbeats 51200000 in
theorem readsLaw1_any (p : Option Addr) (n c : Nat) (bs : List Int) (w : World) (hn : bs.length = n) (hnc : n ≤ c) (hc : c ≤ 9223372036854775807) (hrd : Rd w p bs) (hn0 : bs = [] → p = none → c = 0) (hb : ∀ z ∈ bs, 0 ≤ z ∧ z < 256) (hmx : n ≤ 140737488355328) (hpr : Primes w) (hv : Vars w) :
    Calls Tryd.prog 14 #[.slice p n c] w fun e w' => e = .returned (.bool true) ∧ Frm [] w w' := by
  obtain ⟨PO, hPO⟩ : ∃ PO : Ending → World → Prop, (fun e w' => e = .returned (.bool true) ∧ Frm [] w w') = PO := ⟨_, rfl⟩
  rw [hPO]
  have HP : Hid (∀ w', Frm [] w w' → PO (.returned (.bool true)) w') := hid (fun w' h => by rw [← hPO]; exact ⟨rfl, h⟩)
  have HLN := hid hn
  have HN0 := hid hn0
  have HRD := hid (fun W (hf : Frm [] w W) => hrd.kept hf (by simp))
  have HQ := hid (fun W (hf : Frm [] w W) q m d (ho : Own W 5 (.slice q m d) bs) => readRequest_any q m d bs W (own_capD ho).1 (own_capD ho).2.1 ho.rd hb (hpr.kept hf))
  have HA := hid (fun W (hf : Frm [] w W) q m d (ho : Own W 5 (.slice q m d) bs) => readReply_any q m d bs W (own_capD ho).1 (own_capD ho).2.1 ho.rd hb (hpr.kept hf))
  have HRQ := hid (fun W (hf : Frm [] w W) => refReadRequest_any p n c bs W hn hnc hc (hrd.kept hf (by simp)) hb (hv.kept hf))
  have HRA := hid (fun W (hf : Frm [] w W) => refReadReply_any p n c bs W hn hnc hc (hrd.kept hf (by simp)) hb (hv.kept hf))
  have HLL := hid (raL_len hb)
  have HCV := hid (fun W (hf : Frm [] w W) => cv_any (P := Tryd.prog) (w := W) 22 5 9 Tryd.underlying22 Tryd.underlying5 Tryd.underlying9 (hrd.kept hf (by simp)) c hn)
  have HMX := hid hmx
  obtain ⟨ses, id, verb, name, item, other, path, at_, many, hgq⟩ := rqG_fix bs
  obtain ⟨ase, aid, err, num, text, hga⟩ := raG_fix bs
  have HGQ := hid hgq
  have HGA := hid hga
  obtain ⟨E1, hE1⟩ : ∃ z, rqE bs = z := ⟨_, rfl⟩
  obtain ⟨E2, hE2⟩ : ∃ z, raE bs = z := ⟨_, rfl⟩
  unfold ReadQA at HQ HRQ
  unfold ReadAA at HA HRA
  rw [hE1] at HQ HRQ
  rw [hE2] at HA HRA
  obtain ⟨ds, hds⟩ : ∃ z, rqD bs = z := ⟨_, rfl⟩
  obtain ⟨L, hL⟩ : ∃ z, raL bs = z := ⟨_, rfl⟩
  obtain ⟨da, hda⟩ : ∃ z, raD bs = z := ⟨_, rfl⟩
  rw [hds] at HQ HRQ HGQ
  rw [hL, hda] at HA HRA HGA
  rw [hL] at HLL
  clear hPO hn hnc hc hrd hn0 hb hpr hv hgq hga hE1 hE2 hds hL hda
  go_enter Tryd.func14, Tryd.ntmps14
  go_wp2_with (at_builtin; refine wpList_appB rfl _ _ 22 rfl 5 Tryd.underlying22 infoB none 0 0 [] rfl rfl (Own.nil _ _) p n c bs rfl HLN.out.symm HN0.out (HRD.out w (Frm.refl _ _)) (by rw [HLN.out]; simp; exact HMX.out) ?_)
  intro xs p1 c1 w1 hxs ho1 hf1 hb1
  obtain rfl : xs = bs := by simpa using hxs.out
  have HF1 : Hid (Frm [] w w1) := hid (hf1.out.mono (by simp [blk]))
  have HB1 : Hid (∀ k ∈ blk p1, w.heap.size ≤ k ∧ k < w1.heap.size) := hid (fun k hk => ⟨(hb1.out k hk).elim (fun h => by simp [blk] at h) (fun h => h), own_lowF ho1.out k hk⟩)
  have HO1 := hid ho1.out
  rw [HLN.out] at HO1 ⊢
  have HC1 := hid (HQ.out w1 HF1.out _ _ _ HO1.out)
  clear hxs ho1 hf1 hb1 HQ
  go_wp2_with fail
  refine HC1.out.mono ?_
  rintro e w2 ⟨p2, n2, c2, rfl, hn2, ho2, hb2, hf2⟩
  obtain ⟨p2', n2', c2', he2, hl2, hr2⟩ := HGQ.out p2 n2 c2 hn2
  rw [he2]
  have HO2 := hid ho2
  have HB2 := hid hb2
  have HF2 := hid hf2
  have HR2 := hid hr2
  have HL2 := hid hl2
  clear hn2 ho2 hb2 hf2 he2 hr2 hl2 HC1
  obtain ⟨b3, hb3⟩ : ∃ z, w2.heap.size = z := ⟨_, rfl⟩
  obtain ⟨w3, hw3⟩ : ∃ z, w2.alloc (.cells #[.int .i64 ses, .int .i64 id, .int .i64 verb, .string name, .string item, .string other, .string path, .int .i64 at_, .int .i64 many, .slice p2' n2' c2'] 24) = z := ⟨_, rfl⟩
  have hrow3 := heap_alloc_new w2 (.cells #[.int .i64 ses, .int .i64 id, .int .i64 verb, .string name, .string item, .string other, .string path, .int .i64 at_, .int .i64 many, .slice p2' n2' c2'] 24)
  rw [hw3, hb3] at hrow3
  have hf3 : Frm [] w2 w3 := by rw [← hw3]; exact (Frm.refl _ _).alloc _
  have HROW3 := hid hrow3
  have HFA3 := hid hf3
  have HSZ3 := hid hb3
  have HF3 : Hid (Frm [] w w3) := hid ((HF1.out.trans HF2.out (by simp)).trans hf3 (by simp))
  have HO3 : Hid (Own w3 5 (.slice p1 n c1) xs) := hid ((HO1.out.kept HF2.out (by simp)).kept hf3 (by simp))
  have HC3 := hid (HA.out w3 HF3.out _ _ _ HO3.out)
  have HW3 := hid hw3
  have HQ3 := hid hb3
  clear hrow3 hf3 hw3 hb3 HA
  go_upto_region 4 with fail
  first | rw [HQ3.out] | skip
  first | rw [HW3.out] | skip
  clear HQ3 HW3
  go_wp2_with fail
  refine HC3.out.mono ?_
  rintro e w4 ⟨lp4, ln4, lc4, p4, n4, c4, rfl, hn4, ho4, hb4, hln4, hrl4, hbl4, hf4⟩
  obtain ⟨lp4', ln4', lc4', p4', n4', c4', he4, hl4, hm4, hk4, hr4⟩ := HGA.out lp4 ln4 lc4 p4 n4 c4 hln4 hn4
  rw [he4]
  have HO4 := hid ho4
  have HB4 := hid hb4
  have HRL4 := hid hrl4
  have HBL4 := hid hbl4
  have HF4 := hid hf4
  have HR4 := hid hr4
  have HK4 := hid hk4
  have HL4 := hid hl4
  have HM4 := hid hm4
  clear hn4 ho4 hb4 hln4 hrl4 hbl4 hf4 he4 hr4 hk4 hl4 hm4 HC3
  obtain ⟨b5, hb5⟩ : ∃ z, w4.heap.size = z := ⟨_, rfl⟩
  obtain ⟨w5, hw5⟩ : ∃ z, w4.alloc (.cells #[.int .i64 ase, .int .i64 aid, .int .i64 err, .int .i64 num, .string text, .slice lp4' ln4' lc4', .slice p4' n4' c4'] 32) = z := ⟨_, rfl⟩
  have hrow5 := heap_alloc_new w4 (.cells #[.int .i64 ase, .int .i64 aid, .int .i64 err, .int .i64 num, .string text, .slice lp4' ln4' lc4', .slice p4' n4' c4'] 32)
  rw [hw5, hb5] at hrow5
  have hf5 : Frm [] w4 w5 := by rw [← hw5]; exact (Frm.refl _ _).alloc _
  have HROW5 := hid hrow5
  have HFA5 := hid hf5
  have HSZ5 := hid hb5
  have HF5 : Hid (Frm [] w w5) := hid ((HF3.out.trans HF4.out (by simp)).trans hf5 (by simp))
  have HO5 : Hid (Own w5 5 (.slice p1 n c1) xs) := hid ((HO3.out.kept HF4.out (by simp)).kept hf5 (by simp))
  have cv1 := cv_any (P := Tryd.prog) (w := w5) 22 5 9 Tryd.underlying22 Tryd.underlying5 Tryd.underlying9 HO5.out.rd c1 HLN.out
  have cv2 := HCV.out w5 HF5.out
  have HW5 := hid hw5
  have HQ5 := hid hb5
  clear hrow5 hf5 hw5 hb5
  go_upto_region 5 with fail
  first | rw [HQ5.out] | skip
  first | rw [HW5.out] | skip
  clear HQ5 HW5
  go_wp2_with fail
  clear cv1 cv2
  go_loopw [9] (fun i wr => ∃ (j : Nat) (ys : List Int), j ≤ n ∧ i = .int .i64 (j : Int) ∧ Hid (ys.length = n) ∧ Hid (Own wr 5 (.slice p1 n c1) ys) ∧ Hid (Frm (blk p1) w5 wr)) (fun i _ => n - (intOf i).toNat)
  case atStart => exact ⟨0, xs, Nat.zero_le _, rfl, HLN, HO5, hid (Frm.refl _ _)⟩
  case round =>
    obtain ⟨j, ys, hj, rfl, hy, ho, hf⟩ := hrel
    by_cases hltj : j < n
    case pos =>
      have j1 : (j : Int) < (n : Int) := by omega
      obtain ⟨g, rfl, hg, hc, hz, hset⟩ := ho.out.setAt hy.out hltj
      have HSET := hid hset
      clear hset
      go_wp2_with fail
      go_roundw
      case rel => exact ⟨j + 1, ys.set j 99, by omega, by go_num, hid (by rw [List.length_set]; exact hy.out), hid (HSET.out 99), hid (hf.out.setCell _ _ (by simp [blk]))⟩
      case measure => first | (simp [intOf]; done) | (simp [intOf]; omega)
    obtain rfl : j = n := by omega
    have HFL := hid hf.out
    clear hy ho hf hltj hj
    generalize wr = w6 at *
    have s1 := HF2.out.size
    have s2 := HSZ3.out
    have s3 := HFA3.out.size
    have s4 := HF4.out.size
    have s5 := HSZ5.out
    have HF6 : Hid (Frm [] w w6) := hid (HF5.out.trans HFL.out (fun i hi hl => by have := HB1.out i hi; omega))
    have HX3 : Hid (w6.heap[b3]? = some (.cells #[.int .i64 ses, .int .i64 id, .int .i64 verb, .string name, .string item, .string other, .string path, .int .i64 at_, .int .i64 many, .slice p2' n2' c2'] 24 (0, 0))) := hid (HFL.out.heap ((HF4.out.heap HROW3.out (by simp)) |> fun h => HFA5.out.heap h (by simp)) (fun hm => by have := HB1.out _ hm; omega))
    have HX5 : Hid (w6.heap[b5]? = some (.cells #[.int .i64 ase, .int .i64 aid, .int .i64 err, .int .i64 num, .string text, .slice lp4' ln4' lc4', .slice p4' n4' c4'] 32 (0, 0))) := hid (HFL.out.heap HROW5.out (fun hm => by have := HB1.out _ hm; omega))
    have HD3 : Hid (Rd w6 p2' ds) := hid (HR2.out _ (((((HO2.out.kept HFA3.out (by simp)).kept HF4.out (by simp)).kept HFA5.out (by simp)).kept HFL.out (by rw [own_blk]; exact fun k hk hm => by have h1 := HB1.out k hm; have h2 := HB2.out k hk; omega)).rd))
    have HD5 : Hid (Rd w6 p4' da) := hid (HR4.out _ (((HO4.out.kept HFA5.out (by simp)).kept HFL.out (by rw [own_blk]; exact fun k hk hm => by have h1 := HB1.out k hm; have h2 := HB4.out k hk; have h3 := HF2.out.size; omega)).rd))
    have HK5 : Hid (RdL w6 lp4' L) := hid (HK4.out _ ((HRL4.out.kept HFA5.out (by simp)).kept HFL.out (fun k hk hm => by have h1 := HB1.out k hm; have h2 := HBL4.out k hk; omega)))
    clear s1 s2 s3 s4 s5 HFL HO5 HO3 HO1 HF5 HF3 HROW3 HROW5 HSZ3 HSZ5 HFA3 HFA5 HF4 HF2 HO2 HO4 HRL4 HB2 HB4 HBL4 HR2 HR4 HK4 HB1 HF1 HRD HCV HN0 HMX
    go_wp2_with fail
    refine (HRQ.out w6 HF6.out).mono ?_
    rintro e w7 ⟨p7, n7, c7, rfl, hn7, ho7, hb7, hf7⟩
    obtain ⟨p7', n7', c7', he7, hl7, hr7⟩ := HGQ.out p7 n7 c7 hn7
    rw [he7]
    have HD7 := hid (hr7 _ ho7.rd)
    have HL7 := hid hl7
    have HF7 := hid hf7
    clear hn7 ho7 hb7 he7 hr7 hl7 hf7
    obtain ⟨b8, hb8⟩ : ∃ z, w7.heap.size = z := ⟨_, rfl⟩
    obtain ⟨w8, hw8⟩ : ∃ z, w7.alloc (.cells #[.int .i64 ses, .int .i64 id, .int .i64 verb, .string name, .string item, .string other, .string path, .int .i64 at_, .int .i64 many, .slice p7' n7' c7'] 24) = z := ⟨_, rfl⟩
    have hrow8 := heap_alloc_new w7 (.cells #[.int .i64 ses, .int .i64 id, .int .i64 verb, .string name, .string item, .string other, .string path, .int .i64 at_, .int .i64 many, .slice p7' n7' c7'] 24)
    rw [hw8, hb8] at hrow8
    have hf8 : Frm [] w7 w8 := by rw [← hw8]; exact (Frm.refl _ _).alloc _
    have HROW8 := hid hrow8
    have HFA8 := hid hf8
    have HSZ8 := hid hb8
    have HF8 : Hid (Frm [] w6 w8) := hid (HF7.out.trans hf8 (by simp))
    have HW8 := hid hw8
    have HQ8 := hid hb8
    clear hrow8 hf8 hw8 hb8
    go_upto_region 11 with fail
    first | rw [HQ8.out] | skip
    first | rw [HW8.out] | skip
    clear HQ8 HW8
    go_wp2_with fail
    refine (HRA.out w8 (HF6.out.trans HF8.out (by simp))).mono ?_
    rintro e w9 ⟨lp9, ln9, lc9, p9, n9, c9, rfl, hn9, ho9, hb9, hln9, hrl9, hbl9, hf9⟩
    obtain ⟨lp9', ln9', lc9', p9', n9', c9', he9, hl9, hm9, hk9, hr9⟩ := HGA.out lp9 ln9 lc9 p9 n9 c9 hln9 hn9
    rw [he9]
    have HD9 := hid (hr9 _ ho9.rd)
    have HK9 := hid (hk9 _ hrl9)
    have HL9 := hid hl9
    have HM9 := hid hm9
    have HF9 := hid hf9
    clear hn9 ho9 hb9 hln9 hrl9 hbl9 hf9 he9 hr9 hk9 hl9 hm9
    obtain ⟨b10, hb10⟩ : ∃ z, w9.heap.size = z := ⟨_, rfl⟩
    obtain ⟨w10, hw10⟩ : ∃ z, w9.alloc (.cells #[.int .i64 ase, .int .i64 aid, .int .i64 err, .int .i64 num, .string text, .slice lp9' ln9' lc9', .slice p9' n9' c9'] 32) = z := ⟨_, rfl⟩
    have hrow10 := heap_alloc_new w9 (.cells #[.int .i64 ase, .int .i64 aid, .int .i64 err, .int .i64 num, .string text, .slice lp9' ln9' lc9', .slice p9' n9' c9'] 32)
    rw [hw10, hb10] at hrow10
    have hf10 : Frm [] w9 w10 := by rw [← hw10]; exact (Frm.refl _ _).alloc _
    have HROW10 := hid hrow10
    have HFA10 := hid hf10
    have HSZ10 := hid hb10
    have HF10 : Hid (Frm [] w8 w10) := hid (HF9.out.trans hf10 (by simp))
    have hfx : Frm [] w6 w10 := HF8.out.trans HF10.out (by simp)
    obtain rfl : n7' = n2' := by rw [← HL7.out, HL2.out]
    obtain rfl : n9' = n4' := by rw [← HM9.out, HM4.out]
    obtain rfl : ln9' = ln4' := by rw [← HL9.out, HL4.out]
    have HSQ := hid (sameQ_any ses id verb name item other path at_ many p2' p7' n7' c2' n7' c7' ds w10 (HD3.out.kept hfx (by simp)) ((HD7.out.kept HFA8.out (by simp)).kept HF10.out (by simp)) HL7.out HL7.out)
    have HSA := hid (fun W (hf : Frm [] w10 W) => sameA_any ase aid err num text lp4' lp9' ln9' lc4' lc9' p4' p9' n9' c4' n9' c9' L da W HL9.out (by have := HLL.out; have := HL9.out; omega) ((HK5.out.kept hfx (by simp)).kept hf (by simp)) ((HK9.out.kept HFA10.out (by simp)).kept hf (by simp)) ((HD5.out.kept hfx (by simp)).kept hf (by simp)) ((HD9.out.kept HFA10.out (by simp)).kept hf (by simp)) HM9.out HM9.out)
    have HZ3 : Hid (w10.heap[b3]? = some (.cells #[.int .i64 ses, .int .i64 id, .int .i64 verb, .string name, .string item, .string other, .string path, .int .i64 at_, .int .i64 many, .slice p2' n7' c2'] 24 (0, 0))) := hid (hfx.heap HX3.out (by simp))
    have HZ5 : Hid (w10.heap[b5]? = some (.cells #[.int .i64 ase, .int .i64 aid, .int .i64 err, .int .i64 num, .string text, .slice lp4' ln9' lc4', .slice p4' n9' c4'] 32 (0, 0))) := hid (hfx.heap HX5.out (by simp))
    have HZ8 : Hid (w10.heap[b8]? = some (.cells #[.int .i64 ses, .int .i64 id, .int .i64 verb, .string name, .string item, .string other, .string path, .int .i64 at_, .int .i64 many, .slice p7' n7' c7'] 24 (0, 0))) := hid (HF10.out.heap HROW8.out (by simp))
    have HZ10 := hid HROW10.out
    have HFW : Hid (Frm [] w w10) := hid (HF6.out.trans hfx (by simp))
    have HW10 := hid hw10
    have HQ10 := hid hb10
    clear hrow10 hf10 hw10 hb10 hfx HX3 HX5 HROW8 HROW10 HSZ8 HSZ10 HFA8 HFA10 HF8 HF9 HF10 HF7 HD3 HD5 HD7 HD9 HK5 HK9 HRQ HRA HGQ HGA
    have u0 : w10.cell? ⟨b3, 0, none⟩ = some (.int .i64 ses) := by rw [cell_of_row _ _ _ _ _ _ (HZ3.out)]; rfl
    have u1 : w10.cell? ⟨b3, 1, none⟩ = some (.int .i64 id) := by rw [cell_of_row _ _ _ _ _ _ (HZ3.out)]; rfl
    have u2 : w10.cell? ⟨b3, 2, none⟩ = some (.int .i64 verb) := by rw [cell_of_row _ _ _ _ _ _ (HZ3.out)]; rfl
    have u3 : w10.cell? ⟨b3, 3, none⟩ = some (.string name) := by rw [cell_of_row _ _ _ _ _ _ (HZ3.out)]; rfl
    have u4 : w10.cell? ⟨b3, 4, none⟩ = some (.string item) := by rw [cell_of_row _ _ _ _ _ _ (HZ3.out)]; rfl
    have u5 : w10.cell? ⟨b3, 5, none⟩ = some (.string other) := by rw [cell_of_row _ _ _ _ _ _ (HZ3.out)]; rfl
    have u6 : w10.cell? ⟨b3, 6, none⟩ = some (.string path) := by rw [cell_of_row _ _ _ _ _ _ (HZ3.out)]; rfl
    have u7 : w10.cell? ⟨b3, 7, none⟩ = some (.int .i64 at_) := by rw [cell_of_row _ _ _ _ _ _ (HZ3.out)]; rfl
    have u8 : w10.cell? ⟨b3, 8, none⟩ = some (.int .i64 many) := by rw [cell_of_row _ _ _ _ _ _ (HZ3.out)]; rfl
    have u9 : w10.cell? ⟨b3, 9, none⟩ = some (.slice p2' n7' c2') := by rw [cell_of_row _ _ _ _ _ _ (HZ3.out)]; rfl
    have x0 : w10.cell? ⟨b8, 0, none⟩ = some (.int .i64 ses) := by rw [cell_of_row _ _ _ _ _ _ (HZ8.out)]; rfl
    have x1 : w10.cell? ⟨b8, 1, none⟩ = some (.int .i64 id) := by rw [cell_of_row _ _ _ _ _ _ (HZ8.out)]; rfl
    have x2 : w10.cell? ⟨b8, 2, none⟩ = some (.int .i64 verb) := by rw [cell_of_row _ _ _ _ _ _ (HZ8.out)]; rfl
    have x3 : w10.cell? ⟨b8, 3, none⟩ = some (.string name) := by rw [cell_of_row _ _ _ _ _ _ (HZ8.out)]; rfl
    have x4 : w10.cell? ⟨b8, 4, none⟩ = some (.string item) := by rw [cell_of_row _ _ _ _ _ _ (HZ8.out)]; rfl
    have x5 : w10.cell? ⟨b8, 5, none⟩ = some (.string other) := by rw [cell_of_row _ _ _ _ _ _ (HZ8.out)]; rfl
    have x6 : w10.cell? ⟨b8, 6, none⟩ = some (.string path) := by rw [cell_of_row _ _ _ _ _ _ (HZ8.out)]; rfl
    have x7 : w10.cell? ⟨b8, 7, none⟩ = some (.int .i64 at_) := by rw [cell_of_row _ _ _ _ _ _ (HZ8.out)]; rfl
    have x8 : w10.cell? ⟨b8, 8, none⟩ = some (.int .i64 many) := by rw [cell_of_row _ _ _ _ _ _ (HZ8.out)]; rfl
    have x9 : w10.cell? ⟨b8, 9, none⟩ = some (.slice p7' n7' c7') := by rw [cell_of_row _ _ _ _ _ _ (HZ8.out)]; rfl
    have y0 : w10.cell? ⟨b5, 0, none⟩ = some (.int .i64 ase) := by rw [cell_of_row _ _ _ _ _ _ (HZ5.out)]; rfl
    have y1 : w10.cell? ⟨b5, 1, none⟩ = some (.int .i64 aid) := by rw [cell_of_row _ _ _ _ _ _ (HZ5.out)]; rfl
    have y2 : w10.cell? ⟨b5, 2, none⟩ = some (.int .i64 err) := by rw [cell_of_row _ _ _ _ _ _ (HZ5.out)]; rfl
    have y3 : w10.cell? ⟨b5, 3, none⟩ = some (.int .i64 num) := by rw [cell_of_row _ _ _ _ _ _ (HZ5.out)]; rfl
    have y4 : w10.cell? ⟨b5, 4, none⟩ = some (.string text) := by rw [cell_of_row _ _ _ _ _ _ (HZ5.out)]; rfl
    have y5 : w10.cell? ⟨b5, 5, none⟩ = some (.slice lp4' ln9' lc4') := by rw [cell_of_row _ _ _ _ _ _ (HZ5.out)]; rfl
    have y6 : w10.cell? ⟨b5, 6, none⟩ = some (.slice p4' n9' c4') := by rw [cell_of_row _ _ _ _ _ _ (HZ5.out)]; rfl
    have v0 : w10.cell? ⟨b10, 0, none⟩ = some (.int .i64 ase) := by rw [cell_of_row _ _ _ _ _ _ (HZ10.out)]; rfl
    have v1 : w10.cell? ⟨b10, 1, none⟩ = some (.int .i64 aid) := by rw [cell_of_row _ _ _ _ _ _ (HZ10.out)]; rfl
    have v2 : w10.cell? ⟨b10, 2, none⟩ = some (.int .i64 err) := by rw [cell_of_row _ _ _ _ _ _ (HZ10.out)]; rfl
    have v3 : w10.cell? ⟨b10, 3, none⟩ = some (.int .i64 num) := by rw [cell_of_row _ _ _ _ _ _ (HZ10.out)]; rfl
    have v4 : w10.cell? ⟨b10, 4, none⟩ = some (.string text) := by rw [cell_of_row _ _ _ _ _ _ (HZ10.out)]; rfl
    have v5 : w10.cell? ⟨b10, 5, none⟩ = some (.slice lp9' ln9' lc9') := by rw [cell_of_row _ _ _ _ _ _ (HZ10.out)]; rfl
    have v6 : w10.cell? ⟨b10, 6, none⟩ = some (.slice p9' n9' c9') := by rw [cell_of_row _ _ _ _ _ _ (HZ10.out)]; rfl
    go_upto_region 12 with fail
    first | rw [HQ10.out] | skip
    first | rw [HW10.out] | skip
    clear HQ10 HW10
    go_wp2_with fail
    refine HSQ.out.mono ?_
    rintro e w11 ⟨rfl, hf11⟩
    have HF11 := hid hf11
    clear hf11 HSQ
    clear u0 u1 u2 u3 u4 u5 u6 u7 u8 u9 x0 x1 x2 x3 x4 x5 x6 x7 x8 x9 y0 y1 y2 y3 y4 y5 y6 v0 v1 v2 v3 v4 v5 v6
    have y0 : w11.cell? ⟨b5, 0, none⟩ = some (.int .i64 ase) := by rw [cell_of_row _ _ _ _ _ _ (HF11.out.heap HZ5.out (by simp))]; rfl
    have y1 : w11.cell? ⟨b5, 1, none⟩ = some (.int .i64 aid) := by rw [cell_of_row _ _ _ _ _ _ (HF11.out.heap HZ5.out (by simp))]; rfl
    have y2 : w11.cell? ⟨b5, 2, none⟩ = some (.int .i64 err) := by rw [cell_of_row _ _ _ _ _ _ (HF11.out.heap HZ5.out (by simp))]; rfl
    have y3 : w11.cell? ⟨b5, 3, none⟩ = some (.int .i64 num) := by rw [cell_of_row _ _ _ _ _ _ (HF11.out.heap HZ5.out (by simp))]; rfl
    have y4 : w11.cell? ⟨b5, 4, none⟩ = some (.string text) := by rw [cell_of_row _ _ _ _ _ _ (HF11.out.heap HZ5.out (by simp))]; rfl
    have y5 : w11.cell? ⟨b5, 5, none⟩ = some (.slice lp4' ln9' lc4') := by rw [cell_of_row _ _ _ _ _ _ (HF11.out.heap HZ5.out (by simp))]; rfl
    have y6 : w11.cell? ⟨b5, 6, none⟩ = some (.slice p4' n9' c4') := by rw [cell_of_row _ _ _ _ _ _ (HF11.out.heap HZ5.out (by simp))]; rfl
    have v0 : w11.cell? ⟨b10, 0, none⟩ = some (.int .i64 ase) := by rw [cell_of_row _ _ _ _ _ _ (HF11.out.heap HZ10.out (by simp))]; rfl
    have v1 : w11.cell? ⟨b10, 1, none⟩ = some (.int .i64 aid) := by rw [cell_of_row _ _ _ _ _ _ (HF11.out.heap HZ10.out (by simp))]; rfl
    have v2 : w11.cell? ⟨b10, 2, none⟩ = some (.int .i64 err) := by rw [cell_of_row _ _ _ _ _ _ (HF11.out.heap HZ10.out (by simp))]; rfl
    have v3 : w11.cell? ⟨b10, 3, none⟩ = some (.int .i64 num) := by rw [cell_of_row _ _ _ _ _ _ (HF11.out.heap HZ10.out (by simp))]; rfl
    have v4 : w11.cell? ⟨b10, 4, none⟩ = some (.string text) := by rw [cell_of_row _ _ _ _ _ _ (HF11.out.heap HZ10.out (by simp))]; rfl
    have v5 : w11.cell? ⟨b10, 5, none⟩ = some (.slice lp9' ln9' lc9') := by rw [cell_of_row _ _ _ _ _ _ (HF11.out.heap HZ10.out (by simp))]; rfl
    have v6 : w11.cell? ⟨b10, 6, none⟩ = some (.slice p9' n9' c9') := by rw [cell_of_row _ _ _ _ _ _ (HF11.out.heap HZ10.out (by simp))]; rfl
    have HSB := hid (HSA.out w11 HF11.out)
    clear HSA
    go_wp2_with fail
    refine HSB.out.mono ?_
    rintro e w12 ⟨rfl, hf12⟩
    have HF12 := hid hf12
    clear hf12 HSB y0 y1 y2 y3 y4 y5 y6 v0 v1 v2 v3 v4 v5 v6
    go_wp2_with fail
    first | go_returns | skip
    exact HP.out _ ((HFW.out.trans HF11.out (by simp)).trans HF12.out (by simp))
end
section
open Go.RowKit Go.Lib
set_option maxRecDepth 100000

theorem frm_bdU {b : List Int} (hb : ∀ z ∈ b, 0 ≤ z ∧ z < 256) : ∀ z ∈ frm b, 0 ≤ z ∧ z < 256 := by
  intro z hz
  unfold frm at hz
  rcases List.mem_append.1 hz with h | h
  · rcases List.mem_append.1 h with h | h
    · exact le_bd _ _ z h
    · exact hb z h
  · exact le_bd _ _ z h
set_option maxHeartbeats 6400000 in
theorem readsLaw_any (p : Option Addr) (n c : Nat) (k : Int) (bs : List Int) (w : World) (hn : bs.length = n) (hnc : n ≤ c) (hc : c ≤ 9223372036854775807) (hrd : Rd w p bs) (hn0 : bs = [] → p = none → c = 0) (hb : ∀ z ∈ bs, 0 ≤ z ∧ z < 256) (hmx : n ≤ 140737488351232) (hk1 : -9223372036854775808 ≤ k) (hk2 : k ≤ 9223372036854775807) (hpr : Primes w) (hv : Vars w) :
    Calls Tryd.prog 5 #[.slice p n c, .int .i64 k] w fun e w' => e = .returned (.bool true) ∧ Frm [] w w' := by
  obtain ⟨PO, hPO⟩ : ∃ PO : Ending → World → Prop, (fun e w' => e = .returned (.bool true) ∧ Frm [] w w') = PO := ⟨_, rfl⟩
  rw [hPO]
  have HP : Hid (∀ w', Frm [] w w' → PO (.returned (.bool true)) w') := hid (fun w' h => by rw [← hPO]; exact ⟨rfl, h⟩)
  have HAW := hid (awakeF_any w hpr)
  have HR1 := hid (fun W (hf : Frm [] w W) => readsLaw1_any p n c bs W hn hnc hc (hrd.kept hf (by simp)) hn0 hb (by omega) (hpr.kept hf) (hv.kept hf))
  have HPK := hid (fun W => pickF_any k 4 W (by omega) (by omega) hk1 hk2)
  have HFR := hid (fun K (h0 : 0 ≤ K) (h1 : K < 256) W (hf : Frm [] w W) => framedB_any K h0 h1 p n c bs W (hrd.kept hf (by simp)) hn hn0 hb (by omega) (hv.kept hf))
  have HBD : Hid (∀ K : Int, 0 ≤ K → K < 256 → ∀ z ∈ frm ([K] ++ bs), 0 ≤ z ∧ z < 256) := hid (fun K h0 h1 => frm_bdU (fun z hz => (List.mem_append.1 hz).elim (fun h => by rw [List.mem_singleton] at h; subst h; exact ⟨h0, h1⟩) (hb z)))
  have HLN : Hid (∀ K : Int, (frm ([K] ++ bs)).length = n + 13) := hid (fun K => by rw [frm_len]; simp [hn])
  have HR2 := hid (fun (bs' : List Int) W (hf : Frm [] w W) q m d (ho : Own W 5 (.slice q m d) bs') (h1 : ∀ z ∈ bs', 0 ≤ z ∧ z < 256) (h2 : m ≤ 140737488355328) => readsLaw1_any q m d bs' W (own_capD ho).1 (own_capD ho).2.1 (own_cpD ho) ho.rd (fun _ h => (own_capD ho).2.2 h) h1 h2 (hpr.kept hf) (hv.kept hf))
  have HMX := hid hmx
  clear hPO hn hnc hc hrd hn0 hb hmx hk1 hk2 hpr hv
  go_enter Tryd.func5, Tryd.ntmps5
  go_wp2_with fail
  refine HAW.out.mono ?_
  rintro e w1 ⟨rfl, hf1⟩
  have HF1 := hid hf1
  clear hf1 HAW
  go_wp2_with fail
  refine (HR1.out w1 HF1.out).mono ?_
  rintro e w2 ⟨rfl, hf2⟩
  have HF2 : Hid (Frm [] w w2) := hid (HF1.out.trans hf2 (by simp))
  clear hf2 HF1 HR1
  go_wp2_with fail
  refine (HPK.out w2).mono ?_
  rintro e _ ⟨⟨K, hK, rfl⟩, rfl⟩
  have HC3 := hid (HFR.out (K : Int) (by omega) (by omega) _ HF2.out)
  clear HFR HPK
  go_wp2_with fail
  refine HC3.out.mono ?_
  rintro e w3 ⟨p3, n3, c3, rfl, hb3⟩
  have HF3 : Hid (Frm [] w w3) := hid (HF2.out.trans hb3.nil.1 (by simp))
  have HC4 := hid (HR2.out _ w3 HF3.out p3 n3 c3 hb3.own (HBD.out (K : Int) (by omega) (by omega)) (by have h1 := hb3.len; have h2 := HLN.out (K : Int); have h3 := HMX.out; omega))
  clear hb3 HC3
  go_wp2_with fail
  refine HC4.out.mono ?_
  rintro e w4 ⟨rfl, hf4⟩
  have HF4 := hid hf4
  clear hf4 HC4
  go_wp2_with fail
  first | go_returns | skip
  exact HP.out _ (HF3.out.trans HF4.out (by simp))
end
end Go.Proofs.YtignoocdeghiaaaDoor
