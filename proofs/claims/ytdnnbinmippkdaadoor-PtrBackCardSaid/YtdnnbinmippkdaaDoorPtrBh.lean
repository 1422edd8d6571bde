/- The law PtrBack. -/
import Derived.Test.YtdnnbinmippkdaaDoorPtrBg
import Derived.Test.YtdnnbinmippkdaaDoorPtrAd
import Derived.Deep.DeepCutAuto
namespace Go.Proofs.YtdnnbinmippkdaaDoor
open Go.RowKit
set_option maxRecDepth 100000

theorem mine_byte {C : Int} {zs : List Int} (h : ∀ z ∈ zs, 0 ≤ z ∧ z < 256) : ∀ z ∈ (if C = 0 then zs else []), 0 ≤ z ∧ z < 256 := by
  split
  · exact h
  · simp
theorem sealB_byte {zs : List Int} (h : ∀ z ∈ zs, 0 ≤ z ∧ z < 256) : ∀ z ∈ sealB zs, 0 ≤ z ∧ z < 256 := app_byte h (sumL_byte _ _ _ _)
set_option maxHeartbeats 6400000 in
theorem ptrback_any (p : P9) (hp : p.ok) (l : LabV) (u : U12) (hu : u.ok) (bp : Option Addr) (bn bc : Nat) (bs : List Int) (hbl : bs.length = bn) (hbn : bn ≤ 140737488355328) (hbc : bn ≤ bc) (hbb : ∀ z ∈ bs, 0 ≤ z ∧ z < 256) (w : World) (hl : l.ok w) (hrd : Rd w bp bs) :
    Calls Tryd.prog 7 #[.agg p.arr, .agg l.arr, .agg u.arr, .slice bp bn bc] w fun e w' => e = .returned (.bool true) ∧ Frm [] w w' := by
  have HAW := hid awake4_any
  have HEP := hid (fun W => (encode_any p hp W).mono (fun e w' h => enc_mine h (by rw [ptrB_length]; omega)))
  have HEL := hid (fun W (h : Frm [] w W) => (encodeL_any l W (hl.kept h)).mono (fun e w' h => h))
  have HLN : Hid (checkL l = 0 → (sealB (labB l)).length = 128) := hid (fun h => by rw [sealB_length, labB_length (checkL_ok hl h).n])
  have HEU := hid (fun W => (encodeU_any u hu W).mono (fun e w' h => enc_mine h (by rw [sealB_length, uberB_length]; omega)))
  have HPF := hid (backP p hp)
  have HLF := hid (backL l w hl)
  have HUF := hid (backU u hu)
  have HPB := hid (mine_byte (C := checkP p) (ptrB_byte p))
  have HLB := hid (mine_byte (C := checkL l) (sealB_byte (labB_byte l)))
  have HUB := hid (mine_byte (C := checkU u) (sealB_byte (uberB_byte u)))
  have HDP := hid (fun ad n c zs W (h1 : List.length zs = n) (h2 : n ≤ 140737488355328) (h3 : Rd W ad zs) (h4 : ∀ z ∈ zs, 0 ≤ z ∧ z < 256) => decode_any ad n c zs W h1 h2 h3 h4)
  have HDL := hid (fun ad n c zs W (h1 : List.length zs = n) (h2 : n ≤ c) (h3 : Rd W ad zs) (h4 : ∀ z ∈ zs, 0 ≤ z ∧ z < 256) => decodeL_any ad n c zs W h1 h2 h3 h4)
  have HDU := hid (fun ad n c zs W (h1 : List.length zs = n) (h2 : n ≤ c) (h3 : Rd W ad zs) (h4 : ∀ z ∈ zs, 0 ≤ z ∧ z < 256) => decodeU_any ad n c zs W h1 h2 h3 h4)
  have HKP : Hid ((decP bs).1.ok ∧ ((decP bs).2 = 0 → checkP (decP bs).1 = 0 ∧ ptrB (decP bs).1 = bs)) := hid ⟨decP_ok hbb, fun h => (ptrB_decP hbb h).2⟩
  have HKU : Hid ((decU bs).1.ok ∧ ((decU bs).2 = 0 → checkU (decU bs).1 = 0 ∧ sealB (uberB (decU bs).1) = bs)) := hid ⟨decU_ok hbb, fun h => (sealB_decU hbb h).2⟩
  have HBB := hid hbb
  have HBL := hid hbl
  have HOK := hid hl
  obtain ⟨CP, hCP⟩ : ∃ C, checkP p = C := ⟨_, rfl⟩
  rw [hCP] at HEP HPF HPB
  obtain ⟨ZP, hZP⟩ : ∃ Z, (if CP = 0 then ptrB p else []) = Z := ⟨_, rfl⟩
  rw [hZP] at HPF HPB HEP
  obtain ⟨RP, hRP⟩ : ∃ R, decP ZP = R := ⟨_, rfl⟩
  rw [hRP] at HPF
  obtain ⟨CL, hCL⟩ : ∃ C, checkL l = C := ⟨_, rfl⟩
  rw [hCL] at HEL HLF HLB HLN
  obtain ⟨ZL, hZL⟩ : ∃ Z, (if CL = 0 then sealB (labB l) else []) = Z := ⟨_, rfl⟩
  rw [hZL] at HLF HLB
  obtain ⟨RL, hRL⟩ : ∃ R, decL ZL = R := ⟨_, rfl⟩
  rw [hRL] at HLF
  obtain ⟨CU, hCU⟩ : ∃ C, checkU u = C := ⟨_, rfl⟩
  rw [hCU] at HEU HUF HUB
  obtain ⟨ZU, hZU⟩ : ∃ Z, (if CU = 0 then sealB (uberB u) else []) = Z := ⟨_, rfl⟩
  rw [hZU] at HUF HUB HEU
  obtain ⟨RU, hRU⟩ : ∃ R, decU ZU = R := ⟨_, rfl⟩
  rw [hRU] at HUF
  obtain ⟨TP, hTP⟩ : ∃ R, decP bs = R := ⟨_, rfl⟩
  rw [hTP] at HKP
  obtain ⟨TU, hTU⟩ : ∃ R, decU bs = R := ⟨_, rfl⟩
  rw [hTU] at HKU
  have HEL2 : Hid (∀ W, Frm [] w W → Calls Tryd.prog 15 #[.agg l.arr] W fun e w' => ∃ p n c, e = .returned (.tuple #[.slice p n c, .int .i64 CL]) ∧ Mine W w' p n c ZL ∧ Frm [] W w') := hid (fun W h => by
    refine (HEL.out W h).mono fun e w' he => ?_
    by_cases hc : CL = 0
    · have h2 := enc_mine he (by rw [HLN.out hc]; omega)
      rw [hZL] at h2
      exact h2
    · rcases he with ⟨h1, rfl, hf⟩ | ⟨h1, _⟩
      · rw [if_neg hc] at hZL
        exact ⟨none, 0, 0, rfl, by rw [← hZL]; exact ⟨rfl, Own.nil _ _, by simp [blk]⟩, hf⟩
      · exact absurd h1 hc)
  have HRP := hid hRP
  have HRL := hid hRL
  have HRU := hid hRU
  have HTP := hid hTP
  have HTU := hid hTU
  have f1 : Frm [] w (w.alloc (.cells p.arr 26)) := (Frm.refl _ _).alloc _
  have f2 : Frm [] (w.alloc (.cells p.arr 26)) ((w.alloc (.cells p.arr 26)).alloc (.cells l.arr 37)) := (Frm.refl _ _).alloc _
  have f3 : Frm [] ((w.alloc (.cells p.arr 26)).alloc (.cells l.arr 37)) (((w.alloc (.cells p.arr 26)).alloc (.cells l.arr 37)).alloc (.cells u.arr 45)) := (Frm.refl _ _).alloc _
  have hrp := f3.heap (f2.heap (heap_alloc_new w (.cells p.arr 26)) (by simp)) (by simp)
  have hrl := f3.heap (show ((w.alloc (.cells p.arr 26)).alloc (.cells l.arr 37)).heap[w.heap.size + 1]? = some (.cells l.arr 37 (0, 0)) from heap_alloc_to _ _ (by simp)) (by simp)
  have hru : (((w.alloc (.cells p.arr 26)).alloc (.cells l.arr 37)).alloc (.cells u.arr 45)).heap[w.heap.size + 1 + 1]? = some (.cells u.arr 45 (0, 0)) := heap_alloc_to _ _ (by simp)
  have hfa := (f1.trans f2 (by simp)).trans f3 (by simp)
  clear hp hu hl hbb hbl hCP hCL hCU hZP hZL hZU hRP hRL hRU hTP hTU f1 f2 f3 HEL HLN
  unfold P9.arr U12.arr LabV.arr at hrp hrl hru hfa
  unfold P9.arr at HEP
  unfold U12.arr at HEU
  unfold LabV.arr at HEL2
  unfold P9.arr U12.arr LabV.arr
  have HRD0 := hid hrd
  clear hrd
  go_enter Tryd.func7, Tryd.ntmps7
  go_wp2_with fail
  obtain ⟨pb, hpb⟩ : ∃ pb, w.heap.size = pb := ⟨_, rfl⟩
  obtain ⟨lb, hlb⟩ : ∃ lb, pb + 1 = lb := ⟨_, rfl⟩
  obtain ⟨ub, hub⟩ : ∃ ub, lb + 1 = ub := ⟨_, rfl⟩
  obtain ⟨wa, hwa⟩ : ∃ wa, ((w.alloc (.cells #[.int .i64 p.top, .int .i64 p.at_, .int .i64 p.bytes, .int .u64 p.birth, .int .i64 p.kind, .int .u64 p.sa, .int .u64 p.sb, .int .u64 p.sc, .int .u64 p.sd] 26)).alloc (.cells #[.int .u64 l.pool, .slice l.p l.n l.c, .int .i64 l.top, .int .i64 l.place] 37)).alloc (.cells #[.int .u64 u.pool, .int .u64 u.txg, .int .u64 u.note, .int .i64 u.root.top, .int .i64 u.root.at_, .int .i64 u.root.bytes, .int .u64 u.root.birth, .int .i64 u.root.kind, .int .u64 u.root.sa, .int .u64 u.root.sb, .int .u64 u.root.sc, .int .u64 u.root.sd] 45) = wa := ⟨_, rfl⟩
  rw [hwa] at hrp hrl hru hfa
  rw [hpb] at hrp hrl hru
  rw [hlb] at hrl hru
  rw [hub] at hru
  rw [hwa, hpb, hlb, hub]
  have Hp0 := hid hrp
  have Hl0 := hid hrl
  have Hu0 := hid hru
  have HF0 := hid hfa
  have HRDa := hid (HRD0.out.kept hfa (by simp))
  clear hwa hpb hlb hub hrp hrl hru hfa HRD0
  refine (HAW.out wa).mono ?_
  rintro e w0 ⟨rfl, hf⟩
  have Hps1 := hid (hf.heap Hp0.out (by simp))
  have Hls1 := hid (hf.heap Hl0.out (by simp))
  have Hus1 := hid (hf.heap Hu0.out (by simp))
  have HFs1 := hid (HF0.out.trans hf (by simp))
  have HRDs1 := hid (HRDa.out.kept hf (by simp))
  clear hf Hp0 Hl0 Hu0 HF0 HRDa 
  obtain ⟨q0, q1, q2, q3, q4, q5, q6, q7, q8⟩ := ptr_row (p := p) Hps1.out
  have qt := lt_of_heap Hps1.out
  go_wp2_with fail
  clear q0 q1 q2 q3 q4 q5 q6 q7 q8 qt
  refine (HEP.out w0).mono ?_
  rintro e w1 ⟨b1, n1, c1, rfl, ⟨ml1, mo1, _⟩, hf⟩
  have HN1 := hid ml1
  have Hps2 := hid (hf.heap Hps1.out (by simp))
  have Hls2 := hid (hf.heap Hls1.out (by simp))
  have Hus2 := hid (hf.heap Hus1.out (by simp))
  have HFs2 := hid (HFs1.out.trans hf (by simp))
  have HRDs2 := hid (HRDs1.out.kept hf (by simp))
  clear hf Hps1 Hls1 Hus1 HFs1 HRDs1 
  have HO1z := hid mo1
  clear mo1 ml1
  go_wp2_with fail
  refine (HDP.out b1 n1 c1 ZP w1 HN1.out (by rcases Classical.em (CP = 0) with h | h; (have := (HPF.out.1 h).2.2; have := HN1.out; omega); (have := HPF.out.2 h; have := HN1.out; omega)) HO1z.out.rd HPB.out).mono ?_
  rw [HRP.out]
  rintro e w2 ⟨rfl, hf⟩
  have Hps3 := hid (hf.heap Hps2.out (by simp))
  have Hls3 := hid (hf.heap Hls2.out (by simp))
  have Hus3 := hid (hf.heap Hus2.out (by simp))
  have HO1s3 := hid (HO1z.out.kept hf (by simp))
  have HFs3 := hid (HFs2.out.trans hf (by simp))
  have HRDs3 := hid (HRDs2.out.kept hf (by simp))
  clear hf Hps2 Hls2 Hus2 HO1z HFs2 HRDs2 
  obtain ⟨q, F⟩ := RP
  unfold P9.arr
  dsimp only at HPF ⊢
  obtain ⟨k0, k1, k2, k3⟩ := lb_row (l := l) Hls3.out
  have kt := lt_of_heap Hls3.out
  go_wp2_with fail
  clear k0 k1 k2 k3 kt
  have hfa : Frm [] w2 (w2.alloc (.cells #[.int .i64 q.top, .int .i64 q.at_, .int .i64 q.bytes, .int .u64 q.birth, .int .i64 q.kind, .int .u64 q.sa, .int .u64 q.sb, .int .u64 q.sc, .int .u64 q.sd] 26)) := (Frm.refl _ _).alloc _
  have hra := heap_alloc_new w2 (.cells #[.int .i64 q.top, .int .i64 q.at_, .int .i64 q.bytes, .int .u64 q.birth, .int .i64 q.kind, .int .u64 q.sa, .int .u64 q.sb, .int .u64 q.sc, .int .u64 q.sd] 26)
  obtain ⟨Hqb, hHqb⟩ : ∃ b, w2.heap.size = b := ⟨_, rfl⟩
  obtain ⟨w3, hw3⟩ : ∃ W, w2.alloc (.cells #[.int .i64 q.top, .int .i64 q.at_, .int .i64 q.bytes, .int .u64 q.birth, .int .i64 q.kind, .int .u64 q.sa, .int .u64 q.sb, .int .u64 q.sc, .int .u64 q.sd] 26) = W := ⟨_, rfl⟩
  rw [hw3] at hfa
  rw [hw3, hHqb] at hra
  rw [hw3, hHqb]
  clear hw3 hHqb
  have Hps4 := hid (hfa.heap Hps3.out (by simp))
  have Hls4 := hid (hfa.heap Hls3.out (by simp))
  have Hus4 := hid (hfa.heap Hus3.out (by simp))
  have HO1s4 := hid (HO1s3.out.kept hfa (by simp))
  have HFs4 := hid (HFs3.out.trans hfa (by simp))
  have HRDs4 := hid (HRDs3.out.kept hfa (by simp))
  clear hfa Hps3 Hls3 Hus3 HO1s3 HFs3 HRDs3 
  have Hqz := hid hra
  clear hra
  refine (HEL2.out w3 HFs4.out).mono ?_
  rintro e w4 ⟨b2, n2, c2, rfl, ⟨ml2, mo2, _⟩, hf⟩
  have HN2 := hid ml2
  have Hps5 := hid (hf.heap Hps4.out (by simp))
  have Hls5 := hid (hf.heap Hls4.out (by simp))
  have Hus5 := hid (hf.heap Hus4.out (by simp))
  have Hqs5 := hid (hf.heap Hqz.out (by simp))
  have HO1s5 := hid (HO1s4.out.kept hf (by simp))
  have HFs5 := hid (HFs4.out.trans hf (by simp))
  have HRDs5 := hid (HRDs4.out.kept hf (by simp))
  clear hf Hps4 Hls4 Hus4 Hqz HO1s4 HFs4 HRDs4 
  have HO2z := hid mo2
  clear mo2 ml2
  have hcap := (own_capF HO2z.out).2.1
  go_wp2_with fail
  refine (HDL.out b2 n2 c2 ZL w4 HN2.out hcap HO2z.out.rd HLB.out).mono ?_
  clear hcap
  rw [HRL.out]
  rintro e w5 ⟨m, rfl, hmo, hms, _, hf⟩
  have Hps6 := hid (hf.heap Hps5.out (by simp))
  have Hls6 := hid (hf.heap Hls5.out (by simp))
  have Hus6 := hid (hf.heap Hus5.out (by simp))
  have Hqs6 := hid (hf.heap Hqs5.out (by simp))
  have HO1s6 := hid (HO1s5.out.kept hf (by simp))
  have HO2s6 := hid (HO2z.out.kept hf (by simp))
  have HFs6 := hid (HFs5.out.trans hf (by simp))
  have HRDs6 := hid (HRDs5.out.kept hf (by simp))
  clear hf Hps5 Hls5 Hus5 Hqs5 HO1s5 HO2z HFs5 HRDs5 
  have HMOz := hid hmo
  have HMS := hid hms
  clear hmo hms
  obtain ⟨mz, G⟩ := RL
  unfold LabV.arr
  dsimp only at HLF HMS ⊢
  obtain ⟨k0, k1, k2, k3, k4, k5, k6, k7, k8, k9, k10, k11⟩ := ub_row (u := u) Hus6.out
  have kt := lt_of_heap Hus6.out
  go_wp2_with fail
  clear k0 k1 k2 k3 k4 k5 k6 k7 k8 k9 k10 k11 kt
  have hfa : Frm [] w5 (w5.alloc (.cells #[.int .u64 m.pool, .slice m.p m.n m.c, .int .i64 m.top, .int .i64 m.place] 37)) := (Frm.refl _ _).alloc _
  have hra := heap_alloc_new w5 (.cells #[.int .u64 m.pool, .slice m.p m.n m.c, .int .i64 m.top, .int .i64 m.place] 37)
  obtain ⟨Hmb, hHmb⟩ : ∃ b, w5.heap.size = b := ⟨_, rfl⟩
  obtain ⟨w6, hw6⟩ : ∃ W, w5.alloc (.cells #[.int .u64 m.pool, .slice m.p m.n m.c, .int .i64 m.top, .int .i64 m.place] 37) = W := ⟨_, rfl⟩
  rw [hw6] at hfa
  rw [hw6, hHmb] at hra
  rw [hw6, hHmb]
  clear hw6 hHmb
  have Hps7 := hid (hfa.heap Hps6.out (by simp))
  have Hls7 := hid (hfa.heap Hls6.out (by simp))
  have Hus7 := hid (hfa.heap Hus6.out (by simp))
  have Hqs7 := hid (hfa.heap Hqs6.out (by simp))
  have HO1s7 := hid (HO1s6.out.kept hfa (by simp))
  have HO2s7 := hid (HO2s6.out.kept hfa (by simp))
  have HMOs7 := hid (HMOz.out.kept hfa)
  have HFs7 := hid (HFs6.out.trans hfa (by simp))
  have HRDs7 := hid (HRDs6.out.kept hfa (by simp))
  clear hfa Hps6 Hls6 Hus6 Hqs6 HO1s6 HO2s6 HMOz HFs6 HRDs6 
  have Hmz := hid hra
  clear hra
  refine (HEU.out w6).mono ?_
  rintro e w7 ⟨b3, n3, c3, rfl, ⟨ml3, mo3, _⟩, hf⟩
  have HN3 := hid ml3
  have Hps8 := hid (hf.heap Hps7.out (by simp))
  have Hls8 := hid (hf.heap Hls7.out (by simp))
  have Hus8 := hid (hf.heap Hus7.out (by simp))
  have Hqs8 := hid (hf.heap Hqs7.out (by simp))
  have Hms8 := hid (hf.heap Hmz.out (by simp))
  have HO1s8 := hid (HO1s7.out.kept hf (by simp))
  have HO2s8 := hid (HO2s7.out.kept hf (by simp))
  have HMOs8 := hid (HMOs7.out.kept hf)
  have HFs8 := hid (HFs7.out.trans hf (by simp))
  have HRDs8 := hid (HRDs7.out.kept hf (by simp))
  clear hf Hps7 Hls7 Hus7 Hqs7 Hmz HO1s7 HO2s7 HMOs7 HFs7 HRDs7 
  have HO3z := hid mo3
  clear mo3 ml3
  have hcap := (own_capF HO3z.out).2.1
  go_wp2_with fail
  refine (HDU.out b3 n3 c3 ZU w7 HN3.out hcap HO3z.out.rd HUB.out).mono ?_
  clear hcap
  rw [HRU.out]
  rintro e w8 ⟨rfl, hf⟩
  have Hps9 := hid (hf.heap Hps8.out (by simp))
  have Hls9 := hid (hf.heap Hls8.out (by simp))
  have Hus9 := hid (hf.heap Hus8.out (by simp))
  have Hqs9 := hid (hf.heap Hqs8.out (by simp))
  have Hms9 := hid (hf.heap Hms8.out (by simp))
  have HO1s9 := hid (HO1s8.out.kept hf (by simp))
  have HO2s9 := hid (HO2s8.out.kept hf (by simp))
  have HO3s9 := hid (HO3z.out.kept hf (by simp))
  have HMOs9 := hid (HMOs8.out.kept hf)
  have HFs9 := hid (HFs8.out.trans hf (by simp))
  have HRDs9 := hid (HRDs8.out.kept hf (by simp))
  clear hf Hps8 Hls8 Hus8 Hqs8 Hms8 HO1s8 HO2s8 HO3z HMOs8 HFs8 HRDs8 
  obtain ⟨v, H⟩ := RU
  unfold U12.arr
  dsimp only at HUF ⊢
  obtain ⟨k0, k1, k2, k3⟩ := lb_row (l := l) Hls9.out
  have kt := lt_of_heap Hls9.out
  obtain ⟨j0, j1, j2, j3⟩ := lb_row (l := m) Hms9.out
  have jt := lt_of_heap Hms9.out
  go_wp2_with fail
  clear k0 k1 k2 k3 kt j0 j1 j2 j3 jt
  have hfa : Frm [] w8 (w8.alloc (.cells #[.int .u64 v.pool, .int .u64 v.txg, .int .u64 v.note, .int .i64 v.root.top, .int .i64 v.root.at_, .int .i64 v.root.bytes, .int .u64 v.root.birth, .int .i64 v.root.kind, .int .u64 v.root.sa, .int .u64 v.root.sb, .int .u64 v.root.sc, .int .u64 v.root.sd] 45)) := (Frm.refl _ _).alloc _
  have hra := heap_alloc_new w8 (.cells #[.int .u64 v.pool, .int .u64 v.txg, .int .u64 v.note, .int .i64 v.root.top, .int .i64 v.root.at_, .int .i64 v.root.bytes, .int .u64 v.root.birth, .int .i64 v.root.kind, .int .u64 v.root.sa, .int .u64 v.root.sb, .int .u64 v.root.sc, .int .u64 v.root.sd] 45)
  obtain ⟨Hvb, hHvb⟩ : ∃ b, w8.heap.size = b := ⟨_, rfl⟩
  obtain ⟨w9, hw9⟩ : ∃ W, w8.alloc (.cells #[.int .u64 v.pool, .int .u64 v.txg, .int .u64 v.note, .int .i64 v.root.top, .int .i64 v.root.at_, .int .i64 v.root.bytes, .int .u64 v.root.birth, .int .i64 v.root.kind, .int .u64 v.root.sa, .int .u64 v.root.sb, .int .u64 v.root.sc, .int .u64 v.root.sd] 45) = W := ⟨_, rfl⟩
  rw [hw9] at hfa
  rw [hw9, hHvb] at hra
  rw [hw9, hHvb]
  clear hw9 hHvb
  have Hps10 := hid (hfa.heap Hps9.out (by simp))
  have Hls10 := hid (hfa.heap Hls9.out (by simp))
  have Hus10 := hid (hfa.heap Hus9.out (by simp))
  have Hqs10 := hid (hfa.heap Hqs9.out (by simp))
  have Hms10 := hid (hfa.heap Hms9.out (by simp))
  have HO1s10 := hid (HO1s9.out.kept hfa (by simp))
  have HO2s10 := hid (HO2s9.out.kept hfa (by simp))
  have HO3s10 := hid (HO3s9.out.kept hfa (by simp))
  have HMOs10 := hid (HMOs9.out.kept hfa)
  have HFs10 := hid (HFs9.out.trans hfa (by simp))
  have HRDs10 := hid (HRDs9.out.kept hfa (by simp))
  clear hfa Hps9 Hls9 Hus9 Hqs9 Hms9 HO1s9 HO2s9 HO3s9 HMOs9 HFs9 HRDs9 
  have Hvz := hid hra
  clear hra
  have HSM : Hid (Calls Tryd.prog 17 #[.agg #[.int .u64 l.pool, .slice l.p l.n l.c, .int .i64 l.top, .int .i64 l.place], .agg #[.int .u64 m.pool, .slice m.p m.n m.c, .int .i64 m.top, .int .i64 m.place]] w9 fun e w' => ∃ B, e = .returned (.bool B) ∧ (CL = 0 → B = true) ∧ Frm [] w9 w') := hid (by
    by_cases hc : CL = 0
    · refine (same_any l m w9 (HOK.out.kept HFs10.out) HMOs10.out (((HMS.out).trans (HLF.out.1 hc).1).symm)).mono ?_
      rintro e w' ⟨rfl, hf⟩
      exact ⟨true, rfl, fun _ => rfl, hf⟩
    · refine (sameZ_any l m w9 (HOK.out.kept HFs10.out) HMOs10.out (by have h := HMS.out; rwa [(HLF.out.2 hc).1] at h)).mono ?_
      rintro e w' ⟨B, rfl, hf⟩
      exact ⟨B, rfl, fun h => absurd h hc, hf⟩)
  refine HSM.out.mono ?_
  clear HSM
  rintro e wA ⟨B, rfl, hB, hf⟩
  have Hps11 := hid (hf.heap Hps10.out (by simp))
  have Hls11 := hid (hf.heap Hls10.out (by simp))
  have Hus11 := hid (hf.heap Hus10.out (by simp))
  have Hqs11 := hid (hf.heap Hqs10.out (by simp))
  have Hms11 := hid (hf.heap Hms10.out (by simp))
  have Hvs11 := hid (hf.heap Hvz.out (by simp))
  have HO1s11 := hid (HO1s10.out.kept hf (by simp))
  have HO2s11 := hid (HO2s10.out.kept hf (by simp))
  have HO3s11 := hid (HO3s10.out.kept hf (by simp))
  have HMOs11 := hid (HMOs10.out.kept hf)
  have HFs11 := hid (HFs10.out.trans hf (by simp))
  have HRDs11 := hid (HRDs10.out.kept hf (by simp))
  clear hf Hps10 Hls10 Hus10 Hqs10 Hms10 Hvz HO1s10 HO2s10 HO3s10 HMOs10 HFs10 HRDs10 
  have HBT := hid hB
  clear hB
  go_upto_region 9 with fail
  go_cut [23] (fun s wx => s = .bool true ∧ Hid (Frm [] wA wx))
  case first =>
    by_cases hc : CP = 0
    · obtain ⟨e1, e2, e3⟩ := HPF.out.1 hc
      obtain rfl : n1 = 64 := by have := HN1.out; omega
      subst e1 e2 hc
      obtain ⟨a0, a1, a2, a3, a4, a5, a6, a7, a8⟩ := ptr_row (p := q) Hps11.out
      obtain ⟨d0, d1, d2, d3, d4, d5, d6, d7, d8⟩ := ptr_row (p := q) Hqs11.out
      go_wp2_with fail
      go_meet
      case rel => exact ⟨rfl, hid (Frm.refl _ _)⟩
    · have hb : (CP != 0) = true := by simpa using hc
      obtain rfl : n1 = 0 := by have h1 := HPF.out.2 hc; have := HN1.out; omega
      go_wp2_with fail
      go_meet
      case rel => exact ⟨rfl, hid (Frm.refl _ _)⟩
  obtain ⟨rfl, hfc⟩ := hcut
  have hf := hfc.out
  obtain ⟨wB, hwB⟩ : ∃ W, wc = W := ⟨_, rfl⟩
  subst hwB
  have Hps12 := hid (hf.heap Hps11.out (by simp))
  have Hls12 := hid (hf.heap Hls11.out (by simp))
  have Hus12 := hid (hf.heap Hus11.out (by simp))
  have Hqs12 := hid (hf.heap Hqs11.out (by simp))
  have Hms12 := hid (hf.heap Hms11.out (by simp))
  have Hvs12 := hid (hf.heap Hvs11.out (by simp))
  have HO1s12 := hid (HO1s11.out.kept hf (by simp))
  have HO2s12 := hid (HO2s11.out.kept hf (by simp))
  have HO3s12 := hid (HO3s11.out.kept hf (by simp))
  have HMOs12 := hid (HMOs11.out.kept hf)
  have HFs12 := hid (HFs11.out.trans hf (by simp))
  have HRDs12 := hid (HRDs11.out.kept hf (by simp))
  clear hf Hps11 Hls11 Hus11 Hqs11 Hms11 Hvs11 HO1s11 HO2s11 HO3s11 HMOs11 HFs11 HRDs11 
  go_upto_region 10 with fail
  go_cut [24] (fun s wx => s = .bool true ∧ Hid (Frm [] wc wx))
  case first =>
    by_cases hc : CL = 0
    · obtain ⟨_, e2, e3⟩ := HLF.out.1 hc
      obtain rfl : n2 = 128 := by have := HN2.out; omega
      obtain rfl := HBT.out hc
      subst e2 hc
      go_wp2_with fail
      go_meet
      case rel => exact ⟨rfl, hid (Frm.refl _ _)⟩
    · have hb : (CL != 0) = true := by simpa using hc
      obtain rfl : n2 = 0 := by have h1 := (HLF.out.2 hc).2; have := HN2.out; omega
      go_wp2_with fail
      go_meet
      case rel => exact ⟨rfl, hid (Frm.refl _ _)⟩
  obtain ⟨rfl, hfc⟩ := hcut
  have hf := hfc.out
  obtain ⟨wC, hwC⟩ : ∃ W, wc = W := ⟨_, rfl⟩
  subst hwC
  have Hps13 := hid (hf.heap Hps12.out (by simp))
  have Hls13 := hid (hf.heap Hls12.out (by simp))
  have Hus13 := hid (hf.heap Hus12.out (by simp))
  have Hqs13 := hid (hf.heap Hqs12.out (by simp))
  have Hms13 := hid (hf.heap Hms12.out (by simp))
  have Hvs13 := hid (hf.heap Hvs12.out (by simp))
  have HO1s13 := hid (HO1s12.out.kept hf (by simp))
  have HO2s13 := hid (HO2s12.out.kept hf (by simp))
  have HO3s13 := hid (HO3s12.out.kept hf (by simp))
  have HMOs13 := hid (HMOs12.out.kept hf)
  have HFs13 := hid (HFs12.out.trans hf (by simp))
  have HRDs13 := hid (HRDs12.out.kept hf (by simp))
  clear hf Hps12 Hls12 Hus12 Hqs12 Hms12 Hvs12 HO1s12 HO2s12 HO3s12 HMOs12 HFs12 HRDs12 
  go_upto_region 11 with fail
  go_cut [25] (fun s wx => s = .bool true ∧ Hid (Frm [] wc wx))
  case first =>
    by_cases hc : CU = 0
    · obtain ⟨e1, e2, e3⟩ := HUF.out.1 hc
      obtain rfl : n3 = 128 := by have := HN3.out; omega
      subst e1 e2 hc
      obtain ⟨a0, a1, a2, a3, a4, a5, a6, a7, a8, a9, a10, a11⟩ := ub_row (u := v) Hus13.out
      obtain ⟨d0, d1, d2, d3, d4, d5, d6, d7, d8, d9, d10, d11⟩ := ub_row (u := v) Hvs13.out
      go_wp2_with fail
      go_meet
      case rel => exact ⟨rfl, hid (Frm.refl _ _)⟩
    · have hb : (CU != 0) = true := by simpa using hc
      obtain rfl : n3 = 0 := by have h1 := HUF.out.2 hc; have := HN3.out; omega
      go_wp2_with fail
      go_meet
      case rel => exact ⟨rfl, hid (Frm.refl _ _)⟩
  obtain ⟨rfl, hfc⟩ := hcut
  have hf := hfc.out
  obtain ⟨wD, hwD⟩ : ∃ W, wc = W := ⟨_, rfl⟩
  subst hwD
  obtain ⟨wE, hwE⟩ : ∃ W, wc = W := ⟨_, rfl⟩
  subst hwE
  have Hps14 := hid (hf.heap Hps13.out (by simp))
  have Hls14 := hid (hf.heap Hls13.out (by simp))
  have Hus14 := hid (hf.heap Hus13.out (by simp))
  have Hqs14 := hid (hf.heap Hqs13.out (by simp))
  have Hms14 := hid (hf.heap Hms13.out (by simp))
  have Hvs14 := hid (hf.heap Hvs13.out (by simp))
  have HO1s14 := hid (HO1s13.out.kept hf (by simp))
  have HO2s14 := hid (HO2s13.out.kept hf (by simp))
  have HO3s14 := hid (HO3s13.out.kept hf (by simp))
  have HMOs14 := hid (HMOs13.out.kept hf)
  have HFs14 := hid (HFs13.out.trans hf (by simp))
  have HRDs14 := hid (HRDs13.out.kept hf (by simp))
  clear hf Hps13 Hls13 Hus13 Hqs13 Hms13 Hvs13 HO1s13 HO2s13 HO3s13 HMOs13 HFs13 HRDs13 HPF HLF HUF HEP HEL2 HEU HBT HMS
  go_wp2_with fail
  refine (HDP.out bp bn bc bs wc HBL.out hbn HRDs14.out HBB.out).mono ?_
  rw [HTP.out]
  rintro e wF ⟨rfl, hf⟩
  have HFs15 := hid (HFs14.out.trans hf (by simp))
  have HRDs15 := hid (HRDs14.out.kept hf (by simp))
  clear hf HFs14 HRDs14 
  obtain ⟨r, K⟩ := TP
  unfold P9.arr
  dsimp only at HKP ⊢
  go_wp2_with fail
  have hfa : Frm [] wF (wF.alloc (.cells #[.int .i64 r.top, .int .i64 r.at_, .int .i64 r.bytes, .int .u64 r.birth, .int .i64 r.kind, .int .u64 r.sa, .int .u64 r.sb, .int .u64 r.sc, .int .u64 r.sd] 26)) := (Frm.refl _ _).alloc _
  have hra := heap_alloc_new wF (.cells #[.int .i64 r.top, .int .i64 r.at_, .int .i64 r.bytes, .int .u64 r.birth, .int .i64 r.kind, .int .u64 r.sa, .int .u64 r.sb, .int .u64 r.sc, .int .u64 r.sd] 26)
  obtain ⟨Hrb, hHrb⟩ : ∃ b, wF.heap.size = b := ⟨_, rfl⟩
  obtain ⟨wG, hwG⟩ : ∃ W, wF.alloc (.cells #[.int .i64 r.top, .int .i64 r.at_, .int .i64 r.bytes, .int .u64 r.birth, .int .i64 r.kind, .int .u64 r.sa, .int .u64 r.sb, .int .u64 r.sc, .int .u64 r.sd] 26) = W := ⟨_, rfl⟩
  rw [hwG] at hfa
  rw [hwG, hHrb] at hra
  rw [hwG, hHrb]
  clear hwG hHrb
  have HFs16 := hid (HFs15.out.trans hfa (by simp))
  have HRDs16 := hid (HRDs15.out.kept hfa (by simp))
  clear hfa HFs15 HRDs15 
  have Hrz := hid hra
  clear hra
  have HER := (encode_any r HKP.out.1 wG).mono (fun e w' h => enc_mine h (by rw [ptrB_length]; omega))
  unfold P9.arr at HER
  refine HER.mono ?_
  clear HER
  rintro e wH ⟨b4, n4, c4, rfl, ⟨ml4, mo4, _⟩, hf⟩
  have HN4 := hid ml4
  have Hrs17 := hid (hf.heap Hrz.out (by simp))
  have HFs17 := hid (HFs16.out.trans hf (by simp))
  have HRDs17 := hid (HRDs16.out.kept hf (by simp))
  clear hf Hrz HFs16 HRDs16 
  have HO4z := hid mo4
  clear mo4 ml4
  go_wp2_with fail
  refine (HDU.out bp bn bc bs wH HBL.out hbc HRDs17.out HBB.out).mono ?_
  rw [HTU.out]
  rintro e wI ⟨rfl, hf⟩
  have Hrs18 := hid (hf.heap Hrs17.out (by simp))
  have HO4s18 := hid (HO4z.out.kept hf (by simp))
  have HFs18 := hid (HFs17.out.trans hf (by simp))
  have HRDs18 := hid (HRDs17.out.kept hf (by simp))
  clear hf Hrs17 HO4z HFs17 HRDs17 
  obtain ⟨o, S⟩ := TU
  unfold U12.arr
  dsimp only at HKU ⊢
  go_wp2_with fail
  have hfa : Frm [] wI (wI.alloc (.cells #[.int .u64 o.pool, .int .u64 o.txg, .int .u64 o.note, .int .i64 o.root.top, .int .i64 o.root.at_, .int .i64 o.root.bytes, .int .u64 o.root.birth, .int .i64 o.root.kind, .int .u64 o.root.sa, .int .u64 o.root.sb, .int .u64 o.root.sc, .int .u64 o.root.sd] 45)) := (Frm.refl _ _).alloc _
  have hra := heap_alloc_new wI (.cells #[.int .u64 o.pool, .int .u64 o.txg, .int .u64 o.note, .int .i64 o.root.top, .int .i64 o.root.at_, .int .i64 o.root.bytes, .int .u64 o.root.birth, .int .i64 o.root.kind, .int .u64 o.root.sa, .int .u64 o.root.sb, .int .u64 o.root.sc, .int .u64 o.root.sd] 45)
  obtain ⟨Hob, hHob⟩ : ∃ b, wI.heap.size = b := ⟨_, rfl⟩
  obtain ⟨wJ, hwJ⟩ : ∃ W, wI.alloc (.cells #[.int .u64 o.pool, .int .u64 o.txg, .int .u64 o.note, .int .i64 o.root.top, .int .i64 o.root.at_, .int .i64 o.root.bytes, .int .u64 o.root.birth, .int .i64 o.root.kind, .int .u64 o.root.sa, .int .u64 o.root.sb, .int .u64 o.root.sc, .int .u64 o.root.sd] 45) = W := ⟨_, rfl⟩
  rw [hwJ] at hfa
  rw [hwJ, hHob] at hra
  rw [hwJ, hHob]
  clear hwJ hHob
  have Hrs19 := hid (hfa.heap Hrs18.out (by simp))
  have HO4s19 := hid (HO4s18.out.kept hfa (by simp))
  have HFs19 := hid (HFs18.out.trans hfa (by simp))
  have HRDs19 := hid (HRDs18.out.kept hfa (by simp))
  clear hfa Hrs18 HO4s18 HFs18 HRDs18 
  have Hoz := hid hra
  clear hra
  have HEO := (encodeU_any o HKU.out.1 wJ).mono (fun e w' h => enc_mine h (by rw [sealB_length, uberB_length]; omega))
  unfold U12.arr at HEO
  refine HEO.mono ?_
  clear HEO
  rintro e wK ⟨b5, n5, c5, rfl, ⟨ml5, mo5, _⟩, hf⟩
  have HN5 := hid ml5
  have Hrs20 := hid (hf.heap Hrs19.out (by simp))
  have Hos20 := hid (hf.heap Hoz.out (by simp))
  have HO4s20 := hid (HO4s19.out.kept hf (by simp))
  have HFs20 := hid (HFs19.out.trans hf (by simp))
  have HRDs20 := hid (HRDs19.out.kept hf (by simp))
  clear hf Hrs19 Hoz HO4s19 HFs19 HRDs19 
  have HO5z := hid mo5
  clear mo5 ml5
  have hcb := cv_any (P := Tryd.prog) (w := wK) 28 5 9 Tryd.underlying28 Tryd.underlying5 Tryd.underlying9 HRDs20.out bc HBL.out
  obtain ⟨ST, hST⟩ : ∃ ST, strOfNums bs = ST := ⟨_, rfl⟩
  have HST := hid hST
  rw [hST] at hcb
  clear hST
  have hss : (ST.toList == ST.toList) = true := by simp
  have HQ1 : Hid (K = 0 → checkP r = 0 ∧ n4 = bn ∧ Rd wK b4 bs) := hid (fun h => by
    obtain ⟨h1, h2⟩ := HKP.out.2 h
    have h3 := HO4s20.out.rd
    have h4 := HN4.out
    rw [if_pos h1, h2] at h3 h4
    exact ⟨h1, by have := HBL.out; omega, h3⟩)
  have HQ2 : Hid (S = 0 → checkU o = 0 ∧ n5 = bn ∧ Rd wK b5 bs) := hid (fun h => by
    obtain ⟨h1, h2⟩ := HKU.out.2 h
    have h3 := HO5z.out.rd
    have h4 := HN5.out
    rw [if_pos h1, h2] at h3 h4
    exact ⟨h1, by have := HBL.out; omega, h3⟩)
  obtain ⟨EP, hEP⟩ : ∃ E, checkP r = E := ⟨_, rfl⟩
  obtain ⟨EU, hEU⟩ : ∃ E, checkU o = E := ⟨_, rfl⟩
  rw [hEP] at HQ1
  rw [hEU] at HQ2
  rw [hEP, hEU]
  clear hEP hEU HKP HKU HO4s20 HO5z HN4 HN5
  by_cases hk : K = 0
  · obtain ⟨g1, g2, g3⟩ := HQ1.out hk
    subst hk g1 g2
    have hc4 := cv_any (P := Tryd.prog) (w := wK) 28 5 9 Tryd.underlying28 Tryd.underlying5 Tryd.underlying9 g3 c4 HBL.out
    rw [HST.out] at hc4
    clear g3
    by_cases hs : S = 0
    · obtain ⟨g1, g2, g3⟩ := HQ2.out hs
      subst hs g1 g2
      have hc5 := cv_any (P := Tryd.prog) (w := wK) 28 5 9 Tryd.underlying28 Tryd.underlying5 Tryd.underlying9 g3 c5 HBL.out
      rw [HST.out] at hc5
      clear g3
      go_wp2_with fail
      go_returns
      exact ⟨rfl, HFs20.out⟩
    · have hb : (S != 0) = true := by simpa using hs
      go_wp2_with fail
      go_returns
      exact ⟨rfl, HFs20.out⟩
  · have hb : (K != 0) = true := by simpa using hk
    by_cases hs : S = 0
    · obtain ⟨g1, g2, g3⟩ := HQ2.out hs
      subst hs g1 g2
      have hc5 := cv_any (P := Tryd.prog) (w := wK) 28 5 9 Tryd.underlying28 Tryd.underlying5 Tryd.underlying9 g3 c5 HBL.out
      rw [HST.out] at hc5
      clear g3
      go_wp2_with fail
      go_returns
      exact ⟨rfl, HFs20.out⟩
    · have hb2 : (S != 0) = true := by simpa using hs
      go_wp2_with fail
      go_returns
      exact ⟨rfl, HFs20.out⟩
end Go.Proofs.YtdnnbinmippkdaaDoor
