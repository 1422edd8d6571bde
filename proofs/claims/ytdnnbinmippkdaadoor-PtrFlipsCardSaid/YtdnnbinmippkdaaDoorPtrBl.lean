/- The law PtrFlips. -/
import Derived.Test.YtdnnbinmippkdaaDoorPtrBk
import Derived.Test.YtdnnbinmippkdaaDoorPtrAd
import Derived.Deep.DeepCutAuto
namespace Go.Proofs.YtdnnbinmippkdaaDoor
open Go.RowKit
set_option maxRecDepth 100000

theorem zL_arr : zeroL.arr = #[.int .u64 0, .slice none 0 0, .int .i64 0, .int .i64 0] := rfl
theorem z12_arr : zero12.arr = #[.int .u64 0, .int .u64 0, .int .u64 0, .int .i64 0, .int .i64 0, .int .i64 0, .int .u64 0, .int .i64 0, .int .u64 0, .int .u64 0, .int .u64 0, .int .u64 0] := rfl
theorem sealF_byte {zs : List Int} (h : ∀ z ∈ zs, 0 ≤ z ∧ z < 256) : ∀ z ∈ sealB zs, 0 ≤ z ∧ z < 256 := app_byte h (sumL_byte _ _ _ _)
set_option maxHeartbeats 6400000 in
theorem ptrflips_any (l : LabV) (u : U12) (hu : u.ok) (p : P9) (hp : p.ok) (at_ mask : Int) (hm : 0 ≤ mask ∧ mask < 256) (w : World) (hl : l.ok w) :
    Calls Tryd.prog 8 #[.agg l.arr, .agg u.arr, .agg p.arr, .int .i64 at_, .int .u8 mask] w fun e w' => e = .returned (.bool true) ∧ Frm [] w w' := by
  have HAW := hid awake4_any
  have HEP := hid (fun W => (encode_any p hp W).mono (fun e w' h => enc_mine h (by rw [ptrB_length]; omega)))
  have HEL := hid (fun W (h : Frm [] w W) => (encodeL_any l W (hl.kept h)).mono (fun e w' h => h))
  have HLN : Hid (checkL l = 0 → (sealB (labB l)).length = 128) := hid (fun h => by rw [sealB_length, labB_length (checkL_ok hl h).n])
  have HEU := hid (fun W => (encodeU_any u hu W).mono (fun e w' h => enc_mine h (by rw [sealB_length, uberB_length]; omega)))
  have HDP := hid (fun ad n c zs W (h1 : List.length zs = n) (h2 : n ≤ 140737488355328) (h3 : Rd W ad zs) (h4 : ∀ z ∈ zs, 0 ≤ z ∧ z < 256) => decode_any ad n c zs W h1 h2 h3 h4)
  have HDL := hid (fun ad n c zs W (h1 : List.length zs = n) (h2 : n ≤ c) (h3 : Rd W ad zs) (h4 : ∀ z ∈ zs, 0 ≤ z ∧ z < 256) => decodeL_any ad n c zs W h1 h2 h3 h4)
  have HDU := hid (fun ad n c zs W (h1 : List.length zs = n) (h2 : n ≤ c) (h3 : Rd W ad zs) (h4 : ∀ z ∈ zs, 0 ≤ z ∧ z < 256) => decodeU_any ad n c zs W h1 h2 h3 h4)
  have HXL : Hid (checkL l = 0 → (∀ z ∈ sealB (labB l), 0 ≤ z ∧ z < 256) ∧ ∀ (i : Nat) (z : Int), i < 128 → (0 ≤ z ∧ z < 256) → z ≠ zA (sealB (labB l)) i → decL ((sealB (labB l)).set i z) = (zeroL, 43)) := hid (fun h => ⟨sealF_byte (labB_byte l), fun i z hi hz hne => flipL hl h hi hz hne⟩)
  have HXU : Hid ((∀ z ∈ sealB (uberB u), 0 ≤ z ∧ z < 256) ∧ (sealB (uberB u)).length = 128 ∧ ∀ (i : Nat) (z : Int), i < 128 → (0 ≤ z ∧ z < 256) → z ≠ zA (sealB (uberB u)) i → decU ((sealB (uberB u)).set i z) = (zero12, 45)) := hid ⟨sealF_byte (uberB_byte u), by rw [sealB_length, uberB_length], fun i z hi hz hne => flipU hi hz hne⟩
  have HXP : Hid ((∀ z ∈ ptrB p, 0 ≤ z ∧ z < 256) ∧ (ptrB p).length = 64 ∧ ∀ (i : Nat) (z : Int), i < 64 → (0 ≤ z ∧ z < 256) → z ≠ zA (ptrB p) i → (decP ((ptrB p).set i z)).2 = 0 → (decP ((ptrB p).set i z)).1 ≠ p) := hid ⟨ptrB_byte p, ptrB_length p, fun i z hi hz hne h => flipP hi hz hne h⟩
  have HM := hid hm
  obtain ⟨CP, hCP⟩ : ∃ C, checkP p = C := ⟨_, rfl⟩
  rw [hCP] at HEP
  obtain ⟨ZP, hZP⟩ : ∃ Z, ptrB p = Z := ⟨_, rfl⟩
  rw [hZP] at HEP HXP
  obtain ⟨CL, hCL⟩ : ∃ C, checkL l = C := ⟨_, rfl⟩
  rw [hCL] at HEL HLN HXL
  obtain ⟨ZL, hZL⟩ : ∃ Z, sealB (labB l) = Z := ⟨_, rfl⟩
  rw [hZL] at HEL HXL HLN
  obtain ⟨CU, hCU⟩ : ∃ C, checkU u = C := ⟨_, rfl⟩
  rw [hCU] at HEU
  obtain ⟨ZU, hZU⟩ : ∃ Z, sealB (uberB u) = Z := ⟨_, rfl⟩
  rw [hZU] at HEU HXU
  have HEL2 : Hid (∀ W, Frm [] w W → Calls Tryd.prog 15 #[.agg l.arr] W fun e w' => ∃ p n c, e = .returned (.tuple #[.slice p n c, .int .i64 CL]) ∧ Mine W w' p n c (if CL = 0 then ZL else []) ∧ Frm [] W w') := hid (fun W h => by
    refine (HEL.out W h).mono fun e w' he => ?_
    by_cases hc : CL = 0
    · exact enc_mine he (by rw [HLN.out hc]; omega)
    · rcases he with ⟨h1, rfl, hf⟩ | ⟨h1, _⟩
      · rw [if_neg hc]
        exact ⟨none, 0, 0, rfl, ⟨rfl, Own.nil _ _, by simp [blk]⟩, hf⟩
      · exact absurd h1 hc)
  have f1 : Frm [] w (w.alloc (.cells l.arr 37)) := (Frm.refl _ _).alloc _
  have f2 : Frm [] (w.alloc (.cells l.arr 37)) ((w.alloc (.cells l.arr 37)).alloc (.cells u.arr 45)) := (Frm.refl _ _).alloc _
  have f3 : Frm [] ((w.alloc (.cells l.arr 37)).alloc (.cells u.arr 45)) (((w.alloc (.cells l.arr 37)).alloc (.cells u.arr 45)).alloc (.cells p.arr 26)) := (Frm.refl _ _).alloc _
  have hrl := f3.heap (f2.heap (heap_alloc_new w (.cells l.arr 37)) (by simp)) (by simp)
  have hru := f3.heap (show ((w.alloc (.cells l.arr 37)).alloc (.cells u.arr 45)).heap[w.heap.size + 1]? = some (.cells u.arr 45 (0, 0)) from heap_alloc_to _ _ (by simp)) (by simp)
  have hrp : (((w.alloc (.cells l.arr 37)).alloc (.cells u.arr 45)).alloc (.cells p.arr 26)).heap[w.heap.size + 1 + 1]? = some (.cells p.arr 26 (0, 0)) := heap_alloc_to _ _ (by simp)
  have hfa := (f1.trans f2 (by simp)).trans f3 (by simp)
  clear hp hu hl hm hCP hCL hCU hZP hZL hZU f1 f2 f3 HEL
  unfold P9.arr U12.arr LabV.arr at hrp hrl hru hfa
  unfold P9.arr at HEP
  unfold U12.arr at HEU
  unfold LabV.arr at HEL2
  unfold P9.arr U12.arr LabV.arr
  go_enter Tryd.func8, Tryd.ntmps8
  go_wp2_with fail
  obtain ⟨lb, hlb⟩ : ∃ lb, w.heap.size = lb := ⟨_, rfl⟩
  obtain ⟨ub, hub⟩ : ∃ ub, lb + 1 = ub := ⟨_, rfl⟩
  obtain ⟨pb, hpb⟩ : ∃ pb, ub + 1 = pb := ⟨_, rfl⟩
  obtain ⟨wa, hwa⟩ : ∃ wa, ((w.alloc (.cells #[.int .u64 l.pool, .slice l.p l.n l.c, .int .i64 l.top, .int .i64 l.place] 37)).alloc (.cells #[.int .u64 u.pool, .int .u64 u.txg, .int .u64 u.note, .int .i64 u.root.top, .int .i64 u.root.at_, .int .i64 u.root.bytes, .int .u64 u.root.birth, .int .i64 u.root.kind, .int .u64 u.root.sa, .int .u64 u.root.sb, .int .u64 u.root.sc, .int .u64 u.root.sd] 45)).alloc (.cells #[.int .i64 p.top, .int .i64 p.at_, .int .i64 p.bytes, .int .u64 p.birth, .int .i64 p.kind, .int .u64 p.sa, .int .u64 p.sb, .int .u64 p.sc, .int .u64 p.sd] 26) = wa := ⟨_, rfl⟩
  rw [hwa] at hrp hrl hru hfa
  rw [hlb] at hrp hrl hru
  rw [hub] at hru hrp
  rw [hpb] at hrp
  rw [hwa, hlb, hub, hpb]
  have Hp0 := hid hrp
  have Hl0 := hid hrl
  have Hu0 := hid hru
  have HF0 := hid hfa
  clear hwa hpb hlb hub hrp hrl hru hfa
  refine (HAW.out wa).mono ?_
  rintro e w0 ⟨rfl, hf⟩
  have HU0 := hid (hf.heap Hu0.out (by simp))
  have HP0 := hid (hf.heap Hp0.out (by simp))
  have HL0 := hid (hf.heap Hl0.out (by simp))
  have HG0 := hid (HF0.out.trans hf (by simp))
  clear hf Hu0 Hp0 Hl0 HF0
  by_cases g1 : at_ < 0
  · go_wp2_with fail
    go_returns
    exact ⟨rfl, HG0.out⟩
  by_cases g2 : 127 < at_
  · go_wp2_with fail
    go_returns
    exact ⟨rfl, HG0.out⟩
  obtain ⟨t, rfl⟩ : ∃ t : Nat, at_ = t := ⟨at_.toNat, by omega⟩
  have ht : t < 128 := by omega
  clear g1 g2
  have g1 : ¬ ((t : Int) < 0) := by omega
  have g2 : ¬ (127 < (t : Int)) := by omega
  by_cases g3 : mask = 0
  · have g3b : (mask == 0) = true := by simpa using g3
    clear g3
    go_wp2_with fail
    go_returns
    exact ⟨rfl, HG0.out⟩
  have HM0 := hid g3
  have g3b : (mask == 0) = false := by simpa using g3
  clear g3
  obtain ⟨q0, q1, q2, q3⟩ := lb_row (l := l) HL0.out
  have qt := lt_of_heap HL0.out
  go_wp2_with fail
  clear q0 q1 q2 q3 qt g1 g2 g3b HL0
  refine (HEL2.out w0 HG0.out).mono ?_
  rintro e v1 ⟨b1, n1, c1, rfl, ⟨ml, mo, mb⟩, hf⟩
  have HV1 := hid hf
  have HO1 := hid mo
  have HB1 := hid mb
  have HN1 : Hid (CL = 0 → n1 = 128) := hid (fun h => by rw [if_pos h] at ml; have := HLN.out h; omega)
  clear hf ml mo mb
  go_upto_region 5 with fail
  go_cut [52] (fun s wx => s = .bool false ∧ Hid (wx = v1))
  case first =>
    by_cases hc : CL = 0
    · have hb : (CL == 0) = true := by simpa using hc
      obtain rfl : n1 = 128 := HN1.out hc
      clear hc
      go_wp2_with fail
      go_meet
      case rel => exact ⟨rfl, hid rfl⟩
    · have hb : (CL == 0) = false := by simpa using hc
      clear hc
      go_wp2_with fail
      go_meet
      case rel => exact ⟨rfl, hid rfl⟩
  obtain ⟨rfl, hcut⟩ := hcut
  have hw := hcut.out.symm
  clear hcut
  subst hw
  go_upto_if 54 with fail
  go_cut [] (fun wx => Hid (Frm [] w0 wx))
  case first =>
    by_cases hc : CL = 0
    case neg =>
      have hb : (CL == 0) = false := by simpa using hc
      clear hc
      go_wp2_with fail
      go_meet
      case rel => exact HV1
    have hb : (CL == 0) = true := by simpa using hc
    obtain rfl : n1 = 128 := HN1.out hc
    have mo := HO1.out
    rw [if_pos hc] at mo
    have HB : Hid (∀ z ∈ ZL, 0 ≤ z ∧ z < 256) := hid (HXL.out hc).1
    have HZL : Hid (ZL.length = 128) := hid (HLN.out hc)
    obtain ⟨g, rfl, hg, hcl, hz, hset⟩ := mo.setAt (i := t) (HLN.out hc) ht
    obtain ⟨x, hx⟩ : ∃ x, ZL.getD t 0 = x := ⟨_, rfl⟩
    have hx2 : zA ZL t = x := hx
    have hxr : 0 ≤ x ∧ x < 256 := by rw [← hx2]; exact zA_bd HB.out t
    rw [hx] at hcl
    obtain ⟨y0, y1⟩ := xor_ne hxr HM.out HM0.out
    have HY : Hid ((0 ≤ bits .xor .u8 x mask ∧ bits .xor .u8 x mask < 256) ∧ bits .xor .u8 x mask ≠ zA ZL t) := hid ⟨y1, by rw [hx2]; exact y0⟩
    have HDEC := hid ((HXL.out hc).2 t (bits .xor .u8 x mask) ht y1 (by rw [hx2]; exact y0))
    have HCAP := hid (own_capF mo).2.1
    have HO := hid (hset (bits .xor .u8 x mask))
    have HGN := hid (HB1.out g (by simp [blk]))
    clear mo hset hx hx2 hxr y0 y1 hc
    go_wp2_with fail
    obtain ⟨y, hy⟩ : ∃ y, v1.setCell ⟨g, t, none⟩ (.int .u8 (bits .xor .u8 x mask)) = y := ⟨_, rfl⟩
    have hf : Frm [g] v1 y := by rw [← hy]; exact (Frm.refl _ _).setCell _ _ (by simp)
    have hox := HO.out
    rw [hy] at hox
    rw [hy]
    have HO2 := hid hox
    have HFY : Hid (Frm [] w0 y) := hid (HV1.out.trans hf (fun i hi hl => by simp at hi; have := HGN.out; omega))
    clear hy hox HO hg hcl hz
    have hd := HDL.out (some ⟨g, 0, none⟩) 128 c1 (ZL.set t (bits .xor .u8 x mask)) y (by rw [List.length_set, HZL.out]) HCAP.out HO2.out.rd (set_byte HB.out HY.out.1 t)
    rw [HDEC.out] at hd
    refine hd.mono ?_
    clear hd hf
    rintro e y2 ⟨m, rfl, hmo, hms, _, hf2⟩
    have HF2 : Hid (Frm [] w0 y2) := hid (HFY.out.trans hf2 (by simp))
    have HMO := hid hmo
    have HMS := hid hms
    clear hf2 hmo hms
    unfold LabV.arr
    go_wp2_with fail
    have hfa : Frm [] y2 (y2.alloc (.cells #[.int .u64 m.pool, .slice m.p m.n m.c, .int .i64 m.top, .int .i64 m.place] 37)) := (Frm.refl _ _).alloc _
    obtain ⟨y3, hy3⟩ : ∃ y, y2.alloc (.cells #[.int .u64 m.pool, .slice m.p m.n m.c, .int .i64 m.top, .int .i64 m.place] 37) = y := ⟨_, rfl⟩
    rw [hy3] at hfa
    rw [hy3]
    clear hy3
    have HS := same_any m zeroL y3 (HMO.out.kept hfa) (zeroL_ok _) HMS.out
    rw [zL_arr] at HS
    refine HS.mono ?_
    rintro e y4 ⟨rfl, hf4⟩
    have HF4 := hid ((HF2.out.trans hfa (by simp)).trans hf4 (by simp))
    clear hfa hf4 HS
    go_wp2_with fail
    go_meet
    case rel => exact HF4
  have hf := hcut.out
  clear hcut
  obtain ⟨x1, hx1⟩ : ∃ W, W = wc := ⟨_, rfl⟩
  subst hx1
  have HU1 := hid (hf.heap HU0.out (by simp))
  have HP1 := hid (hf.heap HP0.out (by simp))
  have HG1 := hid (HG0.out.trans hf (by simp))
  clear hf HU0 HP0 HG0 HV1 HO1 HB1 HN1
  obtain ⟨q0, q1, q2, q3, q4, q5, q6, q7, q8, q9, q10, q11⟩ := ub_row (u := u) HU1.out
  have qt := lt_of_heap HU1.out
  go_wp2_with fail
  clear q0 q1 q2 q3 q4 q5 q6 q7 q8 q9 q10 q11 qt 
  refine (HEU.out x1).mono ?_
  rintro e v2 ⟨b2, n2, c2, rfl, ⟨ml, mo, mb⟩, hf⟩
  have HV2 := hid hf
  have HO2 := hid mo
  have HB2 := hid mb
  have HN2 : Hid (CU = 0 → n2 = 128) := hid (fun h => by rw [if_pos h] at ml; have := HXU.out.2.1; omega)
  clear hf ml mo mb
  go_upto_region 14 with fail
  go_cut [89] (fun s wx => s = .bool false ∧ Hid (wx = v2))
  case first =>
    by_cases hc : CU = 0
    · have hb : (CU == 0) = true := by simpa using hc
      obtain rfl : n2 = 128 := HN2.out hc
      clear hc
      go_wp2_with fail
      go_meet
      case rel => exact ⟨rfl, hid rfl⟩
    · have hb : (CU == 0) = false := by simpa using hc
      clear hc
      go_wp2_with fail
      go_meet
      case rel => exact ⟨rfl, hid rfl⟩
  obtain ⟨rfl, hcut⟩ := hcut
  have hw := hcut.out.symm
  clear hcut
  subst hw
  go_upto_if 91 with fail
  go_cut [] (fun wx => Hid (Frm [] x1 wx))
  case first =>
    by_cases hc : CU = 0
    case neg =>
      have hb : (CU == 0) = false := by simpa using hc
      clear hc
      go_wp2_with fail
      go_meet
      case rel => exact HV2
    have hb : (CU == 0) = true := by simpa using hc
    obtain rfl : n2 = 128 := HN2.out hc
    have mo := HO2.out
    rw [if_pos hc] at mo
    have HB : Hid (∀ z ∈ ZU, 0 ≤ z ∧ z < 256) := hid HXU.out.1
    have HZL : Hid (ZU.length = 128) := hid HXU.out.2.1
    obtain ⟨g, rfl, hg, hcl, hz, hset⟩ := mo.setAt (i := t) HXU.out.2.1 ht
    obtain ⟨x, hx⟩ : ∃ x, ZU.getD t 0 = x := ⟨_, rfl⟩
    have hx2 : zA ZU t = x := hx
    have hxr : 0 ≤ x ∧ x < 256 := by rw [← hx2]; exact zA_bd HB.out t
    rw [hx] at hcl
    obtain ⟨y0, y1⟩ := xor_ne hxr HM.out HM0.out
    have HY : Hid ((0 ≤ bits .xor .u8 x mask ∧ bits .xor .u8 x mask < 256) ∧ bits .xor .u8 x mask ≠ zA ZU t) := hid ⟨y1, by rw [hx2]; exact y0⟩
    have HDEC := hid (HXU.out.2.2 t (bits .xor .u8 x mask) ht y1 (by rw [hx2]; exact y0))
    have HCAP := hid (own_capF mo).2.1
    have HO := hid (hset (bits .xor .u8 x mask))
    have HGN := hid (HB2.out g (by simp [blk]))
    clear mo hset hx hx2 hxr y0 y1 hc
    go_wp2_with fail
    obtain ⟨y, hy⟩ : ∃ y, v2.setCell ⟨g, t, none⟩ (.int .u8 (bits .xor .u8 x mask)) = y := ⟨_, rfl⟩
    have hf : Frm [g] v2 y := by rw [← hy]; exact (Frm.refl _ _).setCell _ _ (by simp)
    have hox := HO.out
    rw [hy] at hox
    rw [hy]
    have HO2 := hid hox
    have HFY : Hid (Frm [] x1 y) := hid (HV2.out.trans hf (fun i hi hl => by simp at hi; have := HGN.out; omega))
    clear hy hox HO hg hcl hz
    have hd := HDU.out (some ⟨g, 0, none⟩) 128 c2 (ZU.set t (bits .xor .u8 x mask)) y (by rw [List.length_set, HZL.out]) HCAP.out HO2.out.rd (set_byte HB.out HY.out.1 t)
    rw [HDEC.out] at hd
    dsimp only at hd
    rw [z12_arr] at hd
    refine hd.mono ?_
    clear hd hf
    rintro e y2 ⟨rfl, hf2⟩
    have HF2 : Hid (Frm [] x1 y2) := hid (HFY.out.trans hf2 (by simp))
    clear hf2
    go_wp2_with fail
    go_meet
    case rel => exact hid (by first | exact HF2.out | exact HF2.out.alloc _)
  have hf := hcut.out
  clear hcut
  obtain ⟨x2, hx2⟩ : ∃ W, W = wc := ⟨_, rfl⟩
  subst hx2
  have HU2 := hid (hf.heap HU1.out (by simp))
  have HP2 := hid (hf.heap HP1.out (by simp))
  have HG2 := hid (HG1.out.trans hf (by simp))
  clear hf HU1 HP1 HG1 HV2 HO2 HB2 HN2
  obtain ⟨q0, q1, q2, q3, q4, q5, q6, q7, q8⟩ := ptr_row (p := p) HP2.out
  have qt := lt_of_heap HP2.out
  go_wp2_with fail
  clear q0 q1 q2 q3 q4 q5 q6 q7 q8 qt 
  refine (HEP.out x2).mono ?_
  rintro e v3 ⟨b3, n3, c3, rfl, ⟨ml, mo, mb⟩, hf⟩
  have HV3 := hid hf
  have HO3 := hid mo
  have HB3 := hid mb
  have HN3 : Hid (CP = 0 → n3 = 64) := hid (fun h => by rw [if_pos h] at ml; have := HXP.out.2.1; omega)
  clear hf ml mo mb
  go_upto_region 22 with fail
  go_cut [124] (fun s wx => s = .bool false ∧ Hid (wx = v3))
  case first =>
    by_cases hc : CP = 0
    · have hb : (CP == 0) = true := by simpa using hc
      obtain rfl : n3 = 64 := HN3.out hc
      clear hc
      go_wp2_with fail
      go_meet
      case rel => exact ⟨rfl, hid rfl⟩
    · have hb : (CP == 0) = false := by simpa using hc
      clear hc
      go_wp2_with fail
      go_meet
      case rel => exact ⟨rfl, hid rfl⟩
  obtain ⟨rfl, hcut⟩ := hcut
  have hw := hcut.out.symm
  clear hcut
  subst hw
  obtain ⟨k, hk'⟩ : ∃ k : Nat, t % 64 = k := ⟨_, rfl⟩
  have hk : k < 64 := by omega
  have hrem : (t : Int).tmod 64 = (k : Int) := by rw [Int.tmod_eq_emod_of_nonneg (by omega)]; omega
  clear hk'
  by_cases hc : CP = 0
  case neg =>
    have hb : (CP == 0) = false := by simpa using hc
    clear hc
    go_wp2_with fail
    go_returns
    exact ⟨rfl, HG2.out.trans HV3.out (by simp)⟩
  have hb : (CP == 0) = true := by simpa using hc
  obtain rfl : n3 = 64 := HN3.out hc
  have mo := HO3.out
  rw [if_pos hc] at mo
  have HB : Hid (∀ z ∈ ZP, 0 ≤ z ∧ z < 256) := hid HXP.out.1
  have HZL : Hid (ZP.length = 64) := hid HXP.out.2.1
  obtain ⟨g, rfl, hg, hcl, hz, hset⟩ := mo.setAt (i := k) HXP.out.2.1 hk
  obtain ⟨x, hx⟩ : ∃ x, ZP.getD k 0 = x := ⟨_, rfl⟩
  have hx2 : zA ZP k = x := hx
  have hxr : 0 ≤ x ∧ x < 256 := by rw [← hx2]; exact zA_bd HB.out k
  rw [hx] at hcl
  obtain ⟨y0, y1⟩ := xor_ne hxr HM.out HM0.out
  have HY : Hid ((0 ≤ bits .xor .u8 x mask ∧ bits .xor .u8 x mask < 256) ∧ bits .xor .u8 x mask ≠ zA ZP k) := hid ⟨y1, by rw [hx2]; exact y0⟩
  have HDEC := hid (HXP.out.2.2 k (bits .xor .u8 x mask) hk y1 (by rw [hx2]; exact y0))
  have HCAP := hid (own_capF mo).2.1
  have HO := hid (hset (bits .xor .u8 x mask))
  have HGN := hid (HB3.out g (by simp [blk]))
  clear mo hset hx hx2 hxr y0 y1 hc
  go_wp2_with fail
  obtain ⟨y, hy⟩ : ∃ y, v3.setCell ⟨g, k, none⟩ (.int .u8 (bits .xor .u8 x mask)) = y := ⟨_, rfl⟩
  have hf : Frm [g] v3 y := by rw [← hy]; exact (Frm.refl _ _).setCell _ _ (by simp)
  have hox := HO.out
  rw [hy] at hox
  rw [hy]
  have HO2 := hid hox
  have HFY : Hid (Frm [] x2 y) := hid (HV3.out.trans hf (fun i hi hl => by simp at hi; have := HGN.out; omega))
  clear hy hox HO hg hcl hz
  have hd := HDP.out (some ⟨g, 0, none⟩) 64 c3 (ZP.set k (bits .xor .u8 x mask)) y (by rw [List.length_set, HZL.out]) (by omega) HO2.out.rd (set_byte HB.out HY.out.1 k)
  obtain ⟨RP, hRP⟩ : ∃ R, decP (ZP.set k (bits .xor .u8 x mask)) = R := ⟨_, rfl⟩
  rw [hRP] at HDEC hd
  clear hRP
  refine hd.mono ?_
  clear hd hf
  rintro e y2 ⟨rfl, hf2⟩
  have hf3 := HFY.out.trans hf2 (by simp)
  have HPR := hid (hf3.heap HP2.out (by simp))
  have HF2 : Hid (Frm [] w y2) := hid (HG2.out.trans hf3 (by simp))
  clear hf2 hf3
  obtain ⟨q, F⟩ := RP
  unfold P9.arr
  dsimp only at HDEC ⊢
  by_cases hF : F = 0
  case neg =>
    have hbF : (F == 0) = false := by simpa using hF
    clear hF
    go_wp2_with fail
    go_returns
    exact ⟨rfl, by first | exact HF2.out | exact HF2.out.alloc _⟩
  have HNE := hid (HDEC.out hF)
  have hbF : (F == 0) = true := by simpa using hF
  clear hF HDEC
  obtain ⟨d0, d1, d2, d3, d4, d5, d6, d7, d8⟩ := ptr_row (p := p) HPR.out
  have dt := lt_of_heap HPR.out
  by_cases e0 : q.top = p.top
  case neg =>
    have x0 : (q.top == p.top) = false := by simpa using e0
    clear e0
    go_wp2_with fail
    go_returns
    exact ⟨rfl, by first | exact HF2.out | exact HF2.out.alloc _⟩
  have x0 : (q.top == p.top) = true := by simpa using e0
  have E0 := hid e0
  clear e0
  by_cases e1 : q.at_ = p.at_
  case neg =>
    have x1 : (q.at_ == p.at_) = false := by simpa using e1
    clear e1
    go_wp2_with fail
    go_returns
    exact ⟨rfl, by first | exact HF2.out | exact HF2.out.alloc _⟩
  have x1 : (q.at_ == p.at_) = true := by simpa using e1
  have E1 := hid e1
  clear e1
  by_cases e2 : q.bytes = p.bytes
  case neg =>
    have x2 : (q.bytes == p.bytes) = false := by simpa using e2
    clear e2
    go_wp2_with fail
    go_returns
    exact ⟨rfl, by first | exact HF2.out | exact HF2.out.alloc _⟩
  have x2 : (q.bytes == p.bytes) = true := by simpa using e2
  have E2 := hid e2
  clear e2
  by_cases e3 : q.birth = p.birth
  case neg =>
    have x3 : (q.birth == p.birth) = false := by simpa using e3
    clear e3
    go_wp2_with fail
    go_returns
    exact ⟨rfl, by first | exact HF2.out | exact HF2.out.alloc _⟩
  have x3 : (q.birth == p.birth) = true := by simpa using e3
  have E3 := hid e3
  clear e3
  by_cases e4 : q.kind = p.kind
  case neg =>
    have x4 : (q.kind == p.kind) = false := by simpa using e4
    clear e4
    go_wp2_with fail
    go_returns
    exact ⟨rfl, by first | exact HF2.out | exact HF2.out.alloc _⟩
  have x4 : (q.kind == p.kind) = true := by simpa using e4
  have E4 := hid e4
  clear e4
  by_cases e5 : q.sa = p.sa
  case neg =>
    have x5 : (q.sa == p.sa) = false := by simpa using e5
    clear e5
    go_wp2_with fail
    go_returns
    exact ⟨rfl, by first | exact HF2.out | exact HF2.out.alloc _⟩
  have x5 : (q.sa == p.sa) = true := by simpa using e5
  have E5 := hid e5
  clear e5
  by_cases e6 : q.sb = p.sb
  case neg =>
    have x6 : (q.sb == p.sb) = false := by simpa using e6
    clear e6
    go_wp2_with fail
    go_returns
    exact ⟨rfl, by first | exact HF2.out | exact HF2.out.alloc _⟩
  have x6 : (q.sb == p.sb) = true := by simpa using e6
  have E6 := hid e6
  clear e6
  by_cases e7 : q.sc = p.sc
  case neg =>
    have x7 : (q.sc == p.sc) = false := by simpa using e7
    clear e7
    go_wp2_with fail
    go_returns
    exact ⟨rfl, by first | exact HF2.out | exact HF2.out.alloc _⟩
  have x7 : (q.sc == p.sc) = true := by simpa using e7
  have E7 := hid e7
  clear e7
  by_cases e8 : q.sd = p.sd
  case neg =>
    have x8 : (q.sd == p.sd) = false := by simpa using e8
    clear e8
    go_wp2_with fail
    go_returns
    exact ⟨rfl, by first | exact HF2.out | exact HF2.out.alloc _⟩
  have x8 : (q.sd == p.sd) = true := by simpa using e8
  have E8 := hid e8
  clear e8
  exact absurd (by
    obtain ⟨a0, a1, a2, a3, a4, a5, a6, a7, a8⟩ := q
    obtain ⟨b0, b1, b2, b3, b4, b5, b6, b7, b8⟩ := p
    have h0 := E0.out
    have h1 := E1.out
    have h2 := E2.out
    have h3 := E3.out
    have h4 := E4.out
    have h5 := E5.out
    have h6 := E6.out
    have h7 := E7.out
    have h8 := E8.out
    simp only at h0 h1 h2 h3 h4 h5 h6 h7 h8
    subst h0 h1 h2 h3 h4 h5 h6 h7 h8
    rfl) HNE.out
end Go.Proofs.YtdnnbinmippkdaaDoor
