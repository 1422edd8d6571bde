/- Records: RecordCut for any record. -/
import Derived.Test.YtajfjkfnmmfhmaaDoorQav
namespace Go.Proofs.YtajfjkfnmmfhmaaDoor
section
open Go.RowKit Go.Lib
set_option maxRecDepth 100000

theorem EncR.bad {w w' : World} {a : S4} {r : Rc} {P : List Pr} {K D : List Int} {e : Ending} (h : EncR w a r P K D e w') (hm : ¬ RcMay r P K D) : Frm [] w w' ∧ e = .returned (.tuple #[.slice none 0 0, .agg S4.z.arr, .int .i64 200]) := by
  rcases h.2 with h2 | h2
  · exact ⟨h.1, h2.2⟩
  · exact absurd h2.1 hm
set_option maxHeartbeats 25600000 in
theorem recordCut_any (r : Rc) (P : List Pr) (K D : List Int) (a : S4) (ha : a.Bd) (cut : Int) (hcut : -9223372036854775808 ≤ cut ∧ cut ≤ 9223372036854775807) (w : World) (hr : RcOk w r P K D) (hs : r.name.size ≤ 9223372036854775806) (hpr : Primes w) :
    Calls Tryd.prog 4 #[.agg r.arr, .agg a.arr, .int .i64 cut] w fun e w' => e = .returned (.bool true) ∧ Frm [] w w' := by
  have hrow := heap_alloc_new w (.cells r.arr 30)
  have hfa : Frm [] w (w.alloc (.cells r.arr 30)) := (Frm.refl _ _).alloc _
  obtain ⟨wa, hwa⟩ : ∃ z, w.alloc (.cells r.arr 30) = z := ⟨_, rfl⟩
  obtain ⟨ba, hba⟩ : ∃ z, w.heap.size = z := ⟨_, rfl⟩
  rw [hwa, hba] at hrow
  rw [hwa] at hfa
  have hrows := heap_alloc_new wa (.cells a.arr 39)
  have hfs : Frm [] wa (wa.alloc (.cells a.arr 39)) := (Frm.refl _ _).alloc _
  obtain ⟨ws, hws⟩ : ∃ z, wa.alloc (.cells a.arr 39) = z := ⟨_, rfl⟩
  obtain ⟨bs, hbs⟩ : ∃ z, wa.heap.size = z := ⟨_, rfl⟩
  rw [hws, hbs] at hrows
  rw [hws] at hfs
  have hb1 : ba + 1 = bs := by rw [← hbs, ← hwa, ← hba]; simp
  have HB1 := hid hb1
  have HFS : Hid (Frm [] w ws) := hid (hfa.trans hfs (by simp))
  have HRA : Hid (∀ W, Frm [] ws W → W.heap[ba]? = some (.cells r.arr 30 (0, 0))) := hid (fun W hf => hf.heap (hfs.heap hrow (by simp)) (by simp))
  have HRS : Hid (∀ W, Frm [] ws W → W.heap[bs]? = some (.cells a.arr 39 (0, 0))) := hid (fun W hf => hf.heap hrows (by simp))
  have HX := hid (fun V (hf : Frm [] ws V) => rc_cells (HRA.out V hf))
  have HWA := hid hwa
  have HWS := hid hws
  have HBA := hid hba
  have HBS := hid hbs
  have HOK := hid (fun W (hf : Frm [] ws W) => hr.k0 (HFS.out.trans hf (by simp)))
  have HPR := hid (fun W (hf : Frm [] ws W) => (hpr.kept HFS.out).kept hf)
  have HAW := hid (awake20_any ws (HPR.out ws (Frm.refl _ _)))
  have HEN := hid (fun W (hf : Frm [] ws W) => encodeR_any r P K D a ha W (HOK.out W hf) hs (HPR.out W hf))
  have HPL : Hid (P.length = r.pn ∧ K.length = r.kn ∧ D.length = r.dl) := hid ⟨hr.pl, hr.kl, hr.dn⟩
  have HDB := hid hr.db
  have HAB := hid ha
  obtain ⟨R, hR⟩ : ∃ R, r = R := ⟨_, rfl⟩
  obtain ⟨AA, hAA⟩ : ∃ R, a = R := ⟨_, rfl⟩
  have HENC : Hid (∀ W e w', EncR W a r P K D e w' → EncR W AA R P K D e w') := hid (fun W e w' h => by rw [← hR, ← hAA]; exact h)
  have HDA : Hid (∀ p n c bs W, Calls Tryd.prog 11 #[.slice p n c, .agg AA.arr] W (DecP W AA bs) → Calls Tryd.prog 11 #[.slice p n c, .agg a.arr] W (DecP W AA bs)) := hid (fun p n c bs W h => by rw [hAA]; exact h)
  have HMY : Hid (RcMay r P K D ↔ RcMay R P K D) := hid (by rw [hR])
  have HEN2 := hid (fun W (hf : Frm [] ws W) => (HEN.out W hf).mono (HENC.out W))
  rw [hR] at HPL
  have HRK : Hid (∀ W, Frm [] ws W → RcOk W R P K D) := hid (fun W hf => by rw [← hR]; exact HOK.out W hf)
  have HAB2 : Hid AA.Bd := hid (by rw [← hAA]; exact ha)
  have HRC : Hid (R.core = r.core) := hid (by rw [hR])
  clear hrow hfa hwa hba hrows hfs hws hbs hb1 hr hpr ha HEN HENC hR hAA HAB
  obtain ⟨kind, name, typ, frm, guid, origin, snap, pp, pn, pc, obj, at_, many, kp, kn, kc, dp, dl, dc⟩ := r
  obtain ⟨s0, s1, s2, s3⟩ := a
  unfold S4.arr at HDA
  simp only at HDA
  unfold Rc.arr S4.arr at HEN2
  unfold Rc.arr at HWA HRA
  unfold S4.arr at HWS HRS
  unfold Rc.arr S4.arr
  simp only at HEN2 HWA HRA HWS HRS HX HOK ⊢
  go_enter Tryd.func4, Tryd.ntmps4
  go_upto_region 1 with fail
  first | rw [HWA.out] | skip
  first | rw [HBA.out] | skip
  first | rw [HBS.out] | skip
  first | rw [HB1.out] | skip
  first | rw [HWS.out] | skip
  go_wp2_with fail
  refine HAW.out.mono ?_
  rintro e w1 ⟨rfl, hf1⟩
  have HF1 := hid hf1
  clear hf1 HAW
  obtain ⟨q0, q1, q2, q3, q4, q5, q6, q7, q8, q9, q10, q11, q12⟩ := HX.out w1 HF1.out
  have p0 : w1.cell? ⟨bs, 0, none⟩ = some (.int .u64 s0) := by rw [cell_of_row _ _ _ _ _ _ (HRS.out w1 HF1.out)]; rfl
  have p1 : w1.cell? ⟨bs, 1, none⟩ = some (.int .u64 s1) := by rw [cell_of_row _ _ _ _ _ _ (HRS.out w1 HF1.out)]; rfl
  have p2 : w1.cell? ⟨bs, 2, none⟩ = some (.int .u64 s2) := by rw [cell_of_row _ _ _ _ _ _ (HRS.out w1 HF1.out)]; rfl
  have p3 : w1.cell? ⟨bs, 3, none⟩ = some (.int .u64 s3) := by rw [cell_of_row _ _ _ _ _ _ (HRS.out w1 HF1.out)]; rfl
  by_cases hm : RcMay R P K D
  case neg =>
    go_wp2_with fail
    refine (HEN2.out w1 HF1.out).mono ?_
    rintro e w2 he
    obtain ⟨hf2, rfl⟩ := EncR.bad he hm
    unfold S4.z S4.arr
    simp only
    have HF2 : Hid (Frm [] ws w2) := hid (HF1.out.trans hf2 (by simp))
    clear he hf2 hm q0 q1 q2 q3 q4 q5 q6 q7 q8 q9 q10 q11 q12 p0 p1 p2 p3
    go_wp2_with fail
    first | go_returns | skip
    exact ⟨rfl, HFS.out.trans (HF2.out.alloc _) (by simp)⟩
  go_wp2_with fail
  refine (HEN2.out w1 HF1.out).mono ?_
  rintro e w2 he
  obtain ⟨hf2, g, n, rfl, hn, hg, _⟩ := EncR.good he hm
  have HBK : Hid (∀ m, m < n → dcE AA ((recB AA R P K D).take m) = 10) := hid (fun m hlt => dec_cut AA AA m hm HPL.out.1 HPL.out.2.1 HPL.out.2.2 (by rw [← hn]; exact hlt))
  have HB0 : Hid (dcE AA (recB AA R P K D) = 0) := hid (by have h := dec_back AA [] hm HPL.out.1 HPL.out.2.1 HPL.out.2.2; rw [List.append_nil] at h; exact h)
  have HOF := hid (dec_of (a := AA) [] hm HPL.out.1 HPL.out.2.1 HPL.out.2.2)
  rw [List.append_nil, ← hn] at HOF
  have hnl : 37 ≤ n ∧ n ≤ 2100 := by rw [hn]; unfold recB; rw [recL_len]; have := bodyR_len hm HPL.out.1 HPL.out.2.1 HPL.out.2.2; omega
  have hbb : ∀ z ∈ recB AA R P K D, 0 ≤ z ∧ z < 256 := recB_bd HDB.out
  obtain ⟨S, hS⟩ : ∃ S, selR AA R P K D = S := ⟨_, rfl⟩
  rw [hS] at HOF ⊢
  obtain ⟨BS, hBS⟩ : ∃ z, recB AA R P K D = z := ⟨_, rfl⟩
  rw [hBS] at hg hn HBK HB0 HOF hbb
  have hrd : Rd w2 (some ⟨g, 0, none⟩) BS := (own_of_block (E := 5) hg (by unfold maxLen; omega)).rd
  obtain ⟨t0, t1, t2, t3⟩ := S
  unfold S4.arr
  simp only
  have HF2 : Hid (Frm [] ws w2) := hid (HF1.out.trans hf2 (by simp))
  have HRD := hid (fun W (hf : Frm [] w2 W) => hrd.kept hf (by simp))
  have HD1 := hid (fun m W (hlt : m < n) (hf : Frm [] w2 W) => HDA.out _ _ _ _ _ (decodeR_any (some ⟨g, 0, none⟩) m n (BS.take m) AA HAB2.out W (by rw [List.length_take]; omega) (by omega) (by omega) ((HRD.out W hf).take m) (fun z hz => hbb z (List.mem_of_mem_take hz)) (HPR.out W (HF2.out.trans hf (by simp)))))
  have HD2 := hid (fun W (hf : Frm [] w2 W) => HDA.out _ _ _ _ _ (decodeR_any (some ⟨g, 0, none⟩) n n BS AA HAB2.out W hn.symm (by omega) (by omega) (HRD.out W hf) hbb (HPR.out W (HF2.out.trans hf (by simp)))))
  clear hn he hf2 hg hrd hbb hS hBS hm HEN2 HF1 q0 q1 q2 q3 q4 q5 q6 q7 q8 q9 q10 q11 q12 p0 p1 p2 p3
  go_upto_region 3 with fail
  obtain ⟨w3, hw3⟩ : ∃ z, w2.alloc (.cells #[.int .u64 t0, .int .u64 t1, .int .u64 t2, .int .u64 t3] 39) = z := ⟨_, rfl⟩
  have HF3 : Hid (Frm [] w2 w3) := hid (by rw [← hw3]; exact (Frm.refl _ _).alloc _)
  rw [hw3]
  clear hw3
  go_upto_if 44 with fail
  go_cut [11] (fun v wx => ∃ k : Nat, v = .int .i64 (k : Int) ∧ k ≤ 9223372036854775807 ∧ Hid (wx = w3))
  case first =>
    by_cases hc : cut < 0
    · have h64 : wrap64 (cut + 1) = cut + 1 := by unfold wrap64; omega
      have h65 : wrap64 (-(cut + 1)) = -(cut + 1) := by unfold wrap64; omega
      go_wp2_with fail
      go_meet
      exact ⟨(-(cut + 1)).toNat, by congr 1; omega, by omega, hid rfl⟩
    · go_wp2_with fail
      go_meet
      exact ⟨cut.toNat, by congr 1; omega, by omega, hid rfl⟩
  case rest =>
    obtain ⟨k, rfl, hkb, HWC⟩ := hcut
    have hwc0 : wc = w3 := HWC.out
    clear HWC
    subst wc
    obtain ⟨m, hme⟩ : ∃ z, k % n = z := ⟨_, rfl⟩
    have hmn : m < n := by rw [← hme]; exact Nat.mod_lt _ (by omega)
    have htm : (k : Int).tmod (n : Int) = (m : Int) := by rw [Int.tmod_eq_emod_of_nonneg (by omega), ← hme]; rfl
    have hn0 : ¬ n = 0 := by omega
    have HMN := hid hmn
    have hslm : ∀ W, (Instr.slice 23 (.slice (some ⟨g, 0, none⟩) n n) none (some (.int .i64 (m : Int))) none).run Tryd.prog W = .ok (.slice (some ⟨g, 0, none⟩) m n) W := fun W => sl_h (P := Tryd.prog) Tryd.underlying23 infoU8R (some ⟨g, 0, none⟩) n n m (by omega) W
    have sA : ∀ W, Frm [] w3 W → W.cell? ⟨bs, 0, none⟩ = some (.int .u64 s0) ∧ W.cell? ⟨bs, 1, none⟩ = some (.int .u64 s1) ∧ W.cell? ⟨bs, 2, none⟩ = some (.int .u64 s2) ∧ W.cell? ⟨bs, 3, none⟩ = some (.int .u64 s3) := fun W hf => by
      have hr := HRS.out W (HF2.out.trans (HF3.out.trans hf (by simp)) (by simp))
      refine ⟨?_, ?_, ?_, ?_⟩ <;> (rw [cell_of_row _ _ _ _ _ _ hr]; rfl)
    clear hme hmn hkb
    go_upto_region 8 with fail
    go_cut [12, 13, 14, 15] (fun x q z e wx => ∃ bx bz, x = .pointer (some ⟨bx, 0, none⟩) ∧ q = .int .i64 0 ∧ z = .pointer (some ⟨bz, 0, none⟩) ∧ e = .int .i64 10 ∧ Hid (wx.heap[bx]? = some (.cells #[.int .i64 0, .string ⟨#[]⟩, .int .i64 0, .int .i64 0, .int .i64 0, .int .i64 0, .string ⟨#[]⟩, .slice none 0 0, .int .i64 0, .int .i64 0, .int .i64 0, .slice none 0 0, .slice none 0 0] 30 (0, 0))) ∧ Hid (wx.heap[bz]? = some (.cells #[.int .u64 0, .int .u64 0, .int .u64 0, .int .u64 0] 39 (0, 0))) ∧ Hid (Frm [] w3 wx))
    case first =>
      obtain ⟨wd, hwd⟩ : ∃ z, w3.drew = z := ⟨_, rfl⟩
      have hF0 : Frm [] w3 wd := by rw [← hwd]; exact (Frm.refl _ _).drew
      refine wp_region_tail (S := fun W => (W.cell? ⟨bs, 0, none⟩ = some (.int .u64 s0) ∧ W.cell? ⟨bs, 1, none⟩ = some (.int .u64 s1) ∧ W.cell? ⟨bs, 2, none⟩ = some (.int .u64 s2) ∧ W.cell? ⟨bs, 3, none⟩ = some (.int .u64 s3))) 18 19 rfl (by kernel_rfl) (by kernel_rfl) ?_
      rw [hwd]
      refine wpAnyHT_take (i := 0) (oi := _) (v := ?_) (by kernel_rfl) rfl (by kernel_rfl) (by kernel_rfl) (by kernel_rfl) (by kernel_rfl) (fun _ _ _ h => h) (Or.inl ⟨by rfl, ?_⟩) (sA _ hF0) ?_
      rotate_left 1
      · (intro W hSw; obtain ⟨e0, e1, e2, e3⟩ := hSw; (try simp only [List.getElem_toArray, List.getElem_cons_zero]); go_simp; try with_reducible rfl)
      try simp only [List.getElem_toArray, List.getElem_cons_zero, Act.put, List.setIfInBounds_toArray, List.set_cons_zero, List.set_cons_succ]
      refine wpAnyHT_take (i := 1) (oi := _) (v := ?_) (by kernel_rfl) rfl (by kernel_rfl) (by kernel_rfl) (by kernel_rfl) (by kernel_rfl) (fun _ _ _ h => h) (Or.inl ⟨by rfl, ?_⟩) (sA _ hF0) ?_
      rotate_left 1
      · (intro W hSw; obtain ⟨e0, e1, e2, e3⟩ := hSw; (try simp only [List.getElem_toArray, List.getElem_cons_succ, List.getElem_cons_zero]); go_simp; try with_reducible rfl)
      try simp only [List.getElem_toArray, List.getElem_cons_succ, List.getElem_cons_zero, Act.put, List.setIfInBounds_toArray, List.set_cons_zero, List.set_cons_succ]
      refine wpAnyHT_take (i := 2) (oi := _) (v := ?_) (by kernel_rfl) rfl (by kernel_rfl) (by kernel_rfl) (by kernel_rfl) (by kernel_rfl) (fun _ _ _ h => h) (Or.inl ⟨by rfl, ?_⟩) (sA _ hF0) ?_
      rotate_left 1
      · (intro W hSw; obtain ⟨e0, e1, e2, e3⟩ := hSw; (try simp only [List.getElem_toArray, List.getElem_cons_succ, List.getElem_cons_zero]); go_simp; try with_reducible rfl)
      try simp only [List.getElem_toArray, List.getElem_cons_succ, List.getElem_cons_zero, Act.put, List.setIfInBounds_toArray, List.set_cons_zero, List.set_cons_succ]
      refine wpAnyHT_take (i := 3) (oi := _) (v := ?_) (by kernel_rfl) rfl (by kernel_rfl) (by kernel_rfl) (by kernel_rfl) (by kernel_rfl) (fun _ _ _ h => h) (Or.inl ⟨by rfl, ?_⟩) (sA _ hF0) ?_
      rotate_left 1
      · (intro W hSw; obtain ⟨e0, e1, e2, e3⟩ := hSw; (try simp only [List.getElem_toArray, List.getElem_cons_succ, List.getElem_cons_zero]); go_simp; try with_reducible rfl)
      try simp only [List.getElem_toArray, List.getElem_cons_succ, List.getElem_cons_zero, Act.put, List.setIfInBounds_toArray, List.set_cons_zero, List.set_cons_succ]
      refine wpAnyHT_take (i := 4) (oi := _) (v := ?_) (by kernel_rfl) rfl (by kernel_rfl) (by kernel_rfl) (by kernel_rfl) (by kernel_rfl) (fun _ _ _ h => h) (Or.inl ⟨by rfl, ?_⟩) (sA _ hF0) ?_
      rotate_left 1
      · (intro W hSw; obtain ⟨e0, e1, e2, e3⟩ := hSw; (try simp only [List.getElem_toArray, List.getElem_cons_succ, List.getElem_cons_zero]); go_simp; try with_reducible rfl)
      try simp only [List.getElem_toArray, List.getElem_cons_succ, List.getElem_cons_zero, Act.put, List.setIfInBounds_toArray, List.set_cons_zero, List.set_cons_succ]
      refine wpAnyHT_take (i := 5) (oi := _) (v := ?_) (by kernel_rfl) rfl (by kernel_rfl) (by kernel_rfl) (by kernel_rfl) (by kernel_rfl) (fun _ _ _ h => h) (Or.inl ⟨by rfl, ?_⟩) (sA _ hF0) ?_
      rotate_left 1
      · (intro W hSw; obtain ⟨e0, e1, e2, e3⟩ := hSw; have hsl := hslm W; (try simp only [List.getElem_toArray, List.getElem_cons_succ, List.getElem_cons_zero]); go_simp; try with_reducible rfl)
      try simp only [List.getElem_toArray, List.getElem_cons_succ, List.getElem_cons_zero, Act.put, List.setIfInBounds_toArray, List.set_cons_zero, List.set_cons_succ]
      refine wpAnyHT_take (i := 6) (oi := _) (v := ?_) (by kernel_rfl) rfl (by kernel_rfl) (by kernel_rfl) (by kernel_rfl) (by kernel_rfl) (fun _ _ _ h => h) (Or.inl ⟨by rfl, ?_⟩) (sA _ hF0) ?_
      rotate_left 1
      · (intro W hSw; obtain ⟨e0, e1, e2, e3⟩ := hSw; (try simp only [List.getElem_toArray, List.getElem_cons_succ, List.getElem_cons_zero]); go_simp; try with_reducible rfl)
      try simp only [List.getElem_toArray, List.getElem_cons_succ, List.getElem_cons_zero, Act.put, List.setIfInBounds_toArray, List.set_cons_zero, List.set_cons_succ]
      refine wpAnyHT_three (i := 7) (j := 13) (k := 14) rfl rfl rfl (by kernel_rfl) (by kernel_rfl) (by kernel_rfl) (by kernel_rfl) (fun K hK => ?_) (fun K hK => ?_) (fun K hK => ?_)
      · try simp only [List.getElem_toArray, List.getElem_cons_succ, List.getElem_cons_zero]
        go_simp
        refine (HD1.out m wd HMN.out (HF3.out.trans hF0 (by simp))).mono ?_
        rintro e wC hd
        obtain ⟨hfc, he⟩ := DecP.bad hd (HBK.out m HMN.out) (by decide)
        have he2 : e = .returned (.tuple #[.agg #[.int .i64 0, .string ⟨#[]⟩, .int .i64 0, .int .i64 0, .int .i64 0, .int .i64 0, .string ⟨#[]⟩, .slice none 0 0, .int .i64 0, .int .i64 0, .int .i64 0, .slice none 0 0, .slice none 0 0], .int .i64 0, .agg #[.int .u64 0, .int .u64 0, .int .u64 0, .int .u64 0], .int .i64 10]) := he
        subst he2
        have hF1 : Frm [] w3 wC := hF0.trans hfc (by simp)
        refine hK _ _ (sA _ hF1) ?_
        clear hK K hd he
        refine wpAnyHT_take (i := 8) (oi := _) (v := ?_) (by kernel_rfl) rfl (by kernel_rfl) (by kernel_rfl) (by kernel_rfl) (by kernel_rfl) (fun _ _ _ h => h) (Or.inl ⟨by rfl, ?_⟩) (sA _ hF1) ?_
        rotate_left 1
        · (intro W hSw; obtain ⟨e0, e1, e2, e3⟩ := hSw; (try simp only [List.getElem_toArray, List.getElem_cons_succ, List.getElem_cons_zero]); go_simp; try with_reducible rfl)
        try simp only [List.getElem_toArray, List.getElem_cons_succ, List.getElem_cons_zero, Act.put, List.setIfInBounds_toArray, List.set_cons_zero, List.set_cons_succ]
        refine wpAnyHT_take (i := 9) (oi := _) (v := ?_) (by kernel_rfl) rfl (by kernel_rfl) (by kernel_rfl) (by kernel_rfl) (by kernel_rfl) (fun _ _ _ h => h) (Or.inl ⟨by rfl, ?_⟩) (sA _ hF1) ?_
        rotate_left 1
        · (intro W hSw; obtain ⟨e0, e1, e2, e3⟩ := hSw; (try simp only [List.getElem_toArray, List.getElem_cons_succ, List.getElem_cons_zero]); go_simp; try with_reducible rfl)
        try simp only [List.getElem_toArray, List.getElem_cons_succ, List.getElem_cons_zero, Act.put, List.setIfInBounds_toArray, List.set_cons_zero, List.set_cons_succ]
        refine wpAnyHT_take (i := 10) (oi := _) (v := ?_) (by kernel_rfl) rfl (by kernel_rfl) (by kernel_rfl) (by kernel_rfl) (by kernel_rfl) (fun _ _ _ h => h) (Or.inl ⟨by rfl, ?_⟩) (sA _ hF1) ?_
        rotate_left 1
        · (intro W hSw; obtain ⟨e0, e1, e2, e3⟩ := hSw; (try simp only [List.getElem_toArray, List.getElem_cons_succ, List.getElem_cons_zero]); go_simp; try with_reducible rfl)
        try simp only [List.getElem_toArray, List.getElem_cons_succ, List.getElem_cons_zero, Act.put, List.setIfInBounds_toArray, List.set_cons_zero, List.set_cons_succ]
        refine wpAnyHT_take (i := 11) (oi := _) (v := ?_) (by kernel_rfl) rfl (by kernel_rfl) (by kernel_rfl) (by kernel_rfl) (by kernel_rfl) (fun _ _ _ h => h) (Or.inl ⟨by rfl, ?_⟩) (sA _ hF1) ?_
        rotate_left 1
        · (intro W hSw; obtain ⟨e0, e1, e2, e3⟩ := hSw; (try simp only [List.getElem_toArray, List.getElem_cons_succ, List.getElem_cons_zero]); go_simp; try with_reducible rfl)
        try simp only [List.getElem_toArray, List.getElem_cons_succ, List.getElem_cons_zero, Act.put, List.setIfInBounds_toArray, List.set_cons_zero, List.set_cons_succ]
        refine wpAnyHT_take (i := 12) (oi := _) (v := ?_) (by kernel_rfl) rfl (by kernel_rfl) (by kernel_rfl) (by kernel_rfl) (by kernel_rfl) (fun _ _ _ h => h) (Or.inl ⟨by rfl, ?_⟩) (sA _ hF1) ?_
        rotate_left 1
        · (intro W hSw; obtain ⟨e0, e1, e2, e3⟩ := hSw; (try simp only [List.getElem_toArray, List.getElem_cons_succ, List.getElem_cons_zero]); go_simp; try with_reducible rfl)
        try simp only [List.getElem_toArray, List.getElem_cons_succ, List.getElem_cons_zero, Act.put, List.setIfInBounds_toArray, List.set_cons_zero, List.set_cons_succ]
        refine wpAnyHT_two (i := 13) (j := 14) rfl rfl (by kernel_rfl) (by kernel_rfl) (by kernel_rfl) (fun K hK => ?_) (fun K hK => ?_)
        · try simp only [List.getElem_toArray, List.getElem_cons_succ, List.getElem_cons_zero]
          go_simp
          refine hK _ _ (sA _ (hF1.alloc _)) ?_
          clear hK K
          try simp only [List.getElem_toArray, List.getElem_cons_succ, List.getElem_cons_zero, Act.put, List.setIfInBounds_toArray, List.set_cons_zero, List.set_cons_succ]
          have hra := heap_alloc_new wC (.cells #[.int .i64 0, .string ⟨#[]⟩, .int .i64 0, .int .i64 0, .int .i64 0, .int .i64 0, .string ⟨#[]⟩, .slice none 0 0, .int .i64 0, .int .i64 0, .int .i64 0, .slice none 0 0, .slice none 0 0] 30)
          have hfaA : Frm [] wC (wC.alloc (.cells #[.int .i64 0, .string ⟨#[]⟩, .int .i64 0, .int .i64 0, .int .i64 0, .int .i64 0, .string ⟨#[]⟩, .slice none 0 0, .int .i64 0, .int .i64 0, .int .i64 0, .slice none 0 0, .slice none 0 0] 30)) := (Frm.refl _ _).alloc _
          have hF2 := hF1.alloc (.cells #[.int .i64 0, .string ⟨#[]⟩, .int .i64 0, .int .i64 0, .int .i64 0, .int .i64 0, .string ⟨#[]⟩, .slice none 0 0, .int .i64 0, .int .i64 0, .int .i64 0, .slice none 0 0, .slice none 0 0] 30)
          obtain ⟨wA, hwA⟩ : ∃ z, wC.alloc (.cells #[.int .i64 0, .string ⟨#[]⟩, .int .i64 0, .int .i64 0, .int .i64 0, .int .i64 0, .string ⟨#[]⟩, .slice none 0 0, .int .i64 0, .int .i64 0, .int .i64 0, .slice none 0 0, .slice none 0 0] 30) = z := ⟨_, rfl⟩
          obtain ⟨bA, hbA⟩ : ∃ z, wC.heap.size = z := ⟨_, rfl⟩
          have hlbA : w3.heap.size ≤ bA := by rw [← hbA]; exact hF1.size
          rw [hwA, hbA] at hra
          rw [hwA] at hfaA hF2
          have rA2 := hra
          clear hra
          first | rw [hwA] | skip
          first | rw [hbA] | skip
          refine wpAnyHT_one (i := 14) rfl (by kernel_rfl) (by kernel_rfl) (fun K hK => ?_)
          try simp only [List.getElem_toArray, List.getElem_cons_succ, List.getElem_cons_zero]
          go_simp
          refine hK _ _ (sA _ (hF2.alloc _)) ?_
          clear hK K
          try simp only [List.getElem_toArray, List.getElem_cons_succ, List.getElem_cons_zero, Act.put, List.setIfInBounds_toArray, List.set_cons_zero, List.set_cons_succ]
          have hra := heap_alloc_new wA (.cells #[.int .u64 0, .int .u64 0, .int .u64 0, .int .u64 0] 39)
          have hfaB : Frm [] wA (wA.alloc (.cells #[.int .u64 0, .int .u64 0, .int .u64 0, .int .u64 0] 39)) := (Frm.refl _ _).alloc _
          have hF3 := hF2.alloc (.cells #[.int .u64 0, .int .u64 0, .int .u64 0, .int .u64 0] 39)
          obtain ⟨wB, hwB⟩ : ∃ z, wA.alloc (.cells #[.int .u64 0, .int .u64 0, .int .u64 0, .int .u64 0] 39) = z := ⟨_, rfl⟩
          obtain ⟨bB, hbB⟩ : ∃ z, wA.heap.size = z := ⟨_, rfl⟩
          have hlbB : w3.heap.size ≤ bB := by rw [← hbB]; exact hF2.size
          rw [hwB, hbB] at hra
          rw [hwB] at hfaB hF3
          have rB3 := hra
          clear hra
          have rA3 := hfaB.heap rA2 (by simp)
          first | rw [hwB] | skip
          first | rw [hbB] | skip
          have hrA := rA3
          have hrB := rB3
          have hAB : ¬ bB = bA := fun h => by rw [h, hrA] at hrB; cases hrB
          have z0 : wB.cell? ⟨bA, 0, none⟩ = some (.int .i64 0) := by rw [cell_of_row _ _ _ _ _ _ hrA]; rfl
          have y0 := frozen_of_row wB bA 0 _ _ hrA
          have z1 : wB.cell? ⟨bA, 1, none⟩ = some (.string ⟨#[]⟩) := by rw [cell_of_row _ _ _ _ _ _ hrA]; rfl
          have y1 := frozen_of_row wB bA 1 _ _ hrA
          have z2 : wB.cell? ⟨bA, 2, none⟩ = some (.int .i64 0) := by rw [cell_of_row _ _ _ _ _ _ hrA]; rfl
          have y2 := frozen_of_row wB bA 2 _ _ hrA
          have z3 : wB.cell? ⟨bA, 3, none⟩ = some (.int .i64 0) := by rw [cell_of_row _ _ _ _ _ _ hrA]; rfl
          have y3 := frozen_of_row wB bA 3 _ _ hrA
          have z4 : wB.cell? ⟨bA, 4, none⟩ = some (.int .i64 0) := by rw [cell_of_row _ _ _ _ _ _ hrA]; rfl
          have y4 := frozen_of_row wB bA 4 _ _ hrA
          have z5 : wB.cell? ⟨bA, 5, none⟩ = some (.int .i64 0) := by rw [cell_of_row _ _ _ _ _ _ hrA]; rfl
          have y5 := frozen_of_row wB bA 5 _ _ hrA
          have z6 : wB.cell? ⟨bA, 6, none⟩ = some (.string ⟨#[]⟩) := by rw [cell_of_row _ _ _ _ _ _ hrA]; rfl
          have y6 := frozen_of_row wB bA 6 _ _ hrA
          have z7 : wB.cell? ⟨bA, 7, none⟩ = some (.slice none 0 0) := by rw [cell_of_row _ _ _ _ _ _ hrA]; rfl
          have y7 := frozen_of_row wB bA 7 _ _ hrA
          have z8 : wB.cell? ⟨bA, 8, none⟩ = some (.int .i64 0) := by rw [cell_of_row _ _ _ _ _ _ hrA]; rfl
          have y8 := frozen_of_row wB bA 8 _ _ hrA
          have z9 : wB.cell? ⟨bA, 9, none⟩ = some (.int .i64 0) := by rw [cell_of_row _ _ _ _ _ _ hrA]; rfl
          have y9 := frozen_of_row wB bA 9 _ _ hrA
          have z10 : wB.cell? ⟨bA, 10, none⟩ = some (.int .i64 0) := by rw [cell_of_row _ _ _ _ _ _ hrA]; rfl
          have y10 := frozen_of_row wB bA 10 _ _ hrA
          have z11 : wB.cell? ⟨bA, 11, none⟩ = some (.slice none 0 0) := by rw [cell_of_row _ _ _ _ _ _ hrA]; rfl
          have y11 := frozen_of_row wB bA 11 _ _ hrA
          have z12 : wB.cell? ⟨bA, 12, none⟩ = some (.slice none 0 0) := by rw [cell_of_row _ _ _ _ _ _ hrA]; rfl
          have y12 := frozen_of_row wB bA 12 _ _ hrA
          obtain ⟨h5, f5⟩ := sets_rowF bA 30 [(0, .int .i64 0), (1, .string ⟨#[]⟩), (2, .int .i64 0), (3, .int .i64 0), (4, .int .i64 0), (5, .int .i64 0), (6, .string ⟨#[]⟩), (7, .slice none 0 0), (8, .int .i64 0), (9, .int .i64 0), (10, .int .i64 0), (11, .slice none 0 0), (12, .slice none 0 0)] wB _ hrA
          simp only [List.foldl, List.setIfInBounds_toArray, List.set_cons_zero, List.set_cons_succ] at h5
          obtain ⟨Wz, hWz⟩ : ∃ z, setsF wB bA [(0, .int .i64 0), (1, .string ⟨#[]⟩), (2, .int .i64 0), (3, .int .i64 0), (4, .int .i64 0), (5, .int .i64 0), (6, .string ⟨#[]⟩), (7, .slice none 0 0), (8, .int .i64 0), (9, .int .i64 0), (10, .int .i64 0), (11, .slice none 0 0), (12, .slice none 0 0)] = z := ⟨_, rfl⟩
          rw [hWz] at h5 f5
          have hwz : (((((((((((((wB.setCell ⟨bA, 0, none⟩ (.int .i64 0)).setCell ⟨bA, 1, none⟩ (.string ⟨#[]⟩)).setCell ⟨bA, 2, none⟩ (.int .i64 0)).setCell ⟨bA, 3, none⟩ (.int .i64 0)).setCell ⟨bA, 4, none⟩ (.int .i64 0)).setCell ⟨bA, 5, none⟩ (.int .i64 0)).setCell ⟨bA, 6, none⟩ (.string ⟨#[]⟩)).setCell ⟨bA, 7, none⟩ (.slice none 0 0)).setCell ⟨bA, 8, none⟩ (.int .i64 0)).setCell ⟨bA, 9, none⟩ (.int .i64 0)).setCell ⟨bA, 10, none⟩ (.int .i64 0)).setCell ⟨bA, 11, none⟩ (.slice none 0 0)).setCell ⟨bA, 12, none⟩ (.slice none 0 0)) = Wz := hWz
          have hFz : Frm [] w3 Wz := hF3.trans f5 (fun i hi hl => by rw [List.mem_singleton] at hi; omega)
          have hrB2 := f5.heap hrB (by simpa using hAB)
          have n0 : Wz.cell? ⟨bB, 0, none⟩ = some (.int .u64 0) := by rw [cell_of_row _ _ _ _ _ _ hrB2]; rfl
          have m0 := frozen_of_row Wz bB 0 _ _ hrB2
          have n1 : Wz.cell? ⟨bB, 1, none⟩ = some (.int .u64 0) := by rw [cell_of_row _ _ _ _ _ _ hrB2]; rfl
          have m1 := frozen_of_row Wz bB 1 _ _ hrB2
          have n2 : Wz.cell? ⟨bB, 2, none⟩ = some (.int .u64 0) := by rw [cell_of_row _ _ _ _ _ _ hrB2]; rfl
          have m2 := frozen_of_row Wz bB 2 _ _ hrB2
          have n3 : Wz.cell? ⟨bB, 3, none⟩ = some (.int .u64 0) := by rw [cell_of_row _ _ _ _ _ _ hrB2]; rfl
          have m3 := frozen_of_row Wz bB 3 _ _ hrB2
          obtain ⟨h6, f6⟩ := sets_rowF bB 39 [(0, .int .u64 0), (1, .int .u64 0), (2, .int .u64 0), (3, .int .u64 0)] Wz _ hrB2
          simp only [List.foldl, List.setIfInBounds_toArray, List.set_cons_zero, List.set_cons_succ] at h6
          obtain ⟨Wy, hWy⟩ : ∃ z, setsF Wz bB [(0, .int .u64 0), (1, .int .u64 0), (2, .int .u64 0), (3, .int .u64 0)] = z := ⟨_, rfl⟩
          rw [hWy] at h6 f6
          have hwy : ((((Wz.setCell ⟨bB, 0, none⟩ (.int .u64 0)).setCell ⟨bB, 1, none⟩ (.int .u64 0)).setCell ⟨bB, 2, none⟩ (.int .u64 0)).setCell ⟨bB, 3, none⟩ (.int .u64 0)) = Wy := hWy
          have hFy : Frm [] w3 Wy := hFz.trans f6 (fun i hi hl => by rw [List.mem_singleton] at hi; omega)
          have h7 := f6.heap h5 (by simpa using fun h => hAB h.symm)
          refine wpAnyHT_one (i := 15) rfl (by kernel_rfl) (by kernel_rfl) (fun K hK => ?_)
          try simp only [List.getElem_toArray, List.getElem_cons_succ, List.getElem_cons_zero]
          go_simp
          try rw [hwz]
          refine hK _ _ (sA _ hFz) ?_
          clear hK K
          try simp only [List.getElem_toArray, List.getElem_cons_succ, List.getElem_cons_zero, Act.put, List.setIfInBounds_toArray, List.set_cons_zero, List.set_cons_succ]
          refine wpAnyHT_one (i := 16) rfl (by kernel_rfl) (by kernel_rfl) (fun K hK => ?_)
          try simp only [List.getElem_toArray, List.getElem_cons_succ, List.getElem_cons_zero]
          go_simp
          refine hK _ _ (sA _ hFz) ?_
          clear hK K
          try simp only [List.getElem_toArray, List.getElem_cons_succ, List.getElem_cons_zero, Act.put, List.setIfInBounds_toArray, List.set_cons_zero, List.set_cons_succ]
          refine wpAnyHT_one (i := 17) rfl (by kernel_rfl) (by kernel_rfl) (fun K hK => ?_)
          try simp only [List.getElem_toArray, List.getElem_cons_succ, List.getElem_cons_zero]
          go_simp
          try rw [hwy]
          refine hK _ _ (sA _ hFy) ?_
          clear hK K
          try simp only [List.getElem_toArray, List.getElem_cons_succ, List.getElem_cons_zero, Act.put, List.setIfInBounds_toArray, List.set_cons_zero, List.set_cons_succ]
          refine wpAnyHT_end (by kernel_rfl) ?_
          simp only [List.drop_succ_cons, List.drop_zero]
          clear z0 y0 h5 f5 hwz hwy hWz hWy
          go_wp2_with fail
          go_meet
          exact ⟨bA, bB, rfl, rfl, rfl, rfl, hid h7, hid h6, hid hFy⟩
        · try simp only [List.getElem_toArray, List.getElem_cons_succ, List.getElem_cons_zero]
          go_simp
          refine hK _ _ (sA _ (hF1.alloc _)) ?_
          clear hK K
          try simp only [List.getElem_toArray, List.getElem_cons_succ, List.getElem_cons_zero, Act.put, List.setIfInBounds_toArray, List.set_cons_zero, List.set_cons_succ]
          have hra := heap_alloc_new wC (.cells #[.int .u64 0, .int .u64 0, .int .u64 0, .int .u64 0] 39)
          have hfaB : Frm [] wC (wC.alloc (.cells #[.int .u64 0, .int .u64 0, .int .u64 0, .int .u64 0] 39)) := (Frm.refl _ _).alloc _
          have hF2 := hF1.alloc (.cells #[.int .u64 0, .int .u64 0, .int .u64 0, .int .u64 0] 39)
          obtain ⟨wB, hwB⟩ : ∃ z, wC.alloc (.cells #[.int .u64 0, .int .u64 0, .int .u64 0, .int .u64 0] 39) = z := ⟨_, rfl⟩
          obtain ⟨bB, hbB⟩ : ∃ z, wC.heap.size = z := ⟨_, rfl⟩
          have hlbB : w3.heap.size ≤ bB := by rw [← hbB]; exact hF1.size
          rw [hwB, hbB] at hra
          rw [hwB] at hfaB hF2
          have rB2 := hra
          clear hra
          first | rw [hwB] | skip
          first | rw [hbB] | skip
          refine wpAnyHT_one (i := 13) rfl (by kernel_rfl) (by kernel_rfl) (fun K hK => ?_)
          try simp only [List.getElem_toArray, List.getElem_cons_succ, List.getElem_cons_zero]
          go_simp
          refine hK _ _ (sA _ (hF2.alloc _)) ?_
          clear hK K
          try simp only [List.getElem_toArray, List.getElem_cons_succ, List.getElem_cons_zero, Act.put, List.setIfInBounds_toArray, List.set_cons_zero, List.set_cons_succ]
          have hra := heap_alloc_new wB (.cells #[.int .i64 0, .string ⟨#[]⟩, .int .i64 0, .int .i64 0, .int .i64 0, .int .i64 0, .string ⟨#[]⟩, .slice none 0 0, .int .i64 0, .int .i64 0, .int .i64 0, .slice none 0 0, .slice none 0 0] 30)
          have hfaA : Frm [] wB (wB.alloc (.cells #[.int .i64 0, .string ⟨#[]⟩, .int .i64 0, .int .i64 0, .int .i64 0, .int .i64 0, .string ⟨#[]⟩, .slice none 0 0, .int .i64 0, .int .i64 0, .int .i64 0, .slice none 0 0, .slice none 0 0] 30)) := (Frm.refl _ _).alloc _
          have hF3 := hF2.alloc (.cells #[.int .i64 0, .string ⟨#[]⟩, .int .i64 0, .int .i64 0, .int .i64 0, .int .i64 0, .string ⟨#[]⟩, .slice none 0 0, .int .i64 0, .int .i64 0, .int .i64 0, .slice none 0 0, .slice none 0 0] 30)
          obtain ⟨wA, hwA⟩ : ∃ z, wB.alloc (.cells #[.int .i64 0, .string ⟨#[]⟩, .int .i64 0, .int .i64 0, .int .i64 0, .int .i64 0, .string ⟨#[]⟩, .slice none 0 0, .int .i64 0, .int .i64 0, .int .i64 0, .slice none 0 0, .slice none 0 0] 30) = z := ⟨_, rfl⟩
          obtain ⟨bA, hbA⟩ : ∃ z, wB.heap.size = z := ⟨_, rfl⟩
          have hlbA : w3.heap.size ≤ bA := by rw [← hbA]; exact hF2.size
          rw [hwA, hbA] at hra
          rw [hwA] at hfaA hF3
          have rA3 := hra
          clear hra
          have rB3 := hfaA.heap rB2 (by simp)
          first | rw [hwA] | skip
          first | rw [hbA] | skip
          have hrA := rA3
          have hrB := rB3
          have hAB : ¬ bB = bA := fun h => by rw [h, hrA] at hrB; cases hrB
          have z0 : wA.cell? ⟨bA, 0, none⟩ = some (.int .i64 0) := by rw [cell_of_row _ _ _ _ _ _ hrA]; rfl
          have y0 := frozen_of_row wA bA 0 _ _ hrA
          have z1 : wA.cell? ⟨bA, 1, none⟩ = some (.string ⟨#[]⟩) := by rw [cell_of_row _ _ _ _ _ _ hrA]; rfl
          have y1 := frozen_of_row wA bA 1 _ _ hrA
          have z2 : wA.cell? ⟨bA, 2, none⟩ = some (.int .i64 0) := by rw [cell_of_row _ _ _ _ _ _ hrA]; rfl
          have y2 := frozen_of_row wA bA 2 _ _ hrA
          have z3 : wA.cell? ⟨bA, 3, none⟩ = some (.int .i64 0) := by rw [cell_of_row _ _ _ _ _ _ hrA]; rfl
          have y3 := frozen_of_row wA bA 3 _ _ hrA
          have z4 : wA.cell? ⟨bA, 4, none⟩ = some (.int .i64 0) := by rw [cell_of_row _ _ _ _ _ _ hrA]; rfl
          have y4 := frozen_of_row wA bA 4 _ _ hrA
          have z5 : wA.cell? ⟨bA, 5, none⟩ = some (.int .i64 0) := by rw [cell_of_row _ _ _ _ _ _ hrA]; rfl
          have y5 := frozen_of_row wA bA 5 _ _ hrA
          have z6 : wA.cell? ⟨bA, 6, none⟩ = some (.string ⟨#[]⟩) := by rw [cell_of_row _ _ _ _ _ _ hrA]; rfl
          have y6 := frozen_of_row wA bA 6 _ _ hrA
          have z7 : wA.cell? ⟨bA, 7, none⟩ = some (.slice none 0 0) := by rw [cell_of_row _ _ _ _ _ _ hrA]; rfl
          have y7 := frozen_of_row wA bA 7 _ _ hrA
          have z8 : wA.cell? ⟨bA, 8, none⟩ = some (.int .i64 0) := by rw [cell_of_row _ _ _ _ _ _ hrA]; rfl
          have y8 := frozen_of_row wA bA 8 _ _ hrA
          have z9 : wA.cell? ⟨bA, 9, none⟩ = some (.int .i64 0) := by rw [cell_of_row _ _ _ _ _ _ hrA]; rfl
          have y9 := frozen_of_row wA bA 9 _ _ hrA
          have z10 : wA.cell? ⟨bA, 10, none⟩ = some (.int .i64 0) := by rw [cell_of_row _ _ _ _ _ _ hrA]; rfl
          have y10 := frozen_of_row wA bA 10 _ _ hrA
          have z11 : wA.cell? ⟨bA, 11, none⟩ = some (.slice none 0 0) := by rw [cell_of_row _ _ _ _ _ _ hrA]; rfl
          have y11 := frozen_of_row wA bA 11 _ _ hrA
          have z12 : wA.cell? ⟨bA, 12, none⟩ = some (.slice none 0 0) := by rw [cell_of_row _ _ _ _ _ _ hrA]; rfl
          have y12 := frozen_of_row wA bA 12 _ _ hrA
          obtain ⟨h5, f5⟩ := sets_rowF bA 30 [(0, .int .i64 0), (1, .string ⟨#[]⟩), (2, .int .i64 0), (3, .int .i64 0), (4, .int .i64 0), (5, .int .i64 0), (6, .string ⟨#[]⟩), (7, .slice none 0 0), (8, .int .i64 0), (9, .int .i64 0), (10, .int .i64 0), (11, .slice none 0 0), (12, .slice none 0 0)] wA _ hrA
          simp only [List.foldl, List.setIfInBounds_toArray, List.set_cons_zero, List.set_cons_succ] at h5
          obtain ⟨Wz, hWz⟩ : ∃ z, setsF wA bA [(0, .int .i64 0), (1, .string ⟨#[]⟩), (2, .int .i64 0), (3, .int .i64 0), (4, .int .i64 0), (5, .int .i64 0), (6, .string ⟨#[]⟩), (7, .slice none 0 0), (8, .int .i64 0), (9, .int .i64 0), (10, .int .i64 0), (11, .slice none 0 0), (12, .slice none 0 0)] = z := ⟨_, rfl⟩
          rw [hWz] at h5 f5
          have hwz : (((((((((((((wA.setCell ⟨bA, 0, none⟩ (.int .i64 0)).setCell ⟨bA, 1, none⟩ (.string ⟨#[]⟩)).setCell ⟨bA, 2, none⟩ (.int .i64 0)).setCell ⟨bA, 3, none⟩ (.int .i64 0)).setCell ⟨bA, 4, none⟩ (.int .i64 0)).setCell ⟨bA, 5, none⟩ (.int .i64 0)).setCell ⟨bA, 6, none⟩ (.string ⟨#[]⟩)).setCell ⟨bA, 7, none⟩ (.slice none 0 0)).setCell ⟨bA, 8, none⟩ (.int .i64 0)).setCell ⟨bA, 9, none⟩ (.int .i64 0)).setCell ⟨bA, 10, none⟩ (.int .i64 0)).setCell ⟨bA, 11, none⟩ (.slice none 0 0)).setCell ⟨bA, 12, none⟩ (.slice none 0 0)) = Wz := hWz
          have hFz : Frm [] w3 Wz := hF3.trans f5 (fun i hi hl => by rw [List.mem_singleton] at hi; omega)
          have hrB2 := f5.heap hrB (by simpa using hAB)
          have n0 : Wz.cell? ⟨bB, 0, none⟩ = some (.int .u64 0) := by rw [cell_of_row _ _ _ _ _ _ hrB2]; rfl
          have m0 := frozen_of_row Wz bB 0 _ _ hrB2
          have n1 : Wz.cell? ⟨bB, 1, none⟩ = some (.int .u64 0) := by rw [cell_of_row _ _ _ _ _ _ hrB2]; rfl
          have m1 := frozen_of_row Wz bB 1 _ _ hrB2
          have n2 : Wz.cell? ⟨bB, 2, none⟩ = some (.int .u64 0) := by rw [cell_of_row _ _ _ _ _ _ hrB2]; rfl
          have m2 := frozen_of_row Wz bB 2 _ _ hrB2
          have n3 : Wz.cell? ⟨bB, 3, none⟩ = some (.int .u64 0) := by rw [cell_of_row _ _ _ _ _ _ hrB2]; rfl
          have m3 := frozen_of_row Wz bB 3 _ _ hrB2
          obtain ⟨h6, f6⟩ := sets_rowF bB 39 [(0, .int .u64 0), (1, .int .u64 0), (2, .int .u64 0), (3, .int .u64 0)] Wz _ hrB2
          simp only [List.foldl, List.setIfInBounds_toArray, List.set_cons_zero, List.set_cons_succ] at h6
          obtain ⟨Wy, hWy⟩ : ∃ z, setsF Wz bB [(0, .int .u64 0), (1, .int .u64 0), (2, .int .u64 0), (3, .int .u64 0)] = z := ⟨_, rfl⟩
          rw [hWy] at h6 f6
          have hwy : ((((Wz.setCell ⟨bB, 0, none⟩ (.int .u64 0)).setCell ⟨bB, 1, none⟩ (.int .u64 0)).setCell ⟨bB, 2, none⟩ (.int .u64 0)).setCell ⟨bB, 3, none⟩ (.int .u64 0)) = Wy := hWy
          have hFy : Frm [] w3 Wy := hFz.trans f6 (fun i hi hl => by rw [List.mem_singleton] at hi; omega)
          have h7 := f6.heap h5 (by simpa using fun h => hAB h.symm)
          refine wpAnyHT_one (i := 15) rfl (by kernel_rfl) (by kernel_rfl) (fun K hK => ?_)
          try simp only [List.getElem_toArray, List.getElem_cons_succ, List.getElem_cons_zero]
          go_simp
          try rw [hwz]
          refine hK _ _ (sA _ hFz) ?_
          clear hK K
          try simp only [List.getElem_toArray, List.getElem_cons_succ, List.getElem_cons_zero, Act.put, List.setIfInBounds_toArray, List.set_cons_zero, List.set_cons_succ]
          refine wpAnyHT_one (i := 16) rfl (by kernel_rfl) (by kernel_rfl) (fun K hK => ?_)
          try simp only [List.getElem_toArray, List.getElem_cons_succ, List.getElem_cons_zero]
          go_simp
          refine hK _ _ (sA _ hFz) ?_
          clear hK K
          try simp only [List.getElem_toArray, List.getElem_cons_succ, List.getElem_cons_zero, Act.put, List.setIfInBounds_toArray, List.set_cons_zero, List.set_cons_succ]
          refine wpAnyHT_one (i := 17) rfl (by kernel_rfl) (by kernel_rfl) (fun K hK => ?_)
          try simp only [List.getElem_toArray, List.getElem_cons_succ, List.getElem_cons_zero]
          go_simp
          try rw [hwy]
          refine hK _ _ (sA _ hFy) ?_
          clear hK K
          try simp only [List.getElem_toArray, List.getElem_cons_succ, List.getElem_cons_zero, Act.put, List.setIfInBounds_toArray, List.set_cons_zero, List.set_cons_succ]
          refine wpAnyHT_end (by kernel_rfl) ?_
          simp only [List.drop_succ_cons, List.drop_zero]
          clear z0 y0 h5 f5 hwz hwy hWz hWy
          go_wp2_with fail
          go_meet
          exact ⟨bA, bB, rfl, rfl, rfl, rfl, hid h7, hid h6, hid hFy⟩
      · try simp only [List.getElem_toArray, List.getElem_cons_succ, List.getElem_cons_zero]
        go_simp
        refine hK _ _ (sA _ (hF0.alloc _)) ?_
        clear hK K
        try simp only [List.getElem_toArray, List.getElem_cons_succ, List.getElem_cons_zero, Act.put, List.setIfInBounds_toArray, List.set_cons_zero, List.set_cons_succ]
        have hra := heap_alloc_new wd (.cells #[.int .i64 0, .string ⟨#[]⟩, .int .i64 0, .int .i64 0, .int .i64 0, .int .i64 0, .string ⟨#[]⟩, .slice none 0 0, .int .i64 0, .int .i64 0, .int .i64 0, .slice none 0 0, .slice none 0 0] 30)
        have hfaA : Frm [] wd (wd.alloc (.cells #[.int .i64 0, .string ⟨#[]⟩, .int .i64 0, .int .i64 0, .int .i64 0, .int .i64 0, .string ⟨#[]⟩, .slice none 0 0, .int .i64 0, .int .i64 0, .int .i64 0, .slice none 0 0, .slice none 0 0] 30)) := (Frm.refl _ _).alloc _
        have hF1 := hF0.alloc (.cells #[.int .i64 0, .string ⟨#[]⟩, .int .i64 0, .int .i64 0, .int .i64 0, .int .i64 0, .string ⟨#[]⟩, .slice none 0 0, .int .i64 0, .int .i64 0, .int .i64 0, .slice none 0 0, .slice none 0 0] 30)
        obtain ⟨wA, hwA⟩ : ∃ z, wd.alloc (.cells #[.int .i64 0, .string ⟨#[]⟩, .int .i64 0, .int .i64 0, .int .i64 0, .int .i64 0, .string ⟨#[]⟩, .slice none 0 0, .int .i64 0, .int .i64 0, .int .i64 0, .slice none 0 0, .slice none 0 0] 30) = z := ⟨_, rfl⟩
        obtain ⟨bA, hbA⟩ : ∃ z, wd.heap.size = z := ⟨_, rfl⟩
        have hlbA : w3.heap.size ≤ bA := by rw [← hbA]; exact hF0.size
        rw [hwA, hbA] at hra
        rw [hwA] at hfaA hF1
        have rA1 := hra
        clear hra
        first | rw [hwA] | skip
        first | rw [hbA] | skip
        refine wpAnyHT_two (i := 7) (j := 14) rfl rfl (by kernel_rfl) (by kernel_rfl) (by kernel_rfl) (fun K hK => ?_) (fun K hK => ?_)
        · try simp only [List.getElem_toArray, List.getElem_cons_succ, List.getElem_cons_zero]
          go_simp
          refine (HD1.out m wA HMN.out (HF3.out.trans hF1 (by simp))).mono ?_
          rintro e wC hd
          obtain ⟨hfc, he⟩ := DecP.bad hd (HBK.out m HMN.out) (by decide)
          have he2 : e = .returned (.tuple #[.agg #[.int .i64 0, .string ⟨#[]⟩, .int .i64 0, .int .i64 0, .int .i64 0, .int .i64 0, .string ⟨#[]⟩, .slice none 0 0, .int .i64 0, .int .i64 0, .int .i64 0, .slice none 0 0, .slice none 0 0], .int .i64 0, .agg #[.int .u64 0, .int .u64 0, .int .u64 0, .int .u64 0], .int .i64 10]) := he
          subst he2
          have hF2 : Frm [] w3 wC := hF1.trans hfc (by simp)
          refine hK _ _ (sA _ hF2) ?_
          clear hK K hd he
          have rA2 := hfc.heap rA1 (by simp)
          refine wpAnyHT_take (i := 8) (oi := _) (v := ?_) (by kernel_rfl) rfl (by kernel_rfl) (by kernel_rfl) (by kernel_rfl) (by kernel_rfl) (fun _ _ _ h => h) (Or.inl ⟨by rfl, ?_⟩) (sA _ hF2) ?_
          rotate_left 1
          · (intro W hSw; obtain ⟨e0, e1, e2, e3⟩ := hSw; (try simp only [List.getElem_toArray, List.getElem_cons_succ, List.getElem_cons_zero]); go_simp; try with_reducible rfl)
          try simp only [List.getElem_toArray, List.getElem_cons_succ, List.getElem_cons_zero, Act.put, List.setIfInBounds_toArray, List.set_cons_zero, List.set_cons_succ]
          refine wpAnyHT_take (i := 9) (oi := _) (v := ?_) (by kernel_rfl) rfl (by kernel_rfl) (by kernel_rfl) (by kernel_rfl) (by kernel_rfl) (fun _ _ _ h => h) (Or.inl ⟨by rfl, ?_⟩) (sA _ hF2) ?_
          rotate_left 1
          · (intro W hSw; obtain ⟨e0, e1, e2, e3⟩ := hSw; (try simp only [List.getElem_toArray, List.getElem_cons_succ, List.getElem_cons_zero]); go_simp; try with_reducible rfl)
          try simp only [List.getElem_toArray, List.getElem_cons_succ, List.getElem_cons_zero, Act.put, List.setIfInBounds_toArray, List.set_cons_zero, List.set_cons_succ]
          refine wpAnyHT_take (i := 10) (oi := _) (v := ?_) (by kernel_rfl) rfl (by kernel_rfl) (by kernel_rfl) (by kernel_rfl) (by kernel_rfl) (fun _ _ _ h => h) (Or.inl ⟨by rfl, ?_⟩) (sA _ hF2) ?_
          rotate_left 1
          · (intro W hSw; obtain ⟨e0, e1, e2, e3⟩ := hSw; (try simp only [List.getElem_toArray, List.getElem_cons_succ, List.getElem_cons_zero]); go_simp; try with_reducible rfl)
          try simp only [List.getElem_toArray, List.getElem_cons_succ, List.getElem_cons_zero, Act.put, List.setIfInBounds_toArray, List.set_cons_zero, List.set_cons_succ]
          refine wpAnyHT_take (i := 11) (oi := _) (v := ?_) (by kernel_rfl) rfl (by kernel_rfl) (by kernel_rfl) (by kernel_rfl) (by kernel_rfl) (fun _ _ _ h => h) (Or.inl ⟨by rfl, ?_⟩) (sA _ hF2) ?_
          rotate_left 1
          · (intro W hSw; obtain ⟨e0, e1, e2, e3⟩ := hSw; (try simp only [List.getElem_toArray, List.getElem_cons_succ, List.getElem_cons_zero]); go_simp; try with_reducible rfl)
          try simp only [List.getElem_toArray, List.getElem_cons_succ, List.getElem_cons_zero, Act.put, List.setIfInBounds_toArray, List.set_cons_zero, List.set_cons_succ]
          refine wpAnyHT_take (i := 12) (oi := _) (v := ?_) (by kernel_rfl) rfl (by kernel_rfl) (by kernel_rfl) (by kernel_rfl) (by kernel_rfl) (fun _ _ _ h => h) (Or.inl ⟨by rfl, ?_⟩) (sA _ hF2) ?_
          rotate_left 1
          · (intro W hSw; obtain ⟨e0, e1, e2, e3⟩ := hSw; (try simp only [List.getElem_toArray, List.getElem_cons_succ, List.getElem_cons_zero]); go_simp; try with_reducible rfl)
          try simp only [List.getElem_toArray, List.getElem_cons_succ, List.getElem_cons_zero, Act.put, List.setIfInBounds_toArray, List.set_cons_zero, List.set_cons_succ]
          refine wpAnyHT_one (i := 14) rfl (by kernel_rfl) (by kernel_rfl) (fun K hK => ?_)
          try simp only [List.getElem_toArray, List.getElem_cons_succ, List.getElem_cons_zero]
          go_simp
          refine hK _ _ (sA _ (hF2.alloc _)) ?_
          clear hK K
          try simp only [List.getElem_toArray, List.getElem_cons_succ, List.getElem_cons_zero, Act.put, List.setIfInBounds_toArray, List.set_cons_zero, List.set_cons_succ]
          have hra := heap_alloc_new wC (.cells #[.int .u64 0, .int .u64 0, .int .u64 0, .int .u64 0] 39)
          have hfaB : Frm [] wC (wC.alloc (.cells #[.int .u64 0, .int .u64 0, .int .u64 0, .int .u64 0] 39)) := (Frm.refl _ _).alloc _
          have hF3 := hF2.alloc (.cells #[.int .u64 0, .int .u64 0, .int .u64 0, .int .u64 0] 39)
          obtain ⟨wB, hwB⟩ : ∃ z, wC.alloc (.cells #[.int .u64 0, .int .u64 0, .int .u64 0, .int .u64 0] 39) = z := ⟨_, rfl⟩
          obtain ⟨bB, hbB⟩ : ∃ z, wC.heap.size = z := ⟨_, rfl⟩
          have hlbB : w3.heap.size ≤ bB := by rw [← hbB]; exact hF2.size
          rw [hwB, hbB] at hra
          rw [hwB] at hfaB hF3
          have rB3 := hra
          clear hra
          have rA3 := hfaB.heap rA2 (by simp)
          first | rw [hwB] | skip
          first | rw [hbB] | skip
          have hrA := rA3
          have hrB := rB3
          have hAB : ¬ bB = bA := fun h => by rw [h, hrA] at hrB; cases hrB
          have z0 : wB.cell? ⟨bA, 0, none⟩ = some (.int .i64 0) := by rw [cell_of_row _ _ _ _ _ _ hrA]; rfl
          have y0 := frozen_of_row wB bA 0 _ _ hrA
          have z1 : wB.cell? ⟨bA, 1, none⟩ = some (.string ⟨#[]⟩) := by rw [cell_of_row _ _ _ _ _ _ hrA]; rfl
          have y1 := frozen_of_row wB bA 1 _ _ hrA
          have z2 : wB.cell? ⟨bA, 2, none⟩ = some (.int .i64 0) := by rw [cell_of_row _ _ _ _ _ _ hrA]; rfl
          have y2 := frozen_of_row wB bA 2 _ _ hrA
          have z3 : wB.cell? ⟨bA, 3, none⟩ = some (.int .i64 0) := by rw [cell_of_row _ _ _ _ _ _ hrA]; rfl
          have y3 := frozen_of_row wB bA 3 _ _ hrA
          have z4 : wB.cell? ⟨bA, 4, none⟩ = some (.int .i64 0) := by rw [cell_of_row _ _ _ _ _ _ hrA]; rfl
          have y4 := frozen_of_row wB bA 4 _ _ hrA
          have z5 : wB.cell? ⟨bA, 5, none⟩ = some (.int .i64 0) := by rw [cell_of_row _ _ _ _ _ _ hrA]; rfl
          have y5 := frozen_of_row wB bA 5 _ _ hrA
          have z6 : wB.cell? ⟨bA, 6, none⟩ = some (.string ⟨#[]⟩) := by rw [cell_of_row _ _ _ _ _ _ hrA]; rfl
          have y6 := frozen_of_row wB bA 6 _ _ hrA
          have z7 : wB.cell? ⟨bA, 7, none⟩ = some (.slice none 0 0) := by rw [cell_of_row _ _ _ _ _ _ hrA]; rfl
          have y7 := frozen_of_row wB bA 7 _ _ hrA
          have z8 : wB.cell? ⟨bA, 8, none⟩ = some (.int .i64 0) := by rw [cell_of_row _ _ _ _ _ _ hrA]; rfl
          have y8 := frozen_of_row wB bA 8 _ _ hrA
          have z9 : wB.cell? ⟨bA, 9, none⟩ = some (.int .i64 0) := by rw [cell_of_row _ _ _ _ _ _ hrA]; rfl
          have y9 := frozen_of_row wB bA 9 _ _ hrA
          have z10 : wB.cell? ⟨bA, 10, none⟩ = some (.int .i64 0) := by rw [cell_of_row _ _ _ _ _ _ hrA]; rfl
          have y10 := frozen_of_row wB bA 10 _ _ hrA
          have z11 : wB.cell? ⟨bA, 11, none⟩ = some (.slice none 0 0) := by rw [cell_of_row _ _ _ _ _ _ hrA]; rfl
          have y11 := frozen_of_row wB bA 11 _ _ hrA
          have z12 : wB.cell? ⟨bA, 12, none⟩ = some (.slice none 0 0) := by rw [cell_of_row _ _ _ _ _ _ hrA]; rfl
          have y12 := frozen_of_row wB bA 12 _ _ hrA
          obtain ⟨h5, f5⟩ := sets_rowF bA 30 [(0, .int .i64 0), (1, .string ⟨#[]⟩), (2, .int .i64 0), (3, .int .i64 0), (4, .int .i64 0), (5, .int .i64 0), (6, .string ⟨#[]⟩), (7, .slice none 0 0), (8, .int .i64 0), (9, .int .i64 0), (10, .int .i64 0), (11, .slice none 0 0), (12, .slice none 0 0)] wB _ hrA
          simp only [List.foldl, List.setIfInBounds_toArray, List.set_cons_zero, List.set_cons_succ] at h5
          obtain ⟨Wz, hWz⟩ : ∃ z, setsF wB bA [(0, .int .i64 0), (1, .string ⟨#[]⟩), (2, .int .i64 0), (3, .int .i64 0), (4, .int .i64 0), (5, .int .i64 0), (6, .string ⟨#[]⟩), (7, .slice none 0 0), (8, .int .i64 0), (9, .int .i64 0), (10, .int .i64 0), (11, .slice none 0 0), (12, .slice none 0 0)] = z := ⟨_, rfl⟩
          rw [hWz] at h5 f5
          have hwz : (((((((((((((wB.setCell ⟨bA, 0, none⟩ (.int .i64 0)).setCell ⟨bA, 1, none⟩ (.string ⟨#[]⟩)).setCell ⟨bA, 2, none⟩ (.int .i64 0)).setCell ⟨bA, 3, none⟩ (.int .i64 0)).setCell ⟨bA, 4, none⟩ (.int .i64 0)).setCell ⟨bA, 5, none⟩ (.int .i64 0)).setCell ⟨bA, 6, none⟩ (.string ⟨#[]⟩)).setCell ⟨bA, 7, none⟩ (.slice none 0 0)).setCell ⟨bA, 8, none⟩ (.int .i64 0)).setCell ⟨bA, 9, none⟩ (.int .i64 0)).setCell ⟨bA, 10, none⟩ (.int .i64 0)).setCell ⟨bA, 11, none⟩ (.slice none 0 0)).setCell ⟨bA, 12, none⟩ (.slice none 0 0)) = Wz := hWz
          have hFz : Frm [] w3 Wz := hF3.trans f5 (fun i hi hl => by rw [List.mem_singleton] at hi; omega)
          have hrB2 := f5.heap hrB (by simpa using hAB)
          have n0 : Wz.cell? ⟨bB, 0, none⟩ = some (.int .u64 0) := by rw [cell_of_row _ _ _ _ _ _ hrB2]; rfl
          have m0 := frozen_of_row Wz bB 0 _ _ hrB2
          have n1 : Wz.cell? ⟨bB, 1, none⟩ = some (.int .u64 0) := by rw [cell_of_row _ _ _ _ _ _ hrB2]; rfl
          have m1 := frozen_of_row Wz bB 1 _ _ hrB2
          have n2 : Wz.cell? ⟨bB, 2, none⟩ = some (.int .u64 0) := by rw [cell_of_row _ _ _ _ _ _ hrB2]; rfl
          have m2 := frozen_of_row Wz bB 2 _ _ hrB2
          have n3 : Wz.cell? ⟨bB, 3, none⟩ = some (.int .u64 0) := by rw [cell_of_row _ _ _ _ _ _ hrB2]; rfl
          have m3 := frozen_of_row Wz bB 3 _ _ hrB2
          obtain ⟨h6, f6⟩ := sets_rowF bB 39 [(0, .int .u64 0), (1, .int .u64 0), (2, .int .u64 0), (3, .int .u64 0)] Wz _ hrB2
          simp only [List.foldl, List.setIfInBounds_toArray, List.set_cons_zero, List.set_cons_succ] at h6
          obtain ⟨Wy, hWy⟩ : ∃ z, setsF Wz bB [(0, .int .u64 0), (1, .int .u64 0), (2, .int .u64 0), (3, .int .u64 0)] = z := ⟨_, rfl⟩
          rw [hWy] at h6 f6
          have hwy : ((((Wz.setCell ⟨bB, 0, none⟩ (.int .u64 0)).setCell ⟨bB, 1, none⟩ (.int .u64 0)).setCell ⟨bB, 2, none⟩ (.int .u64 0)).setCell ⟨bB, 3, none⟩ (.int .u64 0)) = Wy := hWy
          have hFy : Frm [] w3 Wy := hFz.trans f6 (fun i hi hl => by rw [List.mem_singleton] at hi; omega)
          have h7 := f6.heap h5 (by simpa using fun h => hAB h.symm)
          refine wpAnyHT_one (i := 15) rfl (by kernel_rfl) (by kernel_rfl) (fun K hK => ?_)
          try simp only [List.getElem_toArray, List.getElem_cons_succ, List.getElem_cons_zero]
          go_simp
          try rw [hwz]
          refine hK _ _ (sA _ hFz) ?_
          clear hK K
          try simp only [List.getElem_toArray, List.getElem_cons_succ, List.getElem_cons_zero, Act.put, List.setIfInBounds_toArray, List.set_cons_zero, List.set_cons_succ]
          refine wpAnyHT_one (i := 16) rfl (by kernel_rfl) (by kernel_rfl) (fun K hK => ?_)
          try simp only [List.getElem_toArray, List.getElem_cons_succ, List.getElem_cons_zero]
          go_simp
          refine hK _ _ (sA _ hFz) ?_
          clear hK K
          try simp only [List.getElem_toArray, List.getElem_cons_succ, List.getElem_cons_zero, Act.put, List.setIfInBounds_toArray, List.set_cons_zero, List.set_cons_succ]
          refine wpAnyHT_one (i := 17) rfl (by kernel_rfl) (by kernel_rfl) (fun K hK => ?_)
          try simp only [List.getElem_toArray, List.getElem_cons_succ, List.getElem_cons_zero]
          go_simp
          try rw [hwy]
          refine hK _ _ (sA _ hFy) ?_
          clear hK K
          try simp only [List.getElem_toArray, List.getElem_cons_succ, List.getElem_cons_zero, Act.put, List.setIfInBounds_toArray, List.set_cons_zero, List.set_cons_succ]
          refine wpAnyHT_end (by kernel_rfl) ?_
          simp only [List.drop_succ_cons, List.drop_zero]
          clear z0 y0 h5 f5 hwz hwy hWz hWy
          go_wp2_with fail
          go_meet
          exact ⟨bA, bB, rfl, rfl, rfl, rfl, hid h7, hid h6, hid hFy⟩
        · try simp only [List.getElem_toArray, List.getElem_cons_succ, List.getElem_cons_zero]
          go_simp
          refine hK _ _ (sA _ (hF1.alloc _)) ?_
          clear hK K
          try simp only [List.getElem_toArray, List.getElem_cons_succ, List.getElem_cons_zero, Act.put, List.setIfInBounds_toArray, List.set_cons_zero, List.set_cons_succ]
          have hra := heap_alloc_new wA (.cells #[.int .u64 0, .int .u64 0, .int .u64 0, .int .u64 0] 39)
          have hfaB : Frm [] wA (wA.alloc (.cells #[.int .u64 0, .int .u64 0, .int .u64 0, .int .u64 0] 39)) := (Frm.refl _ _).alloc _
          have hF2 := hF1.alloc (.cells #[.int .u64 0, .int .u64 0, .int .u64 0, .int .u64 0] 39)
          obtain ⟨wB, hwB⟩ : ∃ z, wA.alloc (.cells #[.int .u64 0, .int .u64 0, .int .u64 0, .int .u64 0] 39) = z := ⟨_, rfl⟩
          obtain ⟨bB, hbB⟩ : ∃ z, wA.heap.size = z := ⟨_, rfl⟩
          have hlbB : w3.heap.size ≤ bB := by rw [← hbB]; exact hF1.size
          rw [hwB, hbB] at hra
          rw [hwB] at hfaB hF2
          have rB2 := hra
          clear hra
          have rA2 := hfaB.heap rA1 (by simp)
          first | rw [hwB] | skip
          first | rw [hbB] | skip
          refine wpAnyHT_one (i := 7) rfl (by kernel_rfl) (by kernel_rfl) (fun K hK => ?_)
          try simp only [List.getElem_toArray, List.getElem_cons_succ, List.getElem_cons_zero]
          go_simp
          refine (HD1.out m wB HMN.out (HF3.out.trans hF2 (by simp))).mono ?_
          rintro e wC hd
          obtain ⟨hfc, he⟩ := DecP.bad hd (HBK.out m HMN.out) (by decide)
          have he2 : e = .returned (.tuple #[.agg #[.int .i64 0, .string ⟨#[]⟩, .int .i64 0, .int .i64 0, .int .i64 0, .int .i64 0, .string ⟨#[]⟩, .slice none 0 0, .int .i64 0, .int .i64 0, .int .i64 0, .slice none 0 0, .slice none 0 0], .int .i64 0, .agg #[.int .u64 0, .int .u64 0, .int .u64 0, .int .u64 0], .int .i64 10]) := he
          subst he2
          have hF3 : Frm [] w3 wC := hF2.trans hfc (by simp)
          refine hK _ _ (sA _ hF3) ?_
          clear hK K hd he
          have rA3 := hfc.heap rA2 (by simp)
          have rB3 := hfc.heap rB2 (by simp)
          refine wpAnyHT_take (i := 8) (oi := _) (v := ?_) (by kernel_rfl) rfl (by kernel_rfl) (by kernel_rfl) (by kernel_rfl) (by kernel_rfl) (fun _ _ _ h => h) (Or.inl ⟨by rfl, ?_⟩) (sA _ hF3) ?_
          rotate_left 1
          · (intro W hSw; obtain ⟨e0, e1, e2, e3⟩ := hSw; (try simp only [List.getElem_toArray, List.getElem_cons_succ, List.getElem_cons_zero]); go_simp; try with_reducible rfl)
          try simp only [List.getElem_toArray, List.getElem_cons_succ, List.getElem_cons_zero, Act.put, List.setIfInBounds_toArray, List.set_cons_zero, List.set_cons_succ]
          refine wpAnyHT_take (i := 9) (oi := _) (v := ?_) (by kernel_rfl) rfl (by kernel_rfl) (by kernel_rfl) (by kernel_rfl) (by kernel_rfl) (fun _ _ _ h => h) (Or.inl ⟨by rfl, ?_⟩) (sA _ hF3) ?_
          rotate_left 1
          · (intro W hSw; obtain ⟨e0, e1, e2, e3⟩ := hSw; (try simp only [List.getElem_toArray, List.getElem_cons_succ, List.getElem_cons_zero]); go_simp; try with_reducible rfl)
          try simp only [List.getElem_toArray, List.getElem_cons_succ, List.getElem_cons_zero, Act.put, List.setIfInBounds_toArray, List.set_cons_zero, List.set_cons_succ]
          refine wpAnyHT_take (i := 10) (oi := _) (v := ?_) (by kernel_rfl) rfl (by kernel_rfl) (by kernel_rfl) (by kernel_rfl) (by kernel_rfl) (fun _ _ _ h => h) (Or.inl ⟨by rfl, ?_⟩) (sA _ hF3) ?_
          rotate_left 1
          · (intro W hSw; obtain ⟨e0, e1, e2, e3⟩ := hSw; (try simp only [List.getElem_toArray, List.getElem_cons_succ, List.getElem_cons_zero]); go_simp; try with_reducible rfl)
          try simp only [List.getElem_toArray, List.getElem_cons_succ, List.getElem_cons_zero, Act.put, List.setIfInBounds_toArray, List.set_cons_zero, List.set_cons_succ]
          refine wpAnyHT_take (i := 11) (oi := _) (v := ?_) (by kernel_rfl) rfl (by kernel_rfl) (by kernel_rfl) (by kernel_rfl) (by kernel_rfl) (fun _ _ _ h => h) (Or.inl ⟨by rfl, ?_⟩) (sA _ hF3) ?_
          rotate_left 1
          · (intro W hSw; obtain ⟨e0, e1, e2, e3⟩ := hSw; (try simp only [List.getElem_toArray, List.getElem_cons_succ, List.getElem_cons_zero]); go_simp; try with_reducible rfl)
          try simp only [List.getElem_toArray, List.getElem_cons_succ, List.getElem_cons_zero, Act.put, List.setIfInBounds_toArray, List.set_cons_zero, List.set_cons_succ]
          refine wpAnyHT_take (i := 12) (oi := _) (v := ?_) (by kernel_rfl) rfl (by kernel_rfl) (by kernel_rfl) (by kernel_rfl) (by kernel_rfl) (fun _ _ _ h => h) (Or.inl ⟨by rfl, ?_⟩) (sA _ hF3) ?_
          rotate_left 1
          · (intro W hSw; obtain ⟨e0, e1, e2, e3⟩ := hSw; (try simp only [List.getElem_toArray, List.getElem_cons_succ, List.getElem_cons_zero]); go_simp; try with_reducible rfl)
          try simp only [List.getElem_toArray, List.getElem_cons_succ, List.getElem_cons_zero, Act.put, List.setIfInBounds_toArray, List.set_cons_zero, List.set_cons_succ]
          have hrA := rA3
          have hrB := rB3
          have hAB : ¬ bB = bA := fun h => by rw [h, hrA] at hrB; cases hrB
          have z0 : wC.cell? ⟨bA, 0, none⟩ = some (.int .i64 0) := by rw [cell_of_row _ _ _ _ _ _ hrA]; rfl
          have y0 := frozen_of_row wC bA 0 _ _ hrA
          have z1 : wC.cell? ⟨bA, 1, none⟩ = some (.string ⟨#[]⟩) := by rw [cell_of_row _ _ _ _ _ _ hrA]; rfl
          have y1 := frozen_of_row wC bA 1 _ _ hrA
          have z2 : wC.cell? ⟨bA, 2, none⟩ = some (.int .i64 0) := by rw [cell_of_row _ _ _ _ _ _ hrA]; rfl
          have y2 := frozen_of_row wC bA 2 _ _ hrA
          have z3 : wC.cell? ⟨bA, 3, none⟩ = some (.int .i64 0) := by rw [cell_of_row _ _ _ _ _ _ hrA]; rfl
          have y3 := frozen_of_row wC bA 3 _ _ hrA
          have z4 : wC.cell? ⟨bA, 4, none⟩ = some (.int .i64 0) := by rw [cell_of_row _ _ _ _ _ _ hrA]; rfl
          have y4 := frozen_of_row wC bA 4 _ _ hrA
          have z5 : wC.cell? ⟨bA, 5, none⟩ = some (.int .i64 0) := by rw [cell_of_row _ _ _ _ _ _ hrA]; rfl
          have y5 := frozen_of_row wC bA 5 _ _ hrA
          have z6 : wC.cell? ⟨bA, 6, none⟩ = some (.string ⟨#[]⟩) := by rw [cell_of_row _ _ _ _ _ _ hrA]; rfl
          have y6 := frozen_of_row wC bA 6 _ _ hrA
          have z7 : wC.cell? ⟨bA, 7, none⟩ = some (.slice none 0 0) := by rw [cell_of_row _ _ _ _ _ _ hrA]; rfl
          have y7 := frozen_of_row wC bA 7 _ _ hrA
          have z8 : wC.cell? ⟨bA, 8, none⟩ = some (.int .i64 0) := by rw [cell_of_row _ _ _ _ _ _ hrA]; rfl
          have y8 := frozen_of_row wC bA 8 _ _ hrA
          have z9 : wC.cell? ⟨bA, 9, none⟩ = some (.int .i64 0) := by rw [cell_of_row _ _ _ _ _ _ hrA]; rfl
          have y9 := frozen_of_row wC bA 9 _ _ hrA
          have z10 : wC.cell? ⟨bA, 10, none⟩ = some (.int .i64 0) := by rw [cell_of_row _ _ _ _ _ _ hrA]; rfl
          have y10 := frozen_of_row wC bA 10 _ _ hrA
          have z11 : wC.cell? ⟨bA, 11, none⟩ = some (.slice none 0 0) := by rw [cell_of_row _ _ _ _ _ _ hrA]; rfl
          have y11 := frozen_of_row wC bA 11 _ _ hrA
          have z12 : wC.cell? ⟨bA, 12, none⟩ = some (.slice none 0 0) := by rw [cell_of_row _ _ _ _ _ _ hrA]; rfl
          have y12 := frozen_of_row wC bA 12 _ _ hrA
          obtain ⟨h5, f5⟩ := sets_rowF bA 30 [(0, .int .i64 0), (1, .string ⟨#[]⟩), (2, .int .i64 0), (3, .int .i64 0), (4, .int .i64 0), (5, .int .i64 0), (6, .string ⟨#[]⟩), (7, .slice none 0 0), (8, .int .i64 0), (9, .int .i64 0), (10, .int .i64 0), (11, .slice none 0 0), (12, .slice none 0 0)] wC _ hrA
          simp only [List.foldl, List.setIfInBounds_toArray, List.set_cons_zero, List.set_cons_succ] at h5
          obtain ⟨Wz, hWz⟩ : ∃ z, setsF wC bA [(0, .int .i64 0), (1, .string ⟨#[]⟩), (2, .int .i64 0), (3, .int .i64 0), (4, .int .i64 0), (5, .int .i64 0), (6, .string ⟨#[]⟩), (7, .slice none 0 0), (8, .int .i64 0), (9, .int .i64 0), (10, .int .i64 0), (11, .slice none 0 0), (12, .slice none 0 0)] = z := ⟨_, rfl⟩
          rw [hWz] at h5 f5
          have hwz : (((((((((((((wC.setCell ⟨bA, 0, none⟩ (.int .i64 0)).setCell ⟨bA, 1, none⟩ (.string ⟨#[]⟩)).setCell ⟨bA, 2, none⟩ (.int .i64 0)).setCell ⟨bA, 3, none⟩ (.int .i64 0)).setCell ⟨bA, 4, none⟩ (.int .i64 0)).setCell ⟨bA, 5, none⟩ (.int .i64 0)).setCell ⟨bA, 6, none⟩ (.string ⟨#[]⟩)).setCell ⟨bA, 7, none⟩ (.slice none 0 0)).setCell ⟨bA, 8, none⟩ (.int .i64 0)).setCell ⟨bA, 9, none⟩ (.int .i64 0)).setCell ⟨bA, 10, none⟩ (.int .i64 0)).setCell ⟨bA, 11, none⟩ (.slice none 0 0)).setCell ⟨bA, 12, none⟩ (.slice none 0 0)) = Wz := hWz
          have hFz : Frm [] w3 Wz := hF3.trans f5 (fun i hi hl => by rw [List.mem_singleton] at hi; omega)
          have hrB2 := f5.heap hrB (by simpa using hAB)
          have n0 : Wz.cell? ⟨bB, 0, none⟩ = some (.int .u64 0) := by rw [cell_of_row _ _ _ _ _ _ hrB2]; rfl
          have m0 := frozen_of_row Wz bB 0 _ _ hrB2
          have n1 : Wz.cell? ⟨bB, 1, none⟩ = some (.int .u64 0) := by rw [cell_of_row _ _ _ _ _ _ hrB2]; rfl
          have m1 := frozen_of_row Wz bB 1 _ _ hrB2
          have n2 : Wz.cell? ⟨bB, 2, none⟩ = some (.int .u64 0) := by rw [cell_of_row _ _ _ _ _ _ hrB2]; rfl
          have m2 := frozen_of_row Wz bB 2 _ _ hrB2
          have n3 : Wz.cell? ⟨bB, 3, none⟩ = some (.int .u64 0) := by rw [cell_of_row _ _ _ _ _ _ hrB2]; rfl
          have m3 := frozen_of_row Wz bB 3 _ _ hrB2
          obtain ⟨h6, f6⟩ := sets_rowF bB 39 [(0, .int .u64 0), (1, .int .u64 0), (2, .int .u64 0), (3, .int .u64 0)] Wz _ hrB2
          simp only [List.foldl, List.setIfInBounds_toArray, List.set_cons_zero, List.set_cons_succ] at h6
          obtain ⟨Wy, hWy⟩ : ∃ z, setsF Wz bB [(0, .int .u64 0), (1, .int .u64 0), (2, .int .u64 0), (3, .int .u64 0)] = z := ⟨_, rfl⟩
          rw [hWy] at h6 f6
          have hwy : ((((Wz.setCell ⟨bB, 0, none⟩ (.int .u64 0)).setCell ⟨bB, 1, none⟩ (.int .u64 0)).setCell ⟨bB, 2, none⟩ (.int .u64 0)).setCell ⟨bB, 3, none⟩ (.int .u64 0)) = Wy := hWy
          have hFy : Frm [] w3 Wy := hFz.trans f6 (fun i hi hl => by rw [List.mem_singleton] at hi; omega)
          have h7 := f6.heap h5 (by simpa using fun h => hAB h.symm)
          refine wpAnyHT_one (i := 15) rfl (by kernel_rfl) (by kernel_rfl) (fun K hK => ?_)
          try simp only [List.getElem_toArray, List.getElem_cons_succ, List.getElem_cons_zero]
          go_simp
          try rw [hwz]
          refine hK _ _ (sA _ hFz) ?_
          clear hK K
          try simp only [List.getElem_toArray, List.getElem_cons_succ, List.getElem_cons_zero, Act.put, List.setIfInBounds_toArray, List.set_cons_zero, List.set_cons_succ]
          refine wpAnyHT_one (i := 16) rfl (by kernel_rfl) (by kernel_rfl) (fun K hK => ?_)
          try simp only [List.getElem_toArray, List.getElem_cons_succ, List.getElem_cons_zero]
          go_simp
          refine hK _ _ (sA _ hFz) ?_
          clear hK K
          try simp only [List.getElem_toArray, List.getElem_cons_succ, List.getElem_cons_zero, Act.put, List.setIfInBounds_toArray, List.set_cons_zero, List.set_cons_succ]
          refine wpAnyHT_one (i := 17) rfl (by kernel_rfl) (by kernel_rfl) (fun K hK => ?_)
          try simp only [List.getElem_toArray, List.getElem_cons_succ, List.getElem_cons_zero]
          go_simp
          try rw [hwy]
          refine hK _ _ (sA _ hFy) ?_
          clear hK K
          try simp only [List.getElem_toArray, List.getElem_cons_succ, List.getElem_cons_zero, Act.put, List.setIfInBounds_toArray, List.set_cons_zero, List.set_cons_succ]
          refine wpAnyHT_end (by kernel_rfl) ?_
          simp only [List.drop_succ_cons, List.drop_zero]
          clear z0 y0 h5 f5 hwz hwy hWz hWy
          go_wp2_with fail
          go_meet
          exact ⟨bA, bB, rfl, rfl, rfl, rfl, hid h7, hid h6, hid hFy⟩
      · try simp only [List.getElem_toArray, List.getElem_cons_succ, List.getElem_cons_zero]
        go_simp
        refine hK _ _ (sA _ (hF0.alloc _)) ?_
        clear hK K
        try simp only [List.getElem_toArray, List.getElem_cons_succ, List.getElem_cons_zero, Act.put, List.setIfInBounds_toArray, List.set_cons_zero, List.set_cons_succ]
        have hra := heap_alloc_new wd (.cells #[.int .u64 0, .int .u64 0, .int .u64 0, .int .u64 0] 39)
        have hfaB : Frm [] wd (wd.alloc (.cells #[.int .u64 0, .int .u64 0, .int .u64 0, .int .u64 0] 39)) := (Frm.refl _ _).alloc _
        have hF1 := hF0.alloc (.cells #[.int .u64 0, .int .u64 0, .int .u64 0, .int .u64 0] 39)
        obtain ⟨wB, hwB⟩ : ∃ z, wd.alloc (.cells #[.int .u64 0, .int .u64 0, .int .u64 0, .int .u64 0] 39) = z := ⟨_, rfl⟩
        obtain ⟨bB, hbB⟩ : ∃ z, wd.heap.size = z := ⟨_, rfl⟩
        have hlbB : w3.heap.size ≤ bB := by rw [← hbB]; exact hF0.size
        rw [hwB, hbB] at hra
        rw [hwB] at hfaB hF1
        have rB1 := hra
        clear hra
        first | rw [hwB] | skip
        first | rw [hbB] | skip
        refine wpAnyHT_two (i := 7) (j := 13) rfl rfl (by kernel_rfl) (by kernel_rfl) (by kernel_rfl) (fun K hK => ?_) (fun K hK => ?_)
        · try simp only [List.getElem_toArray, List.getElem_cons_succ, List.getElem_cons_zero]
          go_simp
          refine (HD1.out m wB HMN.out (HF3.out.trans hF1 (by simp))).mono ?_
          rintro e wC hd
          obtain ⟨hfc, he⟩ := DecP.bad hd (HBK.out m HMN.out) (by decide)
          have he2 : e = .returned (.tuple #[.agg #[.int .i64 0, .string ⟨#[]⟩, .int .i64 0, .int .i64 0, .int .i64 0, .int .i64 0, .string ⟨#[]⟩, .slice none 0 0, .int .i64 0, .int .i64 0, .int .i64 0, .slice none 0 0, .slice none 0 0], .int .i64 0, .agg #[.int .u64 0, .int .u64 0, .int .u64 0, .int .u64 0], .int .i64 10]) := he
          subst he2
          have hF2 : Frm [] w3 wC := hF1.trans hfc (by simp)
          refine hK _ _ (sA _ hF2) ?_
          clear hK K hd he
          have rB2 := hfc.heap rB1 (by simp)
          refine wpAnyHT_take (i := 8) (oi := _) (v := ?_) (by kernel_rfl) rfl (by kernel_rfl) (by kernel_rfl) (by kernel_rfl) (by kernel_rfl) (fun _ _ _ h => h) (Or.inl ⟨by rfl, ?_⟩) (sA _ hF2) ?_
          rotate_left 1
          · (intro W hSw; obtain ⟨e0, e1, e2, e3⟩ := hSw; (try simp only [List.getElem_toArray, List.getElem_cons_succ, List.getElem_cons_zero]); go_simp; try with_reducible rfl)
          try simp only [List.getElem_toArray, List.getElem_cons_succ, List.getElem_cons_zero, Act.put, List.setIfInBounds_toArray, List.set_cons_zero, List.set_cons_succ]
          refine wpAnyHT_take (i := 9) (oi := _) (v := ?_) (by kernel_rfl) rfl (by kernel_rfl) (by kernel_rfl) (by kernel_rfl) (by kernel_rfl) (fun _ _ _ h => h) (Or.inl ⟨by rfl, ?_⟩) (sA _ hF2) ?_
          rotate_left 1
          · (intro W hSw; obtain ⟨e0, e1, e2, e3⟩ := hSw; (try simp only [List.getElem_toArray, List.getElem_cons_succ, List.getElem_cons_zero]); go_simp; try with_reducible rfl)
          try simp only [List.getElem_toArray, List.getElem_cons_succ, List.getElem_cons_zero, Act.put, List.setIfInBounds_toArray, List.set_cons_zero, List.set_cons_succ]
          refine wpAnyHT_take (i := 10) (oi := _) (v := ?_) (by kernel_rfl) rfl (by kernel_rfl) (by kernel_rfl) (by kernel_rfl) (by kernel_rfl) (fun _ _ _ h => h) (Or.inl ⟨by rfl, ?_⟩) (sA _ hF2) ?_
          rotate_left 1
          · (intro W hSw; obtain ⟨e0, e1, e2, e3⟩ := hSw; (try simp only [List.getElem_toArray, List.getElem_cons_succ, List.getElem_cons_zero]); go_simp; try with_reducible rfl)
          try simp only [List.getElem_toArray, List.getElem_cons_succ, List.getElem_cons_zero, Act.put, List.setIfInBounds_toArray, List.set_cons_zero, List.set_cons_succ]
          refine wpAnyHT_take (i := 11) (oi := _) (v := ?_) (by kernel_rfl) rfl (by kernel_rfl) (by kernel_rfl) (by kernel_rfl) (by kernel_rfl) (fun _ _ _ h => h) (Or.inl ⟨by rfl, ?_⟩) (sA _ hF2) ?_
          rotate_left 1
          · (intro W hSw; obtain ⟨e0, e1, e2, e3⟩ := hSw; (try simp only [List.getElem_toArray, List.getElem_cons_succ, List.getElem_cons_zero]); go_simp; try with_reducible rfl)
          try simp only [List.getElem_toArray, List.getElem_cons_succ, List.getElem_cons_zero, Act.put, List.setIfInBounds_toArray, List.set_cons_zero, List.set_cons_succ]
          refine wpAnyHT_take (i := 12) (oi := _) (v := ?_) (by kernel_rfl) rfl (by kernel_rfl) (by kernel_rfl) (by kernel_rfl) (by kernel_rfl) (fun _ _ _ h => h) (Or.inl ⟨by rfl, ?_⟩) (sA _ hF2) ?_
          rotate_left 1
          · (intro W hSw; obtain ⟨e0, e1, e2, e3⟩ := hSw; (try simp only [List.getElem_toArray, List.getElem_cons_succ, List.getElem_cons_zero]); go_simp; try with_reducible rfl)
          try simp only [List.getElem_toArray, List.getElem_cons_succ, List.getElem_cons_zero, Act.put, List.setIfInBounds_toArray, List.set_cons_zero, List.set_cons_succ]
          refine wpAnyHT_one (i := 13) rfl (by kernel_rfl) (by kernel_rfl) (fun K hK => ?_)
          try simp only [List.getElem_toArray, List.getElem_cons_succ, List.getElem_cons_zero]
          go_simp
          refine hK _ _ (sA _ (hF2.alloc _)) ?_
          clear hK K
          try simp only [List.getElem_toArray, List.getElem_cons_succ, List.getElem_cons_zero, Act.put, List.setIfInBounds_toArray, List.set_cons_zero, List.set_cons_succ]
          have hra := heap_alloc_new wC (.cells #[.int .i64 0, .string ⟨#[]⟩, .int .i64 0, .int .i64 0, .int .i64 0, .int .i64 0, .string ⟨#[]⟩, .slice none 0 0, .int .i64 0, .int .i64 0, .int .i64 0, .slice none 0 0, .slice none 0 0] 30)
          have hfaA : Frm [] wC (wC.alloc (.cells #[.int .i64 0, .string ⟨#[]⟩, .int .i64 0, .int .i64 0, .int .i64 0, .int .i64 0, .string ⟨#[]⟩, .slice none 0 0, .int .i64 0, .int .i64 0, .int .i64 0, .slice none 0 0, .slice none 0 0] 30)) := (Frm.refl _ _).alloc _
          have hF3 := hF2.alloc (.cells #[.int .i64 0, .string ⟨#[]⟩, .int .i64 0, .int .i64 0, .int .i64 0, .int .i64 0, .string ⟨#[]⟩, .slice none 0 0, .int .i64 0, .int .i64 0, .int .i64 0, .slice none 0 0, .slice none 0 0] 30)
          obtain ⟨wA, hwA⟩ : ∃ z, wC.alloc (.cells #[.int .i64 0, .string ⟨#[]⟩, .int .i64 0, .int .i64 0, .int .i64 0, .int .i64 0, .string ⟨#[]⟩, .slice none 0 0, .int .i64 0, .int .i64 0, .int .i64 0, .slice none 0 0, .slice none 0 0] 30) = z := ⟨_, rfl⟩
          obtain ⟨bA, hbA⟩ : ∃ z, wC.heap.size = z := ⟨_, rfl⟩
          have hlbA : w3.heap.size ≤ bA := by rw [← hbA]; exact hF2.size
          rw [hwA, hbA] at hra
          rw [hwA] at hfaA hF3
          have rA3 := hra
          clear hra
          have rB3 := hfaA.heap rB2 (by simp)
          first | rw [hwA] | skip
          first | rw [hbA] | skip
          have hrA := rA3
          have hrB := rB3
          have hAB : ¬ bB = bA := fun h => by rw [h, hrA] at hrB; cases hrB
          have z0 : wA.cell? ⟨bA, 0, none⟩ = some (.int .i64 0) := by rw [cell_of_row _ _ _ _ _ _ hrA]; rfl
          have y0 := frozen_of_row wA bA 0 _ _ hrA
          have z1 : wA.cell? ⟨bA, 1, none⟩ = some (.string ⟨#[]⟩) := by rw [cell_of_row _ _ _ _ _ _ hrA]; rfl
          have y1 := frozen_of_row wA bA 1 _ _ hrA
          have z2 : wA.cell? ⟨bA, 2, none⟩ = some (.int .i64 0) := by rw [cell_of_row _ _ _ _ _ _ hrA]; rfl
          have y2 := frozen_of_row wA bA 2 _ _ hrA
          have z3 : wA.cell? ⟨bA, 3, none⟩ = some (.int .i64 0) := by rw [cell_of_row _ _ _ _ _ _ hrA]; rfl
          have y3 := frozen_of_row wA bA 3 _ _ hrA
          have z4 : wA.cell? ⟨bA, 4, none⟩ = some (.int .i64 0) := by rw [cell_of_row _ _ _ _ _ _ hrA]; rfl
          have y4 := frozen_of_row wA bA 4 _ _ hrA
          have z5 : wA.cell? ⟨bA, 5, none⟩ = some (.int .i64 0) := by rw [cell_of_row _ _ _ _ _ _ hrA]; rfl
          have y5 := frozen_of_row wA bA 5 _ _ hrA
          have z6 : wA.cell? ⟨bA, 6, none⟩ = some (.string ⟨#[]⟩) := by rw [cell_of_row _ _ _ _ _ _ hrA]; rfl
          have y6 := frozen_of_row wA bA 6 _ _ hrA
          have z7 : wA.cell? ⟨bA, 7, none⟩ = some (.slice none 0 0) := by rw [cell_of_row _ _ _ _ _ _ hrA]; rfl
          have y7 := frozen_of_row wA bA 7 _ _ hrA
          have z8 : wA.cell? ⟨bA, 8, none⟩ = some (.int .i64 0) := by rw [cell_of_row _ _ _ _ _ _ hrA]; rfl
          have y8 := frozen_of_row wA bA 8 _ _ hrA
          have z9 : wA.cell? ⟨bA, 9, none⟩ = some (.int .i64 0) := by rw [cell_of_row _ _ _ _ _ _ hrA]; rfl
          have y9 := frozen_of_row wA bA 9 _ _ hrA
          have z10 : wA.cell? ⟨bA, 10, none⟩ = some (.int .i64 0) := by rw [cell_of_row _ _ _ _ _ _ hrA]; rfl
          have y10 := frozen_of_row wA bA 10 _ _ hrA
          have z11 : wA.cell? ⟨bA, 11, none⟩ = some (.slice none 0 0) := by rw [cell_of_row _ _ _ _ _ _ hrA]; rfl
          have y11 := frozen_of_row wA bA 11 _ _ hrA
          have z12 : wA.cell? ⟨bA, 12, none⟩ = some (.slice none 0 0) := by rw [cell_of_row _ _ _ _ _ _ hrA]; rfl
          have y12 := frozen_of_row wA bA 12 _ _ hrA
          obtain ⟨h5, f5⟩ := sets_rowF bA 30 [(0, .int .i64 0), (1, .string ⟨#[]⟩), (2, .int .i64 0), (3, .int .i64 0), (4, .int .i64 0), (5, .int .i64 0), (6, .string ⟨#[]⟩), (7, .slice none 0 0), (8, .int .i64 0), (9, .int .i64 0), (10, .int .i64 0), (11, .slice none 0 0), (12, .slice none 0 0)] wA _ hrA
          simp only [List.foldl, List.setIfInBounds_toArray, List.set_cons_zero, List.set_cons_succ] at h5
          obtain ⟨Wz, hWz⟩ : ∃ z, setsF wA bA [(0, .int .i64 0), (1, .string ⟨#[]⟩), (2, .int .i64 0), (3, .int .i64 0), (4, .int .i64 0), (5, .int .i64 0), (6, .string ⟨#[]⟩), (7, .slice none 0 0), (8, .int .i64 0), (9, .int .i64 0), (10, .int .i64 0), (11, .slice none 0 0), (12, .slice none 0 0)] = z := ⟨_, rfl⟩
          rw [hWz] at h5 f5
          have hwz : (((((((((((((wA.setCell ⟨bA, 0, none⟩ (.int .i64 0)).setCell ⟨bA, 1, none⟩ (.string ⟨#[]⟩)).setCell ⟨bA, 2, none⟩ (.int .i64 0)).setCell ⟨bA, 3, none⟩ (.int .i64 0)).setCell ⟨bA, 4, none⟩ (.int .i64 0)).setCell ⟨bA, 5, none⟩ (.int .i64 0)).setCell ⟨bA, 6, none⟩ (.string ⟨#[]⟩)).setCell ⟨bA, 7, none⟩ (.slice none 0 0)).setCell ⟨bA, 8, none⟩ (.int .i64 0)).setCell ⟨bA, 9, none⟩ (.int .i64 0)).setCell ⟨bA, 10, none⟩ (.int .i64 0)).setCell ⟨bA, 11, none⟩ (.slice none 0 0)).setCell ⟨bA, 12, none⟩ (.slice none 0 0)) = Wz := hWz
          have hFz : Frm [] w3 Wz := hF3.trans f5 (fun i hi hl => by rw [List.mem_singleton] at hi; omega)
          have hrB2 := f5.heap hrB (by simpa using hAB)
          have n0 : Wz.cell? ⟨bB, 0, none⟩ = some (.int .u64 0) := by rw [cell_of_row _ _ _ _ _ _ hrB2]; rfl
          have m0 := frozen_of_row Wz bB 0 _ _ hrB2
          have n1 : Wz.cell? ⟨bB, 1, none⟩ = some (.int .u64 0) := by rw [cell_of_row _ _ _ _ _ _ hrB2]; rfl
          have m1 := frozen_of_row Wz bB 1 _ _ hrB2
          have n2 : Wz.cell? ⟨bB, 2, none⟩ = some (.int .u64 0) := by rw [cell_of_row _ _ _ _ _ _ hrB2]; rfl
          have m2 := frozen_of_row Wz bB 2 _ _ hrB2
          have n3 : Wz.cell? ⟨bB, 3, none⟩ = some (.int .u64 0) := by rw [cell_of_row _ _ _ _ _ _ hrB2]; rfl
          have m3 := frozen_of_row Wz bB 3 _ _ hrB2
          obtain ⟨h6, f6⟩ := sets_rowF bB 39 [(0, .int .u64 0), (1, .int .u64 0), (2, .int .u64 0), (3, .int .u64 0)] Wz _ hrB2
          simp only [List.foldl, List.setIfInBounds_toArray, List.set_cons_zero, List.set_cons_succ] at h6
          obtain ⟨Wy, hWy⟩ : ∃ z, setsF Wz bB [(0, .int .u64 0), (1, .int .u64 0), (2, .int .u64 0), (3, .int .u64 0)] = z := ⟨_, rfl⟩
          rw [hWy] at h6 f6
          have hwy : ((((Wz.setCell ⟨bB, 0, none⟩ (.int .u64 0)).setCell ⟨bB, 1, none⟩ (.int .u64 0)).setCell ⟨bB, 2, none⟩ (.int .u64 0)).setCell ⟨bB, 3, none⟩ (.int .u64 0)) = Wy := hWy
          have hFy : Frm [] w3 Wy := hFz.trans f6 (fun i hi hl => by rw [List.mem_singleton] at hi; omega)
          have h7 := f6.heap h5 (by simpa using fun h => hAB h.symm)
          refine wpAnyHT_one (i := 15) rfl (by kernel_rfl) (by kernel_rfl) (fun K hK => ?_)
          try simp only [List.getElem_toArray, List.getElem_cons_succ, List.getElem_cons_zero]
          go_simp
          try rw [hwz]
          refine hK _ _ (sA _ hFz) ?_
          clear hK K
          try simp only [List.getElem_toArray, List.getElem_cons_succ, List.getElem_cons_zero, Act.put, List.setIfInBounds_toArray, List.set_cons_zero, List.set_cons_succ]
          refine wpAnyHT_one (i := 16) rfl (by kernel_rfl) (by kernel_rfl) (fun K hK => ?_)
          try simp only [List.getElem_toArray, List.getElem_cons_succ, List.getElem_cons_zero]
          go_simp
          refine hK _ _ (sA _ hFz) ?_
          clear hK K
          try simp only [List.getElem_toArray, List.getElem_cons_succ, List.getElem_cons_zero, Act.put, List.setIfInBounds_toArray, List.set_cons_zero, List.set_cons_succ]
          refine wpAnyHT_one (i := 17) rfl (by kernel_rfl) (by kernel_rfl) (fun K hK => ?_)
          try simp only [List.getElem_toArray, List.getElem_cons_succ, List.getElem_cons_zero]
          go_simp
          try rw [hwy]
          refine hK _ _ (sA _ hFy) ?_
          clear hK K
          try simp only [List.getElem_toArray, List.getElem_cons_succ, List.getElem_cons_zero, Act.put, List.setIfInBounds_toArray, List.set_cons_zero, List.set_cons_succ]
          refine wpAnyHT_end (by kernel_rfl) ?_
          simp only [List.drop_succ_cons, List.drop_zero]
          clear z0 y0 h5 f5 hwz hwy hWz hWy
          go_wp2_with fail
          go_meet
          exact ⟨bA, bB, rfl, rfl, rfl, rfl, hid h7, hid h6, hid hFy⟩
        · try simp only [List.getElem_toArray, List.getElem_cons_succ, List.getElem_cons_zero]
          go_simp
          refine hK _ _ (sA _ (hF1.alloc _)) ?_
          clear hK K
          try simp only [List.getElem_toArray, List.getElem_cons_succ, List.getElem_cons_zero, Act.put, List.setIfInBounds_toArray, List.set_cons_zero, List.set_cons_succ]
          have hra := heap_alloc_new wB (.cells #[.int .i64 0, .string ⟨#[]⟩, .int .i64 0, .int .i64 0, .int .i64 0, .int .i64 0, .string ⟨#[]⟩, .slice none 0 0, .int .i64 0, .int .i64 0, .int .i64 0, .slice none 0 0, .slice none 0 0] 30)
          have hfaA : Frm [] wB (wB.alloc (.cells #[.int .i64 0, .string ⟨#[]⟩, .int .i64 0, .int .i64 0, .int .i64 0, .int .i64 0, .string ⟨#[]⟩, .slice none 0 0, .int .i64 0, .int .i64 0, .int .i64 0, .slice none 0 0, .slice none 0 0] 30)) := (Frm.refl _ _).alloc _
          have hF2 := hF1.alloc (.cells #[.int .i64 0, .string ⟨#[]⟩, .int .i64 0, .int .i64 0, .int .i64 0, .int .i64 0, .string ⟨#[]⟩, .slice none 0 0, .int .i64 0, .int .i64 0, .int .i64 0, .slice none 0 0, .slice none 0 0] 30)
          obtain ⟨wA, hwA⟩ : ∃ z, wB.alloc (.cells #[.int .i64 0, .string ⟨#[]⟩, .int .i64 0, .int .i64 0, .int .i64 0, .int .i64 0, .string ⟨#[]⟩, .slice none 0 0, .int .i64 0, .int .i64 0, .int .i64 0, .slice none 0 0, .slice none 0 0] 30) = z := ⟨_, rfl⟩
          obtain ⟨bA, hbA⟩ : ∃ z, wB.heap.size = z := ⟨_, rfl⟩
          have hlbA : w3.heap.size ≤ bA := by rw [← hbA]; exact hF1.size
          rw [hwA, hbA] at hra
          rw [hwA] at hfaA hF2
          have rA2 := hra
          clear hra
          have rB2 := hfaA.heap rB1 (by simp)
          first | rw [hwA] | skip
          first | rw [hbA] | skip
          refine wpAnyHT_one (i := 7) rfl (by kernel_rfl) (by kernel_rfl) (fun K hK => ?_)
          try simp only [List.getElem_toArray, List.getElem_cons_succ, List.getElem_cons_zero]
          go_simp
          refine (HD1.out m wA HMN.out (HF3.out.trans hF2 (by simp))).mono ?_
          rintro e wC hd
          obtain ⟨hfc, he⟩ := DecP.bad hd (HBK.out m HMN.out) (by decide)
          have he2 : e = .returned (.tuple #[.agg #[.int .i64 0, .string ⟨#[]⟩, .int .i64 0, .int .i64 0, .int .i64 0, .int .i64 0, .string ⟨#[]⟩, .slice none 0 0, .int .i64 0, .int .i64 0, .int .i64 0, .slice none 0 0, .slice none 0 0], .int .i64 0, .agg #[.int .u64 0, .int .u64 0, .int .u64 0, .int .u64 0], .int .i64 10]) := he
          subst he2
          have hF3 : Frm [] w3 wC := hF2.trans hfc (by simp)
          refine hK _ _ (sA _ hF3) ?_
          clear hK K hd he
          have rB3 := hfc.heap rB2 (by simp)
          have rA3 := hfc.heap rA2 (by simp)
          refine wpAnyHT_take (i := 8) (oi := _) (v := ?_) (by kernel_rfl) rfl (by kernel_rfl) (by kernel_rfl) (by kernel_rfl) (by kernel_rfl) (fun _ _ _ h => h) (Or.inl ⟨by rfl, ?_⟩) (sA _ hF3) ?_
          rotate_left 1
          · (intro W hSw; obtain ⟨e0, e1, e2, e3⟩ := hSw; (try simp only [List.getElem_toArray, List.getElem_cons_succ, List.getElem_cons_zero]); go_simp; try with_reducible rfl)
          try simp only [List.getElem_toArray, List.getElem_cons_succ, List.getElem_cons_zero, Act.put, List.setIfInBounds_toArray, List.set_cons_zero, List.set_cons_succ]
          refine wpAnyHT_take (i := 9) (oi := _) (v := ?_) (by kernel_rfl) rfl (by kernel_rfl) (by kernel_rfl) (by kernel_rfl) (by kernel_rfl) (fun _ _ _ h => h) (Or.inl ⟨by rfl, ?_⟩) (sA _ hF3) ?_
          rotate_left 1
          · (intro W hSw; obtain ⟨e0, e1, e2, e3⟩ := hSw; (try simp only [List.getElem_toArray, List.getElem_cons_succ, List.getElem_cons_zero]); go_simp; try with_reducible rfl)
          try simp only [List.getElem_toArray, List.getElem_cons_succ, List.getElem_cons_zero, Act.put, List.setIfInBounds_toArray, List.set_cons_zero, List.set_cons_succ]
          refine wpAnyHT_take (i := 10) (oi := _) (v := ?_) (by kernel_rfl) rfl (by kernel_rfl) (by kernel_rfl) (by kernel_rfl) (by kernel_rfl) (fun _ _ _ h => h) (Or.inl ⟨by rfl, ?_⟩) (sA _ hF3) ?_
          rotate_left 1
          · (intro W hSw; obtain ⟨e0, e1, e2, e3⟩ := hSw; (try simp only [List.getElem_toArray, List.getElem_cons_succ, List.getElem_cons_zero]); go_simp; try with_reducible rfl)
          try simp only [List.getElem_toArray, List.getElem_cons_succ, List.getElem_cons_zero, Act.put, List.setIfInBounds_toArray, List.set_cons_zero, List.set_cons_succ]
          refine wpAnyHT_take (i := 11) (oi := _) (v := ?_) (by kernel_rfl) rfl (by kernel_rfl) (by kernel_rfl) (by kernel_rfl) (by kernel_rfl) (fun _ _ _ h => h) (Or.inl ⟨by rfl, ?_⟩) (sA _ hF3) ?_
          rotate_left 1
          · (intro W hSw; obtain ⟨e0, e1, e2, e3⟩ := hSw; (try simp only [List.getElem_toArray, List.getElem_cons_succ, List.getElem_cons_zero]); go_simp; try with_reducible rfl)
          try simp only [List.getElem_toArray, List.getElem_cons_succ, List.getElem_cons_zero, Act.put, List.setIfInBounds_toArray, List.set_cons_zero, List.set_cons_succ]
          refine wpAnyHT_take (i := 12) (oi := _) (v := ?_) (by kernel_rfl) rfl (by kernel_rfl) (by kernel_rfl) (by kernel_rfl) (by kernel_rfl) (fun _ _ _ h => h) (Or.inl ⟨by rfl, ?_⟩) (sA _ hF3) ?_
          rotate_left 1
          · (intro W hSw; obtain ⟨e0, e1, e2, e3⟩ := hSw; (try simp only [List.getElem_toArray, List.getElem_cons_succ, List.getElem_cons_zero]); go_simp; try with_reducible rfl)
          try simp only [List.getElem_toArray, List.getElem_cons_succ, List.getElem_cons_zero, Act.put, List.setIfInBounds_toArray, List.set_cons_zero, List.set_cons_succ]
          have hrA := rA3
          have hrB := rB3
          have hAB : ¬ bB = bA := fun h => by rw [h, hrA] at hrB; cases hrB
          have z0 : wC.cell? ⟨bA, 0, none⟩ = some (.int .i64 0) := by rw [cell_of_row _ _ _ _ _ _ hrA]; rfl
          have y0 := frozen_of_row wC bA 0 _ _ hrA
          have z1 : wC.cell? ⟨bA, 1, none⟩ = some (.string ⟨#[]⟩) := by rw [cell_of_row _ _ _ _ _ _ hrA]; rfl
          have y1 := frozen_of_row wC bA 1 _ _ hrA
          have z2 : wC.cell? ⟨bA, 2, none⟩ = some (.int .i64 0) := by rw [cell_of_row _ _ _ _ _ _ hrA]; rfl
          have y2 := frozen_of_row wC bA 2 _ _ hrA
          have z3 : wC.cell? ⟨bA, 3, none⟩ = some (.int .i64 0) := by rw [cell_of_row _ _ _ _ _ _ hrA]; rfl
          have y3 := frozen_of_row wC bA 3 _ _ hrA
          have z4 : wC.cell? ⟨bA, 4, none⟩ = some (.int .i64 0) := by rw [cell_of_row _ _ _ _ _ _ hrA]; rfl
          have y4 := frozen_of_row wC bA 4 _ _ hrA
          have z5 : wC.cell? ⟨bA, 5, none⟩ = some (.int .i64 0) := by rw [cell_of_row _ _ _ _ _ _ hrA]; rfl
          have y5 := frozen_of_row wC bA 5 _ _ hrA
          have z6 : wC.cell? ⟨bA, 6, none⟩ = some (.string ⟨#[]⟩) := by rw [cell_of_row _ _ _ _ _ _ hrA]; rfl
          have y6 := frozen_of_row wC bA 6 _ _ hrA
          have z7 : wC.cell? ⟨bA, 7, none⟩ = some (.slice none 0 0) := by rw [cell_of_row _ _ _ _ _ _ hrA]; rfl
          have y7 := frozen_of_row wC bA 7 _ _ hrA
          have z8 : wC.cell? ⟨bA, 8, none⟩ = some (.int .i64 0) := by rw [cell_of_row _ _ _ _ _ _ hrA]; rfl
          have y8 := frozen_of_row wC bA 8 _ _ hrA
          have z9 : wC.cell? ⟨bA, 9, none⟩ = some (.int .i64 0) := by rw [cell_of_row _ _ _ _ _ _ hrA]; rfl
          have y9 := frozen_of_row wC bA 9 _ _ hrA
          have z10 : wC.cell? ⟨bA, 10, none⟩ = some (.int .i64 0) := by rw [cell_of_row _ _ _ _ _ _ hrA]; rfl
          have y10 := frozen_of_row wC bA 10 _ _ hrA
          have z11 : wC.cell? ⟨bA, 11, none⟩ = some (.slice none 0 0) := by rw [cell_of_row _ _ _ _ _ _ hrA]; rfl
          have y11 := frozen_of_row wC bA 11 _ _ hrA
          have z12 : wC.cell? ⟨bA, 12, none⟩ = some (.slice none 0 0) := by rw [cell_of_row _ _ _ _ _ _ hrA]; rfl
          have y12 := frozen_of_row wC bA 12 _ _ hrA
          obtain ⟨h5, f5⟩ := sets_rowF bA 30 [(0, .int .i64 0), (1, .string ⟨#[]⟩), (2, .int .i64 0), (3, .int .i64 0), (4, .int .i64 0), (5, .int .i64 0), (6, .string ⟨#[]⟩), (7, .slice none 0 0), (8, .int .i64 0), (9, .int .i64 0), (10, .int .i64 0), (11, .slice none 0 0), (12, .slice none 0 0)] wC _ hrA
          simp only [List.foldl, List.setIfInBounds_toArray, List.set_cons_zero, List.set_cons_succ] at h5
          obtain ⟨Wz, hWz⟩ : ∃ z, setsF wC bA [(0, .int .i64 0), (1, .string ⟨#[]⟩), (2, .int .i64 0), (3, .int .i64 0), (4, .int .i64 0), (5, .int .i64 0), (6, .string ⟨#[]⟩), (7, .slice none 0 0), (8, .int .i64 0), (9, .int .i64 0), (10, .int .i64 0), (11, .slice none 0 0), (12, .slice none 0 0)] = z := ⟨_, rfl⟩
          rw [hWz] at h5 f5
          have hwz : (((((((((((((wC.setCell ⟨bA, 0, none⟩ (.int .i64 0)).setCell ⟨bA, 1, none⟩ (.string ⟨#[]⟩)).setCell ⟨bA, 2, none⟩ (.int .i64 0)).setCell ⟨bA, 3, none⟩ (.int .i64 0)).setCell ⟨bA, 4, none⟩ (.int .i64 0)).setCell ⟨bA, 5, none⟩ (.int .i64 0)).setCell ⟨bA, 6, none⟩ (.string ⟨#[]⟩)).setCell ⟨bA, 7, none⟩ (.slice none 0 0)).setCell ⟨bA, 8, none⟩ (.int .i64 0)).setCell ⟨bA, 9, none⟩ (.int .i64 0)).setCell ⟨bA, 10, none⟩ (.int .i64 0)).setCell ⟨bA, 11, none⟩ (.slice none 0 0)).setCell ⟨bA, 12, none⟩ (.slice none 0 0)) = Wz := hWz
          have hFz : Frm [] w3 Wz := hF3.trans f5 (fun i hi hl => by rw [List.mem_singleton] at hi; omega)
          have hrB2 := f5.heap hrB (by simpa using hAB)
          have n0 : Wz.cell? ⟨bB, 0, none⟩ = some (.int .u64 0) := by rw [cell_of_row _ _ _ _ _ _ hrB2]; rfl
          have m0 := frozen_of_row Wz bB 0 _ _ hrB2
          have n1 : Wz.cell? ⟨bB, 1, none⟩ = some (.int .u64 0) := by rw [cell_of_row _ _ _ _ _ _ hrB2]; rfl
          have m1 := frozen_of_row Wz bB 1 _ _ hrB2
          have n2 : Wz.cell? ⟨bB, 2, none⟩ = some (.int .u64 0) := by rw [cell_of_row _ _ _ _ _ _ hrB2]; rfl
          have m2 := frozen_of_row Wz bB 2 _ _ hrB2
          have n3 : Wz.cell? ⟨bB, 3, none⟩ = some (.int .u64 0) := by rw [cell_of_row _ _ _ _ _ _ hrB2]; rfl
          have m3 := frozen_of_row Wz bB 3 _ _ hrB2
          obtain ⟨h6, f6⟩ := sets_rowF bB 39 [(0, .int .u64 0), (1, .int .u64 0), (2, .int .u64 0), (3, .int .u64 0)] Wz _ hrB2
          simp only [List.foldl, List.setIfInBounds_toArray, List.set_cons_zero, List.set_cons_succ] at h6
          obtain ⟨Wy, hWy⟩ : ∃ z, setsF Wz bB [(0, .int .u64 0), (1, .int .u64 0), (2, .int .u64 0), (3, .int .u64 0)] = z := ⟨_, rfl⟩
          rw [hWy] at h6 f6
          have hwy : ((((Wz.setCell ⟨bB, 0, none⟩ (.int .u64 0)).setCell ⟨bB, 1, none⟩ (.int .u64 0)).setCell ⟨bB, 2, none⟩ (.int .u64 0)).setCell ⟨bB, 3, none⟩ (.int .u64 0)) = Wy := hWy
          have hFy : Frm [] w3 Wy := hFz.trans f6 (fun i hi hl => by rw [List.mem_singleton] at hi; omega)
          have h7 := f6.heap h5 (by simpa using fun h => hAB h.symm)
          refine wpAnyHT_one (i := 15) rfl (by kernel_rfl) (by kernel_rfl) (fun K hK => ?_)
          try simp only [List.getElem_toArray, List.getElem_cons_succ, List.getElem_cons_zero]
          go_simp
          try rw [hwz]
          refine hK _ _ (sA _ hFz) ?_
          clear hK K
          try simp only [List.getElem_toArray, List.getElem_cons_succ, List.getElem_cons_zero, Act.put, List.setIfInBounds_toArray, List.set_cons_zero, List.set_cons_succ]
          refine wpAnyHT_one (i := 16) rfl (by kernel_rfl) (by kernel_rfl) (fun K hK => ?_)
          try simp only [List.getElem_toArray, List.getElem_cons_succ, List.getElem_cons_zero]
          go_simp
          refine hK _ _ (sA _ hFz) ?_
          clear hK K
          try simp only [List.getElem_toArray, List.getElem_cons_succ, List.getElem_cons_zero, Act.put, List.setIfInBounds_toArray, List.set_cons_zero, List.set_cons_succ]
          refine wpAnyHT_one (i := 17) rfl (by kernel_rfl) (by kernel_rfl) (fun K hK => ?_)
          try simp only [List.getElem_toArray, List.getElem_cons_succ, List.getElem_cons_zero]
          go_simp
          try rw [hwy]
          refine hK _ _ (sA _ hFy) ?_
          clear hK K
          try simp only [List.getElem_toArray, List.getElem_cons_succ, List.getElem_cons_zero, Act.put, List.setIfInBounds_toArray, List.set_cons_zero, List.set_cons_succ]
          refine wpAnyHT_end (by kernel_rfl) ?_
          simp only [List.drop_succ_cons, List.drop_zero]
          clear z0 y0 h5 f5 hwz hwy hWz hWy
          go_wp2_with fail
          go_meet
          exact ⟨bA, bB, rfl, rfl, rfl, rfl, hid h7, hid h6, hid hFy⟩
    case rest =>
      obtain ⟨bx, bz, rfl, rfl, rfl, rfl, HRX, HRZ, HFC⟩ := hcut
      have HSZ := hid (sameTrue_any Rc.z Rc.z [] [] [] wc (rcOk_nil _ _ rfl rfl rfl) (rcOk_nil _ _ rfl rfl rfl) rfl)
      unfold Rc.z Rc.arr at HSZ
      simp only at HSZ
      have hbr13 : ∀ V, (Instr.build 30 #[]).run Tryd.prog V = .ok (.agg #[.int .i64 0, .string ⟨#[]⟩, .int .i64 0, .int .i64 0, .int .i64 0, .int .i64 0, .string ⟨#[]⟩, .slice none 0 0, .int .i64 0, .int .i64 0, .int .i64 0, .slice none 0 0, .slice none 0 0]) V := fun V => run_build V _ _ _ (by kernel_rfl)
      have hbr4 : ∀ V, (Instr.build 39 #[]).run Tryd.prog V = .ok (.agg #[.int .u64 0, .int .u64 0, .int .u64 0, .int .u64 0]) V := fun V => run_build V _ _ _ (by kernel_rfl)
      have z0 : wc.cell? ⟨bx, 0, none⟩ = some (.int .i64 0) := by rw [cell_of_row _ _ _ _ _ _ HRX.out]; rfl
      have z1 : wc.cell? ⟨bx, 1, none⟩ = some (.string ⟨#[]⟩) := by rw [cell_of_row _ _ _ _ _ _ HRX.out]; rfl
      have z2 : wc.cell? ⟨bx, 2, none⟩ = some (.int .i64 0) := by rw [cell_of_row _ _ _ _ _ _ HRX.out]; rfl
      have z3 : wc.cell? ⟨bx, 3, none⟩ = some (.int .i64 0) := by rw [cell_of_row _ _ _ _ _ _ HRX.out]; rfl
      have z4 : wc.cell? ⟨bx, 4, none⟩ = some (.int .i64 0) := by rw [cell_of_row _ _ _ _ _ _ HRX.out]; rfl
      have z5 : wc.cell? ⟨bx, 5, none⟩ = some (.int .i64 0) := by rw [cell_of_row _ _ _ _ _ _ HRX.out]; rfl
      have z6 : wc.cell? ⟨bx, 6, none⟩ = some (.string ⟨#[]⟩) := by rw [cell_of_row _ _ _ _ _ _ HRX.out]; rfl
      have z7 : wc.cell? ⟨bx, 7, none⟩ = some (.slice none 0 0) := by rw [cell_of_row _ _ _ _ _ _ HRX.out]; rfl
      have z8 : wc.cell? ⟨bx, 8, none⟩ = some (.int .i64 0) := by rw [cell_of_row _ _ _ _ _ _ HRX.out]; rfl
      have z9 : wc.cell? ⟨bx, 9, none⟩ = some (.int .i64 0) := by rw [cell_of_row _ _ _ _ _ _ HRX.out]; rfl
      have z10 : wc.cell? ⟨bx, 10, none⟩ = some (.int .i64 0) := by rw [cell_of_row _ _ _ _ _ _ HRX.out]; rfl
      have z11 : wc.cell? ⟨bx, 11, none⟩ = some (.slice none 0 0) := by rw [cell_of_row _ _ _ _ _ _ HRX.out]; rfl
      have z12 : wc.cell? ⟨bx, 12, none⟩ = some (.slice none 0 0) := by rw [cell_of_row _ _ _ _ _ _ HRX.out]; rfl
      clear sA hslm htm hn0 HD1 HBK
      go_wp2_with fail
      refine HSZ.out.mono ?_
      rintro e w5 ⟨rfl, hf5⟩
      have HF5 : Hid (Frm [] w2 w5) := hid ((HF3.out.trans HFC.out (by simp)).trans hf5 (by simp))
      have HRZ5 := hid (hf5.heap HRZ.out (by simp))
      clear hf5 HSZ HRX HRZ HFC z0 z1 z2 z3 z4 z5 z6 z7 z8 z9 z10 z11 z12
      obtain ⟨q0, q1, q2, q3, q4, q5, q6, q7, q8, q9, q10, q11, q12⟩ := HX.out w5 (HF2.out.trans HF5.out (by simp))
      have p0 : w5.cell? ⟨bs, 0, none⟩ = some (.int .u64 s0) := by rw [cell_of_row _ _ _ _ _ _ (HRS.out w5 (HF2.out.trans HF5.out (by simp)))]; rfl
      have p1 : w5.cell? ⟨bs, 1, none⟩ = some (.int .u64 s1) := by rw [cell_of_row _ _ _ _ _ _ (HRS.out w5 (HF2.out.trans HF5.out (by simp)))]; rfl
      have p2 : w5.cell? ⟨bs, 2, none⟩ = some (.int .u64 s2) := by rw [cell_of_row _ _ _ _ _ _ (HRS.out w5 (HF2.out.trans HF5.out (by simp)))]; rfl
      have p3 : w5.cell? ⟨bs, 3, none⟩ = some (.int .u64 s3) := by rw [cell_of_row _ _ _ _ _ _ (HRS.out w5 (HF2.out.trans HF5.out (by simp)))]; rfl
      go_wp2_with fail
      refine (HD2.out w5 HF5.out).mono ?_
      rintro e w6 hd2
      obtain ⟨hf6, y, rfl, hcy, hoy⟩ := DecP.good hd2 HB0.out
      rw [HOF.out.1, HOF.out.2.1]
      rw [HOF.out.2.2.2.1, HOF.out.2.2.2.2.1, HOF.out.2.2.2.2.2] at hoy
      have HCY : Hid (y.core = Rc.core ⟨kind, name, typ, frm, guid, origin, snap, pp, pn, pc, obj, at_, many, kp, kn, kc, dp, dl, dc⟩) := hid (hcy.trans (HOF.out.2.2.1.trans HRC.out))
      have HF6 : Hid (Frm [] w2 w6) := hid (HF5.out.trans hf6 (by simp))
      have HRZ6 := hid (hf6.heap HRZ5.out (by simp))
      have HOY := hid hoy.ok
      have HSM := hid (fun W (hf : Frm [] w6 W) => sameTrue_any y ⟨kind, name, typ, frm, guid, origin, snap, pp, pn, pc, obj, at_, many, kp, kn, kc, dp, dl, dc⟩ P K D W (HOY.out.k0 hf) (HOK.out W (HF2.out.trans (HF6.out.trans hf (by simp)) (by simp))) HCY.out)
      obtain ⟨y0, y1, y2, y3, y4, y5, y6, y7, y8, y9, y10, y11, y12, y13, y14, y15, y16, y17, y18⟩ := y
      unfold Rc.arr at HSM ⊢
      unfold S4.arr
      simp only at HSM ⊢
      clear q0 q1 q2 q3 q4 q5 q6 q7 q8 q9 q10 q11 q12 p0 p1 p2 p3 hd2 hcy hoy hf6 HD2
      go_upto_region 11 with fail
      have hq7 := heap_alloc_new w6 (.cells #[.int .i64 y0, .string y1, .int .i64 y2, .int .i64 y3, .int .i64 y4, .int .i64 y5, .string y6, .slice y7 y8 y9, .int .i64 y10, .int .i64 y11, .int .i64 y12, .slice y13 y14 y15, .slice y16 y17 y18] 30)
      have hf7 : Frm [] w6 (w6.alloc (.cells #[.int .i64 y0, .string y1, .int .i64 y2, .int .i64 y3, .int .i64 y4, .int .i64 y5, .string y6, .slice y7 y8 y9, .int .i64 y10, .int .i64 y11, .int .i64 y12, .slice y13 y14 y15, .slice y16 y17 y18] 30)) := (Frm.refl _ _).alloc _
      obtain ⟨w7, hw7⟩ : ∃ z, w6.alloc (.cells #[.int .i64 y0, .string y1, .int .i64 y2, .int .i64 y3, .int .i64 y4, .int .i64 y5, .string y6, .slice y7 y8 y9, .int .i64 y10, .int .i64 y11, .int .i64 y12, .slice y13 y14 y15, .slice y16 y17 y18] 30) = z := ⟨_, rfl⟩
      obtain ⟨by_, hby⟩ : ∃ z, w6.heap.size = z := ⟨_, rfl⟩
      have hb1 : w7.heap.size = by_ + 1 := by rw [← hw7, ← hby]; simp
      rw [hw7, hby] at hq7
      rw [hw7] at hf7
      have hf8 : Frm [] w7 (w7.alloc (.cells #[.int .u64 t0, .int .u64 t1, .int .u64 t2, .int .u64 t3] 39)) := (Frm.refl _ _).alloc _
      obtain ⟨w8, hw8⟩ : ∃ z, w7.alloc (.cells #[.int .u64 t0, .int .u64 t1, .int .u64 t2, .int .u64 t3] 39) = z := ⟨_, rfl⟩
      rw [hw8] at hf8
      rw [hby, hw7, hw8]
      have HF8 : Hid (Frm [] w6 w8) := hid (hf7.trans hf8 (by simp))
      have hq8 := hf8.heap hq7 (by simp)
      have z0 : w8.cell? ⟨by_, 0, none⟩ = some (.int .i64 y0) := by rw [cell_of_row _ _ _ _ _ _ hq8]; rfl
      have z1 : w8.cell? ⟨by_, 1, none⟩ = some (.string y1) := by rw [cell_of_row _ _ _ _ _ _ hq8]; rfl
      have z2 : w8.cell? ⟨by_, 2, none⟩ = some (.int .i64 y2) := by rw [cell_of_row _ _ _ _ _ _ hq8]; rfl
      have z3 : w8.cell? ⟨by_, 3, none⟩ = some (.int .i64 y3) := by rw [cell_of_row _ _ _ _ _ _ hq8]; rfl
      have z4 : w8.cell? ⟨by_, 4, none⟩ = some (.int .i64 y4) := by rw [cell_of_row _ _ _ _ _ _ hq8]; rfl
      have z5 : w8.cell? ⟨by_, 5, none⟩ = some (.int .i64 y5) := by rw [cell_of_row _ _ _ _ _ _ hq8]; rfl
      have z6 : w8.cell? ⟨by_, 6, none⟩ = some (.string y6) := by rw [cell_of_row _ _ _ _ _ _ hq8]; rfl
      have z7 : w8.cell? ⟨by_, 7, none⟩ = some (.slice y7 y8 y9) := by rw [cell_of_row _ _ _ _ _ _ hq8]; rfl
      have z8 : w8.cell? ⟨by_, 8, none⟩ = some (.int .i64 y10) := by rw [cell_of_row _ _ _ _ _ _ hq8]; rfl
      have z9 : w8.cell? ⟨by_, 9, none⟩ = some (.int .i64 y11) := by rw [cell_of_row _ _ _ _ _ _ hq8]; rfl
      have z10 : w8.cell? ⟨by_, 10, none⟩ = some (.int .i64 y12) := by rw [cell_of_row _ _ _ _ _ _ hq8]; rfl
      have z11 : w8.cell? ⟨by_, 11, none⟩ = some (.slice y13 y14 y15) := by rw [cell_of_row _ _ _ _ _ _ hq8]; rfl
      have z12 : w8.cell? ⟨by_, 12, none⟩ = some (.slice y16 y17 y18) := by rw [cell_of_row _ _ _ _ _ _ hq8]; rfl
      obtain ⟨q0, q1, q2, q3, q4, q5, q6, q7, q8, q9, q10, q11, q12⟩ := HX.out w8 (HF2.out.trans (HF6.out.trans HF8.out (by simp)) (by simp))
      have p0 : w8.cell? ⟨bs, 0, none⟩ = some (.int .u64 s0) := by rw [cell_of_row _ _ _ _ _ _ (HRS.out w8 (HF2.out.trans (HF6.out.trans HF8.out (by simp)) (by simp)))]; rfl
      have p1 : w8.cell? ⟨bs, 1, none⟩ = some (.int .u64 s1) := by rw [cell_of_row _ _ _ _ _ _ (HRS.out w8 (HF2.out.trans (HF6.out.trans HF8.out (by simp)) (by simp)))]; rfl
      have p2 : w8.cell? ⟨bs, 2, none⟩ = some (.int .u64 s2) := by rw [cell_of_row _ _ _ _ _ _ (HRS.out w8 (HF2.out.trans (HF6.out.trans HF8.out (by simp)) (by simp)))]; rfl
      have p3 : w8.cell? ⟨bs, 3, none⟩ = some (.int .u64 s3) := by rw [cell_of_row _ _ _ _ _ _ (HRS.out w8 (HF2.out.trans (HF6.out.trans HF8.out (by simp)) (by simp)))]; rfl
      clear hq7 hf7 hq8 hf8 hw7 hw8 hby hb1
      go_wp2_with fail
      refine (HSM.out w8 HF8.out).mono ?_
      rintro e w9 ⟨rfl, hf9⟩
      have hr9 := hf9.heap (HF8.out.heap HRZ6.out (by simp)) (by simp)
      have n0 : w9.cell? ⟨bz, 0, none⟩ = some (.int .u64 0) := by rw [cell_of_row _ _ _ _ _ _ hr9]; rfl
      have n1 : w9.cell? ⟨bz, 1, none⟩ = some (.int .u64 0) := by rw [cell_of_row _ _ _ _ _ _ hr9]; rfl
      have n2 : w9.cell? ⟨bz, 2, none⟩ = some (.int .u64 0) := by rw [cell_of_row _ _ _ _ _ _ hr9]; rfl
      have n3 : w9.cell? ⟨bz, 3, none⟩ = some (.int .u64 0) := by rw [cell_of_row _ _ _ _ _ _ hr9]; rfl
      have heq := fun W => eqlS S4.z S4.z W
      rw [decide_eq_true rfl] at heq
      have heq2 : ∀ W, (binOp .eql 39 (.agg #[.int .u64 0, .int .u64 0, .int .u64 0, .int .u64 0]) (.agg #[.int .u64 0, .int .u64 0, .int .u64 0, .int .u64 0])).run Tryd.prog W = .ok (.bool true) W := heq
      have HF9 : Hid (Frm [] w w9) := hid ((HFS.out.trans (HF2.out.trans HF6.out (by simp)) (by simp)).trans (HF8.out.trans hf9 (by simp)) (by simp))
      clear heq hf9 hr9 HSM q0 q1 q2 q3 q4 q5 q6 q7 q8 q9 q10 q11 q12 p0 p1 p2 p3 z0 z1 z2 z3 z4 z5 z6 z7 z8 z9 z10 z11 z12
      go_wp2_with fail
      first | go_returns | skip
      exact ⟨rfl, HF9.out⟩
end
end Go.Proofs.YtajfjkfnmmfhmaaDoor
