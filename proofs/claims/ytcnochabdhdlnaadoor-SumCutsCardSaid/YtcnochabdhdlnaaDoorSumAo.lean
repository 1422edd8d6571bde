/- SumCuts, walked. -/
import Derived.Test.YtcnochabdhdlnaaDoorSumAn
import Derived.Test.YtcnochabdhdlnaaDoorRowI
namespace Go.Proofs.YtcnochabdhdlnaaDoor
open Go.RowKit
set_option maxRecDepth 100000

set_option maxHeartbeats 12800000 in
theorem cuts_any (pb : Option Addr) (nb cb : Nat) (zs : List Int) (pc : Option Addr) (nc cc : Nat) (w : World) (hn : zs.length = nb) (hnc : nb ≤ cb) (hcb : cb ≤ 9223372036854775807) (hnb : nb + 10 ≤ 140737488355328) (hrd : Rd w pb zs) (hb : ∀ z ∈ zs, 0 ≤ z ∧ z < 256) (hpb : zs = [] → pb = none → cb = 0) (hC : CameI w pc nc cc) (hpr : Primes w) :
    Calls Tryd.prog 6 #[.slice pb nb cb, .slice pc nc cc] w fun e w' => e = .returned (.bool true) ∧ Frm [] w w' := by
  obtain ⟨hc1, hc2, ns, hns, hnsb, hnsc⟩ := hC
  have HN := hid hn
  have HB := hid hb
  have HRD := hid hrd
  have HPB := hid hpb
  have HNS := hid (And.intro hns (And.intro hnsb hnsc))
  have HLOW := hid (fun (h : zs ≠ []) k hk => hrd.lows h k hk)
  have HAW := hid (awake2_any w hpr)
  clear hn hb hrd hpb hns hnsb hnsc hpr
  go_enter Tryd.func6, Tryd.ntmps6
  go_wp2_with fail
  refine HAW.out.mono ?_
  rintro e w1 ⟨rfl, hf1⟩
  have HF1 := hid hf1
  clear hf1
  go_wp2_with fail
  refine (new_any w1).mono ?_
  rintro e w2 ⟨rfl, hr2, hf2⟩
  have HR2 := hid hr2
  have HF2 := hid (HF1.out.trans hf2 (by simp))
  have HB2 : Hid (w.heap.size ≤ w1.heap.size) := hid HF1.out.size
  obtain ⟨rb, hrb⟩ : ∃ rb, w1.heap.size = rb := ⟨_, rfl⟩
  rw [hrb] at HR2 HB2 ⊢
  clear hr2 hf2 hrb
  go_wp2_with fail
  refine (new_any w2).mono ?_
  rintro e w3 ⟨rfl, hr3, hf3⟩
  have HT3 := hid hr3
  have HR3 := hid (HR2.out.kept hf3 (by simp))
  have HF3 := hid (HF2.out.trans hf3 (by simp))
  have HNE : Hid (rb < w2.heap.size) := hid (lt_of_heap HR2.out)
  obtain ⟨tb, htb⟩ : ∃ tb, w2.heap.size = tb := ⟨_, rfl⟩
  rw [htb] at HT3 HNE ⊢
  clear hr3 hf3 htb HR2 HF2
  have HR0 : Hid (RunAt w3 rb (zs.take 0)) := hid (by simpa using HR3.out)
  have HRD0 : Hid (Rd w3 pb (zs.drop 0)) := hid (by simpa using HRD.out.kept HF3.out (by simp))
  go_wp2_with fail
  go_loopw [8, 9] (fun x i wr => ∃ (j t n d : Nat) (p : Option Addr), j ≤ nc ∧ Hid (t + n = nb) ∧ Hid (t + d = cb) ∧ x = .slice p n d ∧ i = .int .i64 j ∧ Hid (RunAt wr rb (zs.take t)) ∧ Hid (RunAt wr tb []) ∧ Hid (Rd wr p (zs.drop t)) ∧ Hid (∀ k ∈ blk p, k ∈ blk pb) ∧ Hid (Frm [] w wr)) (fun x i _ => nc - (intOf i).toNat)
  case atStart => exact ⟨0, 0, nb, cb, pb, by omega, hid (by omega), hid (by omega), rfl, rfl, HR0, HT3, HRD0, hid (fun _ h => h), HF3⟩
  case round =>
    clear HR0 HT3 HRD0 HF3 HR3
    obtain ⟨j, t, n, d, p, hj, htn, htd, rfl, rfl, hrun, hrt, hrd, hbk, hf⟩ := hrel
    have htn' := htn.out
    have htd' := htd.out
    have htk : (zs.take t).length = t := by rw [List.length_take, HN.out]; omega
    have hdl : (zs.drop t).length = n := by rw [List.length_drop, HN.out]; omega
    have habt : ∀ z ∈ zs.take t, 0 ≤ z ∧ z < 256 := fun z hz => HB.out z (List.mem_of_mem_take hz)
    have habd : ∀ z ∈ zs.drop t, 0 ≤ z ∧ z < 256 := fun z hz => HB.out z (List.mem_of_mem_drop hz)
    have hal : zs.drop t ≠ [] → rb ∉ blk p := fun h hk => by
      have := HLOW.out (fun h0 => h (by rw [h0]; simp)) rb (hbk.out rb hk)
      have := HB2.out
      omega
    by_cases hlt : j < nc
    · obtain ⟨g, o, rfl, hce⟩ : ∃ g o, pc = some ⟨g, o, none⟩ ∧ wr.cell? ⟨g, o + j, none⟩ = some (.int .i64 (ns.getD j 0)) := by
        rcases HNS.out.2.2 with h | ⟨g, o, e, h⟩
        · omega
        · refine ⟨g, o, e, ?_⟩
          rw [hf.out.cell (World.block_lt_of_cell? w _ (h j hlt)) (by simp)]
          exact h j hlt
      obtain ⟨N, hN⟩ : ∃ N, ns.getD j 0 = N := ⟨_, rfl⟩
      rw [hN] at hce
      have t1 : (j : Int) < (nc : Int) := by omega
      by_cases hN0 : 0 ≤ N
      · obtain ⟨k, rfl⟩ : ∃ k : Nat, N = k := ⟨N.toNat, by omega⟩
        by_cases hkn : k ≤ n
        · have k0 : (k : Int) ≤ (n : Int) := by omega
          have kd : k ≤ d := by omega
          obtain ⟨pp, hsl, hrd2, hbk2⟩ := slice_from p (zs.drop t) n d k hdl hkn (by omega) wr hrd.out
          have hsl1 : ∀ W : World, (Instr.slice 22 (.slice p n d) (some (.int .i64 (k : Int))) none none).run Tryd.prog W = .ok (.slice pp (n - k) (d - k)) W := fun W => by rw [← run_sliceAt_slice (h := elem_of Tryd.underlying22)]; exact hsl W
          have hAD := hid (add_any rb (zs.take t) habt p k d ((zs.drop t).take k) wr hrun.out (by rw [List.length_take, hdl]; omega) kd (by omega) (hrd.out.take k) (fun z hz => habd z (List.mem_of_mem_take hz)) (fun h => hal (fun h0 => h (by rw [h0]; simp))))
          have htake : zs.take t ++ (zs.drop t).take k = zs.take (t + k) := (List.take_add).symm
          rw [htake] at hAD
          have HRD2 := hid hrd2
          have HBK2 := hid (fun i hi => hbk.out i (hbk2 i hi))
          have HAL2 := hid hal
          clear hrd2 hbk2 htake habt habd hal htk hN
          go_wp2_with fail
          refine hAD.out.mono ?_
          rintro e w9 ⟨rfl, hr9, hf9⟩
          have hdd : (zs.drop t).drop k = zs.drop (t + k) := by rw [List.drop_drop]
          rw [hdd] at HRD2
          have HR9 := hid hr9
          have HT9 := hid (hrt.out.kept hf9 (by simp; have := HNE.out; omega))
          have HF9 : Hid (Frm [] w w9) := hid (hf.out.trans hf9 (fun i hi hl => by simp at hi; have := HB2.out; omega))
          have HRD9 : Hid (Rd w9 pp (zs.drop (t + k))) := hid (by
            by_cases hz : zs.drop t = []
            · exact Or.inl (by rw [← hdd, hz]; simp)
            · exact HRD2.out.kept hf9 (fun i hi hs => by
                simp at hs
                have := HLOW.out (fun h0 => hz (by rw [h0]; simp)) i (HBK2.out i hi)
                have := HB2.out
                omega))
          clear hr9 hf9 hdd HRD2 hAD hce
          go_wp2_with fail
          go_roundw
          case rel => exact ⟨j + 1, t + k, n - k, d - k, pp, by omega, hid (by omega), hid (by omega), rfl, by go_num, HR9, HT9, HRD9, HBK2, HF9⟩
          case measure => simp [intOf]; omega
        · have k0 : ¬ (k : Int) ≤ (n : Int) := by omega
          clear habt habd hal htk hN
          go_wp2_with fail
          go_roundw
          case rel => exact ⟨j + 1, t, n, d, p, by omega, htn, htd, rfl, by go_num, hrun, hrt, hrd, hbk, hf⟩
          case measure => simp [intOf]; omega
      · have N0 : N < 0 := by omega
        clear habt habd hal htk hN
        go_wp2_with fail
        go_roundw
        case rel => exact ⟨j + 1, t, n, d, p, by omega, htn, htd, rfl, by go_num, hrun, hrt, hrd, hbk, hf⟩
        case measure => simp [intOf]; omega
    · obtain rfl : j = nc := by omega
      have HAD := hid (add_any rb (zs.take t) habt p n d (zs.drop t) wr hrun.out hdl (by omega) (by omega) hrd.out habd hal)
      rw [List.take_append_drop] at HAD
      have HRT := hrt
      have HFW := hf
      clear habt habd hal htk hdl hrun hrd hbk hlt hrt hf
      go_wp2_with fail
      refine HAD.out.mono ?_
      rintro e w4 ⟨rfl, hr4, hf4⟩
      have HR4 := hid hr4
      have HT4 : Hid (RunAt w4 tb (zs.take 0)) := hid (by simpa using HRT.out.kept hf4 (by simp; have := HNE.out; omega))
      have HF4 : Hid (Frm [] w w4) := hid (HFW.out.trans hf4 (fun i hi hl => by simp at hi; have := HB2.out; omega))
      clear hr4 hf4 HAD HRT HFW
      go_wp2_with fail
      have HRD4 : Hid (Rd w4 pb zs) := hid (HRD.out.kept HF4.out (by simp))
      go_loopw [11] (fun i wr => ∃ t : Nat, t ≤ nb ∧ i = .int .i64 t ∧ Hid (RunAt wr rb zs) ∧ Hid (RunAt wr tb (zs.take t)) ∧ Hid (Frm [] w wr)) (fun i _ => nb - (intOf i).toNat)
      case atStart => exact ⟨0, by omega, rfl, HR4, HT4, HF4⟩
      case round =>
        clear HR4 HT4 HF4 HRD4
        obtain ⟨t, ht, rfl, hrr, hrt, hf⟩ := hrel
        by_cases hlt : t < nb
        · have t1 : (t : Int) < (nb : Int) := by omega
          have tq : IntKind.i64.wrap ((t : Int) + 1) = ((t + 1 : Nat) : Int) := by rw [IntWalk.i64_in _ (by omega)]; omega
          have hrd : Rd wr pb zs := HRD.out.kept hf.out (by simp)
          obtain ⟨pp, _, _, hrd2, hbk2, hpp⟩ := slice_mid pb zs nb cb t (t + 1) HN.out (by omega) (by omega) hnc wr hrd
          obtain rfl := hpp (by omega)
          rw [show t + 1 - t = 1 by omega] at hrd2
          have htk : zs.take t ++ (zs.drop t).take 1 = zs.take (t + 1) := (List.take_add).symm
          have hl1 : ((zs.drop t).take 1).length = 1 := by rw [List.length_take, List.length_drop, HN.out]; omega
          have HAD := hid (add_any tb (zs.take t) (fun z hz => HB.out z (List.mem_of_mem_take hz)) (pb.map (·.add t)) 1 (cb - t) ((zs.drop t).take 1) wr hrt.out hl1 (by omega) (by omega) hrd2 (fun z hz => HB.out z (List.mem_of_mem_drop (List.mem_of_mem_take hz))) (fun _ hk => by
            have := HLOW.out (fun h0 => by have := HN.out; rw [h0] at this; simp at this; omega) tb (hbk2 tb hk)
            have := HB2.out
            have := HNE.out
            omega))
          rw [htk] at HAD
          clear htk hl1 hrd hrd2 hbk2
          go_wp2_with fail
          refine HAD.out.mono ?_
          rintro e w9 ⟨rfl, hr9, hf9⟩
          have HT9 := hid hr9
          have HR9 := hid (hrr.out.kept hf9 (by simp; have := HNE.out; omega))
          have HF9 : Hid (Frm [] w w9) := hid (hf.out.trans hf9 (fun i hi hl => by simp at hi; have := HB2.out; have := HNE.out; omega))
          clear hr9 hf9 HAD
          go_wp2_with fail
          go_roundw
          case rel => exact ⟨t + 1, by omega, by go_num, HR9, HT9, HF9⟩
          case measure => simp [intOf]; omega
        · obtain rfl : t = nb := by omega
          rw [List.take_of_length_le (by rw [HN.out]; omega)] at hrt
          obtain ⟨X, hX⟩ : ∃ X, fletch zs = X := ⟨_, rfl⟩
          have HX := hid hX
          have HOF := hid (of_fl pb t cb zs wr HN.out hnc (by omega) (HRD.out.kept hf.out (by simp)) HB.out)
          rw [hX] at HOF
          unfold S4.arr at HOF
          clear hX hlt
          go_wp2_with fail
          refine HOF.out.mono ?_
          rintro e w5 ⟨rfl, hf5⟩
          have hfx : Frm [] w5 (w5.alloc (.cells #[.int .u64 X.a, .int .u64 X.b, .int .u64 X.c, .int .u64 X.d] 25)) := (Frm.refl _ _).alloc _
          have hfy := hf5.trans hfx (by simp)
          have HW6 := hid (heap_alloc_new w5 (.cells #[.int .u64 X.a, .int .u64 X.b, .int .u64 X.c, .int .u64 X.d] 25))
          have HR6 := hid (hrr.out.kept hfy (by simp))
          have HT6 := hid (hrt.out.kept hfy (by simp))
          have HF6 := hid (hf.out.trans hfy (by simp))
          have HSZ6 : Hid (w5.heap.size < (w5.alloc (.cells #[.int .u64 X.a, .int .u64 X.b, .int .u64 X.c, .int .u64 X.d] 25)).heap.size) := hid (by simp)
          obtain ⟨bw, hbw⟩ : ∃ bw, w5.heap.size = bw := ⟨_, rfl⟩
          obtain ⟨w6, hw6⟩ : ∃ w6, w5.alloc (.cells #[.int .u64 X.a, .int .u64 X.b, .int .u64 X.c, .int .u64 X.d] 25) = w6 := ⟨_, rfl⟩
          rw [hw6] at HW6 HR6 HT6 HF6 HSZ6
          rw [hbw] at HW6 HSZ6
          have HTB6 : Hid (tb < w6.heap.size) := hid (lt_of_heap HT6.out)
          have HRD6 := hid (HRD.out.kept HF6.out (by simp))
          clear hf5 hfx hfy hrr hrt hf HOF
          go_wp2_with (at_builtin; refine wpList_appB rfl _ _ 22 rfl 5 Tryd.underlying22 infoB none 0 0 [] rfl rfl (Own.nil _ _) pb t cb zs rfl HN.out.symm HPB.out HRD6.out (by rw [HN.out]; simp; omega) ?_)
          clear hw6 hbw
          intro xs1 p1 c1 w7 hxs ho hf7 hfr
          have hx1 : xs1 = zs := hxs.out
          subst xs1
          have hf7' : Frm [] w6 w7 := hf7.out.mono (by simp [blk])
          have HW7 := hid (hf7'.heap HW6.out (by simp))
          have HR7 := hid (HR6.out.kept hf7' (by simp))
          have HT7 := hid (HT6.out.kept hf7' (by simp))
          have HF7 := hid (HF6.out.trans hf7' (by simp))
          have HS7 := hid hf7'.size
          have HK7 : Hid (∀ k ∈ blk p1, w6.heap.size ≤ k) := hid (fun k hk => by
            rcases hfr.out k hk with h | h
            · simp [blk] at h
            · exact h)
          have HO7 : Hid (Own w7 5 (.slice p1 t c1) (zs ++ List.replicate 0 0)) := hid (by
            have h := ho.out
            rw [HN.out] at h
            simpa using h)
          have HL7 : Hid ((zs ++ List.replicate 0 (0 : Int)).length = t) := hid (by simpa using HN.out)
          rw [HN.out]
          clear ho hf7 hfr hf7' HW6 HR6 HT6 HF6 HRD6
          go_wp2_with fail
          go_loopw [14] (fun v wr => ∃ (k m c : Nat) (p : Option Addr), v = .slice p m c ∧ Hid (m = t + k) ∧ Hid (k ≤ (4 - t % 4) % 4) ∧ Hid ((zs ++ List.replicate k (0 : Int)).length = m) ∧ Hid (Own wr 5 (.slice p m c) (zs ++ List.replicate k 0)) ∧ Hid (∀ k ∈ blk p, w6.heap.size ≤ k) ∧ Hid (w6.heap.size ≤ wr.heap.size) ∧ Hid (wr.heap[bw]? = some (.cells #[.int .u64 X.a, .int .u64 X.b, .int .u64 X.c, .int .u64 X.d] 25 (0, 0))) ∧ Hid (RunAt wr rb zs) ∧ Hid (RunAt wr tb zs) ∧ Hid (Frm [] w wr)) (fun v _ => (4 - lenV v % 4) % 4)
          case atStart => exact ⟨0, t, c1, p1, rfl, hid (by omega), hid (by omega), HL7, HO7, HK7, HS7, HW7, HR7, HT7, HF7⟩
          case round =>
            clear HL7 HO7 HK7 HS7 HW7 HR7 HT7 HF7
            obtain ⟨k, m, c, p, rfl, hm, hk, hl, ho, hkk, hsz, hw, hrr, hrt, hf⟩ := hrel
            have hm' := hm.out
            have hk' := hk.out
            by_cases h4 : m % 4 = 0
            · have hg : ((m : Int) % 4 = 0) := by omega
              have hg2 : ((m : Int).tmod 4 = 0) := by rw [Int.tmod_eq_emod_of_nonneg (by omega)]; exact hg
              have hX1 : fletch (zs ++ List.replicate k 0) = X := by rw [fletch_pad zs k (by rw [HN.out]; omega) (by omega), HX.out]
              have hLB : ∀ z ∈ zs ++ List.replicate k (0 : Int), 0 ≤ z ∧ z < 256 := fun z hz => by
                rcases List.mem_append.1 hz with hz | hz
                · exact HB.out z hz
                · rw [List.eq_of_mem_replicate hz]; omega
              obtain ⟨L, hL⟩ : ∃ L, zs ++ List.replicate k (0 : Int) = L := ⟨_, rfl⟩
              rw [hL] at hl ho hX1 hLB
              have hX2 := fletch_next L (by rw [hl.out]; exact h4)
              rw [hX1] at hX2
              obtain ⟨B, hBe⟩ : ∃ B, IntKind.u64.wrap (X.b + X.a) = B := ⟨_, rfl⟩
              rw [hBe] at hX2
              obtain ⟨C, hCe⟩ : ∃ C, IntKind.u64.wrap (X.c + B) = C := ⟨_, rfl⟩
              rw [hCe] at hX2
              obtain ⟨D, hDe⟩ : ∃ D, IntKind.u64.wrap (X.d + C) = D := ⟨_, rfl⟩
              rw [hDe] at hX2
              have hcap : m ≤ c := by
                obtain ⟨p', c', he, hle, _⟩ := ho.out.shape
                simp only [Value.slice.injEq] at he
                have hl' := hl.out
                obtain ⟨_, h2, h3⟩ := he
                first | omega | (subst h3; omega)
              have hmb : m + 4 ≤ 140737488355328 := by omega
              have HLB := hid hLB
              have HO1 := hid (of_fl p m c L wr hl.out hcap (by omega) ho.out.rd HLB.out)
              rw [hX1] at HO1
              unfold S4.arr at HO1
              have HX2 := hid hX2
              have HHI : Hid (∀ x, x < w6.heap.size → x ∉ blk p) := hid (fun x hx hk => by have := hkk.out x hk; omega)
              clear hX2 hL hX1 hLB hg h4 hk' hm'
              go_wp2_with fail
              refine HO1.out.mono ?_
              rintro e w8 ⟨rfl, hf8⟩
              clear hg2
              have hfx : Frm [] w8 (w8.alloc (.cells #[.int .u64 X.a, .int .u64 X.b, .int .u64 X.c, .int .u64 X.d] 25)) := (Frm.refl _ _).alloc _
              have HS9 := hid (heap_alloc_new w8 (.cells #[.int .u64 X.a, .int .u64 X.b, .int .u64 X.c, .int .u64 X.d] 25))
              obtain ⟨bs, hbs⟩ : ∃ bs, w8.heap.size = bs := ⟨_, rfl⟩
              obtain ⟨w9, hw9⟩ : ∃ w9, w8.alloc (.cells #[.int .u64 X.a, .int .u64 X.b, .int .u64 X.c, .int .u64 X.d] 25) = w9 := ⟨_, rfl⟩
              rw [hbs, hw9] at HS9
              rw [hw9] at hfx
              have hfz : Frm [] w9 (w9.alloc (.cells #[.int .u8 0, .int .u8 0, .int .u8 0, .int .u8 0] 5)) := (Frm.refl _ _).alloc _
              have HZ10 : Hid (Rd (w9.alloc (.cells #[.int .u8 0, .int .u8 0, .int .u8 0, .int .u8 0] 5)) (some ⟨w9.heap.size, 0, none⟩) [0, 0, 0, 0]) := hid (own_of_block (E := 5) (zs := [0, 0, 0, 0]) (heap_alloc_new _ _) (by simp [maxLen])).rd
              obtain ⟨w10, hw10⟩ : ∃ w10, w9.alloc (.cells #[.int .u8 0, .int .u8 0, .int .u8 0, .int .u8 0] 5) = w10 := ⟨_, rfl⟩
              obtain ⟨b9, hb9⟩ : ∃ b9, w9.heap.size = b9 := ⟨_, rfl⟩
              rw [hw10] at hfz HZ10
              rw [hb9] at HZ10
              have hfa := (hf8.trans hfx (by simp)).trans hfz (by simp)
              have HO10 := hid (ho.out.kept hfa (by simp))
              have HW10 := hid (hfa.heap hw.out (by simp))
              have HS10 := hid (hfz.heap HS9.out (by simp))
              have HR10 := hid (hrr.out.kept hfa (by simp))
              have HT10 := hid (hrt.out.kept hfa (by simp))
              have HF10 := hid (hf.out.trans hfa (by simp))
              have HBS : Hid (∀ x ∈ blk p, x < bs) := hid (fun x hx => by
                have h1 := ho.out.lows x hx
                have h2 := hf8.size
                omega)
              have HSZ10 : Hid (w.heap.size ≤ w6.heap.size) := hid (by have := HB2.out; have := HNE.out; have := HTB6.out; omega)
              clear hf8 hfx hfz hfa ho hw hrr hrt hf HO1
              go_wp2_with (at_builtin; refine wpList_appB rfl _ _ 22 rfl 5 Tryd.underlying22 infoB p m c L rfl hl.out.symm (by rw [hl.out]; exact HO10.out) (some ⟨b9, 0, none⟩) 4 4 [0, 0, 0, 0] rfl rfl (by simp) HZ10.out (by rw [hl.out]; simp; omega) ?_)
              clear hw9 hw10 hbs hb9
              intro xs3 p3 c3 w11 hxs ho hf11 hfr
              have hxl : xs3.length = m + 4 := by rw [hxs.out, List.length_append, hl.out, show ([0, 0, 0, 0] : List Int).length = 4 from rfl]
              have ho3 := ho.out
              rw [hxl] at ho3 ⊢
              have hx3 := hxs.out
              have hLB3 : ∀ z ∈ xs3, 0 ≤ z ∧ z < 256 := fun z hz => by
                rw [hx3] at hz
                rcases List.mem_append.1 hz with hz | hz
                · exact HLB.out z hz
                · simp at hz; omega
              have hcap3 : m + 4 ≤ c3 := by
                obtain ⟨p', c', he, hle, _⟩ := ho3.shape
                simp only [Value.slice.injEq] at he
                obtain ⟨_, h2, h3⟩ := he
                first | omega | (subst h3; omega)
              have HO3 := hid (of_fl p3 (m + 4) c3 xs3 w11 hxl hcap3 (by omega) ho3.rd hLB3)
              rw [hx3, HX2.out] at HO3
              unfold S4.arr at HO3
              have HW11 := hid (hf11.out.heap HW10.out (HHI.out bw HSZ6.out))
              have HS11 := hid (hf11.out.heap HS10.out (fun hk => by have := HBS.out _ hk; omega))
              have HR11 := hid (HR10.out.kept hf11.out (HHI.out rb (by have := HTB6.out; have := HNE.out; omega)))
              have HT11 := hid (HT10.out.kept hf11.out (HHI.out tb HTB6.out))
              have HF11 : Hid (Frm [] w w11) := hid (HF10.out.trans hf11.out (fun i hi hlt => by have := hkk.out i hi; have := HSZ10.out; omega))
              clear ho hf11 hfr ho3 hx3 hxs hLB3 hcap3 hxl HW10 HS10 HR10 HT10 HF10 HO10 HZ10
              go_wp2_with fail
              refine HO3.out.mono ?_
              rintro e w12 ⟨rfl, hf12⟩
              have hfx : Frm [] w12 (w12.alloc (.cells #[.int .u64 X.a, .int .u64 B, .int .u64 C, .int .u64 D] 25)) := (Frm.refl _ _).alloc _
              have hn13 := heap_alloc_new w12 (.cells #[.int .u64 X.a, .int .u64 B, .int .u64 C, .int .u64 D] 25)
              have hfy := hf12.trans hfx (by simp)
              have hw13 := hfy.heap HW11.out (by simp)
              have hs13 := hfy.heap HS11.out (by simp)
              have HR13 := hid (HR11.out.kept hfy (by simp))
              have HT13 := hid (HT11.out.kept hfy (by simp))
              have HF13 := hid (HF11.out.trans hfy (by simp))
              obtain ⟨bn, hbn⟩ : ∃ bn, w12.heap.size = bn := ⟨_, rfl⟩
              obtain ⟨w13, hw13e⟩ : ∃ w13, w12.alloc (.cells #[.int .u64 X.a, .int .u64 B, .int .u64 C, .int .u64 D] 25) = w13 := ⟨_, rfl⟩
              rw [hw13e] at hn13 hw13 hs13 HR13 HT13 HF13
              rw [hbn] at hn13
              have e0 : w13.cell? ⟨bw, 0, none⟩ = some (.int .u64 X.a) := by rw [cell_of_row w13 _ _ _ _ _ hw13]; rfl
              have e1 : w13.cell? ⟨bw, 1, none⟩ = some (.int .u64 X.b) := by rw [cell_of_row w13 _ _ _ _ _ hw13]; rfl
              have e2 : w13.cell? ⟨bw, 2, none⟩ = some (.int .u64 X.c) := by rw [cell_of_row w13 _ _ _ _ _ hw13]; rfl
              have e3 : w13.cell? ⟨bw, 3, none⟩ = some (.int .u64 X.d) := by rw [cell_of_row w13 _ _ _ _ _ hw13]; rfl
              have s0 : w13.cell? ⟨bs, 0, none⟩ = some (.int .u64 X.a) := by rw [cell_of_row w13 _ _ _ _ _ hs13]; rfl
              have s1 : w13.cell? ⟨bs, 1, none⟩ = some (.int .u64 X.b) := by rw [cell_of_row w13 _ _ _ _ _ hs13]; rfl
              have s2 : w13.cell? ⟨bs, 2, none⟩ = some (.int .u64 X.c) := by rw [cell_of_row w13 _ _ _ _ _ hs13]; rfl
              have s3 : w13.cell? ⟨bs, 3, none⟩ = some (.int .u64 X.d) := by rw [cell_of_row w13 _ _ _ _ _ hs13]; rfl
              have n0 : w13.cell? ⟨bn, 0, none⟩ = some (.int .u64 X.a) := by rw [cell_of_row w13 _ _ _ _ _ hn13]; rfl
              have n1 : w13.cell? ⟨bn, 1, none⟩ = some (.int .u64 B) := by rw [cell_of_row w13 _ _ _ _ _ hn13]; rfl
              have n2 : w13.cell? ⟨bn, 2, none⟩ = some (.int .u64 C) := by rw [cell_of_row w13 _ _ _ _ _ hn13]; rfl
              have n3 : w13.cell? ⟨bn, 3, none⟩ = some (.int .u64 D) := by rw [cell_of_row w13 _ _ _ _ _ hn13]; rfl
              have HVR : Hid (∀ w', (w'.cell? ⟨bw, 0, none⟩ = some (.int .u64 X.a) ∧ w'.cell? ⟨bw, 1, none⟩ = some (.int .u64 X.b) ∧ w'.cell? ⟨bw, 2, none⟩ = some (.int .u64 X.c) ∧ w'.cell? ⟨bw, 3, none⟩ = some (.int .u64 X.d) ∧ w'.cell? ⟨bs, 0, none⟩ = some (.int .u64 X.a) ∧ w'.cell? ⟨bs, 1, none⟩ = some (.int .u64 X.b) ∧ w'.cell? ⟨bs, 2, none⟩ = some (.int .u64 X.c) ∧ w'.cell? ⟨bs, 3, none⟩ = some (.int .u64 X.d) ∧ RunAt w' rb zs ∧ RunAt w' tb zs ∧ Frm [] w w') → Calls Tryd.prog 22 #[.pointer (some ⟨rb, 0, none⟩)] w' fun e w'' => e = .returned (.agg #[.int .u64 X.a, .int .u64 X.b, .int .u64 X.c, .int .u64 X.d]) ∧ Frm [] w' w'') := hid (fun w' h => by
                have h2 := value_any2 rb zs HB.out w' h.2.2.2.2.2.2.2.2.1
                rw [HX.out] at h2
                exact h2)
              have HVT : Hid (∀ w', (w'.cell? ⟨bw, 0, none⟩ = some (.int .u64 X.a) ∧ w'.cell? ⟨bw, 1, none⟩ = some (.int .u64 X.b) ∧ w'.cell? ⟨bw, 2, none⟩ = some (.int .u64 X.c) ∧ w'.cell? ⟨bw, 3, none⟩ = some (.int .u64 X.d) ∧ w'.cell? ⟨bs, 0, none⟩ = some (.int .u64 X.a) ∧ w'.cell? ⟨bs, 1, none⟩ = some (.int .u64 X.b) ∧ w'.cell? ⟨bs, 2, none⟩ = some (.int .u64 X.c) ∧ w'.cell? ⟨bs, 3, none⟩ = some (.int .u64 X.d) ∧ RunAt w' rb zs ∧ RunAt w' tb zs ∧ Frm [] w w') → Calls Tryd.prog 22 #[.pointer (some ⟨tb, 0, none⟩)] w' fun e w'' => e = .returned (.agg #[.int .u64 X.a, .int .u64 X.b, .int .u64 X.c, .int .u64 X.d]) ∧ Frm [] w' w'') := hid (fun w' h => by
                have h2 := value_any2 tb zs HB.out w' h.2.2.2.2.2.2.2.2.2.1
                rw [HX.out] at h2
                exact h2)
              have HKS : Hid (∀ (u w' : World), Frm [] u w' → (u.cell? ⟨bw, 0, none⟩ = some (.int .u64 X.a) ∧ u.cell? ⟨bw, 1, none⟩ = some (.int .u64 X.b) ∧ u.cell? ⟨bw, 2, none⟩ = some (.int .u64 X.c) ∧ u.cell? ⟨bw, 3, none⟩ = some (.int .u64 X.d) ∧ u.cell? ⟨bs, 0, none⟩ = some (.int .u64 X.a) ∧ u.cell? ⟨bs, 1, none⟩ = some (.int .u64 X.b) ∧ u.cell? ⟨bs, 2, none⟩ = some (.int .u64 X.c) ∧ u.cell? ⟨bs, 3, none⟩ = some (.int .u64 X.d) ∧ RunAt u rb zs ∧ RunAt u tb zs ∧ Frm [] w u) → (w'.cell? ⟨bw, 0, none⟩ = some (.int .u64 X.a) ∧ w'.cell? ⟨bw, 1, none⟩ = some (.int .u64 X.b) ∧ w'.cell? ⟨bw, 2, none⟩ = some (.int .u64 X.c) ∧ w'.cell? ⟨bw, 3, none⟩ = some (.int .u64 X.d) ∧ w'.cell? ⟨bs, 0, none⟩ = some (.int .u64 X.a) ∧ w'.cell? ⟨bs, 1, none⟩ = some (.int .u64 X.b) ∧ w'.cell? ⟨bs, 2, none⟩ = some (.int .u64 X.c) ∧ w'.cell? ⟨bs, 3, none⟩ = some (.int .u64 X.d) ∧ RunAt w' rb zs ∧ RunAt w' tb zs ∧ Frm [] w w')) := hid (fun u w' hf h => by
                have hl := World.block_lt_of_cell? u _ h.1
                have hl2 := World.block_lt_of_cell? u _ h.2.2.2.2.1
                have kb : ∀ i v, u.cell? ⟨bw, i, none⟩ = some v → w'.cell? ⟨bw, i, none⟩ = some v := fun i v h => (hf.cell (p := ⟨bw, i, none⟩) hl (by simp)).trans h
                have ks : ∀ i v, u.cell? ⟨bs, i, none⟩ = some v → w'.cell? ⟨bs, i, none⟩ = some v := fun i v h => (hf.cell (p := ⟨bs, i, none⟩) hl2 (by simp)).trans h
                obtain ⟨h0, h1, h2, h3, h4, h5, h6, h7, h8, h9, h10⟩ := h
                exact ⟨kb _ _ h0, kb _ _ h1, kb _ _ h2, kb _ _ h3, ks _ _ h4, ks _ _ h5, ks _ _ h6, ks _ _ h7, h8.kept hf (by simp), h9.kept hf (by simp), h10.trans hf (by simp)⟩)
              clear hn13 hw13 hs13 hfx hfy hf12 HO3 HX2 HW11 HS11 HR11 HT11 HF11
              go_wp2_with fail
              clear hBe hCe hDe n0 n1 n2 n3
              go_region_held3 (fun w' => w'.cell? ⟨bw, 0, none⟩ = some (.int .u64 X.a) ∧ w'.cell? ⟨bw, 1, none⟩ = some (.int .u64 X.b) ∧ w'.cell? ⟨bw, 2, none⟩ = some (.int .u64 X.c) ∧ w'.cell? ⟨bw, 3, none⟩ = some (.int .u64 X.d) ∧ w'.cell? ⟨bs, 0, none⟩ = some (.int .u64 X.a) ∧ w'.cell? ⟨bs, 1, none⟩ = some (.int .u64 X.b) ∧ w'.cell? ⟨bs, 2, none⟩ = some (.int .u64 X.c) ∧ w'.cell? ⟨bs, 3, none⟩ = some (.int .u64 X.d) ∧ RunAt w' rb zs ∧ RunAt w' tb zs ∧ Frm [] w w') (first | (exact ⟨e0, e1, e2, e3, s0, s1, s2, s3, HR13.out.kept (Frm.refl [] w13).drew (by simp), HT13.out.kept (Frm.refl [] w13).drew (by simp), HF13.out.drew⟩) | (exact HKS.out _ _ (by assumption) (by assumption))) (first | ((with_reducible refine (HVR.out _ (by assumption)).mono ?_); rintro e w5 ⟨rfl, hf5⟩) | ((with_reducible refine (HVT.out _ (by assumption)).mono ?_); rintro e w5 ⟨rfl, hf5⟩))
              have hh : w5.cell? ⟨bw, 0, none⟩ = some (.int .u64 X.a) ∧ w5.cell? ⟨bw, 1, none⟩ = some (.int .u64 X.b) ∧ w5.cell? ⟨bw, 2, none⟩ = some (.int .u64 X.c) ∧ w5.cell? ⟨bw, 3, none⟩ = some (.int .u64 X.d) ∧ w5.cell? ⟨bs, 0, none⟩ = some (.int .u64 X.a) ∧ w5.cell? ⟨bs, 1, none⟩ = some (.int .u64 X.b) ∧ w5.cell? ⟨bs, 2, none⟩ = some (.int .u64 X.c) ∧ w5.cell? ⟨bs, 3, none⟩ = some (.int .u64 X.d) ∧ RunAt w5 rb zs ∧ RunAt w5 tb zs ∧ Frm [] w w5 := by assumption
              have HFR := hid hh.2.2.2.2.2.2.2.2.2.2
              clear hh e0 e1 e2 e3 s0 s1 s2 s3
              go_wp2_with fail
              go_returns
              exact ⟨by first | rfl | simp, HFR.out⟩
            · have hg : ¬ ((m : Int) % 4 = 0) := by omega
              have hg2 : ¬ ((m : Int).tmod 4 = 0) := by rw [Int.tmod_eq_emod_of_nonneg (by omega)]; exact hg
              have hrz : Rd (wr.alloc (.cells #[.int .u8 0] 5)) (some ⟨wr.heap.size, 0, none⟩) [0] :=
                (own_of_block (E := 5) (zs := [0]) (heap_alloc_new wr _) (by simp [maxLen])).rd
              have HRZ := hid hrz
              have hfz1 : Frm [] wr (wr.alloc (.cells #[.int .u8 0] 5)) := (Frm.refl _ _).alloc _
              have HOA := hid (ho.out.kept hfz1 (by simp))
              have HFA := hid (hf.out.trans hfz1 (by simp))
              have HWA := hid (hfz1.heap hw.out (by simp))
              have HRA := hid (hrr.out.kept hfz1 (by simp))
              have HTA := hid (hrt.out.kept hfz1 (by simp))
              have HSA := hsz
              have hmb : m + 1 ≤ 140737488355328 := by omega
              have H4 := hid h4
              clear hrz hfz1 ho hf hw hrr hrt h4 hk' hm'
              go_wp2_with (at_builtin; refine wpList_appB rfl _ _ 22 rfl 5 Tryd.underlying22 infoB p m c (zs ++ List.replicate k 0) rfl hl.out.symm (by rw [hl.out]; exact HOA.out) (some ⟨wr.heap.size, 0, none⟩) 1 1 [0] rfl rfl (by simp) HRZ.out (by rw [hl.out]; simp; omega) ?_)
              intro xs2 q2 d2 w8 hxs ho2 hf2 hfr2
              have hx3 : xs2 = zs ++ List.replicate (k + 1) 0 := by rw [hxs.out, List.replicate_succ']
              have hxl : xs2.length = m + 1 := by
                have h1 := hl.out
                rw [hx3]
                simp only [List.length_append, List.length_replicate] at h1 ⊢
                omega
              have hno : ∀ x, x < w6.heap.size → x ∉ blk p := fun x hx hk => by have := hkk.out x hk; omega
              have HW8 := hid (hf2.out.heap HWA.out (hno bw HSZ6.out))
              have HR8 := hid (HRA.out.kept hf2.out (hno rb (by have := HTB6.out; have := HNE.out; omega)))
              have HT8 := hid (HTA.out.kept hf2.out (hno tb HTB6.out))
              have HF8 : Hid (Frm [] w w8) := hid (HFA.out.trans hf2.out (fun i hi hlt => by have := hkk.out i hi; have := HB2.out; have := HNE.out; have := HTB6.out; omega))
              have HK8 : Hid (∀ k ∈ blk q2, w6.heap.size ≤ k) := hid (fun k hk2 => by
                rcases hfr2.out k hk2 with h | h
                · exact hkk.out k h
                · have := HSA.out
                  try simp at h
                  omega)
              have HS8 : Hid (w6.heap.size ≤ w8.heap.size) := hid (by have h1 := hf2.out.size; have h2 := HSA.out; simp at h1; omega)
              have HO3 := ho2.out
              rw [hxl] at HO3 ⊢
              rw [hx3] at HO3 hxl
              have HO8 := hid HO3
              have HL8 := hid hxl
              clear ho2 hf2 hfr2 hxl hno HFA HOA HRZ HWA HRA HTA HO3 hx3 hxs
              go_wp2_with fail
              go_roundw
              case rel => exact ⟨k + 1, m + 1, d2, q2, rfl, hid (by have := hm.out; omega), hid (by have := hm.out; have := hk.out; have := H4.out; omega), HL8, HO8, HK8, HS8, HW8, HR8, HT8, HF8⟩
              case measure => simp [lenV]; have := H4.out; omega
end Go.Proofs.YtcnochabdhdlnaaDoor
