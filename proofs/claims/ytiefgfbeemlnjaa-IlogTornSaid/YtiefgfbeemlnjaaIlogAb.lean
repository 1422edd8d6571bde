/- IlogTorn: the walk. -/
import Derived.Test.YtiefgfbeemlnjaaIlogAa
import Derived.Test.YtiefgfbeemlnjaaRowI
namespace Go.Proofs.Ytiefgfbeemlnjaa
open Go.RowKit
set_option maxRecDepth 100000

theorem slice_hi {P : Program} {t e : TypeId} {z : Value} {by_ : Nat} (ht : P.underlying t = some (.slice e)) (hI : (P.info? e).map (fun i => (i.zero, i.size, i.bytes)) = some (some z, 1, by_)) (g o n c hi : Nat) (hc : hi ≤ c) (W : World) :
    (Instr.slice t (.slice (some ⟨g, o, none⟩) n c) none (some (.int .i64 (hi : Int))) none).run P W = .ok (.slice (some ⟨g, o, none⟩) hi c) W := by
  obtain ⟨i, hi', hz, h1, h2⟩ := info_parts hI
  have he : P.elem t = e := by simp [Program.elem, ht]
  rw [run_slice_h W t _ _ _ (elem_of ht) .i64 _ (by omega) (by omega), he]
  have hs : (sizeOf e).run P W = .ok 1 W := by simp [sizeOf, typeInfo, hi', h1, Result.andThen]
  rw [hs]
  simp [Result.andThen, sliced, Addr.add]
set_option maxHeartbeats 6400000 in
theorem torn_any (base : Int) (hb1 : -9223372036854775808 ≤ base) (hb2 : base ≤ 9223372036854775807) (p1 p2 p3 : Option Addr) (n1 c1 n2 c2 n3 c3 : Nat) (W : World) (hC : CameB W p1 n1 c1) (hD : CameB W p2 n2 c2) (hE : CameI W p3 n3 c3) :
    Calls Try.prog 5 #[.int .i64 base, .slice p1 n1 c1, .slice p2 n2 c2, .slice p3 n3 c3] W fun e w' => e = .returned (.bool true) ∧ Frm [] W w' := by
  have HC := hid hC
  have HD := hid hD
  have HE := hid hE.2.2
  have hn3b : n3 ≤ 9223372036854775807 := Nat.le_trans hE.1 hE.2.1
  have hmk := run_make_row' (P := Try.prog) 22 5 (.int .u8 0) 1 Try.underlying22 infoB rfl .i64 .i64 22528 (by omega) (by omega)
  rw [show ((22528 : Nat) : Int) = 22528 from rfl, zeros22] at hmk
  clear hC hD hE
  go_enter Try.func5, Try.ntmps5
  go_wp2_with fail
  refine (awake16_any _).mono ?_
  rintro e w1 ⟨rfl, hf1⟩
  have HF1 := hid hf1
  clear hf1
  go_wp2_with fail
  refine (pick16_any base 1000 hb1 hb2 (by omega) (by omega) _).mono ?_
  rintro e w2 ⟨rfl, rfl⟩
  obtain ⟨pk0, pk1⟩ := pickI_bd (c := base) (n := 1000) (by omega)
  obtain ⟨an, han⟩ : ∃ an : Nat, pickI base 1000 = an := ⟨(pickI base 1000).toNat, by omega⟩
  rw [han] at pk0 pk1 ⊢
  have ha1 : an < 1000 := by omega
  clear han pk0 pk1
  have hfa : Frm [] w1 (w1.alloc (.cells (bv (List.replicate 22528 0)).toArray 5)) := (Frm.refl _ _).alloc _
  have HFA := hid (HF1.out.trans hfa (by simp))
  have HGA : Hid ((w1.alloc (.cells (bv (List.replicate 22528 0)).toArray 5)).heap[w1.heap.size]? = some (.cells (bv (List.replicate 22528 0)).toArray 5 (0, 0))) := hid (heap_alloc_new _ _)
  have hgW := HF1.out.size
  obtain ⟨Z0, hZ0⟩ : ∃ Z0, List.replicate 22528 (0 : Int) = Z0 := ⟨_, rfl⟩
  rw [hZ0] at hmk HFA HGA
  have HZ0 := hid hZ0
  have HZL : Hid (Z0.length = 22528) := hid (by rw [← hZ0, List.length_replicate])
  clear hfa hZ0
  go_wp2_with fail
  obtain ⟨wa, hwa⟩ : ∃ wa, w1.alloc (.cells (bv Z0).toArray 5) = wa := ⟨_, rfl⟩
  obtain ⟨G, hG⟩ : ∃ G, w1.heap.size = G := ⟨_, rfl⟩
  rw [hwa] at HFA HGA ⊢
  rw [hG] at HGA hgW ⊢
  clear hwa hG hmk
  refine (written_any W an G (by omega) p1 n1 c1 Z0 HZL.out HC.out hgW wa HFA.out HGA.out).mono ?_
  rintro e w3 ⟨q3, k3, d3, vs3, ls1, rfl, hl3, hA3, hsm3, hby3, hg3, hf3⟩
  have HF3 := hid (HFA.out.trans hf3 (fun i hi hlt => by simp at hi; omega))
  have hreg : recsB an 1 ls1 ++ Z0.drop (recsB an 1 ls1).length = regA an ls1 := by unfold regA; rw [HZ0.out]
  rw [hreg] at hg3
  have HG3 := hid hg3
  have HA3 := hid hA3
  have HBY3 := hid hby3
  have HAL := hid (regA_length an ls1 hA3)
  have HAB := hid (regA_byte an hby3)
  have HRA := hid ((own_of_block (E := 5) hg3 (by rw [HAL.out]; unfold maxLen; omega)).rd)
  have hgs3 := lt_of_heap hg3
  obtain ⟨X1, hX1⟩ : ∃ X1, (recsB an 1 ls1.dropLast).length = X1 := ⟨_, rfl⟩
  obtain ⟨X2, hX2⟩ : ∃ X2, (recsB an 1 ls1).length = X2 := ⟨_, rfl⟩
  rw [hX1, hX2]
  obtain ⟨RA, hRA⟩ : ∃ RA, regA an ls1 = RA := ⟨_, rfl⟩
  have HRAE := hid hRA
  rw [hRA] at HRA HG3 HAL HAB
  clear hl3 hA3 hsm3 hby3 hg3 hf3 hreg hX1 hX2 hRA
  go_wp2_with (at_builtin; refine wpList_appB rfl _ _ 22 rfl 5 Try.underlying22 infoB none 0 0 [] rfl rfl (Own.nil _ _) (some ⟨G, 0, none⟩) 22528 22528 RA rfl HAL.out.symm (by simp) HRA.out (by rw [HAL.out]; simp) ?_)
  intro xs pB cB w4 hxs hoB hfB hkB
  obtain rfl : xs = RA := by rw [hxs.out]
  rw [HAL.out] at hoB ⊢
  have hf4 : Frm [] w3 w4 := hfB.out
  have HF4 := hid (HF3.out.trans hf4 (by simp))
  have HOB := hid hoB.out
  have HKB : Hid (∀ k ∈ blk pB, G < k) := hid (fun k hk => by
    rcases hkB.out k hk with h | h
    · simp [blk] at h
    · omega)
  have HG4 := hid (hf4.heap HG3.out (by simp))
  have HW2 := written_any W (an + 1) G (by omega) p2 n2 c2 xs HAL.out HD.out hgW w4 HF4.out HG4.out
  rw [show ((an + 1 : Nat) : Int) = (an : Int) + 1 by omega] at HW2
  have HW2' := hid HW2
  clear hxs hoB hfB hkB hf4 HW2
  go_wp2_with fail
  refine HW2'.out.mono ?_
  rintro e w5 ⟨q4, k4, d4, vs4, ls2, rfl, hl4, hA4, hsm4, hby4, hg4, hf5⟩
  have HF5 := hid (HF4.out.trans hf5 (fun i hi hlt => by simp at hi; omega))
  have HOB5 := hid (HOB.out.kept hf5 (by rw [own_blk]; intro k hk h; have := HKB.out k hk; simp at h; omega))
  have HG5 : Hid (w5.heap[G]? = some (.cells (bv (regB an ls1 ls2)).toArray 5 (0, 0))) := hid (by
    rw [← HRAE.out] at hg4
    exact hg4)
  have hrl := regB_length an ls1 ls2 HA3.out hA4
  have HRL := hid hrl
  have HRB := hid (regB_byte an HBY3.out hby4)
  have HT1 := hid (regB_told an (by omega) ls1 ls2 hsm4)
  have HL5 := hid (hl4.rd HF5.out)
  have HLI := hid hl4
  have HLB := hid hl4.lenB
  have hn4 : k4 ≤ 256 := by have := recsB_length_ge (an + 1) 1 ls2; have := hl4.lenB; omega
  have HSM := hid hsm4
  have HA4 := hid hA4
  have hkd : k4 ≤ d4 := by
    rcases hl4.own.2 with ⟨h0, h1⟩ | ⟨g', c', cur, he, _, _, hc', _⟩
    · omega
    · simp only [Value.slice.injEq] at he; omega
  clear hrl hl4 hA4 hsm4 hby4 hg4 hf5
  rcases List.eq_nil_or_concat ls2 with h0 | ⟨init, r, h0⟩
  · have hk4 : k4 = 0 := by rw [← HLB.out, h0]; rfl
    subst hk4
    obtain ⟨Y1, hY1⟩ : ∃ Y1, (recsB (an + 1) 1 ls2.dropLast).length = Y1 := ⟨_, rfl⟩
    obtain ⟨Y2, hY2⟩ : ∃ Y2, (recsB (an + 1) 1 ls2).length = Y2 := ⟨_, rfl⟩
    rw [hY1, hY2]
    clear h0 hY1 hY2
    go_wp2_with fail
    go_returns
    exact ⟨rfl, HF5.out⟩
  · rw [List.concat_eq_append] at h0
    subst h0
    obtain ⟨FR, hFR⟩ : ∃ FR, (recsB (an + 1) 1 init).length = FR := ⟨_, rfl⟩
    obtain ⟨PC, hPC⟩ : ∃ PC, pcs r.length = PC := ⟨_, rfl⟩
    obtain ⟨TO, hTO⟩ : ∃ TO, (recsB (an + 1) 1 (init ++ [r])).length = TO := ⟨_, rfl⟩
    have hto : TO = FR + PC * 88 := by rw [← hTO, recsB_snoc, List.length_append, recB_length, hFR, hPC]
    have hrs : r.length ≤ 4096 := HSM.out r (by simp)
    have hpc0 := pcs_pos r.length
    have hpc1 := pcs_le r.length hrs
    have ha4 := HA4.out
    obtain ⟨KW, hKW⟩ : ∃ KW, init.length = KW := ⟨_, rfl⟩
    have hk4 : k4 = KW + 1 := by rw [← HLB.out, List.length_append, hKW]; rfl
    subst hk4
    rw [hPC] at hpc0 hpc1
    rw [hTO] at ha4
    rw [List.dropLast_concat, hFR, hTO]
    have HFR := hid hFR
    have HPC := hid hPC
    have HTO := hid hTO
    have HKW := hid hKW
    have HTOE := hid hto
    have hto1 : FR ≤ TO := by omega
    have hfit : FR + PC * 88 ≤ 22528 := by omega
    have d1 : ((TO : Int) - (FR : Int)).tdiv 88 = (PC : Int) := by rw [Int.tdiv_eq_ediv_of_nonneg (by omega)]; omega
    have d2 : ((TO : Int) - (FR : Int)) / 88 = (PC : Int) := by omega
    have HD1 := hid d1
    have HD2 := hid d2
    have HTR0 : Hid (TornR FR PC xs (regB an ls1 (init ++ [r])) (regB an ls1 (init ++ [r]))) := hid ⟨HRL.out, HRB.out, rfl, fun k _ => Or.inl rfl⟩
    have hnz : ((KW : Int) + 1 == 0) = false := by simp; omega
    have hnz2 : ¬ (KW : Int) + 1 = 0 := by omega
    clear hFR hPC hTO hto hKW d1 d2
    go_wp2_with fail
    go_loopw [21] (fun i wr => ∃ (t : Nat) (zs : List Int), t ≤ n3 ∧ i = .int .i64 t ∧ Hid (wr.heap[G]? = some (.cells (bv zs).toArray 5 (0, 0))) ∧ Hid (TornR FR PC xs (regB an ls1 (init ++ [r])) zs) ∧ Hid (t = 0 → zs = regB an ls1 (init ++ [r])) ∧ Hid (0 < t → ∃ k, k < PC ∧ (zs.drop (FR + k * 88)).take 88 = (xs.drop (FR + k * 88)).take 88) ∧ Hid (Frm [G] w5 wr)) (fun i _ => n3 - (intOf i).toNat)
    case atStart => exact ⟨0, _, Nat.zero_le _, rfl, HG5, HTR0, hid (fun _ => rfl), hid (fun h => absurd h (by omega)), hid (Frm.refl _ _)⟩
    case round =>
      clear HG5 HTR0
      obtain ⟨t, zs, ht, rfl, hcur, htr, hz0, hz1, hf⟩ := hrel
      by_cases hlt : t < n3
      · obtain ⟨g3, o3, x, rfl, hcx, hx1, hx2⟩ : ∃ g o x, p3 = some ⟨g, o, none⟩ ∧ wr.cell? ⟨g, o + t, none⟩ = some (.int .i64 x) ∧ -9223372036854775808 ≤ x ∧ x ≤ 9223372036854775807 := by
          obtain ⟨ns, h1, h2, h3⟩ := HE.out
          rcases h3 with h3 | ⟨g, o, rfl, h3⟩
          · omega
          · have hb := h2 (ns.getD t 0) (getD_mem (by omega))
            have h4 := h3 t hlt
            refine ⟨g, o, ns.getD t 0, rfl, ?_, hb.1, hb.2⟩
            exact (((HF5.out.trans (S := []) hf.out (fun i hi hlt => by simp at hi; omega))).cell (p := ⟨g, o + t, none⟩) (World.block_lt_of_cell? W _ h4) (by simp)).trans h4
        have t0 : (0 : Int) ≤ (t : Int) := by omega
        have t1 : (t : Int) < (n3 : Int) := by omega
        have e1 := HD1.out
        have e2 := HD2.out
        go_wp2_with fail
        refine (pick16_any x PC hx1 hx2 (by omega) (by omega) _).mono ?_
        rintro e x1 ⟨rfl, rfl⟩
        obtain ⟨pk0, pk1⟩ := pickI_bd (c := x) (n := (PC : Int)) (by omega)
        obtain ⟨pk, hpk⟩ : ∃ pk : Nat, pickI x PC = pk := ⟨(pickI x PC).toNat, by omega⟩
        rw [hpk] at pk0 pk1 ⊢
        have hpl : pk < PC := by omega
        have hpp : pk * 88 + 88 ≤ PC * 88 := by omega
        clear hpk pk0 pk1 e1 e2 hcx
        go_wp2_with fail
        obtain ⟨wo, rfl⟩ : ∃ wo : World, wo = wr := ⟨_, rfl⟩
        obtain ⟨P, hP⟩ : ∃ P, FR + pk * 88 = P := ⟨_, rfl⟩
        obtain ⟨RB, hRB⟩ : ∃ RB, (xs.drop P).take 88 = RB := ⟨_, rfl⟩
        have hrbl : RB.length = 88 := by rw [← hRB, List.length_take, List.length_drop, HAL.out]; omega
        have hztl : (zs.take P).length = P := by rw [List.length_take, htr.out.len]; omega
        have HRBE := hid hRB
        have HRBL := hid hrbl
        have HZTL := hid hztl
        have HP := hid hP
        clear hRB hrbl hztl
        go_loopw [23] (fun i wi => ∃ j : Nat, j ≤ 88 ∧ i = .int .i64 ((FR : Int) + 88 * (pk : Int) + (j : Int)) ∧ Hid (wi.heap[G]? = some (.cells (bv (zs.take P ++ RB.take j ++ zs.drop (P + j))).toArray 5 (0, 0))) ∧ Hid (Frm [G] wo wi)) (fun i _ => 88 - ((intOf i).toNat - (FR + 88 * pk)))
        case atStart => exact ⟨0, Nat.zero_le _, by simp, hid (by have h := hcur.out; simpa using h), hid (Frm.refl _ _)⟩
        case round =>
          obtain ⟨j, hj, rfl, hcj, hfj⟩ := hrel
          by_cases hlj : j < 88
          · have hnew := set_row (zs.take P) RB zs P j HZTL.out (by rw [HRBL.out]; exact hlj) (by rw [htr.out.len]; omega)
            have hll : (zs.take P ++ RB.take j ++ zs.drop (P + j)).length = 22528 := by
              rw [List.length_append, List.length_append, List.length_take, List.length_drop, List.length_take, HRBL.out, htr.out.len]; omega
            obtain ⟨cur, hcu⟩ : ∃ cur, zs.take P ++ RB.take j ++ zs.drop (P + j) = cur := ⟨_, rfl⟩
            rw [hcu] at hcj hnew hll
            have HNEW := hid hnew
            have hc : wr.cell? ⟨G, P + j, none⟩ = some (.int .u8 (cur.getD (P + j) 0)) := by
              rw [cell_of_row wr G (P + j) _ _ (0,0) hcj.out]
              simpa using bv_get (zs := cur) (i := P + j) (by rw [hll]; omega)
            have hfz := frozen_of_row wr G (P + j) _ _ hcj.out
            obtain ⟨gb, hpb, hcb⟩ : ∃ gb, pB = some ⟨gb, 0, none⟩ ∧ wr.cell? ⟨gb, P + j, none⟩ = some (.int .u8 (RB.getD j 0)) := by
              have hok := (HOB5.out.kept hf.out (by rw [own_blk]; intro k hk h; have := HKB.out k hk; simp at h; omega)).kept hfj.out (by rw [own_blk]; intro k hk h; have := HKB.out k hk; simp at h; omega)
              obtain ⟨gb, e1, _, e2, _, _⟩ := hok.setAt HAL.out (i := P + j) (by omega)
              refine ⟨gb, e1, ?_⟩
              rw [e2, ← HRBE.out]
              congr 2
              rw [List.getD_eq_getElem?_getD, List.getD_eq_getElem?_getD, List.getElem?_take, if_pos hlj, List.getElem?_drop]
            subst hpb
            obtain ⟨y, hy⟩ : ∃ y, cur.getD (P + j) 0 = y := ⟨_, rfl⟩
            obtain ⟨x, hx⟩ : ∃ x, RB.getD j 0 = x := ⟨_, rfl⟩
            rw [hy] at hc
            rw [hx] at hcb HNEW
            have s0 : (0 : Int) ≤ (FR : Int) + 88 * (pk : Int) + (j : Int) := by omega
            have s1 : (FR : Int) + 88 * (pk : Int) + (j : Int) < 22528 := by omega
            have s2 : ((FR : Int) + 88 * (pk : Int) + (j : Int)).toNat = P + j := by omega
            have s3 : (FR : Int) + 88 * (pk : Int) + (j : Int) < (FR : Int) + 88 * (pk : Int) + 88 := by omega
            clear hnew hll hcu hy hx hP
            go_wp2_with fail
            go_roundw
            case rel =>
              refine ⟨j + 1, by omega, by go_num, ?_, hid (hfj.out.setCell _ _ (by simp))⟩
              show _ = _
              rw [heap_setCell_same wr G (P + j) _ _ _ hcj.out, ← HNEW.out]
              congr 2
              apply Array.ext'
              simp [bv, List.map_set]
            case measure => simp [intOf]; omega
          · obtain rfl : j = 88 := by omega
            have hst := htr.out.step HAL.out HAB.out pk hpl hfit
            rw [HP.out, HRBE.out] at hst
            have hsp : zs.take P ++ RB.take 88 ++ zs.drop (P + 88) = splice zs P RB := by
              have e1 : RB.take 88 = RB := List.take_of_length_le (by rw [HRBL.out]; omega)
              unfold splice; rw [HRBL.out, e1]
            rw [hsp] at hcj
            have HST := hid hst.1
            have HPK : Hid (0 < t + 1 → ∃ k, k < PC ∧ ((splice zs P RB).drop (FR + k * 88)).take 88 = (xs.drop (FR + k * 88)).take 88) := hid (fun _ => ⟨pk, hpl, by rw [HP.out, HRBE.out]; exact hst.2⟩)
            have HFO := hid (hf.out.trans hfj.out (fun i hi _ => hi))
            clear hlj hst hsp hP
            go_wp2_with fail
            go_roundw
            case rel => exact ⟨t + 1, splice zs P RB, by omega, by go_num, hcj, HST, hid (fun h => absurd h (by omega)), HPK, HFO⟩
            case measure => simp [intOf]; omega
      · obtain rfl : t = n3 := by omega
        clear hlt
        by_cases h0 : t = 0
        · subst h0
          have HTOLD : Hid (Told (an + 1) 1 zs (init ++ [r])) := hid (by rw [hz0.out rfl]; exact HT1.out)
          clear hz0 hz1
          have HS1 := scan_ok (an + 1) (by omega) (some ⟨G, 0, none⟩) zs 22528 htr.out.len (by omega) htr.out.byte wr ((own_of_block (E := 5) hcur.out (by rw [htr.out.len]; unfold maxLen; omega)).rd)
          rw [show ((an + 1 : Nat) : Int) = (an : Int) + 1 by omega] at HS1
          have HS1' := hid HS1
          have HLW := hid (show LRd wr q4 (init ++ [r]) from (HLI.out.kept hf.out (by simp)).rd (HF5.out.trans (S := []) hf.out (fun i hi hlt => by simp at hi; omega)))
          clear HS1
          go_wp2_with fail
          refine HS1'.out.mono ?_
          rintro e w6 ⟨b, q5, k5, d5, vs5, bs5, rfl, ht5, hl5, hi5, hf6, hb5⟩
          obtain rfl := told_one HTOLD.out ht5
          have hkk : k5 = KW + 1 := by rw [← hl5.lenB]; rw [List.length_append, HKW.out]; rfl
          subst k5
          have HF6 := hid ((HF5.out.trans (S := []) hf.out (fun i hi hlt => by simp at hi; omega)).trans hf6 (by simp))
          have HLW6 := hid (HLW.out.kept hf6)
          have HM6 := hid hl5.rd
          have HI6 := hid hi5
          clear ht5 hl5 hi5 hf6 hb5
          go_wp2_with fail
          refine (same_true (init ++ [r]) q4 q5 (KW + 1) d4 d5 (by rw [List.length_append, HKW.out]; rfl) (by omega) _ HLW6.out HM6.out).mono ?_
          rintro e w7 ⟨rfl, hf7⟩
          have HF7 := hid (HF6.out.trans hf7 (by simp))
          have hi7 := HI6.out.kept hf7 (by simp)
          rw [HTO.out, show 1 + (init ++ [r]).length = KW + 2 by rw [List.length_append, HKW.out]; simp; omega] at hi7
          have HI7 := hid hi7
          clear hf7 hi7
          go_wp2_with (first | ((with_reducible refine (at_any b _ _ _ _ HI7.out).mono ?_); rintro e x ⟨rfl, rfl⟩) | ((with_reducible refine (next_any b _ _ _ _ HI7.out).mono ?_); rintro e x ⟨rfl, rfl⟩))
          go_returns
          exact ⟨boolE (by first | (simp; done) | (simp; omega)), HF7.out⟩
        · have HTOLD : Hid (Told (an + 1) 1 zs init) := hid (by
            obtain ⟨k, hk, he⟩ := hz1.out (by omega)
            refine torn_none an (by omega) ls1 init r zs (HSM.out r (by simp)) HA3.out (by rw [HFR.out, HPC.out]; exact hfit) (fun x hx => HSM.out x (List.mem_append_left _ hx)) ?_ ⟨k, by rw [HPC.out]; exact hk, by rw [HFR.out, HRAE.out]; exact he⟩
            rw [HFR.out, HPC.out, HRAE.out]
            exact htr.out)
          obtain ⟨gq, oq, rfl⟩ : ∃ g o, q4 = some ⟨g, o, none⟩ := by
            rcases HL5.out with h | ⟨g, o, h, _⟩
            · simp at h
            · exact ⟨g, o, h⟩
          have hsl : ∀ W : World, (Instr.slice 25 (.slice (some ⟨gq, oq, none⟩) (KW + 1) d4) none (some (.int .i64 (KW : Int))) none).run Try.prog W = .ok (.slice (some ⟨gq, oq, none⟩) KW d4) W := fun W => slice_hi (P := Try.prog) Try.underlying25 infoR gq oq (KW + 1) d4 KW (by omega) W
          have hsl2 : ∀ W : World, (Instr.sliceAt 25 (.slice (some ⟨gq, oq, none⟩) (KW + 1) d4) none (some (.int .i64 (KW : Int))) none).run Try.prog W = .ok (.slice (some ⟨gq, oq, none⟩) KW d4) W := fun W => by
            rw [run_sliceAt_slice (h := elem_of Try.underlying25)]
            exact hsl W
          have ht0 : (0 : Int) < (t : Int) := by omega
          have hkw : (KW : Int) + 1 - 1 = (KW : Int) := by omega
          clear hz0 hz1 h0
          have HS1 := scan_ok (an + 1) (by omega) (some ⟨G, 0, none⟩) zs 22528 htr.out.len (by omega) htr.out.byte wr ((own_of_block (E := 5) hcur.out (by rw [htr.out.len]; unfold maxLen; omega)).rd)
          rw [show ((an + 1 : Nat) : Int) = (an : Int) + 1 by omega] at HS1
          have HS1' := hid HS1
          have HLW := hid (show LRd wr (some ⟨gq, oq, none⟩) (init) from ((HLI.out.kept hf.out (by simp)).rd (HF5.out.trans (S := []) hf.out (fun i hi hlt => by simp at hi; omega))).last)
          clear HS1
          go_wp2_with fail
          refine HS1'.out.mono ?_
          rintro e w6 ⟨b, q5, k5, d5, vs5, bs5, rfl, ht5, hl5, hi5, hf6, hb5⟩
          obtain rfl := told_one HTOLD.out ht5
          have hkk : k5 = KW := by rw [← hl5.lenB]; exact HKW.out
          subst k5
          have HF6 := hid ((HF5.out.trans (S := []) hf.out (fun i hi hlt => by simp at hi; omega)).trans hf6 (by simp))
          have HLW6 := hid (HLW.out.kept hf6)
          have HM6 := hid hl5.rd
          have HI6 := hid hi5
          clear ht5 hl5 hi5 hf6 hb5
          go_wp2_with fail
          refine (same_true (init) (some ⟨gq, oq, none⟩) q5 (KW) d4 d5 (by exact HKW.out) (by omega) _ HLW6.out HM6.out).mono ?_
          rintro e w7 ⟨rfl, hf7⟩
          have HF7 := hid (HF6.out.trans hf7 (by simp))
          have hi7 := HI6.out.kept hf7 (by simp)
          rw [HFR.out, show 1 + init.length = KW + 1 by rw [HKW.out]; omega] at hi7
          have HI7 := hid hi7
          clear hf7 hi7
          go_wp2_with (first | ((with_reducible refine (at_any b _ _ _ _ HI7.out).mono ?_); rintro e x ⟨rfl, rfl⟩) | ((with_reducible refine (next_any b _ _ _ _ HI7.out).mono ?_); rintro e x ⟨rfl, rfl⟩))
          go_returns
          exact ⟨boolE (by first | (simp; done) | (simp; omega)), HF7.out⟩
end Go.Proofs.Ytiefgfbeemlnjaa
