/- SessionApart, walked. -/
import Derived.Test.YtbgochkmplacaaaSsK
import Derived.Deep.CutBlock
namespace Go.Proofs.Ytbgochkmplacaaa
open Go.RowKit Go.Lib
set_option maxRecDepth 100000

set_option maxHeartbeats 25600000 in
theorem apart24_any (p : Option Addr) (len cap : Nat) (only : Int) (w : World) (hI : CameR w p len cap) (ho : -9223372036854775808 ≤ only ∧ only ≤ 9223372036854775807) :
    Calls Try.prog 8 #[.slice p len cap, .int .i64 only] w fun e w' => e = .returned (.bool true) ∧ Frm [] w w' := by
  have HI := hid hI
  have HO := hid ho
  have HNW := hid (fun W => new24_any W)
  have HAW := hid (awake24_any w)
  have hlc : len ≤ 9223372036854775807 := by have := hI.1; have := hI.2.1; omega
  clear hI ho
  obtain ⟨m, hm⟩ : ∃ m : Nat, 1 + pickM only 8 = (m : Int) := ⟨(1 + pickM only 8).toNat, by have := pickM_bd only 8 (by omega); omega⟩
  have HM : Hid (1 ≤ m ∧ m ≤ 8) := hid (by have := pickM_bd only 8 (by omega); omega)
  obtain ⟨pm, hpm⟩ : ∃ q, pickM only 8 = q := ⟨_, rfl⟩
  have HPK := hid (fun W => pick24_any only 8 W HO.out (by omega))
  rw [hpm] at HPK hm
  have hwm : IntKind.i64.wrap (1 + pm) = (m : Int) := by rw [hm]; exact IntWalk.i64_in _ ⟨by have := HM.out; omega, by have := HM.out; omega⟩
  clear hpm hm
  go_enter Try.func8, Try.ntmps8
  go_wp2_with fail
  refine HAW.out.mono ?_
  rintro e w1 ⟨rfl, hf1⟩
  have HF1 := hid hf1
  clear hf1 HAW
  go_wp2_with fail
  refine (HNW.out _).mono ?_
  rintro e w2 ⟨bt, rfl, ht2, hf2, hb2⟩
  have HT2 := hid ht2
  have HF2 := hid (HF1.out.trans hf2 (by simp))
  have HB2 : Hid (w.heap.size ≤ bt ∧ bt < w2.heap.size) := hid ⟨by have := HF1.out.size; omega, ht2.low bt (by simp [foot24])⟩
  clear ht2 hf2 hb2 HF1
  go_wp2_with fail
  refine (HNW.out _).mono ?_
  rintro e w3 ⟨bu, rfl, ht3, hf3, hb3⟩
  have HAP : Hid (AP w w3 bt none zeros9 0 0 0 bu none zeros9 0 0 0) := hid ⟨HF2.out.trans hf3 (by simp), HT2.out.k0 hf3, ht3, fun k hk hm => by simp [foot24] at hk hm; have := HB2.out; omega, fun k hk => by simp [foot24] at hk; have := HB2.out; omega, fun k hk => by simp [foot24] at hk; have := HF2.out.size; omega, fun v hv k hk => by
      have : v = rp0 := by unfold zeros9 at hv; exact (List.mem_replicate.1 hv).2
      subst this; simp [Rp.B, rp0, blk] at hk, fun v hv k hk => by
      have : v = rp0 := by unfold zeros9 at hv; exact (List.mem_replicate.1 hv).2
      subst this; simp [Rp.B, rp0, blk] at hk⟩
  clear ht3 hf3 hb3 HT2 HF2 HB2 HNW
  go_wp2_with fail
  refine (HPK.out _).mono ?_
  rintro e w4 ⟨rfl, hw4⟩
  subst hw4
  go_wp2_with fail
  go_loopw [9] (fun i wr => ∃ (t : Nat) (pt pu : Option Nat) (vt vu : List Rp) (ft at_ rt fu au ru : Int), t ≤ len ∧ i = .int .i64 (t : Int) ∧ Hid (AP w wr bt pt vt ft at_ rt bu pu vu fu au ru) ∧ Hid ((vt.getD m rp0).x = (vu.getD m rp0).x)) (fun i _ => len - (intOf i).toNat)
  case atStart => exact ⟨0, none, none, zeros9, zeros9, 0, 0, 0, 0, 0, 0, Nat.zero_le _, rfl, HAP, hid rfl⟩
  case round =>
    clear HAP HPK
    obtain ⟨t, pt, pu, vt, vu, ft, at_, rt, fu, au, ru, ht, rfl, hap, heq⟩ := hrel
    by_cases hlt : t < len
    · have t1 : (t : Int) < (len : Int) := by omega
      obtain ⟨_, _, hcs⟩ := HI.out
      obtain ⟨g, o, rfl, hcells⟩ : ∃ g o, p = some ⟨g, o, none⟩ ∧ ∀ i, i < len → ∃ d : OpR, (∀ j u, d.row[j]? = some u → w.cell? ⟨g, o + i * 10 + j, none⟩ = some u) ∧ OpRIn w d := by
        rcases hcs with h | h
        · omega
        · exact h
      obtain ⟨⟨kd, wh, ⟨⟨s, id, er, nu, tx, ss, ds⟩, lp, lc, dp, dc⟩, lq, ll, lr⟩, hrow, hk, _, hs, hid_, hok⟩ := hcells t hlt
      have hcell : ∀ j u, _ → wr.cell? ⟨g, o + t * 10 + j, none⟩ = some u := fun j u hu => (hap.out.fr.cell (World.block_lt_of_cell? w _ (hrow j u hu)) (by simp)).trans (hrow j u hu)
      simp only [OpR.row] at hcell
      simp only at hk hs hid_
      have HK := hid hk
      have HS := hid hs
      have HID := hid hid_
      have HOK := hid hok
      obtain ⟨n, hn⟩ : ∃ q, ss.length = q := ⟨_, rfl⟩
      obtain ⟨mm, hmm⟩ : ∃ q, ds.length = q := ⟨_, rfl⟩
      have HV : Hid ((⟨⟨s, id, er, nu, tx, ss, ds⟩, lp, lc, dp, dc⟩ : Rp).agg = .agg #[.int .i64 s, .int .i64 id, .int .i64 er, .int .i64 nu, .string tx, .slice lp n lc, .slice dp mm dc]) := hid (by unfold Rp.agg; simp only; rw [hn, hmm])
      rw [hn, hmm] at hcell
      have d0 : wr.cell? ⟨g, o + t * 10, none⟩ = some (.int .i64 kd) := hcell 0 _ rfl
      have d1 : wr.cell? ⟨g, o + t * 10 + 1, none⟩ = some (.int .i64 wh) := hcell 1 _ rfl
      have d2 : wr.cell? ⟨g, o + t * 10 + 2, none⟩ = some (.int .i64 s) := hcell 2 _ rfl
      have d3 : wr.cell? ⟨g, o + t * 10 + 3, none⟩ = some (.int .i64 id) := hcell 3 _ rfl
      have d4 : wr.cell? ⟨g, o + t * 10 + 4, none⟩ = some (.int .i64 er) := hcell 4 _ rfl
      have d5 : wr.cell? ⟨g, o + t * 10 + 5, none⟩ = some (.int .i64 nu) := hcell 5 _ rfl
      have d6 : wr.cell? ⟨g, o + t * 10 + 6, none⟩ = some (.string tx) := hcell 6 _ rfl
      have d7 : wr.cell? ⟨g, o + t * 10 + 7, none⟩ = some (.slice lp n lc) := hcell 7 _ rfl
      have d8 : wr.cell? ⟨g, o + t * 10 + 8, none⟩ = some (.slice dp mm dc) := hcell 8 _ rfl
      have d9 : wr.cell? ⟨g, o + t * 10 + 9, none⟩ = some (.slice lq ll lr) := hcell 9 _ rfl
      obtain ⟨bx, hbx⟩ : ∃ q, wr.heap.size = q := ⟨_, rfl⟩
      obtain ⟨w5, hw5⟩ : ∃ q, wr.alloc (.cells #[.int .i64 kd, .int .i64 wh, .int .i64 s, .int .i64 id, .int .i64 er, .int .i64 nu, .string tx, .slice lp n lc, .slice dp mm dc, .slice lq ll lr] 63) = q := ⟨_, rfl⟩
      have h5 : Frm [] wr w5 := by rw [← hw5]; exact (Frm.refl _ _).alloc _
      have HX : Hid (w5.heap[bx]? = some (.cells #[.int .i64 kd, .int .i64 wh, .int .i64 s, .int .i64 id, .int .i64 er, .int .i64 nu, .string tx, .slice lp n lc, .slice dp mm dc, .slice lq ll lr] 63 (0, 0))) := hid (by rw [← hw5]; exact heap_alloc_to _ _ hbx)
      have HAP5 := hid (hap.out.k0 h5)
      have HNT : Hid (bx ∉ foot24 bt pt ∧ bx ∉ foot24 bu pu) := hid ⟨fun hm => by have := hap.out.t.low bx hm; omega, fun hm => by have := hap.out.u.low bx hm; omega⟩
      have HW5 := hid hw5
      have HBX := hid hbx
      clear hw5 hbx h5 hap hcell hrow hcs hcells hn hmm hk hs hid_ hok
      go_upto_region 11 with fail
      rw [HBX.out, HW5.out]
      clear HW5 HBX d0 d1 d2 d3 d4 d5 d6 d7 d8 d9
      have x0 : w5.cell? ⟨bx, 0, none⟩ = some (.int .i64 kd) := by rw [cell_of_row _ _ _ _ _ _ HX.out]; rfl
      go_wp2_with fail
      refine (pick24_any kd 2 w5 HK.out (by omega)).mono ?_
      rintro e w5' ⟨rfl, hww⟩
      subst hww
      obtain ⟨pk, hpk⟩ : ∃ q, pickM kd 2 = q := ⟨_, rfl⟩
      rw [hpk]
      clear hpk x0
      by_cases hk0 : pk = 0
      · subst hk0
        obtain ⟨⟨lx, li, le⟩, hlk⟩ : ∃ q, look24 vt s id = q := ⟨_, rfl⟩
        have HLK := hid hlk
        have HLT := hid (look_any bt pt vt ft at_ rt s id w5' HAP5.out.t)
        unfold LookP at HLT
        rw [hlk] at HLT
        simp only at HLT
        have x2 : w5'.cell? ⟨bx, 2, none⟩ = some (.int .i64 s) := by rw [cell_of_row _ _ _ _ _ _ HX.out]; rfl
        have x3 : w5'.cell? ⟨bx, 3, none⟩ = some (.int .i64 id) := by rw [cell_of_row _ _ _ _ _ _ HX.out]; rfl
        clear hlk
        go_wp2_with fail
        refine HLT.out.mono ?_
        rintro e w6 ⟨p6, va, rfl, hxa, hra, hba, ht6, hf6, hn6⟩
        have HAP6 := hid (HAP5.out.stepT ht6 hf6 hn6 (fun v hv => Or.inl hv))
        obtain ⟨ba, hbA⟩ : ∃ q, w6.heap.size = q := ⟨_, rfl⟩
        obtain ⟨w7, hw7⟩ : ∃ q, w6.alloc (.cells #[.int .i64 va.x.s, .int .i64 va.x.id, .int .i64 va.x.er, .int .i64 va.x.nu, .string va.x.tx, .slice va.lp va.x.ss.length va.lc, .slice va.dp va.x.ds.length va.dc] 61) = q := ⟨_, rfl⟩
        have h7 : Frm [] w6 w7 := by rw [← hw7]; exact (Frm.refl _ _).alloc _
        have HA7 : Hid (w7.heap[ba]? = some (.cells #[.int .i64 va.x.s, .int .i64 va.x.id, .int .i64 va.x.er, .int .i64 va.x.nu, .string va.x.tx, .slice va.lp va.x.ss.length va.lc, .slice va.dp va.x.ds.length va.dc] 61 (0, 0))) := hid (by rw [← hw7]; exact heap_alloc_to _ _ hbA)
        have HAP7 := hid (HAP6.out.k0 h7)
        have HVA := hid (hra.kept h7 (by simp))
        have HXA := hid hxa
        have HBA : Hid ((∀ k ∈ va.B, k ∉ foot24 bu pu) ∧ ba ∉ foot24 bu pu) := hid ⟨fun k hk hm => by have h1 := (hba k hk).1; have h2 := HAP5.out.u.low k hm; omega, fun hm => by have h2 := HAP6.out.u.low ba hm; omega⟩
        have HX7 := hid (h7.heap (hf6.heap HX.out HNT.out.1) (by simp))
        have HW7 := hid hw7
        have HBB := hid hbA
        unfold Rp.agg
        clear hxa hra hba ht6 hf6 hn6 hw7 hbA h7 HLT x2 x3
        go_upto_region 13 with fail
        rw [HBB.out, HW7.out]
        clear HW7 HBB
        have x2 : w7.cell? ⟨bx, 2, none⟩ = some (.int .i64 s) := by rw [cell_of_row _ _ _ _ _ _ HX7.out]; rfl
        have x3 : w7.cell? ⟨bx, 3, none⟩ = some (.int .i64 id) := by rw [cell_of_row _ _ _ _ _ _ HX7.out]; rfl
        by_cases hsm : s = m
        · subst hsm
          have hlk2 : look24 vu (m : Int) id = (lx, li, le) := by rw [← (at_same heq.out HM.out id 0).2.2]; exact HLK.out
          have HLU := hid (look_any bu pu vu fu au ru m id w7 HAP7.out.u)
          unfold LookP at HLU
          rw [hlk2] at HLU
          simp only at HLU
          clear hlk2
          go_wp2_with fail
          refine HLU.out.mono ?_
          rintro e w8 ⟨p8, vb, rfl, hxb, hrb, hbb, ht8, hf8, hn8⟩
          have HAP8 := hid (HAP7.out.stepU ht8 hf8 hn8 (fun v hv => Or.inl hv))
          obtain ⟨bb, hbB⟩ : ∃ q, w8.heap.size = q := ⟨_, rfl⟩
          obtain ⟨w9, hw9⟩ : ∃ q, w8.alloc (.cells #[.int .i64 vb.x.s, .int .i64 vb.x.id, .int .i64 vb.x.er, .int .i64 vb.x.nu, .string vb.x.tx, .slice vb.lp vb.x.ss.length vb.lc, .slice vb.dp vb.x.ds.length vb.dc] 61) = q := ⟨_, rfl⟩
          have h9 : Frm [] w8 w9 := by rw [← hw9]; exact (Frm.refl _ _).alloc _
          have hB9 : w9.heap[bb]? = some (.cells #[.int .i64 vb.x.s, .int .i64 vb.x.id, .int .i64 vb.x.er, .int .i64 vb.x.nu, .string vb.x.tx, .slice vb.lp vb.x.ss.length vb.lc, .slice vb.dp vb.x.ds.length vb.dc] 61 (0, 0)) := by rw [← hw9]; exact heap_alloc_to _ _ hbB
          have hA9 := h9.heap (hf8.heap HA7.out HBA.out.2) (by simp)
          have HAP9 := hid (HAP8.out.k0 h9)
          have HSA := hid (same24_any va vb w9 ((HVA.out.kept hf8 (fun k hk hm => HBA.out.1 k hk hm)).kept h9 (by simp)) (hrb.kept h9 (by simp)) (by rw [HXA.out, hxb]))
          unfold Rp.agg at HSA ⊢
          have a0 : w9.cell? ⟨ba, 0, none⟩ = some (.int .i64 va.x.s) := by rw [cell_of_row _ _ _ _ _ _ hA9]; rfl
          have a1 : w9.cell? ⟨ba, 1, none⟩ = some (.int .i64 va.x.id) := by rw [cell_of_row _ _ _ _ _ _ hA9]; rfl
          have a2 : w9.cell? ⟨ba, 2, none⟩ = some (.int .i64 va.x.er) := by rw [cell_of_row _ _ _ _ _ _ hA9]; rfl
          have a3 : w9.cell? ⟨ba, 3, none⟩ = some (.int .i64 va.x.nu) := by rw [cell_of_row _ _ _ _ _ _ hA9]; rfl
          have a4 : w9.cell? ⟨ba, 4, none⟩ = some (.string va.x.tx) := by rw [cell_of_row _ _ _ _ _ _ hA9]; rfl
          have a5 : w9.cell? ⟨ba, 5, none⟩ = some (.slice va.lp va.x.ss.length va.lc) := by rw [cell_of_row _ _ _ _ _ _ hA9]; rfl
          have a6 : w9.cell? ⟨ba, 6, none⟩ = some (.slice va.dp va.x.ds.length va.dc) := by rw [cell_of_row _ _ _ _ _ _ hA9]; rfl
          have b0 : w9.cell? ⟨bb, 0, none⟩ = some (.int .i64 vb.x.s) := by rw [cell_of_row _ _ _ _ _ _ hB9]; rfl
          have b1 : w9.cell? ⟨bb, 1, none⟩ = some (.int .i64 vb.x.id) := by rw [cell_of_row _ _ _ _ _ _ hB9]; rfl
          have b2 : w9.cell? ⟨bb, 2, none⟩ = some (.int .i64 vb.x.er) := by rw [cell_of_row _ _ _ _ _ _ hB9]; rfl
          have b3 : w9.cell? ⟨bb, 3, none⟩ = some (.int .i64 vb.x.nu) := by rw [cell_of_row _ _ _ _ _ _ hB9]; rfl
          have b4 : w9.cell? ⟨bb, 4, none⟩ = some (.string vb.x.tx) := by rw [cell_of_row _ _ _ _ _ _ hB9]; rfl
          have b5 : w9.cell? ⟨bb, 5, none⟩ = some (.slice vb.lp vb.x.ss.length vb.lc) := by rw [cell_of_row _ _ _ _ _ _ hB9]; rfl
          have b6 : w9.cell? ⟨bb, 6, none⟩ = some (.slice vb.dp vb.x.ds.length vb.dc) := by rw [cell_of_row _ _ _ _ _ _ hB9]; rfl
          have HW9 := hid hw9
          have HBB := hid hbB
          clear hxb hrb hbb ht8 hf8 hn8 hw9 hbB h9 HLU hA9 hB9 x2 x3
          go_upto_region 15 with fail
          rw [HBB.out, HW9.out]
          clear HW9 HBB
          go_wp2_with fail
          refine HSA.out.mono ?_
          rintro e w10 ⟨rfl, hf10⟩
          have HAP10 := hid (HAP9.out.k0 hf10)
          clear hf10 HSA a0 a1 a2 a3 a4 a5 a6 b0 b1 b2 b3 b4 b5 b6
          go_wp2_with fail
          go_roundw
          case rel => exact ⟨t + 1, p6, p8, vt, vu, _, _, _, _, _, _, by omega, by go_num, HAP10, heq⟩
          case measure => simp [intOf]; omega
        · have hsb : (s == (m : Int)) = false := by simpa using hsm
          clear hsm
          go_wp2_with fail
          go_roundw
          case rel => exact ⟨t + 1, p6, pu, vt, vu, _, _, _, _, _, _, by omega, by go_num, HAP7, heq⟩
          case measure => simp [intOf]; omega
      · obtain ⟨C, hC⟩ : ∃ q, chk24 vt s id 1 = q := ⟨_, rfl⟩
        have HC := hid hC
        have HKT := hid (keep_any bt pt vt ft at_ rt ⟨⟨s, id, er, nu, tx, ss, ds⟩, lp, lc, dp, dc⟩ w5' HAP5.out.t (HAP5.out.input HOK.out))
        rw [HV.out] at HKT
        unfold KeepP at HKT
        simp only at HKT
        rw [hC] at HKT
        have hkb : (pk == 0) = false := by simpa using hk0
        have x2 : w5'.cell? ⟨bx, 2, none⟩ = some (.int .i64 s) := by rw [cell_of_row _ _ _ _ _ _ HX.out]; rfl
        have x3 : w5'.cell? ⟨bx, 3, none⟩ = some (.int .i64 id) := by rw [cell_of_row _ _ _ _ _ _ HX.out]; rfl
        have x4 : w5'.cell? ⟨bx, 4, none⟩ = some (.int .i64 er) := by rw [cell_of_row _ _ _ _ _ _ HX.out]; rfl
        have x5 : w5'.cell? ⟨bx, 5, none⟩ = some (.int .i64 nu) := by rw [cell_of_row _ _ _ _ _ _ HX.out]; rfl
        have x6 : w5'.cell? ⟨bx, 6, none⟩ = some (.string tx) := by rw [cell_of_row _ _ _ _ _ _ HX.out]; rfl
        have x7 : w5'.cell? ⟨bx, 7, none⟩ = some (.slice lp n lc) := by rw [cell_of_row _ _ _ _ _ _ HX.out]; rfl
        have x8 : w5'.cell? ⟨bx, 8, none⟩ = some (.slice dp mm dc) := by rw [cell_of_row _ _ _ _ _ _ HX.out]; rfl
        clear hC hk0
        go_wp2_with fail
        refine HKT.out.mono ?_
        rintro e w6 ⟨p6, vt6, rfl, ht6, hf6, hn6, hs6, hz6⟩
        have HST : Hid ((C ≠ 0 ∧ vt6 = vt) ∨ (C = 0 ∧ ∃ v', v'.x = ⟨s, id, er, nu, tx, ss, ds⟩ ∧ vt6 = vt.set s.toNat v' ∧ ∀ k ∈ v'.B, w5'.heap.size ≤ k)) := hid (by
          by_cases h : C = 0
          · exact Or.inr ⟨h, hz6 h⟩
          · exact Or.inl ⟨h, hs6 h⟩)
        have HAP6 := hid (HAP5.out.stepT ht6 hf6 hn6 (by
          rcases HST.out with ⟨_, rfl⟩ | ⟨_, v', _, rfl, hb⟩
          · exact fun v hv => Or.inl hv
          · exact keep_mem hb))
        have HX6 := hid (hf6.heap HX.out HNT.out.1)
        clear ht6 hf6 hn6 hs6 hz6 HKT x2 x3 x4 x5 x6 x7 x8 hkb
        have x2 : w6.cell? ⟨bx, 2, none⟩ = some (.int .i64 s) := by rw [cell_of_row _ _ _ _ _ _ HX6.out]; rfl
        have x3 : w6.cell? ⟨bx, 3, none⟩ = some (.int .i64 id) := by rw [cell_of_row _ _ _ _ _ _ HX6.out]; rfl
        have x4 : w6.cell? ⟨bx, 4, none⟩ = some (.int .i64 er) := by rw [cell_of_row _ _ _ _ _ _ HX6.out]; rfl
        have x5 : w6.cell? ⟨bx, 5, none⟩ = some (.int .i64 nu) := by rw [cell_of_row _ _ _ _ _ _ HX6.out]; rfl
        have x6 : w6.cell? ⟨bx, 6, none⟩ = some (.string tx) := by rw [cell_of_row _ _ _ _ _ _ HX6.out]; rfl
        have x7 : w6.cell? ⟨bx, 7, none⟩ = some (.slice lp n lc) := by rw [cell_of_row _ _ _ _ _ _ HX6.out]; rfl
        have x8 : w6.cell? ⟨bx, 8, none⟩ = some (.slice dp mm dc) := by rw [cell_of_row _ _ _ _ _ _ HX6.out]; rfl
        by_cases hsm : s = m
        · subst hsm
          have hC2 : chk24 vu (m : Int) id 1 = C := by rw [← (at_same heq.out HM.out id 1).2.1]; exact HC.out
          have HKU := hid (keep_any bu pu vu fu au ru ⟨⟨(m : Int), id, er, nu, tx, ss, ds⟩, lp, lc, dp, dc⟩ w6 HAP6.out.u (HAP6.out.symm.input HOK.out))
          rw [HV.out] at HKU
          unfold KeepP at HKU
          simp only at HKU
          rw [hC2] at HKU
          clear hC2
          go_wp2_with fail
          refine HKU.out.mono ?_
          rintro e w7 ⟨p7, vu7, rfl, ht7, hf7, hn7, hs7, hz7⟩
          have HSU : Hid ((C ≠ 0 ∧ vu7 = vu) ∨ (C = 0 ∧ ∃ v', v'.x = ⟨(m : Int), id, er, nu, tx, ss, ds⟩ ∧ vu7 = vu.set (m : Int).toNat v' ∧ ∀ k ∈ v'.B, w6.heap.size ≤ k)) := hid (by
            by_cases h : C = 0
            · exact Or.inr ⟨h, hz7 h⟩
            · exact Or.inl ⟨h, hs7 h⟩)
          have HAP7 := hid (HAP6.out.stepU ht7 hf7 hn7 (by
            rcases HSU.out with ⟨_, rfl⟩ | ⟨_, v', _, rfl, hb⟩
            · exact fun v hv => Or.inl hv
            · exact keep_mem hb))
          have HEQ : Hid ((vt6.getD m rp0).x = (vu7.getD m rp0).x) := hid (by
            have h8 := HM.out
            rcases HST.out with ⟨c1, rfl⟩ | ⟨c1, v1, e1, rfl, _⟩ <;> rcases HSU.out with ⟨c2, rfl⟩ | ⟨c2, v2, e2, rfl, _⟩
            · exact heq.out
            · exact absurd c2 c1
            · exact absurd c1 c2
            · rw [Int.toNat_natCast, set_at HAP5.out.t.ln (by omega), set_at HAP6.out.u.ln (by omega), if_pos rfl, if_pos rfl, e1, e2])
          clear ht7 hf7 hn7 hs7 hz7 HKU x2 x3 x4 x5 x6 x7 x8
          go_wp2_with fail
          go_roundw
          case rel => exact ⟨t + 1, p6, p7, vt6, vu7, _, _, _, _, _, _, by omega, by go_num, HAP7, HEQ⟩
          case measure => simp [intOf]; omega
        · have hsb : (s == (m : Int)) = false := by simpa using hsm
          have HEQ : Hid ((vt6.getD m rp0).x = (vu.getD m rp0).x) := hid (by
            rcases HST.out with ⟨c1, rfl⟩ | ⟨c1, v1, e1, rfl, _⟩
            · exact heq.out
            · have h8 := (chk24_zero (c1 ▸ HC.out : chk24 vt s id 1 = 0)).1
              rw [set_at HAP5.out.t.ln (by omega), if_neg (by omega)]
              exact heq.out)
          clear hsm
          go_wp2_with fail
          go_roundw
          case rel => exact ⟨t + 1, p6, pu, vt6, vu, _, _, _, _, _, _, by omega, by go_num, HAP6, HEQ⟩
          case measure => simp [intOf]; omega
    · obtain rfl : len = t := by omega
      have t1 : ¬ ((len : Int) < (len : Int)) := by omega
      have HL1 := hid (last_any bt pt vt ft at_ rt m wr hap.out.t)
      have hll := (at_same heq.out HM.out 0 0).1
      rw [hll] at HL1
      go_wp2_with fail
      refine HL1.out.mono ?_
      rintro e w5 ⟨p5, rfl, ht5, hf5, hn5⟩
      have HAP5 := hid (hap.out.stepT ht5 hf5 hn5 (fun v hv => Or.inl hv))
      have HL2 := hid (last_any bu pu vu fu au ru m w5 HAP5.out.u)
      clear ht5 hf5 hn5 HL1 hll hap
      go_wp2_with fail
      refine HL2.out.mono ?_
      rintro e w6 ⟨p6, rfl, ht6, hf6, hn6⟩
      have HAP6 := hid (HAP5.out.stepU ht6 hf6 hn6 (fun v hv => Or.inl hv))
      clear ht6 hf6 hn6 HL2
      go_wp2_with fail
      first | go_returns | skip
      exact ⟨by first | rfl | simp, HAP6.out.fr⟩
end Go.Proofs.Ytbgochkmplacaaa
