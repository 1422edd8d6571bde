/- RangesDoes, walked. -/
import Derived.Test.YtbgochkmplacaaaRhK
import Derived.Deep.DeepCutAuto
import Derived.Deep.CutBlock
namespace Go.Proofs.Ytbgochkmplacaaa
open Go.RowKit Go.Lib
set_option maxRecDepth 100000
set_option maxHeartbeats 12800000 in
theorem rangesdoes_any (p : Option Addr) (len cap : Nat) (w : World) (hO : CameO w p len cap) :
    Calls Try.prog 3 #[.slice p len cap] w fun e w' => e = .returned (.bool true) ∧ Frm [] w w' := by
  have HO := hid hO
  have HAW := hid (awake9_any w)
  have HNW := hid (fun W => new9_any W)
  clear hO
  go_enter Try.func3, Try.ntmps3
  go_wp2_with fail
  refine HAW.out.mono ?_
  rintro e w2 ⟨rfl, hf2⟩
  have HF2 := hid hf2
  clear hf2
  go_wp2_with fail
  refine (HNW.out _).mono ?_
  rintro e w3 ⟨sb, rfl, hs3, hf3, hl3⟩
  obtain ⟨rb, hrb⟩ : ∃ q, w3.heap.size = q := ⟨_, rfl⟩
  obtain ⟨w4, hw4⟩ : ∃ q, w3.alloc (.cells #[.slice none 0 0] 29) = q := ⟨_, rfl⟩
  have HST : Hid (LSt w w4 sb rb sb rb) := hid (by
    have h34 : Frm [] w3 w4 := by rw [← hw4]; exact (Frm.refl _ _).alloc _
    have hs := lt_of_heap hs3.row
    have hz := HF2.out.size
    have hz3 := hf3.size
    refine ⟨none, 0, none, 0, [], (HF2.out.trans hf3 (by simp)).trans h34 (by simp), ⟨hs3.k0 h34, ⟨by rw [← hw4]; exact heap_alloc_to _ _ hrb, ⟨⟨rfl, Or.inl ⟨rfl, rfl⟩⟩, rfl⟩, by simp [blk]⟩, trivial, by simp, by omega, by simp [blk], by simp [blk], by simp [blk]⟩, fun k hk => ?_, Or.inl ⟨rfl, rfl⟩⟩
    simp [foot2, blk] at hk
    omega)
  have HW4 := hid hw4
  have HRB := hid hrb
  clear hs3 hf3 hl3 hw4 hrb HNW HF2
  go_upto_region 4 with fail
  rw [HRB.out, HW4.out]
  clear HW4 HRB
  go_wp2_with fail
  go_loopw [4, 5, 6, 7, 8] (fun s4 s5 s6 s7 i wr => ∃ (t sb rb ob wb : Nat), t ≤ len ∧ i = .int .i64 (t : Int) ∧ s4 = .pointer (some ⟨sb, 0, none⟩) ∧ s5 = .pointer (some ⟨rb, 0, none⟩) ∧ s6 = .pointer (some ⟨ob, 0, none⟩) ∧ s7 = .pointer (some ⟨wb, 0, none⟩) ∧ Hid (LSt w wr sb rb ob wb)) (fun _ _ _ _ i _ => len - (intOf i).toNat)
  case atStart => exact ⟨0, sb, rb, sb, rb, Nat.zero_le _, rfl, rfl, rfl, rfl, rfl, HST⟩
  case round =>
    clear HST
    obtain ⟨t, sb, rb, ob, wb, ht, rfl, rfl, rfl, rfl, rfl, hst⟩ := hrel
    by_cases hlt : t < len
    · have t1 : (t : Int) < (len : Int) := by omega
      obtain ⟨_, _, hcs⟩ := HO.out
      obtain ⟨g, o, rfl, hcells⟩ : ∃ g o, p = some ⟨g, o, none⟩ ∧ ∀ i, i < len → ∃ (k : Int) (y : Sp), y.In ∧ w.cell? ⟨g, o + i * 3, none⟩ = some (.int .i64 k) ∧ w.cell? ⟨g, o + i * 3 + 1, none⟩ = some (.int .i64 y.a) ∧ w.cell? ⟨g, o + i * 3 + 2, none⟩ = some (.int .i64 y.m) := by
        rcases hcs with h | h
        · omega
        · exact h
      obtain ⟨k, y, hyin, d0, d1, d2⟩ := hcells t hlt
      clear hcs hcells
      obtain ⟨p4, c4, q4, e4, ks, hls⟩ := hst.out
      have y1 : wr.cell? ⟨g, o + t * 3 + 1, none⟩ = some (.int .i64 y.a) := (hls.fr.cell (World.block_lt_of_cell? w _ d1) (by simp)).trans d1
      have y2 : wr.cell? ⟨g, o + t * 3 + 2, none⟩ = some (.int .i64 y.m) := (hls.fr.cell (World.block_lt_of_cell? w _ d2) (by simp)).trans d2
      have HY := hid hyin
      obtain ⟨bx, hbx⟩ : ∃ q, wr.heap.size = q := ⟨_, rfl⟩
      obtain ⟨w5, hw5⟩ : ∃ q, wr.alloc (.cells #[.int .i64 y.a, .int .i64 y.m] 31) = q := ⟨_, rfl⟩
      have h5 : Frm [] wr w5 := by rw [← hw5]; exact (Frm.refl _ _).alloc _
      have HL5 : Hid (LS w w5 sb p4 c4 rb q4 e4 ks ob wb) := hid (hls.stay h5)
      have y0 : w5.cell? ⟨g, o + t * 3, none⟩ = some (.int .i64 k) := (HL5.out.fr.cell (World.block_lt_of_cell? w _ d0) (by simp)).trans d0
      have HX : Hid (bx ∉ foot2 sb p4 rb q4 ∧ w5.heap[bx]? = some (.cells #[.int .i64 y.a, .int .i64 y.m] 31 (0, 0))) := hid ⟨fun hm => by have := hls.now.low _ hm; omega, by rw [← hw5]; exact heap_alloc_to _ _ hbx⟩
      have HW5 := hid hw5
      have HBX := hid hbx
      clear hw5 hbx h5 hls d0 d1 d2 hyin hst
      go_upto_region 12 with fail
      rw [HBX.out, HW5.out]
      clear HW5 HBX
      have x0 : w5.cell? ⟨bx, 0, none⟩ = some (.int .i64 y.a) := by rw [cell_of_row _ _ _ _ _ _ HX.out.2]; rfl
      have x1 : w5.cell? ⟨bx, 1, none⟩ = some (.int .i64 y.m) := by rw [cell_of_row _ _ _ _ _ _ HX.out.2]; rfl
      have HKC : Hid (∀ W W' : World, Frm [] W W' → W.cell? ⟨bx, 0, none⟩ = some (.int .i64 y.a) ∧ W.cell? ⟨bx, 1, none⟩ = some (.int .i64 y.m) → W'.cell? ⟨bx, 0, none⟩ = some (.int .i64 y.a) ∧ W'.cell? ⟨bx, 1, none⟩ = some (.int .i64 y.m)) := hid (fun W W' hf hs => ⟨(hf.cell (World.block_lt_of_cell? W _ hs.1) (by simp)).trans hs.1, (hf.cell (World.block_lt_of_cell? W _ hs.2) (by simp)).trans hs.2⟩)
      go_upto_block 2 with fail
      go_cut [4, 5, 6, 7, 10] (fun s4 s5 s6 s7 s10 wx => ∃ sb rb ob wb, s4 = .pointer (some ⟨sb, 0, none⟩) ∧ s5 = .pointer (some ⟨rb, 0, none⟩) ∧ s6 = .pointer (some ⟨ob, 0, none⟩) ∧ s7 = .pointer (some ⟨wb, 0, none⟩) ∧ s10 = .bool true ∧ Hid (LSt w wx sb rb ob wb))
      case first =>
        clear y0 y1 y2
        have HLD := hid (HL5.out.stay ((Frm.refl [] w5).drew))
        have HSD : Hid (w5.drew.cell? ⟨bx, 0, none⟩ = some (.int .i64 y.a) ∧ w5.drew.cell? ⟨bx, 1, none⟩ = some (.int .i64 y.m)) := hid ⟨x0, x1⟩
        have HKS : Hid (∀ W W' : World, (W.cell? ⟨bx, 0, none⟩ = some (.int .i64 y.a) ∧ W.cell? ⟨bx, 1, none⟩ = some (.int .i64 y.m)) → Frm (sb :: rb :: blk p4) W W' → (W'.cell? ⟨bx, 0, none⟩ = some (.int .i64 y.a) ∧ W'.cell? ⟨bx, 1, none⟩ = some (.int .i64 y.m))) := hid (fun W W' hs hf => by
          have hn : bx ∉ sb :: rb :: blk p4 := fun hm => HX.out.1 (by
            simp only [foot2, List.mem_cons, List.mem_append] at hm ⊢
            rcases hm with h | h | h <;> simp [h])
          exact ⟨(hf.cell (World.block_lt_of_cell? W _ hs.1) hn).trans hs.1, (hf.cell (World.block_lt_of_cell? W _ hs.2) hn).trans hs.2⟩)
        by_cases k0 : k = 0
        · subst k0
          have HADD := hid (HLD.out.add HY.out)
          go_upto_region 15 with fail
          go_region_held3 (fun W => W.cell? ⟨bx, 0, none⟩ = some (.int .i64 y.a) ∧ W.cell? ⟨bx, 1, none⟩ = some (.int .i64 y.m)) (first | (exact HSD.out) | (exact HKS.out _ _ HSD.out (by assumption))) (first | ((with_reducible refine HADD.out.mono ?_); rintro e w6 ⟨E, rfl, hf6, hc6⟩; have HC6 := hid hc6; clear hc6) | ((with_reducible refine HC6.out.mono ?_); rintro e w7 ⟨rfl, hf7, hl7⟩))
          all_goals (
            have HL7 := hid hl7
            clear hl7
            go_wp2_with fail
            go_meet
            case rel => exact ⟨sb, rb, ob, wb, rfl, rfl, rfl, rfl, by first | rfl | simp, HL7⟩)
        by_cases k1 : k = 1
        · subst k1
          have HADD := hid (HLD.out.rem HY.out)
          go_upto_region 17 with fail
          go_region_held3 (fun W => W.cell? ⟨bx, 0, none⟩ = some (.int .i64 y.a) ∧ W.cell? ⟨bx, 1, none⟩ = some (.int .i64 y.m)) (first | (exact HSD.out) | (exact HKS.out _ _ HSD.out (by assumption))) (first | ((with_reducible refine HADD.out.mono ?_); rintro e w6 ⟨E, rfl, hf6, hc6⟩; have HC6 := hid hc6; clear hc6) | ((with_reducible refine HC6.out.mono ?_); rintro e w7 ⟨rfl, hf7, hl7⟩))
          all_goals (
            have HL7 := hid hl7
            clear hl7
            go_wp2_with fail
            go_meet
            case rel => exact ⟨sb, rb, ob, wb, rfl, rfl, rfl, rfl, by first | rfl | simp, HL7⟩)
        by_cases k2 : k = 2
        · subst k2
          have HH := hid (rhas_any rb q4 e4 ks y w5 HL5.out.now.r HL5.out.now.nm (by have := HL5.out.now.ln; omega) HY.out)
          go_wp2_with fail
          refine HH.out.mono ?_
          rintro e w6 ⟨b, rfl, hb, hf6⟩
          have HB := hid hb
          have HL6 := hid (HL5.out.stay hf6)
          obtain ⟨z0, z1⟩ := HKC.out _ _ hf6 ⟨x0, x1⟩
          have HM := hid (rmeets_any rb q4 e4 ks y w6 HL6.out.now.r HL6.out.now.nm (by have := HL6.out.now.ln; omega) HY.out)
          clear hb hf6 x0 x1
          go_wp2_with fail
          refine HM.out.mono ?_
          rintro e w7 ⟨b2, rfl, hb, hf7⟩
          have HB2 := hid hb
          have HL7 := hid (HL6.out.stay hf7)
          obtain ⟨x0, x1⟩ := HKC.out _ _ hf7 ⟨z0, z1⟩
          clear hb hf7 z0 z1
          go_wp2_with fail
          refine (HL7.out.has HY.out HB.out).mono ?_
          rintro e w8 ⟨rfl, hf8⟩
          have HL8 := hid (HL7.out.stay hf8)
          obtain ⟨z0, z1⟩ := HKC.out _ _ hf8 ⟨x0, x1⟩
          clear hf8 x0 x1
          go_wp2_with fail
          refine (HL8.out.meets HY.out HB2.out).mono ?_
          rintro e w9 ⟨rfl, hf9⟩
          have HL9 : Hid (LSt w w9 sb rb ob wb) := hid ⟨_, _, _, _, _, HL8.out.stay hf9⟩
          clear hf9 z0 z1
          go_wp2_with fail
          go_meet
          case rel => exact ⟨sb, rb, ob, wb, rfl, rfl, rfl, rfl, by first | rfl | simp, HL9⟩
        by_cases k3 : k = 3
        · subst k3
          have HH := hid (find_any sb p4 c4 ks y.m y.a w5 HL5.out.now.s HL5.out.now.nm HL5.out.now.ln HY.out.2 HY.out.1)
          obtain ⟨ab, hab⟩ : ∃ q, findR ks y.m y.a = q := ⟨_, rfl⟩
          obtain ⟨a, b⟩ := ab
          rw [hab] at HH
          go_wp2_with fail
          refine HH.out.mono ?_
          rintro e w6 ⟨rfl, hf6⟩
          have HL6 := hid (HL5.out.stay hf6)
          obtain ⟨z0, z1⟩ := HKC.out _ _ hf6 ⟨x0, x1⟩
          have HM := hid (rfind_any rb q4 e4 ks y.m y.a w6 HL6.out.now.r HL6.out.now.nm HL6.out.now.ln HY.out.2 HY.out.1)
          rw [hab] at HM
          clear hab hf6 x0 x1
          go_wp2_with fail
          refine HM.out.mono ?_
          rintro e w7 ⟨rfl, hf7⟩
          have HL7 : Hid (LSt w w7 sb rb ob wb) := hid ⟨_, _, _, _, _, HL6.out.stay hf7⟩
          clear hf7 z0 z1
          go_wp2_with fail
          go_meet
          case rel => exact ⟨sb, rb, ob, wb, rfl, rfl, rfl, rfl, by first | rfl | simp, HL7⟩
        by_cases k4 : k = 4
        · subst k4
          clear x0 x1
          go_wp2_with fail
          refine HL5.out.clone.mono ?_
          rintro e w6 ⟨s', rfl, hc6⟩
          have HC6 := hid hc6
          clear hc6
          go_wp2_with fail
          refine HC6.out.mono ?_
          rintro e w7 ⟨r', rfl, hf7, hl7⟩
          have HL7 := hid hl7
          clear hl7 hf7
          go_wp2_with fail
          go_meet
          case rel => exact ⟨s', r', sb, rb, rfl, rfl, rfl, rfl, rfl, HL7⟩
        · have HL7 : Hid (LSt w w5 sb rb ob wb) := hid ⟨_, _, _, _, _, HL5.out⟩
          clear x0 x1
          go_wp2_with fail
          go_meet
          case rel => exact ⟨sb, rb, ob, wb, rfl, rfl, rfl, rfl, rfl, HL7⟩
      obtain ⟨sb2, rb2, ob2, wb2, rfl, rfl, rfl, rfl, rfl, hl6⟩ := hcut
      have HL6 := hid hl6.out
      clear hl6 HX HKC HL5 x0 x1 y0 y1 y2
      go_wp2_with fail
      refine HL6.out.like.mono ?_
      rintro e w7 ⟨rfl, hf7⟩
      have HL7 := hid (HL6.out.stay hf7)
      clear hf7 HL6
      go_wp2_with fail
      go_roundw
      case rel => exact ⟨t + 1, sb2, rb2, ob2, wb2, by omega, by go_num, rfl, rfl, rfl, rfl, HL7⟩
      case measure => simp [intOf]; omega
    · obtain rfl : len = t := by omega
      have t1 : ¬ ((len : Int) < (len : Int)) := by omega
      have HL := hid hst.out
      clear hst
      go_wp2_with fail
      refine HL.out.was.mono ?_
      rintro e w5 ⟨rfl, hf5⟩
      go_wp2_with fail
      first | go_returns | skip
      exact ⟨rfl, hf5⟩
end Go.Proofs.Ytbgochkmplacaaa
