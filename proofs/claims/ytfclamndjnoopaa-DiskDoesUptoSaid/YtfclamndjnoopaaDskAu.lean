/- DiskDoes, walked. -/
import Derived.Test.YtfclamndjnoopaaDskAt
namespace Go.Proofs.Ytfclamndjnoopaa
open Go.RowKit Go.Lib
set_option maxRecDepth 100000

/-- The whole rack at the end of a call list. -/
theorem LawD.up {W0 : World} {idx : Nat → Nat} {xb pb rb : Nat} {p : Option Addr} {c n : Nat} {b : Int} {w w3 w4 : World} {S S' : PSt} {Ds Ds' : List DSt} {F : List Nat} {φ φ' : Nat → Rl} {H H' : RHp} (h : LawD W0 idx xb pb rb p c n b w S Ds F φ H) (l : Left w pb F S' Ds' w3) (d : RStp w3 φ H H' φ' w4) (r : Rel idx S' Ds' H') (e : Ds'.map DSt.db = Ds.map DSt.db) (hb : S'.writes + S'.ws.length ≤ S.writes + S.ws.length) : LawDs W0 idx xb pb rb p c n b w4 :=
  h.adv (h.pr.adv l d r) e (by have := h.cw; omega)
set_option maxHeartbeats 12800000 in
theorem diskdoes_any (ps : Option Addr) (ns cs : Nat) (po : Option Addr) (no co : Nat) (w : World) (hI : CameI w ps ns cs) (hns : ns ≤ 1048576) (hO : CameOps w 1048576 po no co) :
    Calls Try.prog 6 #[.slice ps ns cs, .slice po no co] w fun e w' => e = .returned (.bool true) ∧ Frm [] w w' := by
  have HI := hid hI
  have HO := hid hO
  have hno : no ≤ 1048576 := hO.2.2.1
  clear hI hO
  go_enter Try.func6, Try.ntmps6
  go_wp2_with fail
  refine (awake3_any _).mono ?_
  rintro e w0 ⟨rfl, hf0⟩
  have HBT := hid (built_any w ps ns cs w0 hf0 HI.out hns)
  clear hf0 HI
  go_wp2_with fail
  refine HBT.out.mono ?_
  rintro e w1 ⟨xb, pb, rb, n, rfl, hbd⟩
  have HST : Hid (∃ idx p c, LawDs w idx xb pb rb p c n (16384 * (0 : Nat)) w1) := hid (by
    obtain ⟨idx, p, c, Ds, F, φ, H, hb⟩ := hbd.out
    exact ⟨idx, p, c, _, _, _, _, _, hb.l⟩)
  obtain ⟨idx, p, c, hst⟩ := HST.out
  have HS := hid hst
  have hn6 : n ≤ 6 := by
    obtain ⟨_, _, _, _, _, h⟩ := hst
    have h1 := h.pr.rf.dl
    rw [h.pr.rel.len, h.ln] at h1
    exact h1
  clear HBT hbd hst HST
  go_wp2_with fail
  go_loopw [8, 9, 10, 4] (fun t s9 s10 s4 wr => ∃ j : Nat, j ≤ no ∧ t = .int .i64 (j : Int) ∧ Hid (LawDs w idx xb pb rb p c n (16384 * (j : Nat)) wr)) (fun t _ _ _ _ => no - (intOf t).toNat)
  case atStart => exact ⟨0, Nat.zero_le _, rfl, HS⟩
  case round =>
    clear HS
    obtain ⟨j, hj, rfl, hin⟩ := hrel
    by_cases hlt : j < no
    · have t1 : (j : Int) < (no : Int) := by omega
      obtain ⟨g, o, rfl, hops⟩ : ∃ g o, po = some ⟨g, o, none⟩ ∧ ∀ i, i < no → ∃ d, w.rangeAt g (o + i * 6) (OpS.row d) ∧ OpIn w 1048576 d := by
        rcases HO.out.2.2.2 with h | h
        · omega
        · exact h
      obtain ⟨d, hrg, hop⟩ := hops j hlt
      obtain ⟨S, Ds, F, φ, H, hl⟩ := hin.out
      have hrg' := range_kept hrg hl.fr
      have a0 : wr.cell? ⟨g, o + j * 6, none⟩ = some (.int .i64 d.kind) := hrg' 0 _ rfl
      have a1 := hrg' 1 _ rfl
      have a2 := hrg' 2 _ rfl
      have a3 := hrg' 3 _ rfl
      have a4 := hrg' 4 _ rfl
      have a5 := hrg' 5 _ rfl
      have HC := hid (does3_any w idx xb pb rb p c n _ wr S Ds F φ H d hl hop (by omega))
      clear hops hrg hrg' hop hl
      go_wp2_with fail
      refine HC.out.mono ?_
      rintro e w3 ⟨rfl, hds⟩
      obtain ⟨S3, Ds3, F3, φ3, H3, hl3⟩ := hds.out
      have HL3 := hid hl3
      have HAL := hid (alike_any idx xb pb S3 Ds3 F3 φ3 H3 p c w3 hl3.pr (by rw [hl3.er]; exact hl3.lw))
      clear HC hds hl3 a0 a1 a2 a3 a4 a5
      go_wp2_with fail
      refine HAL.out.mono ?_
      rintro e w4 ⟨rfl, hf4⟩
      have HN : Hid (LawDs w idx xb pb rb p c n (16384 * ((j + 1 : Nat) : Int)) w4) := hid ⟨_, _, _, _, _, by have h := HL3.out.kept hf4; rw [show (16384 * ((j + 1 : Nat) : Int)) = 16384 * (j : Int) + 16384 by omega]; exact h⟩
      clear HAL HL3 hf4
      go_wp2_with fail
      go_roundw
      case rel => exact ⟨j + 1, by omega, by go_num, HN⟩
      case measure => simp [intOf]; omega
    · obtain rfl : j = no := by omega
      obtain ⟨S, Ds, F, φ, H, hl⟩ := hin.out
      obtain ⟨wa, rfl⟩ : ∃ W, W = wr := ⟨_, rfl⟩
      have HL := hid hl
      clear hl hin HO
      go_wp2_with fail
      go_loopw [11, 12, 4] (fun t s12 s4 wr => ∃ j : Nat, j ≤ n ∧ t = .int .i64 (j : Int) ∧ Hid (Frm [] wa wr)) (fun t _ _ _ => n - (intOf t).toNat)
      case atStart => exact ⟨0, Nat.zero_le _, rfl, hid (Frm.refl _ _)⟩
      case round =>
        obtain ⟨j, hj, rfl, hfr⟩ := hrel
        obtain ⟨x0, x1, x2⟩ := (HL.out.kept hfr.out).lw.cells
        rw [HL.out.ln] at x1
        by_cases hlt : j < n
        · have t1 : (j : Int) < (n : Int) := by omega
          obtain ⟨D, hD⟩ : ∃ D, Ds[j]? = some D := ⟨_, List.getElem?_eq_getElem (by rw [HL.out.ln]; exact hlt)⟩
          obtain ⟨g, hg, y0⟩ := (HL.out.kept hfr.out).lw.at hD
          rw [hg] at x1
          have HSE := hid (sectors_any pb D wr ((HL.out.kept hfr.out).pr.rk.disk hD))
          have hn2 : D.n ≤ 8192 := ((HL.out.kept hfr.out).pr.rk.disk hD).n2
          have HRD := hid (reads_any idx xb pb S Ds F φ H p c j 0 (D.n : Int) wr (HL.out.kept hfr.out).pr (by rw [HL.out.er]; exact (HL.out.kept hfr.out).lw) (by rw [HL.out.ln]; exact hlt) (by omega) (by omega))
          obtain ⟨sn, hsn⟩ : ∃ q, D.n = q := ⟨_, rfl⟩
          rw [hsn] at HSE HRD
          clear hD hg hsn hn2
          go_wp2_with fail
          refine HSE.out.mono ?_
          rintro e wq ⟨rfl, rfl⟩
          clear HSE
          go_wp2_with fail
          refine HRD.out.mono ?_
          rintro e w5 ⟨rfl, hf5⟩
          have HF := hid (hfr.out.trans hf5 (by simp))
          clear hf5 HRD
          go_wp2_with fail
          go_roundw
          case rel => exact ⟨j + 1, by omega, by go_num, HF⟩
          case measure => simp [intOf]; omega
        · obtain rfl : n = j := by omega
          have HLE := hid (HL.out.kept hfr.out)
          obtain ⟨q, cq, hk, _⟩ := HLE.out.pr.rk
          have HU := hid (rUpNil pb S Ds F wr HLE.out.pr.rk)
          have HRU : Hid (∀ w3, Left wr pb F S.up (Ds.map (DSt.up S [])) w3 → _) := hid (fun w3 l => refUpR hk HLE.out.pr.rel φ none [] 0 w3 (by obtain ⟨_, _, h2⟩ := l; exact HLE.out.pr.rf.far h2.fr HLE.out.pr.ap) (Or.inl rfl) (by simp) (by simp))
          rw [HLE.out.er] at HRU
          have HX2 : Hid (∀ w3, Left wr pb F S.up (Ds.map (DSt.up S [])) w3 → w3.cell? ⟨xb, 2, none⟩ = some (.pointer (some ⟨rb, 0, none⟩))) := hid (fun w3 l => by
            obtain ⟨_, _, h2⟩ := l
            exact (h2.fr.cell (p := ⟨xb, 2, none⟩) (World.block_lt_of_cell? wr _ x2) (fun hm => HLE.out.xs xb (Or.inl rfl) (List.mem_append_left _ hm))).trans x2)
          clear HL hfr hk
          go_wp2_with fail
          refine HU.out.mono ?_
          rintro e w3 ⟨rfl, hl3⟩
          have z2 := HX2.out w3 hl3
          have HR3 := hid (HRU.out w3 hl3)
          have HL3 := hid hl3
          clear hl3 HX2 HRU HU x2 x0
          go_wp2_with fail
          refine HR3.out.mono ?_
          rintro e w4 ⟨rfl, H4, φ4, hs4, hr4⟩
          obtain ⟨S, Ds, F, φ, H, hl⟩ := HLE.out.up HL3.out hs4 hr4 map_db_up (up_count S)
          obtain ⟨wa, rfl⟩ : ∃ W, W = w4 := ⟨_, rfl⟩
          have HL := hid hl
          clear HR3 HL3 hs4 hr4 hl HLE z2
          go_wp2_with fail
          go_loopw [13, 14, 4] (fun t s12 s4 wr => ∃ j : Nat, j ≤ n ∧ t = .int .i64 (j : Int) ∧ Hid (Frm [] wa wr)) (fun t _ _ _ => n - (intOf t).toNat)
          case atStart => exact ⟨0, Nat.zero_le _, rfl, hid (Frm.refl _ _)⟩
          case round =>
            obtain ⟨j, hj, rfl, hfr⟩ := hrel
            obtain ⟨x0, x1, x2⟩ := (HL.out.kept hfr.out).lw.cells
            rw [HL.out.ln] at x1
            by_cases hlt : j < n
            · have t1 : (j : Int) < (n : Int) := by omega
              obtain ⟨D, hD⟩ : ∃ D, Ds[j]? = some D := ⟨_, List.getElem?_eq_getElem (by rw [HL.out.ln]; exact hlt)⟩
              obtain ⟨g, hg, y0⟩ := (HL.out.kept hfr.out).lw.at hD
              rw [hg] at x1
              have HSE := hid (sectors_any pb D wr ((HL.out.kept hfr.out).pr.rk.disk hD))
              have hn2 : D.n ≤ 8192 := ((HL.out.kept hfr.out).pr.rk.disk hD).n2
              have HRD := hid (reads_any idx xb pb S Ds F φ H p c j 0 (D.n : Int) wr (HL.out.kept hfr.out).pr (by rw [HL.out.er]; exact (HL.out.kept hfr.out).lw) (by rw [HL.out.ln]; exact hlt) (by omega) (by omega))
              obtain ⟨sn, hsn⟩ : ∃ q, D.n = q := ⟨_, rfl⟩
              rw [hsn] at HSE HRD
              clear hD hg hsn hn2
              go_wp2_with fail
              refine HSE.out.mono ?_
              rintro e wq ⟨rfl, rfl⟩
              clear HSE
              go_wp2_with fail
              refine HRD.out.mono ?_
              rintro e w5 ⟨rfl, hf5⟩
              have HF := hid (hfr.out.trans hf5 (by simp))
              clear hf5 HRD
              go_wp2_with fail
              go_roundw
              case rel => exact ⟨j + 1, by omega, by go_num, HF⟩
              case measure => simp [intOf]; omega
            · obtain rfl : n = j := by omega
              have HFN := hid (HL.out.kept hfr.out).fr
              clear HL hfr x0 x2
              go_wp2_with fail
              go_returns
              exact ⟨rfl, HFN.out⟩
end Go.Proofs.Ytfclamndjnoopaa
