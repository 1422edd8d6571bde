/- The law's rack: does all that can be asked say the same? -/
import Derived.Test.YtfclamndjnoopaaDskAf
import Derived.Deep.DeepCutAuto
namespace Go.Proofs.Ytfclamndjnoopaa
open Go.RowKit Go.Lib
set_option maxRecDepth 100000

theorem failed_any (pb : Nat) (D : DSt) (w : World) (hd : IsDisk w pb D) :
    Calls Try.prog 43 #[.pointer (some ⟨D.db, 0, none⟩)] w fun e w' => e = .returned (.bool D.failed) ∧ w' = w := by
  obtain ⟨c0, c1, c2, c3, c4⟩ := hd.cells
  clear hd
  go_enter Try.func43, Try.ntmps43
  go_wp2_with fail
  go_returns
  exact ⟨rfl, rfl⟩
/-- The law's rack, and its list of disks. -/
structure LawR (w : World) (xb pb rb : Nat) (p : Option Addr) (c : Nat) (Ds : List DSt) : Prop where
  row : w.heap[xb]? = some (.cells #[.pointer (some ⟨pb, 0, none⟩), .slice p Ds.length c, .pointer (some ⟨rb, 0, none⟩)] 53 (0, 0))
  own : w.ownsRow 0 26 1 (.slice p Ds.length c) Ds.length (Ds.map (fun D => .pointer (some ⟨D.db, 0, none⟩)))
theorem LawR.kept {w w' : World} {xb pb rb : Nat} {p : Option Addr} {c : Nat} {Ds : List DSt} {T : List Nat} (h : LawR w xb pb rb p c Ds) (hf : Frm T w w') (hx : xb ∉ T) (hp : ∀ k ∈ blk p, k ∉ T) : LawR w' xb pb rb p c Ds :=
  ⟨hf.heap h.row hx, ownsRow_kept h.own hf hp⟩
theorem LawR.cells {w : World} {xb pb rb : Nat} {p : Option Addr} {c : Nat} {Ds : List DSt} (h : LawR w xb pb rb p c Ds) : w.cell? ⟨xb, 0, none⟩ = some (.pointer (some ⟨pb, 0, none⟩)) ∧ w.cell? ⟨xb, 1, none⟩ = some (.slice p Ds.length c) ∧ w.cell? ⟨xb, 2, none⟩ = some (.pointer (some ⟨rb, 0, none⟩)) := by
  refine ⟨?_, ?_, ?_⟩ <;> (rw [cell_of_row w _ _ _ _ _ h.row]; rfl)
theorem LawR.at {w : World} {xb pb rb : Nat} {p : Option Addr} {c : Nat} {Ds : List DSt} (h : LawR w xb pb rb p c Ds) {i : Nat} {D : DSt} (hi : Ds[i]? = some D) : ∃ g, p = some ⟨g, 0, none⟩ ∧ w.cell? ⟨g, i, none⟩ = some (.pointer (some ⟨D.db, 0, none⟩)) := by
  obtain ⟨g, h1, h2, _⟩ := own_cell h.own (k := i) (v := .pointer (some ⟨D.db, 0, none⟩)) (by rw [List.getElem?_map, hi]; rfl)
  exact ⟨g, h1, h2⟩
set_option maxHeartbeats 3200000 in
theorem alike_any (idx : Nat → Nat) (xb pb : Nat) (S : PSt) (Ds : List DSt) (F : List Nat) (φ : Nat → Rl) (H : RHp) (p : Option Addr) (c : Nat) (w : World) (h : Pair idx w pb S Ds F φ H) (hl : LawR w xb pb H.rb p c Ds) :
    Calls Try.prog 23 #[.pointer (some ⟨xb, 0, none⟩)] w fun e w' => e = .returned (.bool true) ∧ Frm [] w w' := by
  have HP := hid h
  have HL := hid hl
  obtain ⟨x0, x1, x2⟩ := hl.cells
  obtain ⟨c0, c1, c2, c3, c4⟩ := h.rf.cells
  rw [h.rel.off] at c3
  rw [h.rel.wr] at c4
  have hwn : H.ws.length = S.ws.length := by have := congrArg List.length h.rel.ws; simpa using this
  have hdn : H.ds.length = Ds.length := h.rel.len
  have hd6 : H.ds.length ≤ 6 := h.rf.dl
  rw [hwn] at c1
  rw [hdn] at c0 hd6
  have HON : Hid (∀ n, Calls Try.prog 14 #[.pointer (some ⟨pb, 0, none⟩)] (w.drewN n) fun e w' => e = .returned (.bool (!S.out)) ∧ w' = w.drewN n) := hid (fun n => rOn pb S Ds F _ (h.rk.kept ((Frm.refl [] w).drewN n) (by simp)))
  have HWA : Hid (∀ n, Calls Try.prog 16 #[.pointer (some ⟨pb, 0, none⟩)] (w.drewN n) fun e w' => e = .returned (.int .i64 (S.ws.length : Int)) ∧ w' = w.drewN n) := hid (fun n => rWaiting pb S Ds F _ (h.rk.kept ((Frm.refl [] w).drewN n) (by simp)))
  have HWR : Hid (∀ n, Calls Try.prog 15 #[.pointer (some ⟨pb, 0, none⟩)] (w.drewN n) fun e w' => e = .returned (.int .i64 S.writes) ∧ w' = w.drewN n) := hid (fun n => rWrites pb S Ds F _ (h.rk.kept ((Frm.refl [] w).drewN n) (by simp)))
  obtain ⟨N, hN⟩ : ∃ n, S.ws.length = n := ⟨_, rfl⟩
  obtain ⟨M, hM⟩ : ∃ n, Ds.length = n := ⟨_, rfl⟩
  obtain ⟨O, hO⟩ : ∃ o, S.out = o := ⟨_, rfl⟩
  obtain ⟨WR, hWR⟩ : ∃ o, S.writes = o := ⟨_, rfl⟩
  rw [hN] at c1 HWA
  rw [hM] at x1 c0 hd6
  rw [hO] at c3 HON
  rw [hWR] at c4 HWR
  have HM := hid hM
  have bo : ((!O) == O) = false := by cases O <;> rfl
  clear h hl hwn hdn hN hM hO hWR c2
  go_enter Try.func23, Try.ntmps23
  go_upto_region 1 with fail
  go_quiet ((first | (go_at_call 14; with_reducible exact Calls.quiet_of_same (HON.out _)) | (go_at_call 16; with_reducible exact Calls.quiet_of_same (HWA.out _)) | (go_at_call 15; with_reducible exact Calls.quiet_of_same (HWR.out _))))
  go_wp2_with fail
  go_loopw [3, 2] (fun t s2 wr => ∃ j : Nat, j ≤ M ∧ t = .int .i64 (j : Int) ∧ Hid (Frm [] w wr)) (fun t _ _ => M - (intOf t).toNat)
  case atStart => exact ⟨0, by omega, rfl, hid (by first | exact Frm.refl _ _ | exact (Frm.refl _ _).drew | exact (Frm.refl _ _).drewN _)⟩
  case round =>
    clear HON HWA HWR x0 x1 x2 c0 c1 c3 c4 bo
    obtain ⟨j, hj, rfl, hfr⟩ := hrel
    obtain ⟨hp, _⟩ := HP.out.kept hfr.out (by simp) (by simp)
    have hl := HL.out.kept hfr.out (by simp) (by simp)
    obtain ⟨_, x1, x2⟩ := hl.cells
    obtain ⟨c0, _, _, _, _⟩ := hp.rf.cells
    rw [hp.rel.len, HM.out] at c0
    rw [HM.out] at x1
    by_cases hlt : j < M
    · have t1 : (j : Int) < (M : Int) := by omega
      obtain ⟨D, hD⟩ : ∃ D, Ds[j]? = some D := ⟨_, List.getElem?_eq_getElem (by rw [HM.out]; exact hlt)⟩
      obtain ⟨d, hd⟩ : ∃ d, H.ds[j]? = some d := ⟨_, List.getElem?_eq_getElem (by rw [hp.rel.len, HM.out]; exact hlt)⟩
      obtain ⟨g, hg, y0⟩ := hl.at hD
      obtain ⟨gd, hgd, d0, d1, d2⟩ := hp.rf.at hd
      have rd := hp.rel.dk j D d hD hd
      rw [rd.n] at d1
      rw [rd.fl] at d2
      rw [hg] at x1
      rw [hgd] at c0
      have hn2 : D.n ≤ 8192 := (hp.rk.disk hD).n2
      have HFA : Hid (∀ n, Calls Try.prog 43 #[.pointer (some ⟨D.db, 0, none⟩)] (wr.drewN n) fun e w' => e = .returned (.bool D.failed) ∧ w' = wr.drewN n) := hid (fun n => failed_any pb D _ ((hp.rk.kept ((Frm.refl [] wr).drewN n) (by simp)).disk hD))
      have HSE : Hid (∀ n, Calls Try.prog 25 #[.pointer (some ⟨D.db, 0, none⟩)] (wr.drewN n) fun e w' => e = .returned (.int .i64 (D.n : Int)) ∧ w' = wr.drewN n) := hid (fun n => sectors_any pb D _ ((hp.rk.kept ((Frm.refl [] wr).drewN n) (by simp)).disk hD))
      obtain ⟨FL, hFL⟩ : ∃ b, D.failed = b := ⟨_, rfl⟩
      obtain ⟨L, hLL⟩ : ∃ b, D.n = b := ⟨_, rfl⟩
      rw [hFL] at d2 HFA
      rw [hLL] at d1 HSE hn2
      have bf : (FL != FL) = false := by cases FL <;> rfl
      clear hp hl hD hd hg hgd rd hFL hLL
      go_upto_region 6 with fail
      go_quiet ((first | (go_at_call 43; with_reducible exact Calls.quiet_of_same (HFA.out _)) | (go_at_call 25; with_reducible exact Calls.quiet_of_same (HSE.out _))))
      go_wp2_with fail
      go_roundw
      case rel => exact ⟨j + 1, by omega, by go_num, by first | exact hid hfr.out.drew | exact hid (hfr.out.drewN _) | exact hfr⟩
      case measure => first | (simp [intOf]; done) | (simp [intOf]; omega)
    · obtain rfl : j = M := by omega
      clear hp hl
      go_wp2_with fail
      go_returns
      exact ⟨rfl, hfr.out⟩
end Go.Proofs.Ytfclamndjnoopaa
