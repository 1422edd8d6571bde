/- SpaceJoins, walked. -/
import Derived.Test.YtkbppkimpefilaaSpE
namespace Go.Proofs.Ytkbppkimpefilaa
open Go.RowKit Go.Lib
set_option maxRecDepth 100000

/-- A list of entries that came in. -/
def CameE (w : World) (p : Option Addr) (n c : Nat) (es : List Sq) : Prop := Rv w p (rowE es) ∧ es.length = n ∧ InE es ∧ n ≤ c ∧ c ≤ 9223372036854775807 ∧ (p = none → c = 0)
theorem InE.take {es : List Sq} (h : InE es) (k : Nat) : InE (es.take k) := fun y hy => h y (List.mem_of_mem_take hy)
theorem in_join {m : List Sp} {B : List Sq} (hn : Norm 0 m) (hB : InE B) : InE (toE m ++ B) := fun y hy => by
  rcases List.mem_append.1 hy with h | h
  · obtain ⟨s, hs, rfl⟩ := List.mem_map.1 h
    obtain ⟨i, hi⟩ := List.mem_iff_getElem?.1 hs
    have := hn.fits hi
    obtain ⟨h1, h2, h3, h4⟩ := this
    unfold Sp.In
    simp only
    omega
  · exact hB y h
set_option maxHeartbeats 12800000 in
theorem spacejoins_any (p : Option Addr) (n c : Nat) (es : List Sq) (a : Int) (w : World) (h : CameE w p n c es) (ha : -9223372036854775808 ≤ a ∧ a ≤ 9223372036854775807) :
    Calls Try.prog 6 #[.slice p n c, .int .i64 a] w fun e w' => e = .returned (.bool true) ∧ Frm [] w w' := by
  obtain ⟨h1, h2, h3, h4, h5, h6⟩ := h
  have HR := hid (fun W (hf : Frm [] w W) => h1.kept hf (by simp))
  have HN := hid h2
  have HIN := hid h3
  have HNIL := hid h6
  have HAW := hid (awake10_any w)
  clear h1 h2 h3 h6
  go_enter Try.func6, Try.ntmps6
  go_wp2_with fail
  refine HAW.out.mono ?_
  rintro e w1 ⟨rfl, hf1⟩
  have HF1 := hid hf1
  clear hf1 HAW
  by_cases a0 : a < 0
  · go_wp2_with fail
    first | go_returns | skip
    exact ⟨rfl, HF1.out⟩
  obtain ⟨k, rfl⟩ : ∃ k : Nat, a = k := ⟨a.toNat, by omega⟩
  by_cases ak : n < k
  · have t1 : (n : Int) < (k : Int) := by omega
    go_wp2_with fail
    first | go_returns | skip
    exact ⟨rfl, HF1.out⟩
  have t1 : ¬ (n : Int) < (k : Int) := by omega
  by_cases an : 2000 < n
  · have t2 : (2000 : Int) < (n : Int) := by omega
    go_wp2_with fail
    first | go_returns | skip
    exact ⟨rfl, HF1.out⟩
  have t2 : ¬ (2000 : Int) < (n : Int) := by omega
  go_wp2_with fail
  refine (repE_any p n c es w1 (HR.out _ HF1.out) HN.out HIN.out (by omega)).mono ?_
  rintro e w2 ⟨E, r, hc, hf2, hh⟩
  have HF2 := hid (HF1.out.trans hf2 (by simp))
  have HC := hid hc
  clear hc hf2 HF1
  have hu : Try.prog.underlying 22 = some (.slice 41) := Try.underlying22
  have hs1 : ∀ W, (Instr.slice 22 (.slice p n c) none (some (.int .i64 (k : Int))) none).run Try.prog W = _ := fun W => sl_h hu infoSq p n c k (by omega) W
  have hs2 : ∀ W, (Instr.slice 22 (.slice p n c) (some (.int .i64 (k : Int))) none none).run Try.prog W = _ := fun W => sl_l hu infoSq p n c k (by omega) W
  rcases hh with ⟨hE, rfl⟩ | ⟨rfl, sb, ps, cs, rfl, q1, q2, q3, q4⟩
  · have hb : (E != 0) = true := by simpa using hE
    have HCO := hid (conE_any p k c (es.take k) w2 (by rw [← rowE_take]; exact (HR.out _ HF2.out).takeV) (by rw [List.length_take, HN.out]; omega) (HIN.out.take k) (by omega))
    clear hE hs2
    go_wp2_with fail
    refine HCO.out.mono ?_
    rintro e w3 ⟨E3, r3, _, hf3, _, _, pc, cc, rfl, _, _⟩
    have HF3 := hid (HF2.out.trans hf3 (by simp))
    clear hf3 HCO
    go_wp2_with fail
    first | go_returns | skip
    exact ⟨rfl, HF3.out⟩
  have HS := hid (fun W (hf : Frm [] w2 W) => q1.k0 hf)
  have HNO := hid q2
  have HLE := hid q3
  obtain ⟨m, hm1, hm2, hm3⟩ := HC.out.join k
  have HM1 := hid hm1
  have HM2 := hid hm2
  have HM3 := hid hm3
  have HTK : Hid (Rv w2 p (rowE (es.take k))) := hid (by rw [← rowE_take]; exact (HR.out _ HF2.out).takeV)
  have HDR : Hid (∀ W, Frm [] w W → Rv W (partAt p c k 3) (rowE (es.drop k))) := hid (fun W hf => by
    rw [← rowE_drop]
    exact partAt_rv p c k (rowE es) n (by rw [rowE_len, HN.out]) (by omega) h4 (HR.out _ hf))
  have HDN : Hid (n - k = 0 → partAt p c k 3 = none → c - k = 0) := hid (fun _ hp => by
    have : p = none := by
      unfold partAt at hp
      split at hp
      · exact hp
      · simpa using hp
    have := HNIL.out this
    omega)
  have HCO := hid (conE_any p k c (es.take k) w2 HTK.out (by rw [List.length_take, HN.out]; omega) (HIN.out.take k) (by omega))
  clear hm1 hm2 hm3 q1 q2 q3 q4
  go_wp2_with fail
  refine HCO.out.mono ?_
  rintro e w3 ⟨E, r3, hc, hf3, z1, z2, pc, cc, rfl, z3, z4⟩
  obtain ⟨rfl, rfl⟩ := HM1.out.det hc
  have HF3 := hid (HF2.out.trans hf3 (by simp))
  have HF23 := hid hf3
  have HO3 := hid z3
  have HZ1 := hid z1
  have HZ4 := hid z4
  have hml := HM2.out
  obtain ⟨L, hL⟩ : ∃ q, r3.length = q := ⟨_, rfl⟩
  rw [hL] at HO3 z2 hml ⊢
  have HL := hid hL
  have HZ2 := hid z2
  have HOW := hid HO3.out.1
  clear hc hf3 z1 z2 z3 z4 HCO hL
  go_wp2_with (at_builtin; refine wpList_appV rfl _ _ 22 rfl 41 3 24 _ Try.underlying22 infoSq rfl (by decide) pc L cc (rowE (toE r3)) rfl HOW.out (partAt p c k 3) (n - k) (c - k) (rowE (es.drop k)) rfl (by rw [rowE_len, List.length_drop, HN.out]) HDN.out (HDR.out _ HF3.out) (rowE_one _) (by unfold maxLen; omega) (by omega) ?_)
  intro p6 c6 w6 ho6 hf6 hb6
  have HF6 : Hid (Frm [] w2 w6) := hid (HF23.out.trans hf6.out (fun i hi hil => by have := HZ4.out i hi; omega))
  have HO6 : Hid (OwnE w6 p6 (L + (n - k)) c6 (toE r3 ++ es.drop k)) := hid ⟨by rw [rowE_app]; exact ho6.out, by rw [List.length_append, toE, List.length_map, HL.out, List.length_drop, HN.out]⟩
  have HRE := hid (repE_any p6 (L + (n - k)) c6 (toE r3 ++ es.drop k) w6 HO6.out.rv HO6.out.2 (in_join HZ1.out (fun y hy => HIN.out y (List.mem_of_mem_drop hy))) (by omega))
  clear ho6 hf6 hb6 HOW HF23 HO3 HZ4
  go_wp2_with fail
  refine HRE.out.mono ?_
  rintro e w7 ⟨E, r7, hc, hf7, hh⟩
  obtain ⟨e1, e2⟩ := HM3.out HZ1.out (by rw [HL.out]; omega) (by rw [HL.out, List.length_drop, HN.out]; omega) hc
  have HF7 := hid (HF6.out.trans hf7 (by simp))
  subst e2
  subst e1
  rcases hh with ⟨hE, _⟩ | ⟨_, tb, pt, ct, rfl, q1, q2, q3, q4⟩
  · exact absurd rfl hE
  have HT := hid (fun W (hf : Frm [] w7 W) => q1.k0 hf)
  have HAL := hid (all9_any sb ps cs r7 w7 (HS.out _ HF7.out) (by have := HLE.out; omega))
  have HALT := hid (fun W (hf : Frm [] w7 W) => all9_any tb pt ct r7 W (HT.out W hf) (by have := HLE.out; omega))
  obtain ⟨M, hM⟩ : ∃ q, r7.length = q := ⟨_, rfl⟩
  have HMB : Hid (M ≤ 1000000) := hid (by rw [← hM]; have := HLE.out; omega)
  rw [hM] at HAL HALT
  clear hc hf7 q1 q2 q3 q4 hM HRE HF6 HO6
  go_wp2_with fail
  refine HAL.out.mono ?_
  rintro e w8 ⟨pa, ca, rfl, ho8, hf8, _⟩
  have HO8 := hid ho8
  have HF8 := hid hf8
  clear ho8 hf8 HAL
  go_wp2_with fail
  refine (HALT.out _ HF8.out).mono ?_
  rintro e w9 ⟨pb, cb, rfl, ho9, hf9, _⟩
  have HSA := hid (same9_any pa pb ca cb r7 M w9 (HO8.out.kept hf9 (by simp)) ho9 HMB.out)
  have HF9 := hid (HF7.out.trans (HF8.out.trans hf9 (by simp)) (by simp))
  clear ho9 hf9 HO8
  go_wp2_with fail
  refine HSA.out.mono ?_
  rintro e w10 ⟨rfl, hf10⟩
  have HFF := hid (HF2.out.trans (HF9.out.trans hf10 (by simp)) (by simp))
  clear hf10
  go_wp2_with fail
  first | go_returns | skip
  exact ⟨rfl, HFF.out⟩
end Go.Proofs.Ytkbppkimpefilaa
