/- Contracts of package volume: Read, Write, Discard. -/
import Derived.Test.YthifchkeapbfdaaVolA
namespace Go.Proofs.Ythifchkeapbfdaa
open Go.RowKit
set_option maxRecDepth 100000

theorem hasB_yes {n : Nat} {i many : Int} (h : hasB n i many = true) : ∃ a k : Nat, i = a ∧ many = k ∧ a + k ≤ n := by
  simp [hasB] at h
  exact ⟨i.toNat, many.toNat, by omega, by omega, by omega⟩
set_option maxHeartbeats 800000 in
theorem volRead_no (b g : Nat) (bs : List Int) (i many : Int) (w : World) (hv : IsVol w b g bs) (h : hasB bs.length i many = false) :
    Calls Try.prog 15 #[.pointer (some ⟨b, 0, none⟩), .int .i64 i, .int .i64 many] w fun e w' => e = .returned (.tuple #[.slice none 0 0, .int .i64 186]) ∧ w = w' := by
  have HV := hid hv
  have HH := hid h
  clear hv h
  go_enter Try.func15, Try.ntmps15
  go_wp2_with fail
  refine (has_any b g bs i many _ HV.out).mono ?_
  rintro e w1 ⟨rfl, rfl⟩
  rw [HH.out]
  go_wp2_with fail
  go_returns
  exact ⟨rfl, rfl⟩
set_option maxHeartbeats 800000 in
theorem volRead_ok (b g : Nat) (bs : List Int) (i k : Nat) (w : World) (hv : IsVol w b g bs) (h : i + k ≤ bs.length) :
    Calls Try.prog 15 #[.pointer (some ⟨b, 0, none⟩), .int .i64 i, .int .i64 k] w fun e w' => ∃ p n c, e = .returned (.tuple #[.slice p n c, .int .i64 0]) ∧ n = k ∧ ((bs.drop i).take k).length = k ∧ Own w' 5 (.slice p n c) ((bs.drop i).take k) ∧ Frm [] w w' ∧ ∀ k ∈ blk p, w.heap.size ≤ k := by
  have HV := hid hv
  have l2 := hv.l2
  obtain ⟨lb, lg, c0, hrd⟩ := hv.cells
  have HR := hid hrd
  have hh : hasB bs.length i k = true := by simp [hasB]; omega
  have HH := hid hh
  have hll : ((bs.drop i).take k).length = k := by simp only [List.length_take, List.length_drop]; omega
  have HLL := hid hll
  have hr2 : Rd w (if bs.length = i then (some ⟨g, 0, none⟩ : Option Addr) else some ⟨g, i, none⟩) ((bs.drop i).take k) := by
    by_cases hc : bs.length = i
    · exact Or.inl (List.eq_nil_of_length_eq_zero (by rw [hll]; omega))
    · rw [if_neg hc]
      have := (hrd.drop i).take k
      rwa [Nat.zero_add] at this
  have HR2 := hid hr2
  have HPC : Hid ((bs.drop i).take k = [] → (if bs.length = i then (some ⟨g, 0, none⟩ : Option Addr) else some ⟨g, i, none⟩) = none → bs.length - i = 0) := fun _ h => by split at h <;> cases h
  obtain ⟨zs, hzs⟩ : ∃ zs, (bs.drop i).take k = zs := ⟨_, rfl⟩
  rw [hzs] at HLL HR2 HPC hll
  rw [hzs]
  have hb1 : (0 : Int) ≤ (i : Int) := by omega
  have hb2 : (i : Int) ≤ (i : Int) + (k : Int) := by omega
  have hb3 : (i : Int) + (k : Int) ≤ (bs.length : Int) := by omega
  clear hv hrd hh hr2 hzs hll
  have HK := hid (show ((i : Int) + (k : Int)).toNat - i = zs.length by rw [HLL.out]; omega)
  go_enter Try.func15, Try.ntmps15
  go_wp2_with fail
  refine (has_any b g bs i k _ HV.out).mono ?_
  rintro e w1 ⟨rfl, rfl⟩
  rw [HH.out]
  go_wp2_with (at_builtin; refine wpList_appB rfl _ _ 44 rfl 5 Try.underlying44 infoB none 0 0 [] rfl rfl (Own.nil _ _) _ _ _ zs rfl HK.out HPC.out HR2.out (by rw [HLL.out]; simp; omega) ?_)
  all_goals
    intro xs p2 c2 w2 hxs ho hf hfr
    have hx : xs = zs := hxs.out
    subst xs
    have hf' : Frm [] w w2 := hf.out
    have HF := hid hf'
    have hnew : ∀ k ∈ blk p2, w.heap.size ≤ k := fun k hk => (hfr.out k hk).elim (fun h => by simp [blk] at h) id
    have HN := hid hnew
    clear hf hf' hfr hnew HR2 HPC
    go_wp2_with fail
    go_returns
    exact ⟨p2, zs.length, c2, rfl, HLL.out, HLL.out, ho.out, HF.out, HN.out⟩
set_option maxHeartbeats 800000 in
theorem volWrite_no (b g : Nat) (bs : List Int) (i : Int) (p : Option Addr) (n c : Nat) (w : World) (hv : IsVol w b g bs) (_hn : n ≤ 9223372036854775807) (h : hasB bs.length i n = false) :
    Calls Try.prog 14 #[.pointer (some ⟨b, 0, none⟩), .int .i64 i, .slice p n c] w fun e w' => e = .returned (.int .i64 186) ∧ w = w' := by
  have HV := hid hv
  have HH := hid h
  clear hv h
  go_enter Try.func14, Try.ntmps14
  go_wp2_with fail
  refine (has_any b g bs i n _ HV.out).mono ?_
  rintro e w1 ⟨rfl, rfl⟩
  rw [HH.out]
  go_wp2_with fail
  go_returns
  exact ⟨rfl, rfl⟩
set_option maxHeartbeats 800000 in
theorem volWrite_ok (b g : Nat) (bs : List Int) (i : Nat) (p : Option Addr) (zs : List Int) (c : Nat) (w : World) (hv : IsVol w b g bs) (hrd : Rd w p zs) (hg : zs ≠ [] → g ∉ blk p) (h : i + zs.length ≤ bs.length) :
    Calls Try.prog 14 #[.pointer (some ⟨b, 0, none⟩), .int .i64 i, .slice p zs.length c] w fun e w' => e = .returned (.int .i64 0) ∧ IsVol w' b g (splice bs i zs) ∧ Frm [g] w w' := by
  have HV := hid hv
  have l2 := hv.l2
  obtain ⟨lb, lg, c0, _⟩ := hv.cells
  have HR := hid hrd
  have HG := hid hg
  have hh : hasB bs.length i zs.length = true := by simp [hasB]; omega
  have HH := hid hh
  clear hv hh hrd hg
  have HFA : Hid (Frm [] w (w.alloc (.cells #[.slice p zs.length c] 44))) := (Frm.refl _ _).alloc _
  have HV2 := hid (HV.out.kept HFA.out (by simp) (by simp))
  have HP : Hid (IsPcs (w.alloc (.cells #[.slice p zs.length c] 44)) g (some ⟨w.heap.size, 0, none⟩) [⟨p, c, zs⟩]) := by
    intro j hj
    simp only [List.length_singleton] at hj
    obtain rfl : j = 0 := by omega
    exact ⟨w.heap.size, 0, rfl, by simp, by omega, by rw [cell_of_row _ _ _ _ _ _ (heap_alloc_new w _)]; rfl, HR.out.kept HFA.out (by simp), HG.out⟩
  have HC := hid (fill_any b g i bs (some ⟨w.heap.size, 0, none⟩) 1 [⟨p, c, zs⟩] _ HV2.out HP.out (by simp [allZ]; omega) (by simp))
  rw [show allZ [⟨p, c, zs⟩] = zs by simp [allZ]] at HC
  go_enter Try.func14, Try.ntmps14
  go_wp2_with fail
  refine (has_any b g bs i zs.length _ HV.out).mono ?_
  rintro e w1 ⟨rfl, rfl⟩
  rw [HH.out]
  go_wp2_with fail
  refine HC.out.mono ?_
  rintro e w2 ⟨rfl, hv2, hf2⟩
  have HV3 := hid hv2
  have HF3 := hid hf2
  clear hv2 hf2
  go_wp2_with fail
  go_returns
  exact ⟨rfl, HV3.out, (HFA.out.mono (by simp)).trans HF3.out (fun i hi _ => hi)⟩
end Go.Proofs.Ythifchkeapbfdaa
