/- The statements of layer 19: the chapter's example; which of n things a number speaks of. -/
import Derived.Test.YthifchkeapbfdaaVolG
import Derived.Lib.SlBytesConst
namespace Go.Proofs.Ythifchkeapbfdaa
open Go.RowKit
set_option maxRecDepth 100000

/-- Which of n things a raw number speaks of. -/
def pickV (c n : Int) : Int := if c < 0 then (-(c + 1)) % n else c % n
theorem pickV_bd {c n : Int} (hn : 0 < n) : 0 ≤ pickV c n ∧ pickV c n < n := by
  unfold pickV
  split
  · exact ⟨Int.emod_nonneg _ (by omega), Int.emod_lt_of_pos _ hn⟩
  · exact ⟨Int.emod_nonneg _ (by omega), Int.emod_lt_of_pos _ hn⟩
set_option maxHeartbeats 400000 in
theorem pick_any (c n : Int) (hc : -9223372036854775808 ≤ c) (hc2 : c ≤ 9223372036854775807) (hn : 0 < n) (hn2 : n ≤ 9223372036854775807) (w : World) :
    Calls Try.prog 27 #[.int .i64 c, .int .i64 n] w fun e w' => e = .returned (.int .i64 (pickV c n)) ∧ w = w' := by
  by_cases h : c < 0
  · have e : pickV c n = (-(c + 1)) % n := by unfold pickV; rw [if_pos h]
    have hb : 0 ≤ (-(c + 1)) % n ∧ (-(c + 1)) % n < n := ⟨Int.emod_nonneg _ (by omega), Int.emod_lt_of_pos _ hn⟩
    rw [e]
    have h1 : 0 ≤ -(c + 1) := by omega
    have hnb : (n == 0) = false := by simp; omega
    clear e
    go_enter Try.func27, Try.ntmps27
    go_wp2_with fail
    go_returns
    exact ⟨intE (by rw [← Int.neg_tmod, Int.tmod_eq_emod_of_nonneg h1]), rfl⟩
  · have e : pickV c n = c % n := by unfold pickV; rw [if_neg h]
    have hb : 0 ≤ c % n ∧ c % n < n := ⟨Int.emod_nonneg _ (by omega), Int.emod_lt_of_pos _ hn⟩
    rw [e]
    have h1 : 0 ≤ c := by omega
    have hnb : (n == 0) = false := by simp; omega
    clear e
    go_enter Try.func27, Try.ntmps27
    go_wp2_with fail
    go_returns
    exact ⟨rfl, rfl⟩
theorem splice_bytes {bs zs : List Int} {i : Nat} (h : ∀ z ∈ bs, 0 ≤ z ∧ z < 256) (h2 : ∀ z ∈ zs, 0 ≤ z ∧ z < 256) : ∀ z ∈ splice bs i zs, 0 ≤ z ∧ z < 256 := by
  intro z hz
  simp only [splice, List.mem_append] at hz
  rcases hz with (hz | hz) | hz
  · exact h z (List.mem_of_mem_take hz)
  · exact h2 z hz
  · exact h z (List.mem_of_mem_drop hz)
theorem rd_mark {w : World} {zs : List Int} {E : TypeId} {fr : Nat × Nat} : Rd (w.alloc (.cells (bv zs).toArray E fr)) (some ⟨w.heap.size, 0, none⟩) zs := by
  refine Or.inr ⟨w.heap.size, 0, rfl, fun i hi => ?_⟩
  rw [Nat.zero_add, World.cell?_alloc_mark]
  simpa using bv_get hi
set_option maxHeartbeats 1600000 in
theorem awakeV_any (w : World) : Calls Try.prog 5 #[] w fun e w' => e = .returned (.bool true) ∧ Frm [] w w' := by
  obtain ⟨B0, hB0⟩ : ∃ B0 : List Int, B0 = List.replicate 512 0 := ⟨_, rfl⟩
  obtain ⟨B1, hB1⟩ : ∃ B1 : List Int, B1 = splice B0 254 [97, 98, 99] := ⟨_, rfl⟩
  obtain ⟨B2, hB2⟩ : ∃ B2 : List Int, B2 = splice B1 0 (List.replicate 256 0) := ⟨_, rfl⟩
  have l0 : B0.length = 512 := by rw [hB0]; simp
  have l1 : B1.length = 512 := by rw [hB1, splice_length (by rw [l0]; decide), l0]
  have l2 : B2.length = 512 := by rw [hB2, splice_length (by rw [l1]; simp), l1]
  have hrd : (B1.drop 253).take 5 = [0, 97, 98, 99, 0] := by rw [hB1, hB0]; decide +kernel
  have hcl : (cellsL B2).length = 2 := by rw [hB2, hB1, hB0]; decide +kernel
  have H0 := hid hB0
  have H1 := hid hB1
  have H2 := hid hB2
  have L0 := hid l0
  have L1 := hid l1
  have L2 := hid l2
  have HRD := hid hrd
  have HCL := hid hcl
  have hs1 : strOfNums [0, 97, 98, 99, 0] = ⟨#[0, 97, 98, 99, 0]⟩ := rfl
  have HS1 := hid hs1
  have hci := fun (w : World) (C : Array Value) (n c : Nat) => Lib.run_convert_bytes_const (P := Try.prog) w 44 5 C n c Try.underlying44 Try.underlying5
  clear hB0 hB1 hB2 l0 l1 l2 hrd hcl hs1
  go_enter Try.func5, Try.ntmps5
  go_wp2_with fail
  refine (volNew_ok 512 (by omega) (by omega) (by omega) _).mono ?_
  rintro e w1 ⟨b, g, rfl, hv1, hf1, hb1, hg1⟩
  rw [← H0.out] at hv1
  have HA1 : Hid (Frm [] w1 (w1.alloc (.cells #[.int .u8 97, .int .u8 98, .int .u8 99] 5 (3, 4)))) := (Frm.refl _ _).alloc _
  have hvc := hv1.cells
  have HV1 := hid (hv1.kept HA1.out (by simp) (by simp))
  have HR1 : Hid (Rd (w1.alloc (.cells #[.int .u8 97, .int .u8 98, .int .u8 99] 5 (3, 4))) (some ⟨w1.heap.size, 0, none⟩) [97, 98, 99]) := rd_mark (zs := [97, 98, 99])
  have HF1 := hid (hf1.trans HA1.out (by simp))
  have HG1 : Hid (g ∉ blk (some (⟨w1.heap.size, 0, none⟩ : Addr))) := by show ¬ _; simp [blk]; omega
  clear hv1 hf1 hvc
  go_wp2_with fail
  refine (volWrite_ok b g B0 254 (some ⟨w1.heap.size, 0, none⟩) [97, 98, 99] 3 _ HV1.out HR1.out (fun _ => HG1.out) (by rw [L0.out]; decide)).mono ?_
  rintro e w2 ⟨rfl, hv2, hf2⟩
  rw [← H1.out] at hv2
  have HV2 := hid hv2
  have HF2 : Hid (Frm [] w w2) := HF1.out.trans hf2 (fun i hi hlt => by simp at hi; omega)
  clear hv2 hf2
  go_wp2_with fail
  refine (volRead_ok b g B1 253 5 _ HV2.out (by rw [L1.out]; decide)).mono ?_
  rintro e w3 ⟨p3, n3, c3, rfl, rfl, _, ho3, hf3, hk3⟩
  rw [HRD.out] at ho3
  have HO3 := hid ho3
  have HV3 := hid (HV2.out.kept hf3 (by simp) (by simp))
  have HF3 := hid (HF2.out.trans hf3 (by simp))
  have HG3 : Hid (∀ k ∈ blk p3, k ∉ [g]) := by intro k hk h; have := hk3 k hk; have := HV2.out.cells.2.1; simp at h; omega
  clear ho3 hf3 hk3
  go_wp2_with fail
  refine (volDiscard_ok b g B1 0 256 _ HV3.out (by rw [L1.out]; decide)).mono ?_
  rintro e w4 ⟨rfl, hv4, hf4⟩
  rw [← H2.out] at hv4
  have HV4 := hid hv4
  have HF4 : Hid (Frm [] w w4) := HF3.out.trans hf4 (fun i hi hlt => by simp at hi; omega)
  have HO4 := hid (HO3.out.kept hf4 (by rw [own_blk]; exact HG3.out))
  clear hv4 hf4
  go_wp2_with fail
  refine (volCells_any b g B2 _ HV4.out).mono ?_
  rintro e w5 ⟨pp5, pc5, xs5, n5, rfl, hn5, hs5, _, hf5⟩
  have hn52 : n5 = 2 := by rw [hn5, ← HCL.out, ← hs5]; simp [saidV]
  subst hn52
  have HV5 := hid (HV4.out.kept hf5 (by simp) (by simp))
  have HF5 := hid (HF4.out.trans hf5 (by simp))
  have HO5 := hid (HO4.out.kept hf5 (by simp))
  clear hs5 hf5 hn5
  have HA5 : Hid (Frm [] w5 (w5.alloc (.cells #[.int .u8 97, .int .u8 98] 5 (2, 3)))) := (Frm.refl _ _).alloc _
  have HV6 := hid (HV5.out.kept HA5.out (by simp) (by simp))
  go_wp2_with fail
  refine (volWrite_no b g B2 511 (some ⟨w5.heap.size, 0, none⟩) 2 2 _ HV6.out (by omega) (by rw [L2.out]; decide)).mono ?_
  rintro e w6 ⟨rfl, rfl⟩
  have hz := cv_any (P := Try.prog) (w := w5.alloc (.cells #[.int .u8 97, .int .u8 98] 5 (2, 3))) 44 5 9 Try.underlying44 Try.underlying5 Try.underlying9 (n := 5) (HO5.out.rd.kept HA5.out (by simp)) c3 rfl
  rw [HS1.out] at hz
  go_wp2_with fail
  go_returns
  exact ⟨rfl, HF5.out.trans HA5.out (by simp)⟩
end Go.Proofs.Ythifchkeapbfdaa
