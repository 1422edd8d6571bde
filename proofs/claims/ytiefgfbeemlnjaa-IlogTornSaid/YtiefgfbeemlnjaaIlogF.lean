/- Helpers of the statements of layer 16: pick, stands, the chapter's example. -/
import Derived.Test.YtiefgfbeemlnjaaIlogE
import Derived.Lib.SlBytesConst
namespace Go.Proofs.Ytiefgfbeemlnjaa
open Go.RowKit
set_option maxRecDepth 100000

/-- Which of n things a raw number speaks of. -/
def pickI (c n : Int) : Int := if c < 0 then (-(c + 1)) % n else c % n
theorem pickI_bd {c n : Int} (hn : 0 < n) : 0 ≤ pickI c n ∧ pickI c n < n := by
  unfold pickI
  split
  · exact ⟨Int.emod_nonneg _ (by omega), Int.emod_lt_of_pos _ hn⟩
  · exact ⟨Int.emod_nonneg _ (by omega), Int.emod_lt_of_pos _ hn⟩
set_option maxHeartbeats 400000 in
theorem pick16_any (c n : Int) (hc : -9223372036854775808 ≤ c) (hc2 : c ≤ 9223372036854775807) (hn : 0 < n) (hn2 : n ≤ 9223372036854775807) (w : World) :
    Calls Try.prog 25 #[.int .i64 c, .int .i64 n] w fun e w' => e = .returned (.int .i64 (pickI c n)) ∧ w = w' := by
  by_cases h : c < 0
  · have e : pickI c n = (-(c + 1)) % n := by unfold pickI; rw [if_pos h]
    have hb : 0 ≤ (-(c + 1)) % n ∧ (-(c + 1)) % n < n := ⟨Int.emod_nonneg _ (by omega), Int.emod_lt_of_pos _ hn⟩
    rw [e]
    have h1 : 0 ≤ -(c + 1) := by omega
    have hnb : (n == 0) = false := by simp; omega
    clear e
    go_enter Try.func25, Try.ntmps25
    go_wp2_with fail
    go_returns
    exact ⟨intE (by rw [← Int.neg_tmod, Int.tmod_eq_emod_of_nonneg h1]), rfl⟩
  · have e : pickI c n = c % n := by unfold pickI; rw [if_neg h]
    have hb : 0 ≤ c % n ∧ c % n < n := ⟨Int.emod_nonneg _ (by omega), Int.emod_lt_of_pos _ hn⟩
    rw [e]
    have h1 : 0 ≤ c := by omega
    have hnb : (n == 0) = false := by simp; omega
    clear e
    go_enter Try.func25, Try.ntmps25
    go_wp2_with fail
    go_returns
    exact ⟨rfl, rfl⟩
set_option maxHeartbeats 800000 in
theorem stands_any (b d : Nat) (base : Int) (at_ : Nat) (next many : Int) (hat : at_ ≤ 22528) (w : World) (hL : IsLog w b base at_ next) (hR : IsRef w d base at_ next) :
    Calls Try.prog 24 #[.pointer (some ⟨b, 0, none⟩), .pointer (some ⟨d, 0, none⟩), .int .i64 many] w fun e w' => e = .returned (.bool true) ∧ Frm [] w w' := by
  have HL := hid hL
  have HR := hid hR
  clear hL hR
  go_enter Try.func24, Try.ntmps24
  go_wp2_with fail
  refine (at_any b base at_ next _ HL.out).mono ?_
  rintro e w1 ⟨rfl, rfl⟩
  go_wp2_with fail
  refine (base_any b base at_ next _ HL.out).mono ?_
  rintro e w1 ⟨rfl, rfl⟩
  go_wp2_with fail
  refine (next_any b base at_ next _ HL.out).mono ?_
  rintro e w1 ⟨rfl, rfl⟩
  go_wp2_with fail
  refine (room_any b base at_ next many _ hat HL.out).mono ?_
  rintro e w1 ⟨rfl, hf⟩
  have HR1 := hid (HR.out.kept hf (by simp))
  have HF := hid hf
  obtain ⟨lb, c0, c1, c2, _⟩ := HR1.out.cells
  obtain ⟨r, hr⟩ : ∃ r, roomB at_ many = r := ⟨_, rfl⟩
  have HRR := hid hr
  rw [hr]
  clear hf hr
  go_wp2_with fail
  refine (refRoom_any d base at_ next many _ hat HR1.out).mono ?_
  rintro e w2 ⟨rfl, hf⟩
  have HF2 := hid (HF.out.trans hf (by simp))
  rw [HRR.out]
  clear hf
  go_wp2_with fail
  go_returns
  exact ⟨boolE (by simp), HF2.out⟩
theorem rd_mark16 {w : World} {zs : List Int} {E : TypeId} {fr : Nat × Nat} : Rd (w.alloc (.cells (bv zs).toArray E fr)) (some ⟨w.heap.size, 0, none⟩) zs := by
  refine Or.inr ⟨w.heap.size, 0, rfl, fun i hi => ?_⟩
  rw [Nat.zero_add, World.cell?_alloc_mark]
  simpa using bv_get hi
theorem awakeRec : (recB 7 1 [97, 98]).take 22 = [7, 0, 0, 0, 0, 0, 0, 0, 1, 0, 0, 0, 0, 0, 1, 0, 2, 0, 0, 0, 97, 98] := by decide +kernel
set_option maxHeartbeats 1600000 in
theorem awake16_any (w : World) : Calls Try.prog 15 #[] w fun e w' => e = .returned (.bool true) ∧ Frm [] w w' := by
  have hs1 : strOfNums [7, 0, 0, 0, 0, 0, 0, 0, 1, 0, 0, 0, 0, 0, 1, 0, 2, 0, 0, 0, 97, 98] = ⟨#[7, 0, 0, 0, 0, 0, 0, 0, 1, 0, 0, 0, 0, 0, 1, 0, 2, 0, 0, 0, 97, 98]⟩ := rfl
  have HS1 := hid hs1
  have hci := fun (w : World) (C : Array Value) (n c : Nat) => Lib.run_convert_bytes_const (P := Try.prog) w 22 5 C n c Try.underlying22 Try.underlying5
  clear hs1
  go_enter Try.func15, Try.ntmps15
  go_wp2_with fail
  refine (logNew_ok 7 (by omega) (by omega) _).mono ?_
  rintro e w1 ⟨b, rfl, hL, hf1, hb⟩
  have HA1 : Hid (Frm [] w1 (w1.alloc (.cells #[.int .u8 97, .int .u8 98] 5 (2, 3)))) := (Frm.refl _ _).alloc _
  have HL1 : Hid (IsLog (w1.alloc (.cells #[.int .u8 97, .int .u8 98] 5 (2, 3))) b ((7 : Nat) : Int) ((0 : Nat) : Int) ((1 : Nat) : Int)) := hid (hL.kept HA1.out (by simp))
  have HR1 : Hid (Rd (w1.alloc (.cells #[.int .u8 97, .int .u8 98] 5 (2, 3))) (some ⟨w1.heap.size, 0, none⟩) [97, 98]) := rd_mark16 (zs := [97, 98])
  have HF1 := hid (hf1.trans HA1.out (by simp))
  have HB := hid hb
  clear hL hf1 hb
  go_wp2_with fail
  refine (append_ok b 7 0 1 (some ⟨w1.heap.size, 0, none⟩) [97, 98] 2 2 rfl (by omega) (by omega) (by omega) (by omega) (by decide) _ HL1.out HR1.out (Nat.le_refl _)).mono ?_
  rintro e w2 ⟨p, n, c, he, hn, ho, hL2, hf2, hk⟩
  rw [show ((0 : Nat) : Int) = 0 from rfl] at he
  have hl : (recB 7 1 [97, 98]).length = 88 := recB_length _ _ _
  obtain rfl : n = 88 := by rw [hn]; decide
  obtain ⟨g, rfl, _, _, _, _⟩ := ho.setAt hl (show 0 < 88 by omega)
  have hcc : 88 ≤ c := by
    obtain ⟨p', c', he', h1, _⟩ := ho.shape
    simp only [Value.slice.injEq] at he'
    rw [hl] at h1
    omega
  subst he
  have hR2 : Rd w2 (some ⟨g, 0, none⟩) [7, 0, 0, 0, 0, 0, 0, 0, 1, 0, 0, 0, 0, 0, 1, 0, 2, 0, 0, 0, 97, 98] := by rw [← awakeRec]; exact ho.rd.take 22
  have hz := cv_any (P := Try.prog) (w := w2) 22 5 9 Try.underlying22 Try.underlying5 Try.underlying9 (n := 22) hR2 c rfl
  rw [HS1.out] at hz
  have HF2 : Hid (Frm [] w w2) := HF1.out.trans hf2 (fun i hi hlt => by have := HB.out; simp at hi; omega)
  have HL2 : Hid (IsLog w2 b 7 88 2) := hid hL2
  have hi22 : (22 : Int) ≤ (c : Int) := by omega
  have hc0 : ¬ c = 0 := by omega
  clear hn ho hL2 hf2 hk hl hR2
  go_wp2_with fail
  refine (next_any b 7 88 2 _ HL2.out).mono ?_
  rintro e w3 ⟨rfl, rfl⟩
  go_wp2_with fail
  go_returns
  exact ⟨rfl, HF2.out⟩
end Go.Proofs.Ytiefgfbeemlnjaa
