/- Records: a seal's bytes; a record's seal. Records: a body laid down (without a part's beginning). -/
import Derived.Deep.Cut
import Derived.Test.YtajfjkfnmmfhmaaGreatDoorQwag
import Derived.Test.YtajfjkfnmmfhmaaGreatDoorQwal
import Derived.Test.YtajfjkfnmmfhmaaGreatDoorQwao
import Derived.Test.YtajfjkfnmmfhmaaGreatDoorQwam
namespace Go.Proofs.YtajfjkfnmmfhmaaGreatDoor
section
open Go.RowKit Go.Lib
set_option maxRecDepth 100000
def sumL (a b c d : Int) : List Int := le a 8 ++ le b 8 ++ le c 8 ++ le d 8
theorem sumL_length (a b c d : Int) : (sumL a b c d).length = 32 := by simp [sumL, le_length]
/-- What of a sum is laid down behind so many of its four numbers. -/
def sumT (vs : List Int) : Nat → List Int
  | 0 => []
  | t + 1 => sumT vs t ++ le (vs.getD t 0) 8
theorem sumT_length (vs : List Int) (t : Nat) : (sumT vs t).length = 8 * t := by
  induction t with
  | zero => rfl
  | succ t ih => rw [sumT, List.length_append, ih, le_length]; omega
theorem sumT_all (a b c d : Int) : sumT [a, b, c, d] 4 = sumL a b c d := by simp [sumT, sumL]
theorem ptr_at (s0 s1 s2 s3 : Int) (t : Nat) (h : t < 4) (W : World) : (Instr.index 92 (.agg #[.int .u64 s0, .int .u64 s1, .int .u64 s2, .int .u64 s3]) (.int .i64 (t : Int))).run Tryz.prog W = .ok (.int .u64 ([s0, s1, s2, s3].getD t 0)) W := by
  have h4 : t = 0 ∨ t = 1 ∨ t = 2 ∨ t = 3 := by omega
  rcases h4 with rfl | rfl | rfl | rfl <;> rfl
set_option maxHeartbeats 1600000 in
theorem putSum_any (w0 w : World) (b : Nat) (room : Int) (zs : List Int) (A : List Nat) (hw : FreshW w0 w b room (zs, 0) A) (hr1 : room ≤ 2147483647) (s0 s1 s2 s3 : Int) (h0 : 0 ≤ s0 ∧ s0 < 18446744073709551616) (h1 : 0 ≤ s1 ∧ s1 < 18446744073709551616) (h2 : 0 ≤ s2 ∧ s2 < 18446744073709551616) (h3 : 0 ≤ s3 ∧ s3 < 18446744073709551616) (hz : (zs.length : Int) + 32 ≤ room) :
    Calls Tryz.prog 30 #[.pointer (some ⟨b, 0, none⟩), .agg #[.int .u64 s0, .int .u64 s1, .int .u64 s2, .int .u64 s3]] w fun e w' => e = .returned (.tuple #[]) ∧ FreshW w0 w' b room (zs ++ sumL s0 s1 s2 s3, 0) A ∧ Keeps A w w' := by
  have hal := hw.alloc (.cells #[.int .u64 s0, .int .u64 s1, .int .u64 s2, .int .u64 s3] 29)
  have HW0 : Hid (FreshW w0 (w.alloc (.cells #[.int .u64 s0, .int .u64 s1, .int .u64 s2, .int .u64 s3] 29)) b room (zs ++ sumT [s0, s1, s2, s3] 0, 0) A) := hid (by simpa [sumT] using hal.1.less (fun k hk => List.mem_cons_of_mem _ hk))
  have HK0 := hid hal.2
  have HB : Hid (∀ t, t < 4 → 0 ≤ [s0, s1, s2, s3].getD t 0 ∧ [s0, s1, s2, s3].getD t 0 < 18446744073709551616) := hid (fun t ht => by
    have h4 : t = 0 ∨ t = 1 ∨ t = 2 ∨ t = 3 := by omega
    rcases h4 with rfl | rfl | rfl | rfl
    · exact h0
    · exact h1
    · exact h2
    · exact h3)
  clear hal hw h0 h1 h2 h3
  go_enter Tryz.func30, Tryz.ntmps30
  go_wp2_with fail
  go_loopw [15] (fun i wr => ∃ t : Nat, t ≤ 4 ∧ i = .int .i64 t ∧ Hid (FreshW w0 wr b room (zs ++ sumT [s0, s1, s2, s3] t, 0) A) ∧ Hid (Keeps A w wr)) (fun i _ => 4 - (intOf i).toNat)
  case atStart => exact ⟨0, by omega, rfl, HW0, HK0⟩
  case round =>
    clear HW0 HK0
    obtain ⟨t, ht, rfl, hw, hk⟩ := hrel
    by_cases hlt : t < 4
    · have hl : ((zs ++ sumT [s0, s1, s2, s3] t).length : Int) + 8 ≤ room := by rw [List.length_append, sumT_length]; omega
      have hix := ptr_at s0 s1 s2 s3 t hlt
      have hb := HB.out t hlt
      have hsu : sumT [s0, s1, s2, s3] (t + 1) = sumT [s0, s1, s2, s3] t ++ le ([s0, s1, s2, s3].getD t 0) 8 := rfl
      obtain ⟨v, hv⟩ : ∃ v, [s0, s1, s2, s3].getD t 0 = v := ⟨_, rfl⟩
      rw [hv] at hix hb hsu
      have HN := hid (num_fit w0 wr b room _ A hw.out hr1 v 8 hb.1 (by omega) (by omega) hb.2 hl)
      have HSU := hid hsu
      have t1 : (t : Int) < 4 := by omega
      clear hl hw hsu hv hb
      go_wp2_with fail
      refine HN.out.mono ?_
      rintro e w2 ⟨rfl, hw2, hk2⟩
      have HW2 := hid hw2
      have HK2 := hid (hk.out.trans hk2)
      clear hw2 hk2 hk HN
      go_wp2_with fail
      go_roundw
      case rel => exact ⟨t + 1, by omega, by go_num, hid (by have h := HW2.out; rw [List.append_assoc] at h; rw [HSU.out]; exact h), HK2⟩
      case measure => simp [intOf]; omega
    · obtain rfl : t = 4 := by omega
      clear hlt
      rw [sumT_all] at hw
      rw [show ((4 : Nat) : Int) = 4 from rfl]
      go_wp2_with fail
      go_returns
      exact ⟨rfl, hw.out, hk.out⟩
/-- Four numbers within 64 bits. -/
structure S4.Bd (s : S4) : Prop where
  a : 0 ≤ s.a ∧ s.a < 18446744073709551616
  b : 0 ≤ s.b ∧ s.b < 18446744073709551616
  c : 0 ≤ s.c ∧ s.c < 18446744073709551616
  d : 0 ≤ s.d ∧ s.d < 18446744073709551616
theorem pairW_bd (x y : Int) : 0 ≤ pairW x y ∧ pairW x y < 18446744073709551616 := by
  unfold pairW
  show 0 ≤ IntKind.u64.wrap _ ∧ IntKind.u64.wrap _ < 18446744073709551616
  rw [IntKind.wrap_u64]
  omega
theorem shaD_Bd (zs : List Int) : (shaD zs).Bd := ⟨pairW_bd _ _, pairW_bd _ _, pairW_bd _ _, pairW_bd _ _⟩
def S4.z : S4 := ⟨0, 0, 0, 0⟩
theorem S4.z_Bd : S4.z.Bd := by unfold S4.z; exact ⟨by simp, by simp, by simp, by simp⟩
/-- A seal as bytes. -/
def selL (s : S4) : List Int := sumL s.a s.b s.c s.d
theorem selL_len (s : S4) : (selL s).length = 32 := sumL_length _ _ _ _
theorem selL_bd (s : S4) : ∀ z ∈ selL s, 0 ≤ z ∧ z < 256 := by
  intro z hz
  unfold selL sumL at hz
  simp only [List.mem_append] at hz
  rcases hz with ((h | h) | h) | h <;> exact le_bd _ _ z h
/-- A record's seal behind another one. -/
def sealR (a : S4) (hb : List Int) : S4 := shaD (selL a ++ hb)
set_option maxHeartbeats 3200000 in
theorem sealR_any (a : S4) (ha : a.Bd) (p : Option Addr) (n c : Nat) (zs : List Int) (w : World) (hn : zs.length = n) (hn1 : 1 ≤ n) (hnb : n ≤ 1000000) (hrd : Rd w p zs) (hb : ∀ z ∈ zs, 0 ≤ z ∧ z < 256) (hpr : Primes w) :
    Calls Tryz.prog 29 #[.agg a.arr, .slice p n c] w fun e w' => e = .returned (.agg (sealR a zs).arr) ∧ Frm [] w w' := by
  obtain ⟨A, hA1, hA2⟩ : ∃ A : List Nat, (∀ k ∈ blk p, k ∈ A) ∧ ∀ k ∈ A, k < w.heap.size := by
    refine ⟨blk p, fun k hk => hk, fun k hk => ?_⟩
    rcases hrd with h | ⟨g, o, he, hc⟩
    · rw [h] at hn; simp at hn; omega
    · rw [he] at hk
      simp [blk] at hk
      subst hk
      exact World.block_lt_of_cell? w _ (hc 0 (by omega))
  have HA1 := hid hA1
  have HA2 := hid hA2
  have HRD := hid hrd
  have HPR := hid hpr
  have HN := hid hn
  have HBD := hid hb
  have HAB := hid ha
  obtain ⟨S, hS⟩ : ∃ S, sealR a zs = S := ⟨_, rfl⟩
  have HS := hid hS
  rw [hS]
  have hrow := heap_alloc_new w (.cells a.arr 29)
  have hfa : Frm [] w (w.alloc (.cells a.arr 29)) := (Frm.refl _ _).alloc _
  obtain ⟨wa, hwa⟩ : ∃ z, w.alloc (.cells a.arr 29) = z := ⟨_, rfl⟩
  obtain ⟨ba, hba⟩ : ∃ z, w.heap.size = z := ⟨_, rfl⟩
  rw [hwa, hba] at hrow
  rw [hwa] at hfa
  have hrow2 := heap_alloc_new wa (.cells #[.int .u64 0, .int .u64 0, .int .u64 0, .int .u64 0] 29)
  have hfr : Frm [] wa (wa.alloc (.cells #[.int .u64 0, .int .u64 0, .int .u64 0, .int .u64 0] 29)) := (Frm.refl _ _).alloc _
  obtain ⟨wr, hwr⟩ : ∃ z, wa.alloc (.cells #[.int .u64 0, .int .u64 0, .int .u64 0, .int .u64 0] 29) = z := ⟨_, rfl⟩
  obtain ⟨br, hbr⟩ : ∃ z, wa.heap.size = z := ⟨_, rfl⟩
  rw [hwr, hbr] at hrow2
  rw [hwr] at hfr
  have hbs : ba + 1 = br := by rw [← hbr, ← hwa, ← hba]; simp
  have HBS := hid hbs
  have HFR : Hid (Frm [] w wr) := hid (hfa.trans hfr (by simp))
  have HRA : Hid (∀ W, Frm [] wr W → W.heap[ba]? = some (.cells a.arr 29 (0, 0))) := hid (fun W hf => hf.heap (hfr.heap hrow (by simp)) (by simp))
  have HRB : Hid (∀ W, Frm [] wr W → W.heap[br]? = some (.cells #[.int .u64 0, .int .u64 0, .int .u64 0, .int .u64 0] 29 (0, 0))) := hid (fun W hf => hf.heap hrow2 (by simp))
  have HWA := hid hwa
  have HWR := hid hwr
  have HBA := hid hba
  have HBR := hid hbr
  clear hA1 hA2 hrd hpr hn hb ha hS hrow hfa hwa hba hrow2 hfr hwr hbr hbs
  have hr : roomOf (32 + (n : Int)) = 32 + (n : Int) := by unfold roomOf; rw [if_neg (by omega), if_neg (by omega)]
  have HR := hid hr
  obtain ⟨s0, s1, s2, s3⟩ := a
  obtain ⟨t0, t1, t2, t3⟩ := S
  unfold S4.arr at HWA HRA ⊢
  simp only at HWA HRA ⊢
  clear hr
  go_enter Tryz.func29, Tryz.ntmps29
  go_upto_region 1 with fail
  first | rw [HWA.out] | skip
  first | rw [HBA.out] | skip
  first | rw [HBR.out] | skip
  first | rw [HBS.out] | skip
  first | rw [HWR.out] | skip
  go_wp2_with fail
  refine (newWriter_any (32 + (n : Int)) wr).mono ?_
  rintro e w2 ⟨rfl, hw2, hf2, _⟩
  rw [HR.out] at hw2
  have HW2 : Hid (FreshW wr w2 wr.heap.size (32 + (n : Int)) ([], 0) A) := hid ((FreshW.born hw2 hf2 (Nat.le_refl _)).with_ (fun k hk => Nat.lt_of_lt_of_le (HA2.out k hk) HFR.out.size))
  have HF2 := hid hf2
  obtain ⟨b, hb⟩ : ∃ b, wr.heap.size = b := ⟨_, rfl⟩
  rw [hb] at HW2 ⊢
  have q0 : w2.cell? ⟨ba, 0, none⟩ = some (.int .u64 s0) := by rw [cell_of_row _ _ _ _ _ _ (HRA.out w2 HF2.out)]; rfl
  have q1 : w2.cell? ⟨ba, 1, none⟩ = some (.int .u64 s1) := by rw [cell_of_row _ _ _ _ _ _ (HRA.out w2 HF2.out)]; rfl
  have q2 : w2.cell? ⟨ba, 2, none⟩ = some (.int .u64 s2) := by rw [cell_of_row _ _ _ _ _ _ (HRA.out w2 HF2.out)]; rfl
  have q3 : w2.cell? ⟨ba, 3, none⟩ = some (.int .u64 s3) := by rw [cell_of_row _ _ _ _ _ _ (HRA.out w2 HF2.out)]; rfl
  clear hw2 hf2 hb
  go_wp2_with fail
  refine (putSum_any wr w2 b (32 + (n : Int)) [] A HW2.out (by omega) s0 s1 s2 s3 HAB.out.a HAB.out.b HAB.out.c HAB.out.d (by simp only [List.length_nil]; omega)).mono ?_
  rintro e w3 ⟨rfl, hw3, _⟩
  have HW3 := hid hw3
  have HF3 := hid hw3.frm
  have HRD3 := hid (HRD.out.kept (HFR.out.trans HF3.out (by simp)) (by simp))
  clear hw3 HW2 q0 q1 q2 q3
  have hbf := bytes_fit wr w3 b (32 + (n : Int)) _ A HW3.out (by omega) p zs c (fun h => by have := HN.out; rw [h] at this; simp at this; omega) HRD3.out (by simp only [List.nil_append, sumL_length, HN.out]; omega)
  rw [HN.out] at hbf
  have HBF := hid hbf
  clear hbf
  go_wp2_with fail
  refine HBF.out.mono ?_
  rintro e w4 ⟨rfl, hw4, _⟩
  rw [List.nil_append] at hw4
  have HW4 := hid hw4
  have HLN : Hid ((sumL s0 s1 s2 s3 ++ zs).length = 32 + n) := hid (by rw [List.length_append, sumL_length, HN.out])
  clear hw4 HW3 HBF
  go_wp2_with fail
  refine (doneWF_ok wr w4 b (32 + (n : Int)) (sumL s0 s1 s2 s3 ++ zs) A HW4.out (by omega) (by rw [HLN.out]; omega)).mono ?_
  rintro e w5 ⟨g, rfl, hr5, hw5, _, _, _⟩
  rw [HLN.out]
  have HF5 := hid hw5.frm
  have HOF := hid (of_sha2 (some ⟨g, 0, none⟩) (32 + n) (32 + n) (sumL s0 s1 s2 s3 ++ zs) w5 HLN.out (Nat.le_refl _) (by omega) hr5 (fun z hz => by
    rcases List.mem_append.1 hz with h | h
    · exact selL_bd ⟨s0, s1, s2, s3⟩ z h
    · exact HBD.out z h) ((HPR.out.kept HFR.out).kept HF5.out))
  have hsr : shaD (sumL s0 s1 s2 s3 ++ zs) = ⟨t0, t1, t2, t3⟩ := HS.out
  rw [hsr] at HOF
  unfold S4.arr at HOF
  clear hr5 hw5 HW4 hsr
  go_wp2_with fail
  refine HOF.out.mono ?_
  rintro e w6 ⟨rfl, hf6⟩
  have HF6 : Hid (Frm [] wr w6) := hid (HF5.out.trans hf6 (by simp))
  clear hf6 HOF
  have hrw := heap_alloc_new w6 (.cells #[.int .u64 t0, .int .u64 t1, .int .u64 t2, .int .u64 t3] 29)
  have hf7 : Frm [] w6 (w6.alloc (.cells #[.int .u64 t0, .int .u64 t1, .int .u64 t2, .int .u64 t3] 29)) := (Frm.refl _ _).alloc _
  obtain ⟨w7, hw7⟩ : ∃ z, w6.alloc (.cells #[.int .u64 t0, .int .u64 t1, .int .u64 t2, .int .u64 t3] 29) = z := ⟨_, rfl⟩
  obtain ⟨bz, hbz⟩ : ∃ z, w6.heap.size = z := ⟨_, rfl⟩
  rw [hw7, hbz] at hrw
  rw [hw7] at hf7
  have HW7 := hid hw7
  have HBZ := hid hbz
  have HF7 : Hid (Frm [] wr w7) := hid (HF6.out.trans hf7 (by simp))
  have z0 : w7.cell? ⟨bz, 0, none⟩ = some (.int .u64 t0) := by rw [cell_of_row _ _ _ _ _ _ hrw]; rfl
  have z1 : w7.cell? ⟨bz, 1, none⟩ = some (.int .u64 t1) := by rw [cell_of_row _ _ _ _ _ _ hrw]; rfl
  have z2 : w7.cell? ⟨bz, 2, none⟩ = some (.int .u64 t2) := by rw [cell_of_row _ _ _ _ _ _ hrw]; rfl
  have z3 : w7.cell? ⟨bz, 3, none⟩ = some (.int .u64 t3) := by rw [cell_of_row _ _ _ _ _ _ hrw]; rfl
  have hr7 := HRB.out w7 HF7.out
  have y0 := frozen_of_row w7 br 0 _ _ hr7
  have y1 := frozen_of_row w7 br 1 _ _ hr7
  have y2 := frozen_of_row w7 br 2 _ _ hr7
  have y3 := frozen_of_row w7 br 3 _ _ hr7
  have v0 : w7.cell? ⟨br, 0, none⟩ = some (.int .u64 0) := by rw [cell_of_row _ _ _ _ _ _ hr7]; rfl
  have v1 : w7.cell? ⟨br, 1, none⟩ = some (.int .u64 0) := by rw [cell_of_row _ _ _ _ _ _ hr7]; rfl
  have v2 : w7.cell? ⟨br, 2, none⟩ = some (.int .u64 0) := by rw [cell_of_row _ _ _ _ _ _ hr7]; rfl
  have v3 : w7.cell? ⟨br, 3, none⟩ = some (.int .u64 0) := by rw [cell_of_row _ _ _ _ _ _ hr7]; rfl
  clear hw7 hbz hf7 hrw
  go_upto_region 6 with fail
  first | rw [HBZ.out] | skip
  first | rw [HW7.out] | skip
  go_wp2_with fail
  obtain ⟨h4, f4⟩ := set4 (y0 := .int .u64 t0) (y1 := .int .u64 t1) (y2 := .int .u64 t2) (y3 := .int .u64 t3) hr7
  obtain ⟨Wz, hWz⟩ : ∃ z, ((((w7.setCell ⟨br, 0, none⟩ (.int .u64 t0)).setCell ⟨br, 1, none⟩ (.int .u64 t1)).setCell ⟨br, 2, none⟩ (.int .u64 t2)).setCell ⟨br, 3, none⟩ (.int .u64 t3)) = z := ⟨_, rfl⟩
  rw [hWz] at h4 f4
  rw [hWz]
  have u0 : Wz.cell? ⟨br, 0, none⟩ = some (.int .u64 t0) := by rw [cell_of_row _ _ _ _ _ _ h4]; rfl
  have u1 : Wz.cell? ⟨br, 1, none⟩ = some (.int .u64 t1) := by rw [cell_of_row _ _ _ _ _ _ h4]; rfl
  have u2 : Wz.cell? ⟨br, 2, none⟩ = some (.int .u64 t2) := by rw [cell_of_row _ _ _ _ _ _ h4]; rfl
  have u3 : Wz.cell? ⟨br, 3, none⟩ = some (.int .u64 t3) := by rw [cell_of_row _ _ _ _ _ _ h4]; rfl
  refine bodyPost_ret (v := .agg #[.int .u64 t0, .int .u64 t1, .int .u64 t2, .int .u64 t3]) (by simp [results, Tryz.results29, go_sem, u0, u1, u2, u3]) rfl ?_
  exact ⟨rfl, (HFR.out.trans HF7.out (by simp)).trans f4 (fun i hi hl => by rw [List.mem_singleton] at hi; have := HBS.out; have := HBA.out; omega)⟩
end
section
open Go.RowKit Go.Lib
set_option maxRecDepth 100000
theorem RdI.keeps {w w' : World} {p : Option Addr} {K : List Int} {A : List Nat} (h : RdI w p K) (hk : Keeps A w w') (hp : K ≠ [] → ∀ k ∈ blk p, k ∈ A) : RdI w' p K := by
  by_cases h0 : K = []
  · subst h0; exact Or.inl rfl
  · rcases h with h | ⟨g, o, rfl, hc⟩
    · exact absurd (List.map_eq_nil_iff.1 h) h0
    · refine Or.inr ⟨g, o, rfl, fun i u hi => ?_⟩
      rw [World.cell?_of_block (hk g (hp h0 g (by simp [blk])))]
      exact hc i u hi
theorem RdP.keeps {w w' : World} {p : Option Addr} {P : List Pr} {A : List Nat} (h : RdP w p P) (hk : Keeps A w w') (hp : P ≠ [] → ∀ k ∈ blk p, k ∈ A) : RdP w' p P := by
  rcases h with h | ⟨g, o, rfl, hc⟩
  · exact Or.inl h
  · by_cases h0 : P = []
    · exact Or.inl h0
    refine Or.inr ⟨g, o, rfl, fun i x hi => ?_⟩
    have hg := hk g (hp h0 g (by simp [blk]))
    rw [World.cell?_of_block (a := ⟨g, o + i * 2, Option.none⟩) hg, World.cell?_of_block (a := ⟨g, o + i * 2 + 1, Option.none⟩) hg]
    exact hc i x hi
theorem Rd.keepsN {w w' : World} {p : Option Addr} {zs : List Int} {A : List Nat} (h : Rd w p zs) (hk : Keeps A w w') (hp : zs ≠ [] → ∀ k ∈ blk p, k ∈ A) : Rd w' p zs := by
  by_cases h0 : zs = []
  · exact Or.inl h0
  · exact h.keeps hk (hp h0)
/-- The blocks that a record's lists lie in are among these. -/
structure RcA (A : List Nat) (r : Rc) (P : List Pr) (K D : List Int) : Prop where
  p : P ≠ [] → ∀ k ∈ blk r.pp, k ∈ A
  k : K ≠ [] → ∀ k ∈ blk r.kp, k ∈ A
  d : D ≠ [] → ∀ k ∈ blk r.dp, k ∈ A
theorem RcOk.keeps {A : List Nat} {w w' : World} {r : Rc} {P : List Pr} {K D : List Int} (h : RcOk w r P K D) (ha : RcA A r P K D) (hk : Keeps A w w') : RcOk w' r P K D :=
  ⟨h.pr.keeps hk ha.p, h.pl, h.kr.keeps hk ha.k, h.kl, h.dr.keepsN hk ha.d, h.dn, h.db, h.mx⟩
theorem RcA.more {A B : List Nat} {r : Rc} {P : List Pr} {K D : List Int} (h : RcA A r P K D) (hB : ∀ k ∈ A, k ∈ B) : RcA B r P K D :=
  ⟨fun a k b => hB k (h.p a k b), fun a k b => hB k (h.k a k b), fun a k b => hB k (h.d a k b)⟩
theorem RcOk.foot {w : World} {r : Rc} {P : List Pr} {K D : List Int} (h : RcOk w r P K D) : ∃ A, RcA A r P K D ∧ ∀ k ∈ A, k < w.heap.size := by
  obtain ⟨A1, h1, l1⟩ : ∃ A : List Nat, (P ≠ [] → ∀ k ∈ blk r.pp, k ∈ A) ∧ ∀ k ∈ A, k < w.heap.size := by
    by_cases h0 : P = []
    · exact ⟨[], fun h => absurd h0 h, by simp⟩
    · refine ⟨blk r.pp, fun _ k hk => hk, fun k hk => ?_⟩
      rcases h.pr with h1 | ⟨g, o, he, hc⟩
      · exact absurd h1 h0
      · rw [he] at hk; simp [blk] at hk; subst hk
        exact World.block_lt_of_cell? w _ (hc 0 _ (List.getElem?_eq_getElem (List.length_pos_iff.2 h0))).1
  obtain ⟨A2, h2, l2⟩ : ∃ A : List Nat, (K ≠ [] → ∀ k ∈ blk r.kp, k ∈ A) ∧ ∀ k ∈ A, k < w.heap.size := by
    by_cases h0 : K = []
    · exact ⟨[], fun h => absurd h0 h, by simp⟩
    · refine ⟨blk r.kp, fun _ k hk => hk, fun k hk => ?_⟩
      rcases h.kr with h1 | ⟨g, o, he, hc⟩
      · exact absurd (List.map_eq_nil_iff.1 h1) h0
      · rw [he] at hk; simp [blk] at hk; subst hk
        exact World.block_lt_of_cell? w _ (hc 0 _ (List.getElem?_eq_getElem (by rw [List.length_map]; exact List.length_pos_iff.2 h0)))
  obtain ⟨A3, h3, l3⟩ : ∃ A : List Nat, (D ≠ [] → ∀ k ∈ blk r.dp, k ∈ A) ∧ ∀ k ∈ A, k < w.heap.size := by
    by_cases h0 : D = []
    · exact ⟨[], fun h => absurd h0 h, by simp⟩
    · refine ⟨blk r.dp, fun _ k hk => hk, fun k hk => ?_⟩
      rcases h.dr with h1 | ⟨g, o, he, hc⟩
      · exact absurd h1 h0
      · rw [he] at hk; simp [blk] at hk; subst hk
        exact World.block_lt_of_cell? w _ (hc 0 (List.length_pos_iff.2 h0))
  refine ⟨A1 ++ A2 ++ A3, ⟨fun a k b => ?_, fun a k b => ?_, fun a k b => ?_⟩, fun k hk => ?_⟩
  · simp [h1 a k b]
  · simp [h2 a k b]
  · simp [h3 a k b]
  · rcases List.mem_append.1 hk with hk | hk
    · rcases List.mem_append.1 hk with hk | hk
      · exact l1 k hk
      · exact l2 k hk
    · exact l3 k hk
theorem wrapU {n : Int} (h0 : 0 ≤ n) (h1 : n < 18446744073709551616) : IntKind.u64.wrap n = n := by rw [IntKind.wrap_u64]; omega
def bodyCn (r : Rc) : List Int := le r.many 4
set_option maxHeartbeats 3200000 in
theorem putCount_any (w0 w : World) (b : Nat) (A : List Nat) (hw : FreshW w0 w b 2048 ([], 0) A) (r : Rc) (hm : MayCn r) :
    Calls Tryz.prog 46 #[.pointer (some ⟨b, 0, none⟩), .agg r.arr] w fun e w' => e = .returned (.tuple #[]) ∧ FreshW w0 w' b 2048 (bodyCn r, 0) A := by
  obtain ⟨m0, m1⟩ := hm
  unfold bodyCn
  have hal := hw.alloc (.cells r.arr 26)
  have hrow := heap_alloc_new w (.cells r.arr 26)
  have HFA := hid ((Frm.refl [] w).alloc (.cells r.arr 26))
  obtain ⟨bx, hbx⟩ : ∃ z, w.heap.size = z := ⟨_, rfl⟩
  obtain ⟨wa, hwa⟩ : ∃ z, w.alloc (.cells r.arr 26) = z := ⟨_, rfl⟩
  rw [hbx, hwa] at hal hrow
  rw [hwa] at HFA
  have HW0 := hid hal.1
  have HRC : Hid (∀ W : World, Keeps (bx :: A) wa W → W.heap[bx]? = some (.cells r.arr 26 (0, 0))) := hid (fun W h => (h bx (by simp)).trans hrow)
  obtain ⟨q0, q1, q2, q3, q4, q5, q6, q7, q8, q9, q10, q11, q12⟩ := rc_cells hrow
  clear hal hrow hw
  obtain ⟨kind, name, typ, frm, guid, origin, snap, pp, pn, pc, obj, at_, many, kp, kn, kc, dp, dl, dc⟩ := r
  unfold Rc.arr at hwa ⊢
  simp only at hwa HRC m0 m1 q0 q1 q2 q3 q4 q5 q6 q7 q8 q9 q10 q11 q12 ⊢
  have u1 := wrapU (n := many) (by omega) (by omega)
  go_enter Tryz.func46, Tryz.ntmps46
  go_wp2_with fail
  refine (num_fit w0 wa b 2048 [] _ HW0.out (by omega) many 4 (by omega) (by omega) (by omega) (by omega) (by simp)).mono ?_
  rintro e w1 ⟨rfl, hw1, hk1⟩
  clear q0 q1 q2 q3 q4 q5 q6 q7 q8 q9 q10 q11 q12
  have HW1 := hid hw1
  have HK1 : Hid (Keeps (bx :: A) wa w1) := hid hk1
  obtain ⟨q0, q1, q2, q3, q4, q5, q6, q7, q8, q9, q10, q11, q12⟩ := rc_cells (HRC.out w1 HK1.out)
  simp only at q0 q1 q2 q3 q4 q5 q6 q7 q8 q9 q10 q11 q12
  clear hw1 hk1
  go_wp2_with fail
  first | go_returns | skip
  exact ⟨rfl, HW1.out.less (fun k hk => List.mem_cons_of_mem _ hk)⟩
def bodyPk (r : Rc) : List Int := txF r.name ++ le r.many 2
set_option maxHeartbeats 3200000 in
theorem putPackage_any (w0 w : World) (b : Nat) (A : List Nat) (hw : FreshW w0 w b 2048 ([], 0) A) (r : Rc) (hm : MayPk r) :
    Calls Tryz.prog 50 #[.pointer (some ⟨b, 0, none⟩), .agg r.arr] w fun e w' => e = .returned (.tuple #[]) ∧ FreshW w0 w' b 2048 (bodyPk r, 0) A := by
  obtain ⟨⟨⟨_, m3⟩, _⟩, m0, m1⟩ := hm
  rw [tx_length] at m3
  unfold bodyPk
  have hal := hw.alloc (.cells r.arr 26)
  have hrow := heap_alloc_new w (.cells r.arr 26)
  have HFA := hid ((Frm.refl [] w).alloc (.cells r.arr 26))
  obtain ⟨bx, hbx⟩ : ∃ z, w.heap.size = z := ⟨_, rfl⟩
  obtain ⟨wa, hwa⟩ : ∃ z, w.alloc (.cells r.arr 26) = z := ⟨_, rfl⟩
  rw [hbx, hwa] at hal hrow
  rw [hwa] at HFA
  have HW0 := hid hal.1
  have HRC : Hid (∀ W : World, Keeps (bx :: A) wa W → W.heap[bx]? = some (.cells r.arr 26 (0, 0))) := hid (fun W h => (h bx (by simp)).trans hrow)
  obtain ⟨q0, q1, q2, q3, q4, q5, q6, q7, q8, q9, q10, q11, q12⟩ := rc_cells hrow
  clear hal hrow hw
  obtain ⟨kind, name, typ, frm, guid, origin, snap, pp, pn, pc, obj, at_, many, kp, kn, kc, dp, dl, dc⟩ := r
  unfold Rc.arr at hwa ⊢
  simp only at hwa HRC m0 m1 m3 q0 q1 q2 q3 q4 q5 q6 q7 q8 q9 q10 q11 q12 ⊢
  have u1 := wrapU (n := many) (by omega) (by omega)
  go_enter Tryz.func50, Tryz.ntmps50
  go_wp2_with fail
  refine (text_fit w0 wa b 2048 [] _ HW0.out (by omega) name (by omega) (by simp; omega)).mono ?_
  rintro e w1 ⟨rfl, hw1, hk1⟩
  clear q0 q1 q2 q3 q4 q5 q6 q7 q8 q9 q10 q11 q12
  have HW1 := hid hw1
  have HK1 : Hid (Keeps (bx :: A) wa w1) := hid hk1
  obtain ⟨q0, q1, q2, q3, q4, q5, q6, q7, q8, q9, q10, q11, q12⟩ := rc_cells (HRC.out w1 HK1.out)
  simp only at q0 q1 q2 q3 q4 q5 q6 q7 q8 q9 q10 q11 q12
  clear hw1 hk1
  go_wp2_with fail
  refine (num_fit w0 w1 b 2048 _ _ HW1.out (by omega) many 2 (by omega) (by omega) (by omega) (by omega) (by simp only [List.nil_append, txF_len]; omega)).mono ?_
  rintro e w2 ⟨rfl, hw2, hk2⟩
  clear q0 q1 q2 q3 q4 q5 q6 q7 q8 q9 q10 q11 q12
  have HW2 := hid hw2
  have HK2 : Hid (Keeps (bx :: A) wa w2) := hid (HK1.out.trans hk2)
  obtain ⟨q0, q1, q2, q3, q4, q5, q6, q7, q8, q9, q10, q11, q12⟩ := rc_cells (HRC.out w2 HK2.out)
  simp only at q0 q1 q2 q3 q4 q5 q6 q7 q8 q9 q10 q11 q12
  clear hw2 hk2
  go_wp2_with fail
  first | go_returns | skip
  exact ⟨rfl, HW2.out.less (fun k hk => List.mem_cons_of_mem _ hk)⟩
def bodyWr (r : Rc) (D : List Int) : List Int := le r.obj 4 ++ le (r.at_ + 1) 2 ++ le r.dl 2 ++ D
set_option maxHeartbeats 3200000 in
theorem putWrite_any (w0 w : World) (b : Nat) (A : List Nat) (hw : FreshW w0 w b 2048 ([], 0) A) (r : Rc) (P : List Pr) (K D : List Int) (hr : RcOk w r P K D) (ha : RcA A r P K D) (hm : MayWr r) :
    Calls Tryz.prog 66 #[.pointer (some ⟨b, 0, none⟩), .agg r.arr] w fun e w' => e = .returned (.tuple #[]) ∧ FreshW w0 w' b 2048 (bodyWr r D, 0) A := by
  obtain ⟨⟨m0, m1⟩, ⟨m2, m3⟩, m4, m5⟩ := hm
  have hdn := hr.dn
  unfold bodyWr
  have hal := hw.alloc (.cells r.arr 26)
  have hrow := heap_alloc_new w (.cells r.arr 26)
  have HFA := hid ((Frm.refl [] w).alloc (.cells r.arr 26))
  obtain ⟨bx, hbx⟩ : ∃ z, w.heap.size = z := ⟨_, rfl⟩
  obtain ⟨wa, hwa⟩ : ∃ z, w.alloc (.cells r.arr 26) = z := ⟨_, rfl⟩
  rw [hbx, hwa] at hal hrow
  rw [hwa] at HFA
  have HW0 := hid hal.1
  have HRC : Hid (∀ W : World, Keeps (bx :: A) wa W → W.heap[bx]? = some (.cells r.arr 26 (0, 0))) := hid (fun W h => (h bx (by simp)).trans hrow)
  obtain ⟨q0, q1, q2, q3, q4, q5, q6, q7, q8, q9, q10, q11, q12⟩ := rc_cells hrow
  have HDK : Hid (∀ W : World, Keeps (bx :: A) wa W → Rd W r.dp D) := hid (fun W h => (hr.dr.kept HFA.out (by simp)).keepsN h (fun h0 k hk => List.mem_cons_of_mem _ (ha.d h0 k hk)))
  clear hr ha
  clear hal hrow hw
  obtain ⟨kind, name, typ, frm, guid, origin, snap, pp, pn, pc, obj, at_, many, kp, kn, kc, dp, dl, dc⟩ := r
  unfold Rc.arr at hwa ⊢
  simp only at hwa HRC HDK hdn m0 m1 m2 m3 m4 m5 q0 q1 q2 q3 q4 q5 q6 q7 q8 q9 q10 q11 q12 ⊢
  have u1 := wrapU (n := obj) (by omega) (by omega)
  have u2 := wrapU (n := at_ + 1) (by omega) (by omega)
  have u4 : wrap64 (at_ + 1) = at_ + 1 := by unfold wrap64; omega
  have u3 := wrapU (n := (dl : Int)) (by omega) (by omega)
  go_enter Tryz.func66, Tryz.ntmps66
  go_wp2_with fail
  refine (num_fit w0 wa b 2048 [] _ HW0.out (by omega) obj 4 (by omega) (by omega) (by omega) (by omega) (by simp)).mono ?_
  rintro e w1 ⟨rfl, hw1, hk1⟩
  clear q0 q1 q2 q3 q4 q5 q6 q7 q8 q9 q10 q11 q12
  have HW1 := hid hw1
  have HK1 : Hid (Keeps (bx :: A) wa w1) := hid hk1
  obtain ⟨q0, q1, q2, q3, q4, q5, q6, q7, q8, q9, q10, q11, q12⟩ := rc_cells (HRC.out w1 HK1.out)
  simp only at q0 q1 q2 q3 q4 q5 q6 q7 q8 q9 q10 q11 q12
  clear hw1 hk1
  go_wp2_with fail
  refine (num_fit w0 w1 b 2048 _ _ HW1.out (by omega) (at_ + 1) 2 (by omega) (by omega) (by omega) (by omega) (by simp only [List.nil_append, le_length]; omega)).mono ?_
  rintro e w2 ⟨rfl, hw2, hk2⟩
  clear q0 q1 q2 q3 q4 q5 q6 q7 q8 q9 q10 q11 q12
  have HW2 := hid hw2
  have HK2 : Hid (Keeps (bx :: A) wa w2) := hid (HK1.out.trans hk2)
  obtain ⟨q0, q1, q2, q3, q4, q5, q6, q7, q8, q9, q10, q11, q12⟩ := rc_cells (HRC.out w2 HK2.out)
  simp only at q0 q1 q2 q3 q4 q5 q6 q7 q8 q9 q10 q11 q12
  clear hw2 hk2
  go_wp2_with fail
  refine (num_fit w0 w2 b 2048 _ _ HW2.out (by omega) (dl : Int) 2 (by omega) (by omega) (by omega) (by omega) (by simp only [List.nil_append, List.length_append, le_length]; omega)).mono ?_
  rintro e w3 ⟨rfl, hw3, hk3⟩
  clear q0 q1 q2 q3 q4 q5 q6 q7 q8 q9 q10 q11 q12
  have HW3 := hid hw3
  have HK3 : Hid (Keeps (bx :: A) wa w3) := hid (HK2.out.trans hk3)
  obtain ⟨q0, q1, q2, q3, q4, q5, q6, q7, q8, q9, q10, q11, q12⟩ := rc_cells (HRC.out w3 HK3.out)
  simp only at q0 q1 q2 q3 q4 q5 q6 q7 q8 q9 q10 q11 q12
  clear hw3 hk3
  go_wp2_with fail
  have hbf := bytes_fit w0 w3 b 2048 _ _ HW3.out (by omega) dp D dc (fun h => by rw [h] at hdn; simp at hdn; omega) (HDK.out w3 HK3.out) (by simp only [List.nil_append, List.length_append, le_length]; omega)
  rw [hdn] at hbf
  refine hbf.mono ?_
  rintro e w4 ⟨rfl, hw4, hk4⟩
  have HW4 := hid hw4
  clear hw4 hk4 hbf
  go_wp2_with fail
  first | go_returns | skip
  exact ⟨rfl, HW4.out.less (fun k hk => List.mem_cons_of_mem _ hk)⟩
end
end Go.Proofs.YtajfjkfnmmfhmaaGreatDoor
