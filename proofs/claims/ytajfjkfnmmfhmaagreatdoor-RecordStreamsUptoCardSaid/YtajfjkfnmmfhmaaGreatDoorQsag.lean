/- Records: a seal's bytes; a record's seal. -/
import Derived.Deep.Cut
import Derived.Test.YtajfjkfnmmfhmaaGreatDoorQsaf
import Derived.Test.YtajfjkfnmmfhmaaGreatDoorQsad
import Derived.Test.YtajfjkfnmmfhmaaGreatDoorQsab
import Derived.Test.YtajfjkfnmmfhmaaGreatDoorQsac
import Derived.Laws.OwnMore
import Derived.Test.YtajfjkfnmmfhmaaGreatDoorQsaa
namespace Go.Proofs.YtajfjkfnmmfhmaaGreatDoor
set_option maxRecDepth 100000
set_option maxHeartbeats 25600000
section
open Go.RowKit Go.Lib
def sumL (a b c d : Int) : List Int := le a 8 ++ le b 8 ++ le c 8 ++ le d 8
theorem sumL_length (a b c d : Int) : (sumL a b c d).length = 32 := by simp [sumL, le_length]
def sumT (vs : List Int) : Nat → List Int
 | 0 => []
 | t + 1 => sumT vs t ++ le (vs.getD t 0) 8
theorem sumT_length (vs : List Int) (t : Nat) : (sumT vs t).length = 8 * t := by
 induction t with
 | zero => rfl
 | succ t ih => rw [sumT, List.length_append, ih, le_length]; omega
theorem sumT_all (a b c d : Int) : sumT [a, b, c, d] 4 = sumL a b c d := by simp [sumT, sumL]
theorem ptr_at (s0 s1 s2 s3 : Int) (t : Nat) (h : t < 4) (W : World) : (Instr.index 92 (.agg #[.int .u64 s0, .int .u64 s1, .int .u64 s2, .int .u64 s3]) (.int .i64 (t : Int))).run Tryz.prog W = .ok (.int .u64 ([s0, s1, s2, s3].getD t 0)) W := by
 have h4 : t = 0 ∨ t = 1 ∨ t = 2 ∨ t = 3 := by omega
 rcases h4 with rfl | rfl | rfl | rfl <;> rfl
theorem putSum_any (w0 w : World) (b : Nat) (room : Int) (zs : List Int) (A : List Nat) (hw : FreshW w0 w b room (zs, 0) A) (hr1 : room ≤ 2147483647) (s0 s1 s2 s3 : Int) (h0 : 0 ≤ s0 ∧ s0 < 18446744073709551616) (h1 : 0 ≤ s1 ∧ s1 < 18446744073709551616) (h2 : 0 ≤ s2 ∧ s2 < 18446744073709551616) (h3 : 0 ≤ s3 ∧ s3 < 18446744073709551616) (hz : (zs.length : Int) + 32 ≤ room) :
  Calls Tryz.prog 30 #[.pointer (some ⟨b, 0, none⟩), .agg #[.int .u64 s0, .int .u64 s1, .int .u64 s2, .int .u64 s3]] w fun e w' => e = .returned (.tuple #[]) ∧ FreshW w0 w' b room (zs ++ sumL s0 s1 s2 s3, 0) A ∧ Keeps A w w' := by
 have hal := hw.alloc (.cells #[.int .u64 s0, .int .u64 s1, .int .u64 s2, .int .u64 s3] 29)
 have HW0 : Hid (FreshW w0 (w.alloc (.cells #[.int .u64 s0, .int .u64 s1, .int .u64 s2, .int .u64 s3] 29)) b room (zs ++ sumT [s0, s1, s2, s3] 0, 0) A) := hid (by simpa [sumT] using hal.1.less (fun k hk => List.mem_cons_of_mem _ hk))
 have HK0 := hid hal.2
 have HB : Hid (∀ t, t < 4 → 0 ≤ [s0, s1, s2, s3].getD t 0 ∧ [s0, s1, s2, s3].getD t 0 < 18446744073709551616) := hid (fun t ht => by
  have h4 : t = 0 ∨ t = 1 ∨ t = 2 ∨ t = 3 := by omega
  rcases h4 with rfl | rfl | rfl | rfl
  ·exact h0
  ·exact h1
  ·exact h2
  ·exact h3)
 clear hal hw h0 h1 h2 h3
 go_enter Tryz.func30, Tryz.ntmps30
 go_wp2_with fail
 go_loopw [15] (fun i wr => ∃ t : Nat, t ≤ 4 ∧ i = .int .i64 t ∧ Hid (FreshW w0 wr b room (zs ++ sumT [s0, s1, s2, s3] t, 0) A) ∧ Hid (Keeps A w wr)) (fun i _ => 4 - (intOf i).toNat)
 case atStart => exact ⟨0, by omega, rfl, HW0, HK0⟩
 case round =>
  clear HW0 HK0
  obtain ⟨t, ht, rfl, hw, hk⟩ := hrel
  by_cases hlt : t < 4
  ·have hl : ((zs ++ sumT [s0, s1, s2, s3] t).length : Int) + 8 ≤ room := by rw [List.length_append, sumT_length]; omega
   have hix := ptr_at s0 s1 s2 s3 t hlt
   have hb := HB.out t hlt
   have hsu : sumT [s0, s1, s2, s3] (t + 1) = sumT [s0, s1, s2, s3] t ++ le ([s0, s1, s2, s3].getD t 0) 8 := rfl
   obtain ⟨v, hv⟩ := eX ([s0, s1, s2, s3].getD t 0)
   rw [hv] at hix hb hsu
   have HN := hid (num_fit w0 wr b room _ A hw.out hr1 v 8 hb.1 (by omega) (by omega) hb.2 hl)
   have HSU := hid hsu
   have t1 : (t : Int) < 4 := by omega
   clear hl hw hsu hv hb
   go_wp2_with fail
   refine HN.out.mono ?_
   rintro e w2 ⟨rfl, hw2, hk2⟩
   have HW2 := hid hw2
   have HK2 := hid (hk.out.trans hk2)
   clear hw2 hk2 hk HN
   go_wp2_with fail
   go_roundw
   case rel => exact ⟨t + 1, by omega, by go_num, hid (by have h := HW2.out; rw [List.append_assoc] at h; rw [HSU.out]; exact h), HK2⟩
   case measure => simp [intOf]; omega
  ·obtain rfl : t = 4 := by omega
   clear hlt
   rw [sumT_all] at hw
   rw [show ((4 : Nat) : Int) = 4 from rfl]
   go_wp2_with fail
   go_returns
   exact ⟨rfl, hw.out, hk.out⟩
structure S4.Bd (s : S4) : Prop where
 a : 0 ≤ s.a ∧ s.a < 18446744073709551616
 b : 0 ≤ s.b ∧ s.b < 18446744073709551616
 c : 0 ≤ s.c ∧ s.c < 18446744073709551616
 d : 0 ≤ s.d ∧ s.d < 18446744073709551616
theorem pairW_bd (x y : Int) : 0 ≤ pairW x y ∧ pairW x y < 18446744073709551616 := by
 unfold pairW
 show 0 ≤ IntKind.u64.wrap _ ∧ IntKind.u64.wrap _ < 18446744073709551616
 rw [IntKind.wrap_u64]
 omega
theorem shaD_Bd (zs : List Int) : (shaD zs).Bd := ⟨pairW_bd _ _, pairW_bd _ _, pairW_bd _ _, pairW_bd _ _⟩
def S4.z : S4 := ⟨0, 0, 0, 0⟩
theorem S4.z_Bd : S4.z.Bd := by unfold S4.z; exact ⟨by simp, by simp, by simp, by simp⟩
def selL (s : S4) : List Int := sumL s.a s.b s.c s.d
theorem selL_len (s : S4) : (selL s).length = 32 := sumL_length _ _ _ _
theorem selL_bd (s : S4) : ∀ z ∈ selL s, 0 ≤ z ∧ z < 256 := by
 intro z hz
 unfold selL sumL at hz
 simp only [List.mem_append] at hz
 rcases hz with ((h | h) | h) | h <;> exact le_bd _ _ z h
def sealR (a : S4) (hb : List Int) : S4 := shaD (selL a ++ hb)
theorem sealR_any (a : S4) (ha : a.Bd) (p : Option Addr) (n c : Nat) (zs : List Int) (w : World) (hn : zs.length = n) (hn1 : 1 ≤ n) (hnb : n ≤ 1000000) (hrd : Rd w p zs) (hb : ∀ z ∈ zs, 0 ≤ z ∧ z < 256) (hpr : Primes w) :
  Calls Tryz.prog 29 #[.agg a.arr, .slice p n c] w fun e w' => e = .returned (.agg (sealR a zs).arr) ∧ Frm [] w w' := by
 obtain ⟨A, hA1, hA2⟩ : ∃ A : List Nat, (∀ k ∈ blk p, k ∈ A) ∧ ∀ k ∈ A, k < w.heap.size := by
  refine ⟨blk p, fun k hk => hk, fun k hk => ?_⟩
  rcases hrd with h | ⟨g, o, he, hc⟩
  ·rw [h] at hn; simp at hn; omega
  ·rw [he] at hk
   simp [blk] at hk
   subst hk
   exact World.block_lt_of_cell? w _ (hc 0 (by omega))
 have HA1 := hid hA1
 have HA2 := hid hA2
 have HRD := hid hrd
 have HPR := hid hpr
 have HN := hid hn
 have HBD := hid hb
 have HAB := hid ha
 obtain ⟨S, hS⟩ := eX (sealR a zs)
 have HS := hid hS
 rw [hS]
 have hrow := heap_alloc_new w (.cells a.arr 29)
 have hfa : Frm [] w (w.alloc (.cells a.arr 29)) := (Frm.refl _ _).alloc _
 obtain ⟨wa, hwa⟩ := eX (w.alloc (.cells a.arr 29))
 obtain ⟨ba, hba⟩ := eX (w.heap.size)
 rw [hwa, hba] at hrow
 rw [hwa] at hfa
 have hrow2 := heap_alloc_new wa (.cells #[.int .u64 0, .int .u64 0, .int .u64 0, .int .u64 0] 29)
 have hfr : Frm [] wa (wa.alloc (.cells #[.int .u64 0, .int .u64 0, .int .u64 0, .int .u64 0] 29)) := (Frm.refl _ _).alloc _
 obtain ⟨wr, hwr⟩ := eX (wa.alloc (.cells #[.int .u64 0, .int .u64 0, .int .u64 0, .int .u64 0] 29))
 obtain ⟨br, hbr⟩ := eX (wa.heap.size)
 rw [hwr, hbr] at hrow2
 rw [hwr] at hfr
 have hbs : ba + 1 = br := by rw [← hbr, ← hwa, ← hba]; simp
 have HBS := hid hbs
 have HFR : Hid (Frm [] w wr) := hid (hfa.trans hfr (by simp))
 have HRA : Hid (∀ W, Frm [] wr W → W.heap[ba]? = some (.cells a.arr 29 (0, 0))) := hid (fun W hf => hf.heap (hfr.heap hrow (by simp)) (by simp))
 have HRB : Hid (∀ W, Frm [] wr W → W.heap[br]? = some (.cells #[.int .u64 0, .int .u64 0, .int .u64 0, .int .u64 0] 29 (0, 0))) := hid (fun W hf => hf.heap hrow2 (by simp))
 have HWA := hid hwa
 have HWR := hid hwr
 have HBA := hid hba
 have HBR := hid hbr
 clear hA1 hA2 hrd hpr hn hb ha hS hrow hfa hwa hba hrow2 hfr hwr hbr hbs
 have hr : roomOf (32 + (n : Int)) = 32 + (n : Int) := by unfold roomOf; rw [if_neg (by omega), if_neg (by omega)]
 have HR := hid hr
 obtain ⟨s0, s1, s2, s3⟩ := a
 obtain ⟨t0, t1, t2, t3⟩ := S
 unfold S4.arr at HWA HRA ⊢
 simp only at HWA HRA ⊢
 clear hr
 go_enter Tryz.func29, Tryz.ntmps29
 go_upto_region 1 with fail
 try rw [HWA.out]
 try rw [HBA.out]
 try rw [HBR.out]
 try rw [HBS.out]
 try rw [HWR.out]
 go_wp2_with fail
 refine (newWriter_any (32 + (n : Int)) wr).mono ?_
 rintro e w2 ⟨rfl, hw2, hf2, _⟩
 rw [HR.out] at hw2
 have HW2 : Hid (FreshW wr w2 wr.heap.size (32 + (n : Int)) ([], 0) A) := hid ((FreshW.born hw2 hf2 (Nat.le_refl _)).with_ (fun k hk => Nat.lt_of_lt_of_le (HA2.out k hk) HFR.out.size))
 have HF2 := hid hf2
 obtain ⟨b, hb⟩ := eX (wr.heap.size)
 rw [hb] at HW2 ⊢
 have q0 := cR 0 (.int .u64 s0) (HRA.out w2 HF2.out)
 have q1 := cR 1 (.int .u64 s1) (HRA.out w2 HF2.out)
 have q2 := cR 2 (.int .u64 s2) (HRA.out w2 HF2.out)
 have q3 := cR 3 (.int .u64 s3) (HRA.out w2 HF2.out)
 clear hw2 hf2 hb
 go_wp2_with fail
 refine (putSum_any wr w2 b (32 + (n : Int)) [] A HW2.out (by omega) s0 s1 s2 s3 HAB.out.a HAB.out.b HAB.out.c HAB.out.d (by simp only [List.length_nil]; omega)).mono ?_
 rintro e w3 ⟨rfl, hw3, _⟩
 have HW3 := hid hw3
 have HF3 := hid hw3.frm
 have HRD3 := hid (HRD.out.kept (HFR.out.trans HF3.out (by simp)) (by simp))
 clear hw3 HW2 q0 q1 q2 q3
 have hbf := bytes_fit wr w3 b (32 + (n : Int)) _ A HW3.out (by omega) p zs c (fun h => by have := HN.out; rw [h] at this; simp at this; omega) HRD3.out (by simp only [List.nil_append, sumL_length, HN.out]; omega)
 rw [HN.out] at hbf
 have HBF := hid hbf
 clear hbf
 go_wp2_with fail
 refine HBF.out.mono ?_
 rintro e w4 ⟨rfl, hw4, _⟩
 rw [List.nil_append] at hw4
 have HW4 := hid hw4
 have HLN : Hid ((sumL s0 s1 s2 s3 ++ zs).length = 32 + n) := hid (by rw [List.length_append, sumL_length, HN.out])
 clear hw4 HW3 HBF
 go_wp2_with fail
 refine (doneWF_ok wr w4 b (32 + (n : Int)) (sumL s0 s1 s2 s3 ++ zs) A HW4.out (by omega) (by rw [HLN.out]; omega)).mono ?_
 rintro e w5 ⟨g, rfl, hr5, hw5, _, _, _⟩
 rw [HLN.out]
 have HF5 := hid hw5.frm
 have HOF := hid (of_sha2 (some ⟨g, 0, none⟩) (32 + n) (32 + n) (sumL s0 s1 s2 s3 ++ zs) w5 HLN.out (Nat.le_refl _) (by omega) hr5 (fun z hz => by
  rcases List.mem_append.1 hz with h | h
  ·exact selL_bd ⟨s0, s1, s2, s3⟩ z h
  ·exact HBD.out z h) ((HPR.out.kept HFR.out).kept HF5.out))
 have hsr : shaD (sumL s0 s1 s2 s3 ++ zs) = ⟨t0, t1, t2, t3⟩ := HS.out
 rw [hsr] at HOF
 unfold S4.arr at HOF
 clear hr5 hw5 HW4 hsr
 go_wp2_with fail
 refine HOF.out.mono ?_
 rintro e w6 ⟨rfl, hf6⟩
 have HF6 : Hid (Frm [] wr w6) := hid (HF5.out.trans hf6 (by simp))
 clear hf6 HOF
 have hrw := heap_alloc_new w6 (.cells #[.int .u64 t0, .int .u64 t1, .int .u64 t2, .int .u64 t3] 29)
 have hf7 : Frm [] w6 (w6.alloc (.cells #[.int .u64 t0, .int .u64 t1, .int .u64 t2, .int .u64 t3] 29)) := (Frm.refl _ _).alloc _
 obtain ⟨w7, hw7⟩ := eX (w6.alloc (.cells #[.int .u64 t0, .int .u64 t1, .int .u64 t2, .int .u64 t3] 29))
 obtain ⟨bz, hbz⟩ := eX (w6.heap.size)
 rw [hw7, hbz] at hrw
 rw [hw7] at hf7
 have HW7 := hid hw7
 have HBZ := hid hbz
 have HF7 : Hid (Frm [] wr w7) := hid (HF6.out.trans hf7 (by simp))
 have z0 := cR 0 (.int .u64 t0) hrw
 have z1 := cR 1 (.int .u64 t1) hrw
 have z2 := cR 2 (.int .u64 t2) hrw
 have z3 := cR 3 (.int .u64 t3) hrw
 have hr7 := HRB.out w7 HF7.out
 have y0 := fZ 0 hr7
 have y1 := fZ 1 hr7
 have y2 := fZ 2 hr7
 have y3 := fZ 3 hr7
 have v0 := cR 0 (.int .u64 0) hr7
 have v1 := cR 1 (.int .u64 0) hr7
 have v2 := cR 2 (.int .u64 0) hr7
 have v3 := cR 3 (.int .u64 0) hr7
 clear hw7 hbz hf7 hrw
 go_upto_region 6 with fail
 try rw [HBZ.out]
 try rw [HW7.out]
 go_wp2_with fail
 obtain ⟨h4, f4⟩ := set4 (y0 := .int .u64 t0) (y1 := .int .u64 t1) (y2 := .int .u64 t2) (y3 := .int .u64 t3) hr7
 obtain ⟨Wz, hWz⟩ := eX (((((w7.setCell ⟨br, 0, none⟩ (.int .u64 t0)).setCell ⟨br, 1, none⟩ (.int .u64 t1)).setCell ⟨br, 2, none⟩ (.int .u64 t2)).setCell ⟨br, 3, none⟩ (.int .u64 t3)))
 rw [hWz] at h4 f4
 rw [hWz]
 have u0 := cR 0 (.int .u64 t0) h4
 have u1 := cR 1 (.int .u64 t1) h4
 have u2 := cR 2 (.int .u64 t2) h4
 have u3 := cR 3 (.int .u64 t3) h4
 refine bodyPost_ret (v := .agg #[.int .u64 t0, .int .u64 t1, .int .u64 t2, .int .u64 t3]) (by simp [results, Tryz.results29, go_sem, u0, u1, u2, u3]) rfl ?_
 exact ⟨rfl, (HFR.out.trans HF7.out (by simp)).trans f4 (fun i hi hl => by rw [List.mem_singleton] at hi; have := HBS.out; have := HBA.out; omega)⟩
end
section
open Go.RowKit Go.Lib
abbrev Rst := Nat × Int
def nuS (bs : List Int) (s : Rst) (k : Int) : Int × Nat × Int := readS 0 s.1 s.2 (numT (bs.drop s.1) k)
def txS (bs : List Int) (s : Rst) (k : Int) : List Int × Nat × Int := readS [] s.1 s.2 (textT (bs.drop s.1) k)
def byS (bs : List Int) (s : Rst) (k : Int) : List Int × Nat × Int := readS [] s.1 s.2 (bytesT (bs.drop s.1) k)
theorem nuS_bd {bs : List Int} (hb : ∀ z ∈ bs, 0 ≤ z ∧ z < 256) (s : Rst) (k : Int) (hk : k ≤ 7) : 0 ≤ (nuS bs s k).1 ∧ (nuS bs s k).1 < 72057594037927936 := by
 have h0 : (0 : Int) ≤ 0 ∧ (0 : Int) < 72057594037927936 := by omega
 unfold nuS readS
 split
 ·exact h0
 ·have hn : 0 ≤ (numT (bs.drop s.1) k).1 ∧ (numT (bs.drop s.1) k).1 < 72057594037927936 := by
   unfold numT
   split
   ·exact h0
   ·split
    ·exact h0
    ·rename_i h1 h2
     have hl : ((bs.drop s.1).take k.toNat).length ≤ 7 := by rw [List.length_take]; omega
     have h3 := leV_bd ((bs.drop s.1).take k.toNat) (fun z hz => hb z (List.mem_of_mem_drop (List.mem_of_mem_take hz)))
     have h4 : (2 : Int) ^ (8 * ((bs.drop s.1).take k.toNat).length) ≤ 72057594037927936 := by
      generalize ((bs.drop s.1).take k.toNat).length = x at hl
      have hx : x = 0 ∨ x = 1 ∨ x = 2 ∨ x = 3 ∨ x = 4 ∨ x = 5 ∨ x = 6 ∨ x = 7 := by omega
      rcases hx with rfl | rfl | rfl | rfl | rfl | rfl | rfl | rfl <;> decide
     exact ⟨h3.1, by show leV _ < _; omega⟩
  split
  ·exact hn
  ·exact hn
def FrR (w0 w : World) (b g : Nat) (bs : List Int) (s : Rst) : Prop := FreshR w0 w b g bs s.1 s.2
theorem FrR.k0 {w0 w w' : World} {b g : Nat} {bs : List Int} {s : Rst} (h : FrR w0 w b g bs s) (hf : Frm [] w w') : FrR w0 w' b g bs s := by
 obtain ⟨h1, h2, h3, h4⟩ := h
 exact ⟨h1.kept hf (by simp) (by simp), h2.trans hf (by simp), h3, h4⟩
theorem frR_set {w0 w w' : World} {b g bq : Nat} {bs : List Int} {s : Rst} (h : FrR w0 w b g bs s) (hf : Frm [bq] w w') (h1 : ¬ bq = b) (h2 : bq ≠ g) (h3 : w0.heap.size ≤ bq) : FrR w0 w' b g bs s := by
 obtain ⟨a1, a2, a3, a4⟩ := h
 exact ⟨a1.kept hf (by simpa using fun h => h1 h.symm) (by simpa using fun h => h2 h.symm), a2.trans hf (fun i hi hl => by rw [List.mem_singleton] at hi; omega), a3, a4⟩
section
variable (w0 w : World) (b g : Nat) (bs : List Int) (hb : ∀ z ∈ bs, 0 ≤ z ∧ z < 256) (s : Rst) (h : FrR w0 w b g bs s)
include hb h
theorem nR_any (k : Int) (hk0 : 0 ≤ k) (hk : k ≤ 8) : Calls Tryz.prog 42 #[.pointer (some ⟨b, 0, none⟩), .int .i64 k] w fun e w' => e = .returned (.int .u64 (nuS bs s k).1) ∧ FrR w0 w' b g bs (nuS bs s k).2 ∧ Frm [b] w w' :=
 (numR_any b g s.1 bs hb s.2 k w h.1 (by omega) (by omega)).mono (fun _ _ hh => ⟨hh.1, FreshR.next h hh.2.1 hh.2.2, hh.2.2⟩)
theorem tR_any (k : Int) (hk0 : 0 ≤ k) (hk : k ≤ 65535) : Calls Tryz.prog 93 #[.pointer (some ⟨b, 0, none⟩), .int .i64 k] w fun e w' => e = .returned (.string (strOfNums (txS bs s k).1)) ∧ FrR w0 w' b g bs (txS bs s k).2 ∧ Frm [b] w w' :=
 (textR_any b g s.1 bs hb s.2 k w h.1 (by omega) (by omega)).mono (fun _ _ hh => ⟨hh.1, FreshR.next h hh.2.1 hh.2.2, hh.2.2⟩)
omit hb in
theorem bR_any (k : Int) (hk0 : 0 ≤ k) (hk : k < 72057594037927936) : Calls Tryz.prog 100 #[.pointer (some ⟨b, 0, none⟩), .int .i64 k] w fun e w' => ∃ p n c, e = .returned (.slice p n c) ∧ n = (byS bs s k).1.length ∧ Own w' 5 (.slice p n c) (byS bs s k).1 ∧ (∀ k ∈ blk p, w.heap.size ≤ k) ∧ FrR w0 w' b g bs (byS bs s k).2 ∧ Frm [b] w w' := by
 refine (bytesR_any b g s.1 bs s.2 k w h.1 (by omega) (by omega)).mono ?_
 rintro e w' ⟨p, n, c, he, h1, h2, h3, h4, h5⟩
 exact ⟨p, n, c, he, h1, h2, h3, FreshR.next h h4 h5, h5⟩
omit hb in
theorem lR_any : Calls Tryz.prog 89 #[.pointer (some ⟨b, 0, none⟩)] w fun e w' => e = .returned (.int .i64 ((bs.length - s.1 : Nat) : Int)) ∧ ∃ n, w' = w.drewN n := left_any b g s.1 bs s.2 w h.1
end
def kpS (bs : List Int) (more k : Int) (s : Rst) : Nat → List Int × Rst
 | 0 => ([], s)
 | t + 1 => ((kpS bs more k s t).1 ++ [(nuS bs (kpS bs more k s t).2 k).1 - more], (nuS bs (kpS bs more k s t).2 k).2)
theorem kpS_len (bs : List Int) (more k : Int) (s : Rst) : ∀ t, (kpS bs more k s t).1.length = t
 | 0 => rfl
 | t + 1 => by rw [kpS, List.length_append, kpS_len bs more k s t]; rfl
def kpN (bs : List Int) (k : Nat) (s : Rst) : Nat := min (nuS bs s 2).1.toNat ((bs.length - (nuS bs s 2).2.1) / k + 1)
def tkK (bs : List Int) (more : Int) (k : Nat) (s : Rst) : List Int × Rst := kpS bs more k (nuS bs s 2).2 (kpN bs k s)
theorem infoInR : (Tryz.prog.info? 3).map (fun i => (i.zero, i.size, i.bytes)) = some (some (.int .i64 0), 1, 8) := by kernel_rfl
theorem takeKeep4_any (w0 w : World) (b g : Nat) (bs : List Int) (hb : ∀ z ∈ bs, 0 ≤ z ∧ z < 256) (hl : bs.length ≤ 2048) (s : Rst) (h : FrR w0 w b g bs s) :
  Calls Tryz.prog 99 #[.pointer (some ⟨b, 0, none⟩), .int .i64 0, .int .i64 4] w fun e w' => ∃ p n c, e = .returned (.slice p n c) ∧ (tkK bs 0 4 s).1.length = n ∧ w'.ownsRow 0 3 1 (.slice p n c) n ((tkK bs 0 4 s).1.map (Value.int .i64)) ∧ (∀ k ∈ blk p, w.heap.size ≤ k) ∧ FrR w0 w' b g bs (tkK bs 0 4 s).2 ∧ Frm [b] w w' := by
 obtain ⟨PO, hPO⟩ : ∃ PO : Ending → World → Prop, (fun e w' => ∃ p n c, e = .returned (.slice p n c) ∧ (tkK bs 0 4 s).1.length = n ∧ w'.ownsRow 0 3 1 (.slice p n c) n ((tkK bs 0 4 s).1.map (Value.int .i64)) ∧ (∀ k ∈ blk p, w.heap.size ≤ k) ∧ FrR w0 w' b g bs (tkK bs 0 4 s).2 ∧ Frm [b] w w') = PO := ⟨_, rfl⟩
 rw [hPO]
 have HP : Hid (∀ p n c w', (tkK bs 0 4 s).1.length = n → w'.ownsRow 0 3 1 (.slice p n c) n ((tkK bs 0 4 s).1.map (Value.int .i64)) → (∀ k ∈ blk p, w.heap.size ≤ k) → FrR w0 w' b g bs (tkK bs 0 4 s).2 → Frm [b] w w' → PO (.returned (.slice p n c)) w') := hid (fun p n c w' h1 h2 h3 h4 h5 => by rw [← hPO]; exact ⟨p, n, c, rfl, h1, h2, h3, h4, h5⟩)
 have HN1 := hid (nR_any w0 w b g bs hb s h 2 (by omega) (by omega))
 have HBS := hid hb
 have HW0 : Hid (w0.heap.size ≤ w.heap.size) := hid h.2.1.size
 have hbd := nuS_bd hb s 2 (by omega)
 obtain ⟨K, hK⟩ := eX (kpN bs 4 s)
 have HTK : Hid (tkK bs 0 4 s = kpS bs 0 4 (nuS bs s 2).2 K) := hid (by rw [← hK]; rfl)
 unfold kpN at hK
 obtain ⟨v0, hv0⟩ := eX (nuS bs s 2)
 rw [hv0] at HN1 hbd HTK hK
 obtain ⟨TK, hTK⟩ := eX (tkK bs 0 4 s)
 rw [hTK] at HP HTK
 have hKb : K ≤ 2049 := by omega
 have hwr : IntKind.i64.wrap v0.1 = v0.1 := by rw [IntKind.wrap_i64]; omega
 obtain ⟨lf, hlf⟩ : ∃ z : Nat, bs.length - v0.2.1 = z := ⟨_, rfl⟩
 have HLF := hid (fun W (hW : FrR w0 W b g bs v0.2) => lR_any w0 W b g bs v0.2 hW)
 simp only [hlf] at HLF
 rw [hlf] at hK
 have hlfb : lf ≤ 2048 := by omega
 have hmin : ∀ (ts : Array TypeId) (ty : TypeId) (W : World), Sem.run Tryz.prog (Builtin.min_ ts ty #[.int .i64 v0.1, .int .i64 ((lf : Int) / 4 + 1)]) W = .ok (.int .i64 (K : Int)) W := by
  intro ts ty W
  have hm := run_min_int2 (P := Tryz.prog) (w := W) ts ty .i64 .i64 v0.1 ((lf : Int) / 4 + 1)
  have hKe : (if ((lf : Int) / 4 + 1 < v0.1) then ((lf : Int) / 4 + 1) else v0.1) = (K : Int) := by
   split <;> omega
  rwa [hKe] at hm
 clear h hb hv0 hTK hK hlf hPO hl
 go_enter Tryz.func99, Tryz.ntmps99
 go_wp2_with fail
 refine HN1.out.mono ?_
 rintro e w1 ⟨rfl, hr1, hf1⟩
 have HR1 := hid hr1
 have HF1 := hid hf1
 clear hr1 hf1 HN1
 go_wp2_with fail
 refine (HLF.out w1 HR1.out).mono ?_
 rintro e _ ⟨rfl, n2, rfl⟩
 have HR2 := hid (HR1.out.k0 ((Frm.refl [] w1).drewN n2))
 have HF2 := hid (HF1.out.trans ((Frm.refl [] w1).drewN n2) (by simp))
 obtain ⟨w2, hw2⟩ := eX (w1.drewN n2)
 rw [hw2] at HR2 HF2 ⊢
 clear hw2 HR1 HF1 HLF
 go_wp2_with fail
 clear hmin hwr hbd
 go_loopw [7, 17] (fun l i wr => ∃ (t : Nat) (p : Option Addr) (c : Nat), t ≤ K ∧ l = .slice p t c ∧ i = .int .i64 (t : Int) ∧ Hid (wr.ownsRow 0 3 1 (.slice p t c) t ((kpS bs 0 4 v0.2 t).1.map (Value.int .i64))) ∧ Hid (∀ k ∈ blk p, w.heap.size ≤ k ∧ k ≠ b ∧ k ≠ g) ∧ Hid (FrR w0 wr b g bs (kpS bs 0 4 v0.2 t).2) ∧ Hid (Frm [b] w wr)) (fun _ i _ => K - (intOf i).toNat)
 case atStart => exact ⟨0, none, 0, by omega, rfl, rfl, hid (World.ownsRow_nil _ _ _ _), hid (by simp [blk]), HR2, HF2⟩
 case round =>
  obtain ⟨t, p, c, ht, rfl, rfl, ho, hnw, hr, hf⟩ := hrel
  have HO := hid ho.out
  have HNW := hid hnw.out
  have HR := hid hr.out
  have HF := hid hf.out
  clear ho hnw hr hf HR2 HF2
  by_cases hlt : t < K
  case neg =>
   obtain rfl : t = K := by omega
   have HX : Hid (PO (.returned (.slice p t c)) wr) := hid (HP.out p t c wr (by rw [HTK.out, kpS_len]) (by rw [HTK.out]; exact HO.out) (fun k hk => (HNW.out k hk).1) (by rw [HTK.out]; exact HR.out) HF.out)
   clear hlt
   go_wp2_with fail
   try go_returns
   exact HX.out
  have t1 : (t : Int) < (K : Int) := by omega
  have HSU : Hid (kpS bs 0 4 v0.2 (t + 1) = ((kpS bs 0 4 v0.2 t).1 ++ [(nuS bs (kpS bs 0 4 v0.2 t).2 4).1 - 0], (nuS bs (kpS bs 0 4 v0.2 t).2 4).2)) := hid rfl
  have hll := kpS_len bs 0 4 v0.2 t
  obtain ⟨LL, hLL⟩ := eX (kpS bs 0 4 v0.2 t)
  rw [hLL] at HO HR HSU hll
  have HC := hid (nR_any w0 wr b g bs HBS.out LL.2 HR.out 4 (by omega) (by omega))
  have hbd := nuS_bd HBS.out LL.2 4 (by omega)
  obtain ⟨v, hv⟩ := eX (nuS bs LL.2 4)
  rw [hv] at HC hbd HSU
  have HLL := hid hll
  have hwr : IntKind.i64.wrap v.1 = v.1 := by rw [IntKind.wrap_i64]; omega
  have hw64 : wrap64 (v.1 - 0) = v.1 - 0 := by unfold wrap64; omega
  clear hLL hv hll
  go_wp2_with fail
  refine HC.out.mono ?_
  rintro e x7 ⟨rfl, hr, hf⟩
  have HR7 := hid hr
  have HF7 := hid hf
  have HA := hid ((Frm.refl [] x7).alloc (.cells #[.int .i64 (v.1)] 3))
  have HRV := hid (rv_block (heap_alloc_new x7 (.cells #[.int .i64 (v.1)] 3)))
  have HOW := hid (ownsRow_kept (ownsRow_kept HO.out hf (fun k hk hm => by rw [List.mem_singleton] at hm; exact (HNW.out k hk).2.1 hm)) HA.out (by simp))
  have ht46 : t ≤ 2049 := by omega
  clear hr hf HC
  go_wp2_with (at_builtin; refine wpList_appV rfl _ _ 23 rfl 3 1 8 _ Tryz.underlying23 infoInR rfl (by decide) p t c (LL.1.map (Value.int .i64)) rfl HOW.out (some ⟨x7.heap.size, 0, none⟩) 1 1 [.int .i64 (v.1)] rfl rfl (by simp) HRV.out (by intro u hu; simp at hu; subst hu; rfl) (by unfold maxLen; omega) (by omega) ?_)
  intro p8 c8 w8 ho8 hf8 hb8
  have hfa : Frm (blk p) x7 w8 := (HA.out.mono (by simp)).trans hf8.out (fun i hi _ => hi)
  have hr7 := HR7.out
  have hg := hr7.1.cells
  have HNX : Hid (w8.ownsRow 0 3 1 (.slice p8 (t + 1) c8) (t + 1) ((kpS bs 0 4 v0.2 (t + 1)).1.map (Value.int .i64)) ∧ (∀ k ∈ blk p8, w.heap.size ≤ k ∧ k ≠ b ∧ k ≠ g) ∧ FrR w0 w8 b g bs (kpS bs 0 4 v0.2 (t + 1)).2 ∧ Frm [b] w w8) := hid (by
   have h1 := HF.out.size
   have h2 := HF7.out.size
   rw [HSU.out]
   refine ⟨?_, fun k hk => ?_, ⟨hr7.1.kept hfa (fun hm => (HNW.out b hm).2.1 rfl) (fun hm => (HNW.out g hm).2.2 rfl), hr7.2.1.trans hfa (fun i hi hl => by have h3 := (HNW.out i hi).1; have h4 := HW0.out; omega), hr7.2.2⟩, (HF.out.trans HF7.out (fun i hi _ => hi)).trans hfa (fun i hi hl => by have := (HNW.out i hi).1; omega)⟩
   ·have h := ho8.out
    simpa using h
   ·rcases hb8.out k hk with h | h
    ·exact HNW.out k h
    ·have e1 : (x7.alloc (.cells #[.int .i64 (v.1)] 3)).heap.size = x7.heap.size + 1 := by simp
     exact ⟨by omega, by have := hg.1; omega, by have := hg.2.1; omega⟩)
  clear ho8 hf8 hb8 hfa hr7 hg HRV HOW HA HR7 HF7 hbd hwr hw64 ht46
  go_wp2_with fail
  go_roundw
  case rel => exact ⟨t + 1, p8, c8, by omega, rfl, by go_num, hid HNX.out.1, hid HNX.out.2.1, hid HNX.out.2.2.1, hid HNX.out.2.2.2⟩
  case measure => simp [intOf] <;> omega
theorem takeKeep2_any (w0 w : World) (b g : Nat) (bs : List Int) (hb : ∀ z ∈ bs, 0 ≤ z ∧ z < 256) (hl : bs.length ≤ 2048) (s : Rst) (h : FrR w0 w b g bs s) :
  Calls Tryz.prog 99 #[.pointer (some ⟨b, 0, none⟩), .int .i64 1, .int .i64 2] w fun e w' => ∃ p n c, e = .returned (.slice p n c) ∧ (tkK bs 1 2 s).1.length = n ∧ w'.ownsRow 0 3 1 (.slice p n c) n ((tkK bs 1 2 s).1.map (Value.int .i64)) ∧ (∀ k ∈ blk p, w.heap.size ≤ k) ∧ FrR w0 w' b g bs (tkK bs 1 2 s).2 ∧ Frm [b] w w' := by
 obtain ⟨PO, hPO⟩ : ∃ PO : Ending → World → Prop, (fun e w' => ∃ p n c, e = .returned (.slice p n c) ∧ (tkK bs 1 2 s).1.length = n ∧ w'.ownsRow 0 3 1 (.slice p n c) n ((tkK bs 1 2 s).1.map (Value.int .i64)) ∧ (∀ k ∈ blk p, w.heap.size ≤ k) ∧ FrR w0 w' b g bs (tkK bs 1 2 s).2 ∧ Frm [b] w w') = PO := ⟨_, rfl⟩
 rw [hPO]
 have HP : Hid (∀ p n c w', (tkK bs 1 2 s).1.length = n → w'.ownsRow 0 3 1 (.slice p n c) n ((tkK bs 1 2 s).1.map (Value.int .i64)) → (∀ k ∈ blk p, w.heap.size ≤ k) → FrR w0 w' b g bs (tkK bs 1 2 s).2 → Frm [b] w w' → PO (.returned (.slice p n c)) w') := hid (fun p n c w' h1 h2 h3 h4 h5 => by rw [← hPO]; exact ⟨p, n, c, rfl, h1, h2, h3, h4, h5⟩)
 have HN1 := hid (nR_any w0 w b g bs hb s h 2 (by omega) (by omega))
 have HBS := hid hb
 have HW0 : Hid (w0.heap.size ≤ w.heap.size) := hid h.2.1.size
 have hbd := nuS_bd hb s 2 (by omega)
 obtain ⟨K, hK⟩ := eX (kpN bs 2 s)
 have HTK : Hid (tkK bs 1 2 s = kpS bs 1 2 (nuS bs s 2).2 K) := hid (by rw [← hK]; rfl)
 unfold kpN at hK
 obtain ⟨v0, hv0⟩ := eX (nuS bs s 2)
 rw [hv0] at HN1 hbd HTK hK
 obtain ⟨TK, hTK⟩ := eX (tkK bs 1 2 s)
 rw [hTK] at HP HTK
 have hKb : K ≤ 2049 := by omega
 have hwr : IntKind.i64.wrap v0.1 = v0.1 := by rw [IntKind.wrap_i64]; omega
 obtain ⟨lf, hlf⟩ : ∃ z : Nat, bs.length - v0.2.1 = z := ⟨_, rfl⟩
 have HLF := hid (fun W (hW : FrR w0 W b g bs v0.2) => lR_any w0 W b g bs v0.2 hW)
 simp only [hlf] at HLF
 rw [hlf] at hK
 have hlfb : lf ≤ 2048 := by omega
 have hmin : ∀ (ts : Array TypeId) (ty : TypeId) (W : World), Sem.run Tryz.prog (Builtin.min_ ts ty #[.int .i64 v0.1, .int .i64 ((lf : Int) / 2 + 1)]) W = .ok (.int .i64 (K : Int)) W := by
  intro ts ty W
  have hm := run_min_int2 (P := Tryz.prog) (w := W) ts ty .i64 .i64 v0.1 ((lf : Int) / 2 + 1)
  have hKe : (if ((lf : Int) / 2 + 1 < v0.1) then ((lf : Int) / 2 + 1) else v0.1) = (K : Int) := by
   split <;> omega
  rwa [hKe] at hm
 clear h hb hv0 hTK hK hlf hPO hl
 go_enter Tryz.func99, Tryz.ntmps99
 go_wp2_with fail
 refine HN1.out.mono ?_
 rintro e w1 ⟨rfl, hr1, hf1⟩
 have HR1 := hid hr1
 have HF1 := hid hf1
 clear hr1 hf1 HN1
 go_wp2_with fail
 refine (HLF.out w1 HR1.out).mono ?_
 rintro e _ ⟨rfl, n2, rfl⟩
 have HR2 := hid (HR1.out.k0 ((Frm.refl [] w1).drewN n2))
 have HF2 := hid (HF1.out.trans ((Frm.refl [] w1).drewN n2) (by simp))
 obtain ⟨w2, hw2⟩ := eX (w1.drewN n2)
 rw [hw2] at HR2 HF2 ⊢
 clear hw2 HR1 HF1 HLF
 go_wp2_with fail
 clear hmin hwr hbd
 go_loopw [7, 17] (fun l i wr => ∃ (t : Nat) (p : Option Addr) (c : Nat), t ≤ K ∧ l = .slice p t c ∧ i = .int .i64 (t : Int) ∧ Hid (wr.ownsRow 0 3 1 (.slice p t c) t ((kpS bs 1 2 v0.2 t).1.map (Value.int .i64))) ∧ Hid (∀ k ∈ blk p, w.heap.size ≤ k ∧ k ≠ b ∧ k ≠ g) ∧ Hid (FrR w0 wr b g bs (kpS bs 1 2 v0.2 t).2) ∧ Hid (Frm [b] w wr)) (fun _ i _ => K - (intOf i).toNat)
 case atStart => exact ⟨0, none, 0, by omega, rfl, rfl, hid (World.ownsRow_nil _ _ _ _), hid (by simp [blk]), HR2, HF2⟩
 case round =>
  obtain ⟨t, p, c, ht, rfl, rfl, ho, hnw, hr, hf⟩ := hrel
  have HO := hid ho.out
  have HNW := hid hnw.out
  have HR := hid hr.out
  have HF := hid hf.out
  clear ho hnw hr hf HR2 HF2
  by_cases hlt : t < K
  case neg =>
   obtain rfl : t = K := by omega
   have HX : Hid (PO (.returned (.slice p t c)) wr) := hid (HP.out p t c wr (by rw [HTK.out, kpS_len]) (by rw [HTK.out]; exact HO.out) (fun k hk => (HNW.out k hk).1) (by rw [HTK.out]; exact HR.out) HF.out)
   clear hlt
   go_wp2_with fail
   try go_returns
   exact HX.out
  have t1 : (t : Int) < (K : Int) := by omega
  have HSU : Hid (kpS bs 1 2 v0.2 (t + 1) = ((kpS bs 1 2 v0.2 t).1 ++ [(nuS bs (kpS bs 1 2 v0.2 t).2 2).1 - 1], (nuS bs (kpS bs 1 2 v0.2 t).2 2).2)) := hid rfl
  have hll := kpS_len bs 1 2 v0.2 t
  obtain ⟨LL, hLL⟩ := eX (kpS bs 1 2 v0.2 t)
  rw [hLL] at HO HR HSU hll
  have HC := hid (nR_any w0 wr b g bs HBS.out LL.2 HR.out 2 (by omega) (by omega))
  have hbd := nuS_bd HBS.out LL.2 2 (by omega)
  obtain ⟨v, hv⟩ := eX (nuS bs LL.2 2)
  rw [hv] at HC hbd HSU
  have HLL := hid hll
  have hwr : IntKind.i64.wrap v.1 = v.1 := by rw [IntKind.wrap_i64]; omega
  have hw64 : wrap64 (v.1 - 1) = v.1 - 1 := by unfold wrap64; omega
  clear hLL hv hll
  go_wp2_with fail
  refine HC.out.mono ?_
  rintro e x7 ⟨rfl, hr, hf⟩
  have HR7 := hid hr
  have HF7 := hid hf
  have HA := hid ((Frm.refl [] x7).alloc (.cells #[.int .i64 (v.1 - 1)] 3))
  have HRV := hid (rv_block (heap_alloc_new x7 (.cells #[.int .i64 (v.1 - 1)] 3)))
  have HOW := hid (ownsRow_kept (ownsRow_kept HO.out hf (fun k hk hm => by rw [List.mem_singleton] at hm; exact (HNW.out k hk).2.1 hm)) HA.out (by simp))
  have ht46 : t ≤ 2049 := by omega
  clear hr hf HC
  go_wp2_with (at_builtin; refine wpList_appV rfl _ _ 23 rfl 3 1 8 _ Tryz.underlying23 infoInR rfl (by decide) p t c (LL.1.map (Value.int .i64)) rfl HOW.out (some ⟨x7.heap.size, 0, none⟩) 1 1 [.int .i64 (v.1 - 1)] rfl rfl (by simp) HRV.out (by intro u hu; simp at hu; subst hu; rfl) (by unfold maxLen; omega) (by omega) ?_)
  intro p8 c8 w8 ho8 hf8 hb8
  have hfa : Frm (blk p) x7 w8 := (HA.out.mono (by simp)).trans hf8.out (fun i hi _ => hi)
  have hr7 := HR7.out
  have hg := hr7.1.cells
  have HNX : Hid (w8.ownsRow 0 3 1 (.slice p8 (t + 1) c8) (t + 1) ((kpS bs 1 2 v0.2 (t + 1)).1.map (Value.int .i64)) ∧ (∀ k ∈ blk p8, w.heap.size ≤ k ∧ k ≠ b ∧ k ≠ g) ∧ FrR w0 w8 b g bs (kpS bs 1 2 v0.2 (t + 1)).2 ∧ Frm [b] w w8) := hid (by
   have h1 := HF.out.size
   have h2 := HF7.out.size
   rw [HSU.out]
   refine ⟨?_, fun k hk => ?_, ⟨hr7.1.kept hfa (fun hm => (HNW.out b hm).2.1 rfl) (fun hm => (HNW.out g hm).2.2 rfl), hr7.2.1.trans hfa (fun i hi hl => by have h3 := (HNW.out i hi).1; have h4 := HW0.out; omega), hr7.2.2⟩, (HF.out.trans HF7.out (fun i hi _ => hi)).trans hfa (fun i hi hl => by have := (HNW.out i hi).1; omega)⟩
   ·have h := ho8.out
    simpa using h
   ·rcases hb8.out k hk with h | h
    ·exact HNW.out k h
    ·have e1 : (x7.alloc (.cells #[.int .i64 (v.1 - 1)] 3)).heap.size = x7.heap.size + 1 := by simp
     exact ⟨by omega, by have := hg.1; omega, by have := hg.2.1; omega⟩)
  clear ho8 hf8 hb8 hfa hr7 hg HRV HOW HA HR7 HF7 hbd hwr hw64 ht46
  go_wp2_with fail
  go_roundw
  case rel => exact ⟨t + 1, p8, c8, by omega, rfl, by go_num, hid HNX.out.1, hid HNX.out.2.1, hid HNX.out.2.2.1, hid HNX.out.2.2.2⟩
  case measure => simp [intOf] <;> omega
end
section
open Go.RowKit Go.Lib
def prC : List Pr → List Value
 | [] => []
 | x :: l => .string x.1 :: .string x.2 :: prC l
theorem prC_len : ∀ P : List Pr, (prC P).length = P.length * 2
 | [] => rfl
 | x :: l => by simp only [prC, List.length_cons, prC_len l]; omega
theorem prC_app : ∀ (P Q : List Pr), prC (P ++ Q) = prC P ++ prC Q
 | [], _ => rfl
 | x :: l, Q => by simp only [List.cons_append, prC, prC_app l Q]
theorem prC_at : ∀ (P : List Pr) (i : Nat) (x : Pr), P[i]? = some x → (prC P)[i * 2]? = some (.string x.1) ∧ (prC P)[i * 2 + 1]? = some (.string x.2)
 | [], i, x, h => by simp at h
 | y :: l, 0, x, h => by simp at h; subst h; exact ⟨rfl, rfl⟩
 | y :: l, i + 1, x, h => by
  have ih := prC_at l i x (by simpa using h)
  rw [show (i + 1) * 2 = i * 2 + 1 + 1 by omega]
  simpa [prC] using ih
theorem rv_of1 {w : World} {T : TypeId} {sz : Nat} {q : Option Addr} {n c : Nat} {vs : List Value} (h : w.ownsRow 0 T sz (.slice q n c) n vs) (hl : vs.length = n * sz) : Rv w q vs := by
 by_cases hn : n = 0
 ·subst hn
  rw [Nat.zero_mul] at hl
  rw [List.eq_nil_of_length_eq_zero hl]
  exact Or.inl rfl
 ·rcases h.2 with ⟨_, h0⟩ | ⟨g, c', cur, he, _⟩
  ·omega
  ·simp only [Value.slice.injEq] at he
   obtain ⟨rfl, _, _⟩ := he
   have hcell := fun i hi => World.ownsRow.cellAt h i hi
   refine Or.inr ⟨g, 0, rfl, fun i u hu => ?_⟩
   have hi := (List.getElem?_eq_some_iff.1 hu).1
   rw [hl] at hi
   rw [Nat.zero_add, hcell i hi]
   exact hu
structure RcOwn (w : World) (r : Rc) (P : List Pr) (K D : List Int) (lo : Nat) : Prop where
 po : w.ownsRow 0 70 2 (.slice r.pp r.pn r.pc) r.pn (prC P)
 pl : P.length = r.pn
 pw : ∀ k ∈ blk r.pp, lo ≤ k
 ko : w.ownsRow 0 3 1 (.slice r.kp r.kn r.kc) r.kn (K.map (Value.int .i64))
 kl : K.length = r.kn
 kw : ∀ k ∈ blk r.kp, lo ≤ k
 ow : Own w 5 (.slice r.dp r.dl r.dc) D
 dl : D.length = r.dl
 dw : ∀ k ∈ blk r.dp, lo ≤ k
 db : ∀ z ∈ D, 0 ≤ z ∧ z < 256
 mx : r.pn ≤ 100000 ∧ r.kn ≤ 100000
theorem RcOwn.ok {w : World} {r : Rc} {P : List Pr} {K D : List Int} {lo : Nat} (h : RcOwn w r P K D lo) : RcOk w r P K D := by
 refine ⟨?_, h.pl, ?_, h.kl, h.ow.rd, h.dl, h.db, by have := h.mx; omega⟩
 ·rcases rv_of1 h.po (by rw [prC_len, h.pl]) with h1 | ⟨g, o, he, hc⟩
  ·cases P with
   | nil => exact Or.inl rfl
   | cons x l => simp [prC] at h1
  ·refine Or.inr ⟨g, o, he, fun i x hx => ?_⟩
   obtain ⟨h1, h2⟩ := prC_at P i x hx
   rw [Nat.add_assoc]
   exact ⟨hc _ _ h1, hc _ _ h2⟩
 ·exact rv_of1 h.ko (by rw [List.length_map, h.kl, Nat.mul_one])
theorem RcOwn.kept {S : List Nat} {w w' : World} {r : Rc} {P : List Pr} {K D : List Int} {lo : Nat} (h : RcOwn w r P K D lo) (hf : Frm S w w') (h1 : ∀ k ∈ blk r.pp, k ∉ S) (h2 : ∀ k ∈ blk r.kp, k ∉ S) (h3 : ∀ k ∈ blk r.dp, k ∉ S) : RcOwn w' r P K D lo :=
 ⟨ownsRow_kept h.po hf h1, h.pl, h.pw, ownsRow_kept h.ko hf h2, h.kl, h.kw, h.ow.kept hf (by rw [own_blk]; exact h3), h.dl, h.dw, h.db, h.mx⟩
theorem RcOwn.k0 {w w' : World} {r : Rc} {P : List Pr} {K D : List Int} {lo : Nat} (h : RcOwn w r P K D lo) (hf : Frm [] w w') : RcOwn w' r P K D lo := h.kept hf (by simp) (by simp) (by simp)
theorem RcOwn.less {w : World} {r : Rc} {P : List Pr} {K D : List Int} {lo lo' : Nat} (h : RcOwn w r P K D lo) (hl : lo' ≤ lo) : RcOwn w r P K D lo' :=
 ⟨h.po, h.pl, fun k hk => Nat.le_trans hl (h.pw k hk), h.ko, h.kl, fun k hk => Nat.le_trans hl (h.kw k hk), h.ow, h.dl, fun k hk => Nat.le_trans hl (h.dw k hk), h.db, h.mx⟩
def Rc.core (r : Rc) : Rc := ⟨r.kind, r.name, r.typ, r.frm, r.guid, r.origin, r.snap, none, 0, 0, r.obj, r.at_, r.many, none, 0, 0, none, 0, 0⟩
structure TkV where
 c : Rc
 p : List Pr
 k : List Int
 d : List Int
 s : Rst
def TakP (w0 w : World) (b g : Nat) (bs : List Int) (V : TkV) (e : Ending) (w' : World) : Prop := ∃ r : Rc, e = .returned (.agg r.arr) ∧ r.core = V.c ∧ RcOwn w' r V.p V.k V.d w.heap.size ∧ FrR w0 w' b g bs V.s ∧ Frm [b] w w'
structure Tk (w0 w : World) (b g : Nat) (bs : List Int) (bx : Nat) (W : World) (row : Array Value) (s : Rst) : Prop where
 fr : FrR w0 W b g bs s
 rw_ : W.heap[bx]? = some (.cells row 26 (0, 0))
 frm : Frm [b] w W
 lo : w.heap.size ≤ bx
 ne : bx ≠ b ∧ bx ≠ g ∧ w0.heap.size ≤ bx
theorem Tk.born {w0 w : World} {b g : Nat} {bs : List Int} {s : Rst} (h : FrR w0 w b g bs s) (row : Array Value) : Tk w0 w b g bs w.heap.size (w.alloc (.cells row 26)) row s := by
 have h1 := h.1.cells
 have h2 := h.2.1.size
 exact ⟨FrR.k0 h ((Frm.refl _ _).alloc _), heap_alloc_new _ _, (Frm.refl _ _).alloc _, Nat.le_refl _, by omega, by omega, h2⟩
theorem Tk.call {w0 w W W' : World} {b g bx : Nat} {bs : List Int} {row : Array Value} {s s' : Rst} (h : Tk w0 w b g bs bx W row s) (hr : FrR w0 W' b g bs s') (hf : Frm [b] W W') : Tk w0 w b g bs bx W' row s' :=
 ⟨hr, hf.heap h.rw_ (by simpa using h.ne.1), h.frm.trans hf (fun i hi _ => hi), h.lo, h.ne⟩
theorem Tk.k0 {w0 w W W' : World} {b g bx : Nat} {bs : List Int} {row : Array Value} {s : Rst} (h : Tk w0 w b g bs bx W row s) (hf : Frm [] W W') : Tk w0 w b g bs bx W' row s :=
 ⟨FrR.k0 h.fr hf, hf.heap h.rw_ (by simp), h.frm.trans hf (by simp), h.lo, h.ne⟩
theorem Tk.put {w0 w W W' : World} {b g bx : Nat} {bs : List Int} {row row' : Array Value} {s : Rst} (h : Tk w0 w b g bs bx W row s) (hr : W'.heap[bx]? = some (.cells row' 26 (0, 0))) (hf : Frm [bx] W W') : Tk w0 w b g bs bx W' row' s :=
 ⟨frR_set h.fr hf (fun e => h.ne.1 e) h.ne.2.1 h.ne.2.2, hr, h.frm.trans hf (fun i hi hl => by rw [List.mem_singleton] at hi; have := h.lo; omega), h.lo, h.ne⟩
theorem Tk.set {w0 w W : World} {b g bx : Nat} {bs : List Int} {row : Array Value} {s : Rst} (h : Tk w0 w b g bs bx W row s) (k : Nat) (v : Value) : Tk w0 w b g bs bx (W.setCell ⟨bx, k, none⟩ v) (row.setIfInBounds k v) s :=
 h.put (heap_setCell_same W bx k row _ v h.rw_) ((Frm.refl _ _).setCell _ _ (by simp))
theorem bytesT_mem (ls : List Int) (k : Int) : ∀ z ∈ (bytesT ls k).1, z ∈ ls := by
 unfold bytesT
 split
 ·simp
 ·split
  ·simp
  ·exact fun z hz => List.mem_of_mem_take hz
theorem byS_bd {bs : List Int} (hb : ∀ z ∈ bs, 0 ≤ z ∧ z < 256) (s : Rst) (k : Int) : ∀ z ∈ (byS bs s k).1, 0 ≤ z ∧ z < 256 := by
 unfold byS readS
 split
 ·simp
 ·split
  ·exact fun z hz => hb z (List.mem_of_mem_drop (bytesT_mem _ _ z hz))
  ·exact fun z hz => hb z (List.mem_of_mem_drop (bytesT_mem _ _ z hz))
theorem nuS_b1 {bs : List Int} (hb : ∀ z ∈ bs, 0 ≤ z ∧ z < 256) (s : Rst) : (nuS bs s 1).1 < 256 := by
 have h0 : (0 : Int) < 256 := by omega
 unfold nuS readS
 split
 ·exact h0
 ·have hn : (numT (bs.drop s.1) 1).1 < 256 := by
   unfold numT
   split
   ·exact h0
   ·split
    ·exact h0
    ·have hl : ((bs.drop s.1).take (1 : Int).toNat).length ≤ 1 := by rw [List.length_take]; exact Nat.min_le_left _ _
     have h3 := leV_bd ((bs.drop s.1).take (1 : Int).toNat) (fun z hz => hb z (List.mem_of_mem_drop (List.mem_of_mem_take hz)))
     have h4 : (2 : Int) ^ (8 * ((bs.drop s.1).take (1 : Int).toNat).length) ≤ 256 := by
      generalize ((bs.drop s.1).take (1 : Int).toNat).length = x at hl
      have hx : x = 0 ∨ x = 1 := by omega
      rcases hx with rfl | rfl <;> decide
     show leV _ < _
     omega
  split
  ·exact hn
  ·exact hn
def tvCn (bs : List Int) : TkV := ⟨⟨0, ⟨#[]⟩, 0, 0, 0, 0, ⟨#[]⟩, none, 0, 0, 0, 0, (nuS bs (0, 0) 4).1, none, 0, 0, none, 0, 0⟩, [], [], [], (nuS bs (0, 0) 4).2⟩
theorem takeCount_any (w0 w : World) (b g : Nat) (bs : List Int) (hb : ∀ z ∈ bs, 0 ≤ z ∧ z < 256) (hl : bs.length ≤ 2048) (h : FrR w0 w b g bs (0, 0)) :
  Calls Tryz.prog 47 #[.pointer (some ⟨b, 0, none⟩)] w (TakP w0 w b g bs (tvCn bs)) := by
 obtain ⟨PO, hPO⟩ : ∃ PO : Ending → World → Prop, TakP w0 w b g bs (tvCn bs) = PO := ⟨_, rfl⟩
 rw [hPO]
 have HP := hid (show ∀ e w', TakP w0 w b g bs (tvCn bs) e w' → PO e w' from fun e w' h => by rw [← hPO]; exact h)
 have HB := hid hb
 have HL := hid hl
 have hbn := Tk.born h #[.int .i64 0, .string ⟨#[]⟩, .int .i64 0, .int .i64 0, .int .i64 0, .int .i64 0, .string ⟨#[]⟩, .slice none 0 0, .int .i64 0, .int .i64 0, .int .i64 0, .slice none 0 0, .slice none 0 0]
 obtain ⟨wx, hwx⟩ := eX (w.alloc (.cells #[.int .i64 0, .string ⟨#[]⟩, .int .i64 0, .int .i64 0, .int .i64 0, .int .i64 0, .string ⟨#[]⟩, .slice none 0 0, .int .i64 0, .int .i64 0, .int .i64 0, .slice none 0 0, .slice none 0 0] 26))
 obtain ⟨bx, hbx⟩ := eX (w.heap.size)
 rw [hwx, hbx] at hbn
 have HS0 := hid hbn
 have HWX := hid hwx
 have HBX := hid hbx
 clear hb hl h hPO hbn hwx hbx
 go_enter Tryz.func47, Tryz.ntmps47
 go_upto_region 1 with fail
 try rw [HWX.out]
 try rw [HBX.out]
 have HC1 := hid (nR_any w0 wx b g bs HB.out (0, 0) HS0.out.fr 4 (by omega) (by omega))
 have hbd1 := nuS_bd HB.out (0, 0) 4 (by omega)
 obtain ⟨v1, hv1⟩ := eX (nuS bs (0, 0) 4)
 rw [hv1] at HC1 hbd1
 have HV1 := hid hv1
 clear hv1
 have hw1 : IntKind.i64.wrap v1.1 = v1.1 := by rw [IntKind.wrap_i64]; omega
 go_wp2_with fail
 refine HC1.out.mono ?_
 rintro e x1 ⟨rfl, hr, hf⟩
 have HX1 := hid (Tk.call HS0.out hr hf)
 clear hr hf HC1
 have z10 := cR 10 (.int .i64 0) HX1.out.rw_
 have y10 := fZ 10 HX1.out.rw_
 go_upto_region 2 with fail
 obtain ⟨W1, hW1⟩ := eX (x1.setCell ⟨bx, 10, none⟩ (.int .i64 v1.1))
 have HW1 : Hid (Tk w0 w b g bs bx W1 #[.int .i64 0, .string ⟨#[]⟩, .int .i64 0, .int .i64 0, .int .i64 0, .int .i64 0, .string ⟨#[]⟩, .slice none 0 0, .int .i64 0, .int .i64 0, .int .i64 v1.1, .slice none 0 0, .slice none 0 0] v1.2) := hid (by rw [← hW1]; exact Tk.set HX1.out 10 (.int .i64 v1.1))
 rw [hW1]
 clear z10 y10 hw1 hbd1
 have z0 := cR 0 (.int .i64 0) HW1.out.rw_
 have y0 := fZ 0 HW1.out.rw_
 have z1 := cR 1 (.string ⟨#[]⟩) HW1.out.rw_
 have y1 := fZ 1 HW1.out.rw_
 have z2 := cR 2 (.int .i64 0) HW1.out.rw_
 have y2 := fZ 2 HW1.out.rw_
 have z3 := cR 3 (.int .i64 0) HW1.out.rw_
 have y3 := fZ 3 HW1.out.rw_
 have z4 := cR 4 (.int .i64 0) HW1.out.rw_
 have y4 := fZ 4 HW1.out.rw_
 have z5 := cR 5 (.int .i64 0) HW1.out.rw_
 have y5 := fZ 5 HW1.out.rw_
 have z6 := cR 6 (.string ⟨#[]⟩) HW1.out.rw_
 have y6 := fZ 6 HW1.out.rw_
 have z7 := cR 7 (.slice none 0 0) HW1.out.rw_
 have y7 := fZ 7 HW1.out.rw_
 have z8 := cR 8 (.int .i64 0) HW1.out.rw_
 have y8 := fZ 8 HW1.out.rw_
 have z9 := cR 9 (.int .i64 0) HW1.out.rw_
 have y9 := fZ 9 HW1.out.rw_
 have z10 := cR 10 (.int .i64 v1.1) HW1.out.rw_
 have y10 := fZ 10 HW1.out.rw_
 have z11 := cR 11 (.slice none 0 0) HW1.out.rw_
 have y11 := fZ 11 HW1.out.rw_
 have z12 := cR 12 (.slice none 0 0) HW1.out.rw_
 have y12 := fZ 12 HW1.out.rw_
 go_wp2_with fail
 obtain ⟨Wz, hwz, h5, f5⟩ := sE bx 26 [(0, .int .i64 0), (1, .string ⟨#[]⟩), (2, .int .i64 0), (3, .int .i64 0), (4, .int .i64 0), (5, .int .i64 0), (6, .string ⟨#[]⟩), (7, .slice none 0 0), (8, .int .i64 0), (9, .int .i64 0), (10, .int .i64 v1.1), (11, .slice none 0 0), (12, .slice none 0 0)] W1 _ HW1.out.rw_
 simp only [List.foldl, List.setIfInBounds_toArray, List.set_cons_zero, List.set_cons_succ] at h5
 simp only [setsF] at hwz
 have hWz := hwz
 rw [hwz]
 have HZ := hid (Tk.put HW1.out h5 f5)
 have u0 := cR 0 (.int .i64 0) h5
 have u1 := cR 1 (.string ⟨#[]⟩) h5
 have u2 := cR 2 (.int .i64 0) h5
 have u3 := cR 3 (.int .i64 0) h5
 have u4 := cR 4 (.int .i64 0) h5
 have u5 := cR 5 (.int .i64 0) h5
 have u6 := cR 6 (.string ⟨#[]⟩) h5
 have u7 := cR 7 (.slice none 0 0) h5
 have u8 := cR 8 (.int .i64 0) h5
 have u9 := cR 9 (.int .i64 0) h5
 have u10 := cR 10 (.int .i64 v1.1) h5
 have u11 := cR 11 (.slice none 0 0) h5
 have u12 := cR 12 (.slice none 0 0) h5
 refine bodyPost_ret (v := .agg #[.int .i64 0, .string ⟨#[]⟩, .int .i64 0, .int .i64 0, .int .i64 0, .int .i64 0, .string ⟨#[]⟩, .slice none 0 0, .int .i64 0, .int .i64 0, .int .i64 v1.1, .slice none 0 0, .slice none 0 0]) (by simp [results, Tryz.results47, go_sem, u0, u1, u2, u3, u4, u5, u6, u7, u8, u9, u10, u11, u12]) rfl ?_
 refine HP.out _ _ ⟨⟨0, ⟨#[]⟩, 0, 0, 0, 0, ⟨#[]⟩, none, 0, 0, 0, 0, v1.1, none, 0, 0, none, 0, 0⟩, rfl, ?_, ?_, ?_, HZ.out.frm⟩
 ·unfold tvCn; rw [HV1.out]; rfl
 ·unfold tvCn; rw [HV1.out]; exact ⟨World.ownsRow_nil _ _ _ _, rfl, by simp [blk], World.ownsRow_nil _ _ _ _, rfl, by simp [blk], Own.nil _ _, rfl, by simp [blk], by simp, by simp⟩
 ·unfold tvCn; rw [HV1.out]; exact HZ.out.fr
def tvPk (bs : List Int) : TkV := ⟨⟨0, strOfNums (txS bs (0, 0) 240).1, 0, 0, 0, 0, ⟨#[]⟩, none, 0, 0, 0, 0, (nuS bs (txS bs (0, 0) 240).2 2).1, none, 0, 0, none, 0, 0⟩, [], [], [], (nuS bs (txS bs (0, 0) 240).2 2).2⟩
theorem takePackage_any (w0 w : World) (b g : Nat) (bs : List Int) (hb : ∀ z ∈ bs, 0 ≤ z ∧ z < 256) (hl : bs.length ≤ 2048) (h : FrR w0 w b g bs (0, 0)) :
  Calls Tryz.prog 51 #[.pointer (some ⟨b, 0, none⟩)] w (TakP w0 w b g bs (tvPk bs)) := by
 obtain ⟨PO, hPO⟩ : ∃ PO : Ending → World → Prop, TakP w0 w b g bs (tvPk bs) = PO := ⟨_, rfl⟩
 rw [hPO]
 have HP := hid (show ∀ e w', TakP w0 w b g bs (tvPk bs) e w' → PO e w' from fun e w' h => by rw [← hPO]; exact h)
 have HB := hid hb
 have HL := hid hl
 have hbn := Tk.born h #[.int .i64 0, .string ⟨#[]⟩, .int .i64 0, .int .i64 0, .int .i64 0, .int .i64 0, .string ⟨#[]⟩, .slice none 0 0, .int .i64 0, .int .i64 0, .int .i64 0, .slice none 0 0, .slice none 0 0]
 obtain ⟨wx, hwx⟩ := eX (w.alloc (.cells #[.int .i64 0, .string ⟨#[]⟩, .int .i64 0, .int .i64 0, .int .i64 0, .int .i64 0, .string ⟨#[]⟩, .slice none 0 0, .int .i64 0, .int .i64 0, .int .i64 0, .slice none 0 0, .slice none 0 0] 26))
 obtain ⟨bx, hbx⟩ := eX (w.heap.size)
 rw [hwx, hbx] at hbn
 have HS0 := hid hbn
 have HWX := hid hwx
 have HBX := hid hbx
 clear hb hl h hPO hbn hwx hbx
 go_enter Tryz.func51, Tryz.ntmps51
 go_upto_region 1 with fail
 try rw [HWX.out]
 try rw [HBX.out]
 have HC1 := hid (tR_any w0 wx b g bs HB.out (0, 0) HS0.out.fr 240 (by omega) (by omega))
 obtain ⟨v1, hv1⟩ := eX (txS bs (0, 0) 240)
 rw [hv1] at HC1
 have HV1 := hid hv1
 clear hv1
 go_wp2_with fail
 refine HC1.out.mono ?_
 rintro e x1 ⟨rfl, hr, hf⟩
 have HX1 := hid (Tk.call HS0.out hr hf)
 clear hr hf HC1
 have z1 := cR 1 (.string ⟨#[]⟩) HX1.out.rw_
 have y1 := fZ 1 HX1.out.rw_
 go_upto_region 2 with fail
 obtain ⟨W1, hW1⟩ := eX (x1.setCell ⟨bx, 1, none⟩ (.string (strOfNums v1.1)))
 have HW1 : Hid (Tk w0 w b g bs bx W1 #[.int .i64 0, .string (strOfNums v1.1), .int .i64 0, .int .i64 0, .int .i64 0, .int .i64 0, .string ⟨#[]⟩, .slice none 0 0, .int .i64 0, .int .i64 0, .int .i64 0, .slice none 0 0, .slice none 0 0] v1.2) := hid (by rw [← hW1]; exact Tk.set HX1.out 1 (.string (strOfNums v1.1)))
 rw [hW1]
 clear z1 y1 
 have HC2 := hid (nR_any w0 W1 b g bs HB.out v1.2 HW1.out.fr 2 (by omega) (by omega))
 have hbd2 := nuS_bd HB.out v1.2 2 (by omega)
 obtain ⟨v2, hv2⟩ := eX (nuS bs v1.2 2)
 rw [hv2] at HC2 hbd2
 have HV2 := hid hv2
 clear hv2
 have hw2 : IntKind.i64.wrap v2.1 = v2.1 := by rw [IntKind.wrap_i64]; omega
 go_wp2_with fail
 refine HC2.out.mono ?_
 rintro e x2 ⟨rfl, hr, hf⟩
 have HX2 := hid (Tk.call HW1.out hr hf)
 clear hr hf HC2
 have z10 := cR 10 (.int .i64 0) HX2.out.rw_
 have y10 := fZ 10 HX2.out.rw_
 go_upto_region 3 with fail
 obtain ⟨W2, hW2⟩ := eX (x2.setCell ⟨bx, 10, none⟩ (.int .i64 v2.1))
 have HW2 : Hid (Tk w0 w b g bs bx W2 #[.int .i64 0, .string (strOfNums v1.1), .int .i64 0, .int .i64 0, .int .i64 0, .int .i64 0, .string ⟨#[]⟩, .slice none 0 0, .int .i64 0, .int .i64 0, .int .i64 v2.1, .slice none 0 0, .slice none 0 0] v2.2) := hid (by rw [← hW2]; exact Tk.set HX2.out 10 (.int .i64 v2.1))
 rw [hW2]
 clear z10 y10 hw2 hbd2
 have z0 := cR 0 (.int .i64 0) HW2.out.rw_
 have y0 := fZ 0 HW2.out.rw_
 have z1 := cR 1 (.string (strOfNums v1.1)) HW2.out.rw_
 have y1 := fZ 1 HW2.out.rw_
 have z2 := cR 2 (.int .i64 0) HW2.out.rw_
 have y2 := fZ 2 HW2.out.rw_
 have z3 := cR 3 (.int .i64 0) HW2.out.rw_
 have y3 := fZ 3 HW2.out.rw_
 have z4 := cR 4 (.int .i64 0) HW2.out.rw_
 have y4 := fZ 4 HW2.out.rw_
 have z5 := cR 5 (.int .i64 0) HW2.out.rw_
 have y5 := fZ 5 HW2.out.rw_
 have z6 := cR 6 (.string ⟨#[]⟩) HW2.out.rw_
 have y6 := fZ 6 HW2.out.rw_
 have z7 := cR 7 (.slice none 0 0) HW2.out.rw_
 have y7 := fZ 7 HW2.out.rw_
 have z8 := cR 8 (.int .i64 0) HW2.out.rw_
 have y8 := fZ 8 HW2.out.rw_
 have z9 := cR 9 (.int .i64 0) HW2.out.rw_
 have y9 := fZ 9 HW2.out.rw_
 have z10 := cR 10 (.int .i64 v2.1) HW2.out.rw_
 have y10 := fZ 10 HW2.out.rw_
 have z11 := cR 11 (.slice none 0 0) HW2.out.rw_
 have y11 := fZ 11 HW2.out.rw_
 have z12 := cR 12 (.slice none 0 0) HW2.out.rw_
 have y12 := fZ 12 HW2.out.rw_
 go_wp2_with fail
 obtain ⟨Wz, hwz, h5, f5⟩ := sE bx 26 [(0, .int .i64 0), (1, .string (strOfNums v1.1)), (2, .int .i64 0), (3, .int .i64 0), (4, .int .i64 0), (5, .int .i64 0), (6, .string ⟨#[]⟩), (7, .slice none 0 0), (8, .int .i64 0), (9, .int .i64 0), (10, .int .i64 v2.1), (11, .slice none 0 0), (12, .slice none 0 0)] W2 _ HW2.out.rw_
 simp only [List.foldl, List.setIfInBounds_toArray, List.set_cons_zero, List.set_cons_succ] at h5
 simp only [setsF] at hwz
 have hWz := hwz
 rw [hwz]
 have HZ := hid (Tk.put HW2.out h5 f5)
 have u0 := cR 0 (.int .i64 0) h5
 have u1 := cR 1 (.string (strOfNums v1.1)) h5
 have u2 := cR 2 (.int .i64 0) h5
 have u3 := cR 3 (.int .i64 0) h5
 have u4 := cR 4 (.int .i64 0) h5
 have u5 := cR 5 (.int .i64 0) h5
 have u6 := cR 6 (.string ⟨#[]⟩) h5
 have u7 := cR 7 (.slice none 0 0) h5
 have u8 := cR 8 (.int .i64 0) h5
 have u9 := cR 9 (.int .i64 0) h5
 have u10 := cR 10 (.int .i64 v2.1) h5
 have u11 := cR 11 (.slice none 0 0) h5
 have u12 := cR 12 (.slice none 0 0) h5
 refine bodyPost_ret (v := .agg #[.int .i64 0, .string (strOfNums v1.1), .int .i64 0, .int .i64 0, .int .i64 0, .int .i64 0, .string ⟨#[]⟩, .slice none 0 0, .int .i64 0, .int .i64 0, .int .i64 v2.1, .slice none 0 0, .slice none 0 0]) (by simp [results, Tryz.results51, go_sem, u0, u1, u2, u3, u4, u5, u6, u7, u8, u9, u10, u11, u12]) rfl ?_
 refine HP.out _ _ ⟨⟨0, strOfNums v1.1, 0, 0, 0, 0, ⟨#[]⟩, none, 0, 0, 0, 0, v2.1, none, 0, 0, none, 0, 0⟩, rfl, ?_, ?_, ?_, HZ.out.frm⟩
 ·unfold tvPk; rw [HV1.out, HV2.out]; rfl
 ·unfold tvPk; rw [HV1.out, HV2.out]; exact ⟨World.ownsRow_nil _ _ _ _, rfl, by simp [blk], World.ownsRow_nil _ _ _ _, rfl, by simp [blk], Own.nil _ _, rfl, by simp [blk], by simp, by simp⟩
 ·unfold tvPk; rw [HV1.out, HV2.out]; exact HZ.out.fr
def tvLv (bs : List Int) : TkV := ⟨⟨0, ⟨#[]⟩, 0, 0, 0, 0, ⟨#[]⟩, none, 0, 0, 0, 0, 0, none, 0, 0, none, 0, 0⟩, [], (tkK bs 0 4 (0, 0)).1, [], (tkK bs 0 4 (0, 0)).2⟩
theorem takeLive_any (w0 w : World) (b g : Nat) (bs : List Int) (hb : ∀ z ∈ bs, 0 ≤ z ∧ z < 256) (hl : bs.length ≤ 2048) (h : FrR w0 w b g bs (0, 0)) :
  Calls Tryz.prog 59 #[.pointer (some ⟨b, 0, none⟩)] w (TakP w0 w b g bs (tvLv bs)) := by
 obtain ⟨PO, hPO⟩ : ∃ PO : Ending → World → Prop, TakP w0 w b g bs (tvLv bs) = PO := ⟨_, rfl⟩
 rw [hPO]
 have HP := hid (show ∀ e w', TakP w0 w b g bs (tvLv bs) e w' → PO e w' from fun e w' h => by rw [← hPO]; exact h)
 have HB := hid hb
 have HL := hid hl
 have hbn := Tk.born h #[.int .i64 0, .string ⟨#[]⟩, .int .i64 0, .int .i64 0, .int .i64 0, .int .i64 0, .string ⟨#[]⟩, .slice none 0 0, .int .i64 0, .int .i64 0, .int .i64 0, .slice none 0 0, .slice none 0 0]
 obtain ⟨wx, hwx⟩ := eX (w.alloc (.cells #[.int .i64 0, .string ⟨#[]⟩, .int .i64 0, .int .i64 0, .int .i64 0, .int .i64 0, .string ⟨#[]⟩, .slice none 0 0, .int .i64 0, .int .i64 0, .int .i64 0, .slice none 0 0, .slice none 0 0] 26))
 obtain ⟨bx, hbx⟩ := eX (w.heap.size)
 rw [hwx, hbx] at hbn
 have HS0 := hid hbn
 have HWX := hid hwx
 have HBX := hid hbx
 clear hb hl h hPO hbn hwx hbx
 go_enter Tryz.func59, Tryz.ntmps59
 go_upto_region 1 with fail
 try rw [HWX.out]
 try rw [HBX.out]
 have HCK := hid (takeKeep4_any w0 wx b g bs HB.out HL.out (0, 0) HS0.out.fr)
 obtain ⟨TV, hTV⟩ := eX (tkK bs 0 4 (0, 0))
 rw [hTV] at HCK
 have HTV := hid hTV
 clear hTV
 go_wp2_with fail
 refine HCK.out.mono ?_
 rintro e xk ⟨p, n, c, rfl, hn, ho, hnw, hr, hf⟩
 have HXK := hid (Tk.call HS0.out hr hf)
 have HO := hid ho
 have HN := hid hn
 have HNW : Hid (∀ k ∈ blk p, w.heap.size ≤ k ∧ k ≠ bx) := hid (fun k hk => by have h1 := hnw k hk; have h2 := HS0.out.frm.size; have h3 := lt_of_heap HS0.out.rw_; exact ⟨by omega, by omega⟩)
 have HNB : Hid (n ≤ 100000) := hid (by rw [← hn, ← HTV.out]; unfold tkK; rw [kpS_len]; unfold kpN; have := HL.out; omega)
 clear ho hn hnw hr hf HCK
 have z11 := cR 11 (.slice none 0 0) HXK.out.rw_
 have y11 := fZ 11 HXK.out.rw_
 go_upto_region 2 with fail
 obtain ⟨W1, hW1⟩ := eX (xk.setCell ⟨bx, 11, none⟩ (.slice p n c))
 have HW1 : Hid (Tk w0 w b g bs bx W1 #[.int .i64 0, .string ⟨#[]⟩, .int .i64 0, .int .i64 0, .int .i64 0, .int .i64 0, .string ⟨#[]⟩, .slice none 0 0, .int .i64 0, .int .i64 0, .int .i64 0, .slice p n c, .slice none 0 0] TV.2) := hid (by rw [← hW1]; exact Tk.set HXK.out 11 (.slice p n c))
 rw [hW1]
 clear z11 y11 
 have HO2 := hid (ownsRow_kept HO.out (show Frm [bx] xk W1 by rw [← hW1]; exact (Frm.refl [bx] xk).setCell _ _ (by simp)) (fun k hk hm => by rw [List.mem_singleton] at hm; exact (HNW.out k hk).2 hm))
 have z0 := cR 0 (.int .i64 0) HW1.out.rw_
 have y0 := fZ 0 HW1.out.rw_
 have z1 := cR 1 (.string ⟨#[]⟩) HW1.out.rw_
 have y1 := fZ 1 HW1.out.rw_
 have z2 := cR 2 (.int .i64 0) HW1.out.rw_
 have y2 := fZ 2 HW1.out.rw_
 have z3 := cR 3 (.int .i64 0) HW1.out.rw_
 have y3 := fZ 3 HW1.out.rw_
 have z4 := cR 4 (.int .i64 0) HW1.out.rw_
 have y4 := fZ 4 HW1.out.rw_
 have z5 := cR 5 (.int .i64 0) HW1.out.rw_
 have y5 := fZ 5 HW1.out.rw_
 have z6 := cR 6 (.string ⟨#[]⟩) HW1.out.rw_
 have y6 := fZ 6 HW1.out.rw_
 have z7 := cR 7 (.slice none 0 0) HW1.out.rw_
 have y7 := fZ 7 HW1.out.rw_
 have z8 := cR 8 (.int .i64 0) HW1.out.rw_
 have y8 := fZ 8 HW1.out.rw_
 have z9 := cR 9 (.int .i64 0) HW1.out.rw_
 have y9 := fZ 9 HW1.out.rw_
 have z10 := cR 10 (.int .i64 0) HW1.out.rw_
 have y10 := fZ 10 HW1.out.rw_
 have z11 := cR 11 (.slice p n c) HW1.out.rw_
 have y11 := fZ 11 HW1.out.rw_
 have z12 := cR 12 (.slice none 0 0) HW1.out.rw_
 have y12 := fZ 12 HW1.out.rw_
 go_wp2_with fail
 obtain ⟨Wz, hwz, h5, f5⟩ := sE bx 26 [(0, .int .i64 0), (1, .string ⟨#[]⟩), (2, .int .i64 0), (3, .int .i64 0), (4, .int .i64 0), (5, .int .i64 0), (6, .string ⟨#[]⟩), (7, .slice none 0 0), (8, .int .i64 0), (9, .int .i64 0), (10, .int .i64 0), (11, .slice p n c), (12, .slice none 0 0)] W1 _ HW1.out.rw_
 simp only [List.foldl, List.setIfInBounds_toArray, List.set_cons_zero, List.set_cons_succ] at h5
 simp only [setsF] at hwz
 have hWz := hwz
 rw [hwz]
 have HZ := hid (Tk.put HW1.out h5 f5)
 have u0 := cR 0 (.int .i64 0) h5
 have u1 := cR 1 (.string ⟨#[]⟩) h5
 have u2 := cR 2 (.int .i64 0) h5
 have u3 := cR 3 (.int .i64 0) h5
 have u4 := cR 4 (.int .i64 0) h5
 have u5 := cR 5 (.int .i64 0) h5
 have u6 := cR 6 (.string ⟨#[]⟩) h5
 have u7 := cR 7 (.slice none 0 0) h5
 have u8 := cR 8 (.int .i64 0) h5
 have u9 := cR 9 (.int .i64 0) h5
 have u10 := cR 10 (.int .i64 0) h5
 have u11 := cR 11 (.slice p n c) h5
 have u12 := cR 12 (.slice none 0 0) h5
 refine bodyPost_ret (v := .agg #[.int .i64 0, .string ⟨#[]⟩, .int .i64 0, .int .i64 0, .int .i64 0, .int .i64 0, .string ⟨#[]⟩, .slice none 0 0, .int .i64 0, .int .i64 0, .int .i64 0, .slice p n c, .slice none 0 0]) (by simp [results, Tryz.results59, go_sem, u0, u1, u2, u3, u4, u5, u6, u7, u8, u9, u10, u11, u12]) rfl ?_
 refine HP.out _ _ ⟨⟨0, ⟨#[]⟩, 0, 0, 0, 0, ⟨#[]⟩, none, 0, 0, 0, 0, 0, p, n, c, none, 0, 0⟩, rfl, ?_, ?_, ?_, HZ.out.frm⟩
 ·unfold tvLv; rw [HTV.out]; rfl
 ·unfold tvLv; rw [HTV.out]; exact ⟨World.ownsRow_nil _ _ _ _, rfl, by simp [blk], ownsRow_kept HO2.out f5 (fun k hk hm => by rw [List.mem_singleton] at hm; exact (HNW.out k hk).2 hm), HN.out, fun k hk => (HNW.out k hk).1, Own.nil _ _, rfl, by simp [blk], by simp, by simp, HNB.out⟩
 ·unfold tvLv; rw [HTV.out]; exact HZ.out.fr
def tvNd (bs : List Int) : TkV := ⟨⟨0, ⟨#[]⟩, 0, 0, 0, 0, ⟨#[]⟩, none, 0, 0, (nuS bs (0, 0) 4).1, 0, 0, none, 0, 0, none, 0, 0⟩, [], (tkK bs 1 2 (nuS bs (0, 0) 4).2).1, [], (tkK bs 1 2 (nuS bs (0, 0) 4).2).2⟩
theorem takeNode_any (w0 w : World) (b g : Nat) (bs : List Int) (hb : ∀ z ∈ bs, 0 ≤ z ∧ z < 256) (hl : bs.length ≤ 2048) (h : FrR w0 w b g bs (0, 0)) :
  Calls Tryz.prog 63 #[.pointer (some ⟨b, 0, none⟩)] w (TakP w0 w b g bs (tvNd bs)) := by
 obtain ⟨PO, hPO⟩ : ∃ PO : Ending → World → Prop, TakP w0 w b g bs (tvNd bs) = PO := ⟨_, rfl⟩
 rw [hPO]
 have HP := hid (show ∀ e w', TakP w0 w b g bs (tvNd bs) e w' → PO e w' from fun e w' h => by rw [← hPO]; exact h)
 have HB := hid hb
 have HL := hid hl
 have hbn := Tk.born h #[.int .i64 0, .string ⟨#[]⟩, .int .i64 0, .int .i64 0, .int .i64 0, .int .i64 0, .string ⟨#[]⟩, .slice none 0 0, .int .i64 0, .int .i64 0, .int .i64 0, .slice none 0 0, .slice none 0 0]
 obtain ⟨wx, hwx⟩ := eX (w.alloc (.cells #[.int .i64 0, .string ⟨#[]⟩, .int .i64 0, .int .i64 0, .int .i64 0, .int .i64 0, .string ⟨#[]⟩, .slice none 0 0, .int .i64 0, .int .i64 0, .int .i64 0, .slice none 0 0, .slice none 0 0] 26))
 obtain ⟨bx, hbx⟩ := eX (w.heap.size)
 rw [hwx, hbx] at hbn
 have HS0 := hid hbn
 have HWX := hid hwx
 have HBX := hid hbx
 clear hb hl h hPO hbn hwx hbx
 go_enter Tryz.func63, Tryz.ntmps63
 go_upto_region 1 with fail
 try rw [HWX.out]
 try rw [HBX.out]
 have HC1 := hid (nR_any w0 wx b g bs HB.out (0, 0) HS0.out.fr 4 (by omega) (by omega))
 have hbd1 := nuS_bd HB.out (0, 0) 4 (by omega)
 obtain ⟨v1, hv1⟩ := eX (nuS bs (0, 0) 4)
 rw [hv1] at HC1 hbd1
 have HV1 := hid hv1
 clear hv1
 have hw1 : IntKind.i64.wrap v1.1 = v1.1 := by rw [IntKind.wrap_i64]; omega
 go_wp2_with fail
 refine HC1.out.mono ?_
 rintro e x1 ⟨rfl, hr, hf⟩
 have HX1 := hid (Tk.call HS0.out hr hf)
 clear hr hf HC1
 have z8 := cR 8 (.int .i64 0) HX1.out.rw_
 have y8 := fZ 8 HX1.out.rw_
 go_upto_region 2 with fail
 obtain ⟨W1, hW1⟩ := eX (x1.setCell ⟨bx, 8, none⟩ (.int .i64 v1.1))
 have HW1 : Hid (Tk w0 w b g bs bx W1 #[.int .i64 0, .string ⟨#[]⟩, .int .i64 0, .int .i64 0, .int .i64 0, .int .i64 0, .string ⟨#[]⟩, .slice none 0 0, .int .i64 v1.1, .int .i64 0, .int .i64 0, .slice none 0 0, .slice none 0 0] v1.2) := hid (by rw [← hW1]; exact Tk.set HX1.out 8 (.int .i64 v1.1))
 rw [hW1]
 clear z8 y8 hw1 hbd1
 have HCK := hid (takeKeep2_any w0 W1 b g bs HB.out HL.out v1.2 HW1.out.fr)
 obtain ⟨TV, hTV⟩ := eX (tkK bs 1 2 v1.2)
 rw [hTV] at HCK
 have HTV := hid hTV
 clear hTV
 go_wp2_with fail
 refine HCK.out.mono ?_
 rintro e xk ⟨p, n, c, rfl, hn, ho, hnw, hr, hf⟩
 have HXK := hid (Tk.call HW1.out hr hf)
 have HO := hid ho
 have HN := hid hn
 have HNW : Hid (∀ k ∈ blk p, w.heap.size ≤ k ∧ k ≠ bx) := hid (fun k hk => by have h1 := hnw k hk; have h2 := HW1.out.frm.size; have h3 := lt_of_heap HW1.out.rw_; exact ⟨by omega, by omega⟩)
 have HNB : Hid (n ≤ 100000) := hid (by rw [← hn, ← HTV.out]; unfold tkK; rw [kpS_len]; unfold kpN; have := HL.out; omega)
 clear ho hn hnw hr hf HCK
 have z11 := cR 11 (.slice none 0 0) HXK.out.rw_
 have y11 := fZ 11 HXK.out.rw_
 go_upto_region 3 with fail
 obtain ⟨W2, hW2⟩ := eX (xk.setCell ⟨bx, 11, none⟩ (.slice p n c))
 have HW2 : Hid (Tk w0 w b g bs bx W2 #[.int .i64 0, .string ⟨#[]⟩, .int .i64 0, .int .i64 0, .int .i64 0, .int .i64 0, .string ⟨#[]⟩, .slice none 0 0, .int .i64 v1.1, .int .i64 0, .int .i64 0, .slice p n c, .slice none 0 0] TV.2) := hid (by rw [← hW2]; exact Tk.set HXK.out 11 (.slice p n c))
 rw [hW2]
 clear z11 y11 
 have HO2 := hid (ownsRow_kept HO.out (show Frm [bx] xk W2 by rw [← hW2]; exact (Frm.refl [bx] xk).setCell _ _ (by simp)) (fun k hk hm => by rw [List.mem_singleton] at hm; exact (HNW.out k hk).2 hm))
 have z0 := cR 0 (.int .i64 0) HW2.out.rw_
 have y0 := fZ 0 HW2.out.rw_
 have z1 := cR 1 (.string ⟨#[]⟩) HW2.out.rw_
 have y1 := fZ 1 HW2.out.rw_
 have z2 := cR 2 (.int .i64 0) HW2.out.rw_
 have y2 := fZ 2 HW2.out.rw_
 have z3 := cR 3 (.int .i64 0) HW2.out.rw_
 have y3 := fZ 3 HW2.out.rw_
 have z4 := cR 4 (.int .i64 0) HW2.out.rw_
 have y4 := fZ 4 HW2.out.rw_
 have z5 := cR 5 (.int .i64 0) HW2.out.rw_
 have y5 := fZ 5 HW2.out.rw_
 have z6 := cR 6 (.string ⟨#[]⟩) HW2.out.rw_
 have y6 := fZ 6 HW2.out.rw_
 have z7 := cR 7 (.slice none 0 0) HW2.out.rw_
 have y7 := fZ 7 HW2.out.rw_
 have z8 := cR 8 (.int .i64 v1.1) HW2.out.rw_
 have y8 := fZ 8 HW2.out.rw_
 have z9 := cR 9 (.int .i64 0) HW2.out.rw_
 have y9 := fZ 9 HW2.out.rw_
 have z10 := cR 10 (.int .i64 0) HW2.out.rw_
 have y10 := fZ 10 HW2.out.rw_
 have z11 := cR 11 (.slice p n c) HW2.out.rw_
 have y11 := fZ 11 HW2.out.rw_
 have z12 := cR 12 (.slice none 0 0) HW2.out.rw_
 have y12 := fZ 12 HW2.out.rw_
 go_wp2_with fail
 obtain ⟨Wz, hwz, h5, f5⟩ := sE bx 26 [(0, .int .i64 0), (1, .string ⟨#[]⟩), (2, .int .i64 0), (3, .int .i64 0), (4, .int .i64 0), (5, .int .i64 0), (6, .string ⟨#[]⟩), (7, .slice none 0 0), (8, .int .i64 v1.1), (9, .int .i64 0), (10, .int .i64 0), (11, .slice p n c), (12, .slice none 0 0)] W2 _ HW2.out.rw_
 simp only [List.foldl, List.setIfInBounds_toArray, List.set_cons_zero, List.set_cons_succ] at h5
 simp only [setsF] at hwz
 have hWz := hwz
 rw [hwz]
 have HZ := hid (Tk.put HW2.out h5 f5)
 have u0 := cR 0 (.int .i64 0) h5
 have u1 := cR 1 (.string ⟨#[]⟩) h5
 have u2 := cR 2 (.int .i64 0) h5
 have u3 := cR 3 (.int .i64 0) h5
 have u4 := cR 4 (.int .i64 0) h5
 have u5 := cR 5 (.int .i64 0) h5
 have u6 := cR 6 (.string ⟨#[]⟩) h5
 have u7 := cR 7 (.slice none 0 0) h5
 have u8 := cR 8 (.int .i64 v1.1) h5
 have u9 := cR 9 (.int .i64 0) h5
 have u10 := cR 10 (.int .i64 0) h5
 have u11 := cR 11 (.slice p n c) h5
 have u12 := cR 12 (.slice none 0 0) h5
 refine bodyPost_ret (v := .agg #[.int .i64 0, .string ⟨#[]⟩, .int .i64 0, .int .i64 0, .int .i64 0, .int .i64 0, .string ⟨#[]⟩, .slice none 0 0, .int .i64 v1.1, .int .i64 0, .int .i64 0, .slice p n c, .slice none 0 0]) (by simp [results, Tryz.results63, go_sem, u0, u1, u2, u3, u4, u5, u6, u7, u8, u9, u10, u11, u12]) rfl ?_
 refine HP.out _ _ ⟨⟨0, ⟨#[]⟩, 0, 0, 0, 0, ⟨#[]⟩, none, 0, 0, v1.1, 0, 0, p, n, c, none, 0, 0⟩, rfl, ?_, ?_, ?_, HZ.out.frm⟩
 ·unfold tvNd; rw [HV1.out, HTV.out]; rfl
 ·unfold tvNd; rw [HV1.out, HTV.out]; exact ⟨World.ownsRow_nil _ _ _ _, rfl, by simp [blk], ownsRow_kept HO2.out f5 (fun k hk hm => by rw [List.mem_singleton] at hm; exact (HNW.out k hk).2 hm), HN.out, fun k hk => (HNW.out k hk).1, Own.nil _ _, rfl, by simp [blk], by simp, by simp, HNB.out⟩
 ·unfold tvNd; rw [HV1.out, HTV.out]; exact HZ.out.fr
def tvWr (bs : List Int) : TkV := ⟨⟨0, ⟨#[]⟩, 0, 0, 0, 0, ⟨#[]⟩, none, 0, 0, (nuS bs (0, 0) 4).1, (nuS bs (nuS bs (0, 0) 4).2 2).1 - 1, 0, none, 0, 0, none, 0, 0⟩, [], [], (byS bs (nuS bs (nuS bs (nuS bs (0, 0) 4).2 2).2 2).2 (nuS bs (nuS bs (nuS bs (0, 0) 4).2 2).2 2).1).1, (byS bs (nuS bs (nuS bs (nuS bs (0, 0) 4).2 2).2 2).2 (nuS bs (nuS bs (nuS bs (0, 0) 4).2 2).2 2).1).2⟩
theorem takeWrite_any (w0 w : World) (b g : Nat) (bs : List Int) (hb : ∀ z ∈ bs, 0 ≤ z ∧ z < 256) (hl : bs.length ≤ 2048) (h : FrR w0 w b g bs (0, 0)) :
  Calls Tryz.prog 67 #[.pointer (some ⟨b, 0, none⟩)] w (TakP w0 w b g bs (tvWr bs)) := by
 obtain ⟨PO, hPO⟩ : ∃ PO : Ending → World → Prop, TakP w0 w b g bs (tvWr bs) = PO := ⟨_, rfl⟩
 rw [hPO]
 have HP := hid (show ∀ e w', TakP w0 w b g bs (tvWr bs) e w' → PO e w' from fun e w' h => by rw [← hPO]; exact h)
 have HB := hid hb
 have HL := hid hl
 have hbn := Tk.born h #[.int .i64 0, .string ⟨#[]⟩, .int .i64 0, .int .i64 0, .int .i64 0, .int .i64 0, .string ⟨#[]⟩, .slice none 0 0, .int .i64 0, .int .i64 0, .int .i64 0, .slice none 0 0, .slice none 0 0]
 obtain ⟨wx, hwx⟩ := eX (w.alloc (.cells #[.int .i64 0, .string ⟨#[]⟩, .int .i64 0, .int .i64 0, .int .i64 0, .int .i64 0, .string ⟨#[]⟩, .slice none 0 0, .int .i64 0, .int .i64 0, .int .i64 0, .slice none 0 0, .slice none 0 0] 26))
 obtain ⟨bx, hbx⟩ := eX (w.heap.size)
 rw [hwx, hbx] at hbn
 have HS0 := hid hbn
 have HWX := hid hwx
 have HBX := hid hbx
 clear hb hl h hPO hbn hwx hbx
 go_enter Tryz.func67, Tryz.ntmps67
 go_upto_region 1 with fail
 try rw [HWX.out]
 try rw [HBX.out]
 have HC1 := hid (nR_any w0 wx b g bs HB.out (0, 0) HS0.out.fr 4 (by omega) (by omega))
 have hbd1 := nuS_bd HB.out (0, 0) 4 (by omega)
 obtain ⟨v1, hv1⟩ := eX (nuS bs (0, 0) 4)
 rw [hv1] at HC1 hbd1
 have HV1 := hid hv1
 clear hv1
 have hw1 : IntKind.i64.wrap v1.1 = v1.1 := by rw [IntKind.wrap_i64]; omega
 go_wp2_with fail
 refine HC1.out.mono ?_
 rintro e x1 ⟨rfl, hr, hf⟩
 have HX1 := hid (Tk.call HS0.out hr hf)
 clear hr hf HC1
 have z8 := cR 8 (.int .i64 0) HX1.out.rw_
 have y8 := fZ 8 HX1.out.rw_
 go_upto_region 2 with fail
 obtain ⟨W1, hW1⟩ := eX (x1.setCell ⟨bx, 8, none⟩ (.int .i64 v1.1))
 have HW1 : Hid (Tk w0 w b g bs bx W1 #[.int .i64 0, .string ⟨#[]⟩, .int .i64 0, .int .i64 0, .int .i64 0, .int .i64 0, .string ⟨#[]⟩, .slice none 0 0, .int .i64 v1.1, .int .i64 0, .int .i64 0, .slice none 0 0, .slice none 0 0] v1.2) := hid (by rw [← hW1]; exact Tk.set HX1.out 8 (.int .i64 v1.1))
 rw [hW1]
 clear z8 y8 hw1 hbd1
 have HC2 := hid (nR_any w0 W1 b g bs HB.out v1.2 HW1.out.fr 2 (by omega) (by omega))
 have hbd2 := nuS_bd HB.out v1.2 2 (by omega)
 obtain ⟨v2, hv2⟩ := eX (nuS bs v1.2 2)
 rw [hv2] at HC2 hbd2
 have HV2 := hid hv2
 clear hv2
 have hw2 : IntKind.i64.wrap v2.1 = v2.1 := by rw [IntKind.wrap_i64]; omega
 go_wp2_with fail
 refine HC2.out.mono ?_
 rintro e x2 ⟨rfl, hr, hf⟩
 have HX2 := hid (Tk.call HW1.out hr hf)
 clear hr hf HC2
 have h64 : wrap64 (v2.1 - 1) = v2.1 - 1 := by unfold wrap64; omega
 have z9 := cR 9 (.int .i64 0) HX2.out.rw_
 have y9 := fZ 9 HX2.out.rw_
 go_upto_region 3 with fail
 obtain ⟨W2, hW2⟩ := eX (x2.setCell ⟨bx, 9, none⟩ (.int .i64 (v2.1 - 1)))
 have HW2 : Hid (Tk w0 w b g bs bx W2 #[.int .i64 0, .string ⟨#[]⟩, .int .i64 0, .int .i64 0, .int .i64 0, .int .i64 0, .string ⟨#[]⟩, .slice none 0 0, .int .i64 v1.1, .int .i64 (v2.1 - 1), .int .i64 0, .slice none 0 0, .slice none 0 0] v2.2) := hid (by rw [← hW2]; exact Tk.set HX2.out 9 (.int .i64 (v2.1 - 1)))
 rw [hW2]
 clear z9 y9 hw2 hbd2 h64
 have HC3 := hid (nR_any w0 W2 b g bs HB.out v2.2 HW2.out.fr 2 (by omega) (by omega))
 have hbd3 := nuS_bd HB.out v2.2 2 (by omega)
 obtain ⟨v3, hv3⟩ := eX (nuS bs v2.2 2)
 rw [hv3] at HC3 hbd3
 have HV3 := hid hv3
 clear hv3
 have hw3 : IntKind.i64.wrap v3.1 = v3.1 := by rw [IntKind.wrap_i64]; omega
 go_wp2_with fail
 refine HC3.out.mono ?_
 rintro e x3 ⟨rfl, hr, hf⟩
 have HX3 := hid (Tk.call HW2.out hr hf)
 clear hr hf HC3
 have HCB := hid (bR_any w0 x3 b g bs v3.2 HX3.out.fr v3.1 (by omega) (by omega))
 have HDB := hid (byS_bd HB.out v3.2 v3.1)
 obtain ⟨v4, hv4⟩ := eX (byS bs v3.2 v3.1)
 rw [hv4] at HCB HDB
 have HV4 := hid hv4
 clear hv4
 go_wp2_with fail
 refine HCB.out.mono ?_
 rintro e x4 ⟨p, n, c, rfl, hn, ho, hnw, hr, hf⟩
 have HX4 := hid (Tk.call HX3.out hr hf)
 have HO := hid ho
 have HN := hid hn
 have HNW : Hid (∀ k ∈ blk p, w.heap.size ≤ k ∧ k ≠ bx) := hid (fun k hk => by have h1 := hnw k hk; have h2 := HX3.out.frm.size; have h3 := lt_of_heap HX3.out.rw_; exact ⟨by omega, by omega⟩)
 clear ho hn hnw hr hf HCB hw3 hbd3
 have z12 := cR 12 (.slice none 0 0) HX4.out.rw_
 have y12 := fZ 12 HX4.out.rw_
 go_upto_region 4 with fail
 obtain ⟨W3, hW3⟩ := eX (x4.setCell ⟨bx, 12, none⟩ (.slice p n c))
 have HW3 : Hid (Tk w0 w b g bs bx W3 #[.int .i64 0, .string ⟨#[]⟩, .int .i64 0, .int .i64 0, .int .i64 0, .int .i64 0, .string ⟨#[]⟩, .slice none 0 0, .int .i64 v1.1, .int .i64 (v2.1 - 1), .int .i64 0, .slice none 0 0, .slice p n c] v4.2) := hid (by rw [← hW3]; exact Tk.set HX4.out 12 (.slice p n c))
 rw [hW3]
 clear z12 y12 
 have HO2 := hid (HO.out.kept (show Frm [bx] x4 W3 by rw [← hW3]; exact (Frm.refl [bx] x4).setCell _ _ (by simp)) (by rw [own_blk]; exact fun k hk hm => by rw [List.mem_singleton] at hm; exact (HNW.out k hk).2 hm))
 have z0 := cR 0 (.int .i64 0) HW3.out.rw_
 have y0 := fZ 0 HW3.out.rw_
 have z1 := cR 1 (.string ⟨#[]⟩) HW3.out.rw_
 have y1 := fZ 1 HW3.out.rw_
 have z2 := cR 2 (.int .i64 0) HW3.out.rw_
 have y2 := fZ 2 HW3.out.rw_
 have z3 := cR 3 (.int .i64 0) HW3.out.rw_
 have y3 := fZ 3 HW3.out.rw_
 have z4 := cR 4 (.int .i64 0) HW3.out.rw_
 have y4 := fZ 4 HW3.out.rw_
 have z5 := cR 5 (.int .i64 0) HW3.out.rw_
 have y5 := fZ 5 HW3.out.rw_
 have z6 := cR 6 (.string ⟨#[]⟩) HW3.out.rw_
 have y6 := fZ 6 HW3.out.rw_
 have z7 := cR 7 (.slice none 0 0) HW3.out.rw_
 have y7 := fZ 7 HW3.out.rw_
 have z8 := cR 8 (.int .i64 v1.1) HW3.out.rw_
 have y8 := fZ 8 HW3.out.rw_
 have z9 := cR 9 (.int .i64 (v2.1 - 1)) HW3.out.rw_
 have y9 := fZ 9 HW3.out.rw_
 have z10 := cR 10 (.int .i64 0) HW3.out.rw_
 have y10 := fZ 10 HW3.out.rw_
 have z11 := cR 11 (.slice none 0 0) HW3.out.rw_
 have y11 := fZ 11 HW3.out.rw_
 have z12 := cR 12 (.slice p n c) HW3.out.rw_
 have y12 := fZ 12 HW3.out.rw_
 go_wp2_with fail
 obtain ⟨Wz, hwz, h5, f5⟩ := sE bx 26 [(0, .int .i64 0), (1, .string ⟨#[]⟩), (2, .int .i64 0), (3, .int .i64 0), (4, .int .i64 0), (5, .int .i64 0), (6, .string ⟨#[]⟩), (7, .slice none 0 0), (8, .int .i64 v1.1), (9, .int .i64 (v2.1 - 1)), (10, .int .i64 0), (11, .slice none 0 0), (12, .slice p n c)] W3 _ HW3.out.rw_
 simp only [List.foldl, List.setIfInBounds_toArray, List.set_cons_zero, List.set_cons_succ] at h5
 simp only [setsF] at hwz
 have hWz := hwz
 rw [hwz]
 have HZ := hid (Tk.put HW3.out h5 f5)
 have u0 := cR 0 (.int .i64 0) h5
 have u1 := cR 1 (.string ⟨#[]⟩) h5
 have u2 := cR 2 (.int .i64 0) h5
 have u3 := cR 3 (.int .i64 0) h5
 have u4 := cR 4 (.int .i64 0) h5
 have u5 := cR 5 (.int .i64 0) h5
 have u6 := cR 6 (.string ⟨#[]⟩) h5
 have u7 := cR 7 (.slice none 0 0) h5
 have u8 := cR 8 (.int .i64 v1.1) h5
 have u9 := cR 9 (.int .i64 (v2.1 - 1)) h5
 have u10 := cR 10 (.int .i64 0) h5
 have u11 := cR 11 (.slice none 0 0) h5
 have u12 := cR 12 (.slice p n c) h5
 refine bodyPost_ret (v := .agg #[.int .i64 0, .string ⟨#[]⟩, .int .i64 0, .int .i64 0, .int .i64 0, .int .i64 0, .string ⟨#[]⟩, .slice none 0 0, .int .i64 v1.1, .int .i64 (v2.1 - 1), .int .i64 0, .slice none 0 0, .slice p n c]) (by simp [results, Tryz.results67, go_sem, u0, u1, u2, u3, u4, u5, u6, u7, u8, u9, u10, u11, u12]) rfl ?_
 refine HP.out _ _ ⟨⟨0, ⟨#[]⟩, 0, 0, 0, 0, ⟨#[]⟩, none, 0, 0, v1.1, v2.1 - 1, 0, none, 0, 0, p, n, c⟩, rfl, ?_, ?_, ?_, HZ.out.frm⟩
 ·unfold tvWr; rw [HV1.out, HV2.out, HV3.out, HV4.out]; rfl
 ·unfold tvWr; rw [HV1.out, HV2.out, HV3.out, HV4.out]; exact ⟨World.ownsRow_nil _ _ _ _, rfl, by simp [blk], World.ownsRow_nil _ _ _ _, rfl, by simp [blk], HO2.out.kept f5 (by rw [own_blk]; exact fun k hk hm => by rw [List.mem_singleton] at hm; exact (HNW.out k hk).2 hm), HN.out.symm, fun k hk => (HNW.out k hk).1, HDB.out, by simp⟩
 ·unfold tvWr; rw [HV1.out, HV2.out, HV3.out, HV4.out]; exact HZ.out.fr
end
end Go.Proofs.YtajfjkfnmmfhmaaGreatDoor
