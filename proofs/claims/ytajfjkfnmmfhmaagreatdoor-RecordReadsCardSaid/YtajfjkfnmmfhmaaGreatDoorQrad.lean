/- Records, the document's side: a number and a text behind bytes. -/
import Derived.Test.YtajfjkfnmmfhmaaGreatDoorQrac
import Derived.Deep.Cut
import Derived.MapKept
import Derived.Maps.Own
import Derived.Maps.OwnOps
import Derived.Test.YtajfjkfnmmfhmaaGreatDoorQrab
import Derived.OrdersHeld
import Derived.StillTail
import Derived.Deep.RegionHeld3
import Derived.Laws.EntriesVeiled
import Derived.Lib.Bytealg
import Derived.Laws.MakeOwn
namespace Go.Proofs.YtajfjkfnmmfhmaaGreatDoor
set_option maxRecDepth 100000
set_option maxHeartbeats 25600000
section
open Go.RowKit Go.Lib
structure BufF (w : World) (p : Option Addr) (w' : World) (p' : Option Addr) (n' c' : Nat) (zs : List Int) : Prop where
 own : Own w' 5 (.slice p' n' c') zs
 len : zs.length = n'
 fr : Frm (blk p) w w'
 bk : ∀ i ∈ blk p', i ∈ blk p ∨ w.heap.size ≤ i
theorem BufF.trans {w w1 w2 : World} {p p1 p2 : Option Addr} {n1 c1 n2 c2 : Nat} {zs ys : List Int} (h : BufF w p w1 p1 n1 c1 zs) (k : BufF w1 p1 w2 p2 n2 c2 ys) : BufF w p w2 p2 n2 c2 ys :=
 ⟨k.own, k.len, h.fr.trans k.fr (fun i hi hl => (h.bk i hi).elim id (fun h => absurd hl (Nat.not_lt.2 h))), fun i hi => (k.bk i hi).elim (h.bk i) (fun h2 => Or.inr (Nat.le_trans h.fr.size h2))⟩
theorem BufF.pre {w w0 w1 : World} {p p1 : Option Addr} {n1 c1 : Nat} {zs : List Int} (hf : Frm [] w w0) (h : BufF w0 p w1 p1 n1 c1 zs) : BufF w p w1 p1 n1 c1 zs :=
 ⟨h.own, h.len, (hf.mono (by simp)).trans h.fr (fun i hi _ => hi), fun i hi => (h.bk i hi).imp id (fun h2 => Nat.le_trans hf.size h2)⟩
theorem BufF.post {w w1 w2 : World} {p p1 : Option Addr} {n1 c1 : Nat} {zs : List Int} (h : BufF w p w1 p1 n1 c1 zs) (hf : Frm [] w1 w2) : BufF w p w2 p1 n1 c1 zs :=
 ⟨h.own.kept hf (by simp), h.len, h.fr.trans hf (by simp), h.bk⟩
theorem BufF.nil {w w1 : World} {p1 : Option Addr} {n1 c1 : Nat} {zs : List Int} (h : BufF w none w1 p1 n1 c1 zs) : Frm [] w w1 ∧ ∀ i ∈ blk p1, w.heap.size ≤ i :=
 ⟨h.fr, fun i hi => (h.bk i hi).elim (fun h => by simp [blk] at h) id⟩
theorem BufF.self {w : World} {p : Option Addr} {n c : Nat} {zs : List Int} (h : Own w 5 (.slice p n c) zs) (hn : zs.length = n) : BufF w p w p n c zs := ⟨h, hn, Frm.refl _ _, fun _ hi => Or.inl hi⟩
theorem refNumF_any (p0 : Option Addr) (m c0 : Nat) (zs : List Int) (n : Int) (k : Nat) (w : World) (ho : Own w 5 (.slice p0 m c0) zs) (hm : zs.length = m) (hm2 : m ≤ 1099511627776) (hn : 0 ≤ n) (hn2 : n < 9223372036854775808) (hk : k ≤ 8) :
  Calls Tryz.prog 37 #[.slice p0 m c0, .int .i64 n, .int .i64 (k : Int)] w fun e w' => ∃ p c, e = .returned (.slice p (m + k) c) ∧ BufF w p0 w' p (m + k) c (zs ++ le n k) := by
 have HO0 := hid ho
 have HM := hid hm
 clear ho hm
 go_enter Tryz.func37, Tryz.ntmps37
 go_wp2_with fail
 go_loopw [0, 1, 7] (fun b v i wr => ∃ (j : Nat) (p : Option Addr) (c : Nat), j ≤ k ∧ i = .int .i64 j ∧ v = .int .i64 (n / 2 ^ (8 * j)) ∧ b = .slice p (m + j) c ∧ Hid (BufF w p0 wr p (m + j) c (zs ++ le n j))) (fun _ _ i _ => k - (intOf i).toNat)
 case atStart => exact ⟨0, p0, c0, Nat.zero_le _, rfl, by simp, rfl, hid (by rw [show zs ++ le n 0 = zs by simp [le]]; exact BufF.self HO0.out HM.out)⟩
 case round =>
  obtain ⟨j, p, c, hj, rfl, rfl, rfl, hb⟩ := hrel
  have hq : 0 ≤ n / 2 ^ (8 * j) ∧ n / 2 ^ (8 * j) < 9223372036854775808 := by
   refine ⟨Int.ediv_nonneg hn (Int.pow_nonneg (by decide)), ?_⟩
   exact Int.lt_of_le_of_lt (Int.ediv_le_self _ hn) hn2
  have hsucc : n / 2 ^ (8 * (j + 1)) = n / 2 ^ (8 * j) / 256 := by
   rw [Int.ediv_ediv_of_nonneg (Int.pow_nonneg (by decide)), Nat.mul_add, Int.pow_add]; rfl
  have HS := hid hsucc
  have hle := le_succ n j
  have HLE := hid hle
  have HL := hid (le_length n j)
  clear hsucc hle
  obtain ⟨q, hqq⟩ := eX (n / 2 ^ (8 * j))
  rw [hqq] at hq HS HLE ⊢
  clear hqq
  obtain ⟨hq0, hq1⟩ := hq
  by_cases hlt : j < k
  ·have hrd : Rd (wr.alloc (.cells #[.int .u8 (q % 256)] 5)) (some ⟨wr.heap.size, 0, none⟩) [q % 256] :=
    (own_of_block (E := 5) (zs := [q % 256]) (heap_alloc_new wr _) (by simp [maxLen])).rd
   have HRD := hid hrd
   have HFA := hid ((Frm.refl [] wr).alloc (.cells #[.int .u8 (q % 256)] 5))
   have HO := hid (hb.out.own.kept HFA.out (by simp))
   have htm : Int.tmod q 256 = q % 256 := Int.tmod_eq_emod_of_nonneg hq0
   have htd : Int.tdiv q 256 = q / 256 := Int.tdiv_eq_ediv_of_nonneg hq0
   clear hrd
   go_wp2_with (at_builtin; refine wpList_appB rfl _ _ 24 rfl 5 Tryz.underlying24 infoE p _ c (zs ++ le n j) rfl hb.out.len.symm (by rw [hb.out.len]; exact HO.out) (some ⟨wr.heap.size, 0, none⟩) 1 1 [q % 256] rfl rfl (by simp) HRD.out (by rw [hb.out.len]; simp; omega) ?_)
   intro xs p2 c2 w2 hxs ho2 hf2 hfr2
   have hxe : xs = zs ++ le n (j + 1) := by rw [hxs.out, HLE.out]
   have hxl : xs.length = m + (j + 1) := by rw [hxe, List.length_append, HM.out, le_length]
   rw [hxl]
   have HXL := hid hxl
   have HXE := hid hxe
   clear hxl hxe
   go_wp2_with fail
   go_roundw
   case rel =>
    refine ⟨j + 1, p2, c2, by omega, by go_num, by rw [HS.out], rfl, hid ?_⟩
    have h := ho2.out
    rw [HXL.out, HXE.out] at h
    exact hb.out.trans (BufF.pre HFA.out ⟨h, by rw [← HXE.out, HXL.out], hf2.out, fun i hi => (hfr2.out i hi).imp id (fun h => by simpa using h)⟩)
   case measure => simp [intOf]; omega
  ·obtain rfl : j = k := by omega
   go_wp2_with fail
   go_returns
   exact ⟨p, c, rfl, hb.out⟩
end
section
open Go.RowKit Go.Lib
def sumL (a b c d : Int) : List Int := le a 8 ++ le b 8 ++ le c 8 ++ le d 8
theorem sumL_length (a b c d : Int) : (sumL a b c d).length = 32 := by simp [sumL, le_length]
def sumT (vs : List Int) : Nat → List Int
 | 0 => []
 | t + 1 => sumT vs t ++ le (vs.getD t 0) 8
theorem sumT_length (vs : List Int) (t : Nat) : (sumT vs t).length = 8 * t := by
 induction t with
 | zero => rfl
 | succ t ih => rw [sumT, List.length_append, ih, le_length]; omega
theorem sumT_all (a b c d : Int) : sumT [a, b, c, d] 4 = sumL a b c d := by simp [sumT, sumL]
theorem ptr_at (s0 s1 s2 s3 : Int) (t : Nat) (h : t < 4) (W : World) : (Instr.index 92 (.agg #[.int .u64 s0, .int .u64 s1, .int .u64 s2, .int .u64 s3]) (.int .i64 (t : Int))).run Tryz.prog W = .ok (.int .u64 ([s0, s1, s2, s3].getD t 0)) W := by
 have h4 : t = 0 ∨ t = 1 ∨ t = 2 ∨ t = 3 := by omega
 rcases h4 with rfl | rfl | rfl | rfl <;> rfl
theorem putSum_any (w0 w : World) (b : Nat) (room : Int) (zs : List Int) (A : List Nat) (hw : FreshW w0 w b room (zs, 0) A) (hr1 : room ≤ 2147483647) (s0 s1 s2 s3 : Int) (h0 : 0 ≤ s0 ∧ s0 < 18446744073709551616) (h1 : 0 ≤ s1 ∧ s1 < 18446744073709551616) (h2 : 0 ≤ s2 ∧ s2 < 18446744073709551616) (h3 : 0 ≤ s3 ∧ s3 < 18446744073709551616) (hz : (zs.length : Int) + 32 ≤ room) :
  Calls Tryz.prog 30 #[.pointer (some ⟨b, 0, none⟩), .agg #[.int .u64 s0, .int .u64 s1, .int .u64 s2, .int .u64 s3]] w fun e w' => e = .returned (.tuple #[]) ∧ FreshW w0 w' b room (zs ++ sumL s0 s1 s2 s3, 0) A ∧ Keeps A w w' := by
 have hal := hw.alloc (.cells #[.int .u64 s0, .int .u64 s1, .int .u64 s2, .int .u64 s3] 29)
 have HW0 : Hid (FreshW w0 (w.alloc (.cells #[.int .u64 s0, .int .u64 s1, .int .u64 s2, .int .u64 s3] 29)) b room (zs ++ sumT [s0, s1, s2, s3] 0, 0) A) := hid (by simpa [sumT] using hal.1.less (fun k hk => List.mem_cons_of_mem _ hk))
 have HK0 := hid hal.2
 have HB : Hid (∀ t, t < 4 → 0 ≤ [s0, s1, s2, s3].getD t 0 ∧ [s0, s1, s2, s3].getD t 0 < 18446744073709551616) := hid (fun t ht => by
  have h4 : t = 0 ∨ t = 1 ∨ t = 2 ∨ t = 3 := by omega
  rcases h4 with rfl | rfl | rfl | rfl
  ·exact h0
  ·exact h1
  ·exact h2
  ·exact h3)
 clear hal hw h0 h1 h2 h3
 go_enter Tryz.func30, Tryz.ntmps30
 go_wp2_with fail
 go_loopw [15] (fun i wr => ∃ t : Nat, t ≤ 4 ∧ i = .int .i64 t ∧ Hid (FreshW w0 wr b room (zs ++ sumT [s0, s1, s2, s3] t, 0) A) ∧ Hid (Keeps A w wr)) (fun i _ => 4 - (intOf i).toNat)
 case atStart => exact ⟨0, by omega, rfl, HW0, HK0⟩
 case round =>
  clear HW0 HK0
  obtain ⟨t, ht, rfl, hw, hk⟩ := hrel
  by_cases hlt : t < 4
  ·have hl : ((zs ++ sumT [s0, s1, s2, s3] t).length : Int) + 8 ≤ room := by rw [List.length_append, sumT_length]; omega
   have hix := ptr_at s0 s1 s2 s3 t hlt
   have hb := HB.out t hlt
   have hsu : sumT [s0, s1, s2, s3] (t + 1) = sumT [s0, s1, s2, s3] t ++ le ([s0, s1, s2, s3].getD t 0) 8 := rfl
   obtain ⟨v, hv⟩ := eX ([s0, s1, s2, s3].getD t 0)
   rw [hv] at hix hb hsu
   have HN := hid (num_fit w0 wr b room _ A hw.out hr1 v 8 hb.1 (by omega) (by omega) hb.2 hl)
   have HSU := hid hsu
   have t1 : (t : Int) < 4 := by omega
   clear hl hw hsu hv hb
   go_wp2_with fail
   refine HN.out.mono ?_
   rintro e w2 ⟨rfl, hw2, hk2⟩
   have HW2 := hid hw2
   have HK2 := hid (hk.out.trans hk2)
   clear hw2 hk2 hk HN
   go_wp2_with fail
   go_roundw
   case rel => exact ⟨t + 1, by omega, by go_num, hid (by have h := HW2.out; rw [List.append_assoc] at h; rw [HSU.out]; exact h), HK2⟩
   case measure => simp [intOf]; omega
  ·obtain rfl : t = 4 := by omega
   clear hlt
   rw [sumT_all] at hw
   rw [show ((4 : Nat) : Int) = 4 from rfl]
   go_wp2_with fail
   go_returns
   exact ⟨rfl, hw.out, hk.out⟩
structure S4.Bd (s : S4) : Prop where
 a : 0 ≤ s.a ∧ s.a < 18446744073709551616
 b : 0 ≤ s.b ∧ s.b < 18446744073709551616
 c : 0 ≤ s.c ∧ s.c < 18446744073709551616
 d : 0 ≤ s.d ∧ s.d < 18446744073709551616
theorem pairW_bd (x y : Int) : 0 ≤ pairW x y ∧ pairW x y < 18446744073709551616 := by
 unfold pairW
 show 0 ≤ IntKind.u64.wrap _ ∧ IntKind.u64.wrap _ < 18446744073709551616
 rw [IntKind.wrap_u64]
 omega
theorem shaD_Bd (zs : List Int) : (shaD zs).Bd := ⟨pairW_bd _ _, pairW_bd _ _, pairW_bd _ _, pairW_bd _ _⟩
def S4.z : S4 := ⟨0, 0, 0, 0⟩
theorem S4.z_Bd : S4.z.Bd := by unfold S4.z; exact ⟨by simp, by simp, by simp, by simp⟩
def selL (s : S4) : List Int := sumL s.a s.b s.c s.d
theorem selL_len (s : S4) : (selL s).length = 32 := sumL_length _ _ _ _
theorem selL_bd (s : S4) : ∀ z ∈ selL s, 0 ≤ z ∧ z < 256 := by
 intro z hz
 unfold selL sumL at hz
 simp only [List.mem_append] at hz
 rcases hz with ((h | h) | h) | h <;> exact le_bd _ _ z h
def sealR (a : S4) (hb : List Int) : S4 := shaD (selL a ++ hb)
theorem sealR_any (a : S4) (ha : a.Bd) (p : Option Addr) (n c : Nat) (zs : List Int) (w : World) (hn : zs.length = n) (hn1 : 1 ≤ n) (hnb : n ≤ 1000000) (hrd : Rd w p zs) (hb : ∀ z ∈ zs, 0 ≤ z ∧ z < 256) (hpr : Primes w) :
  Calls Tryz.prog 29 #[.agg a.arr, .slice p n c] w fun e w' => e = .returned (.agg (sealR a zs).arr) ∧ Frm [] w w' := by
 obtain ⟨A, hA1, hA2⟩ : ∃ A : List Nat, (∀ k ∈ blk p, k ∈ A) ∧ ∀ k ∈ A, k < w.heap.size := by
  refine ⟨blk p, fun k hk => hk, fun k hk => ?_⟩
  rcases hrd with h | ⟨g, o, he, hc⟩
  ·rw [h] at hn; simp at hn; omega
  ·rw [he] at hk
   simp [blk] at hk
   subst hk
   exact World.block_lt_of_cell? w _ (hc 0 (by omega))
 have HA1 := hid hA1
 have HA2 := hid hA2
 have HRD := hid hrd
 have HPR := hid hpr
 have HN := hid hn
 have HBD := hid hb
 have HAB := hid ha
 obtain ⟨S, hS⟩ := eX (sealR a zs)
 have HS := hid hS
 rw [hS]
 have hrow := heap_alloc_new w (.cells a.arr 29)
 have hfa : Frm [] w (w.alloc (.cells a.arr 29)) := (Frm.refl _ _).alloc _
 obtain ⟨wa, hwa⟩ := eX (w.alloc (.cells a.arr 29))
 obtain ⟨ba, hba⟩ := eX (w.heap.size)
 rw [hwa, hba] at hrow
 rw [hwa] at hfa
 have hrow2 := heap_alloc_new wa (.cells #[.int .u64 0, .int .u64 0, .int .u64 0, .int .u64 0] 29)
 have hfr : Frm [] wa (wa.alloc (.cells #[.int .u64 0, .int .u64 0, .int .u64 0, .int .u64 0] 29)) := (Frm.refl _ _).alloc _
 obtain ⟨wr, hwr⟩ := eX (wa.alloc (.cells #[.int .u64 0, .int .u64 0, .int .u64 0, .int .u64 0] 29))
 obtain ⟨br, hbr⟩ := eX (wa.heap.size)
 rw [hwr, hbr] at hrow2
 rw [hwr] at hfr
 have hbs : ba + 1 = br := by rw [← hbr, ← hwa, ← hba]; simp
 have HBS := hid hbs
 have HFR : Hid (Frm [] w wr) := hid (hfa.trans hfr (by simp))
 have HRA : Hid (∀ W, Frm [] wr W → W.heap[ba]? = some (.cells a.arr 29 (0, 0))) := hid (fun W hf => hf.heap (hfr.heap hrow (by simp)) (by simp))
 have HRB : Hid (∀ W, Frm [] wr W → W.heap[br]? = some (.cells #[.int .u64 0, .int .u64 0, .int .u64 0, .int .u64 0] 29 (0, 0))) := hid (fun W hf => hf.heap hrow2 (by simp))
 have HWA := hid hwa
 have HWR := hid hwr
 have HBA := hid hba
 have HBR := hid hbr
 clear hA1 hA2 hrd hpr hn hb ha hS hrow hfa hwa hba hrow2 hfr hwr hbr hbs
 have hr : roomOf (32 + (n : Int)) = 32 + (n : Int) := by unfold roomOf; rw [if_neg (by omega), if_neg (by omega)]
 have HR := hid hr
 obtain ⟨s0, s1, s2, s3⟩ := a
 obtain ⟨t0, t1, t2, t3⟩ := S
 unfold S4.arr at HWA HRA ⊢
 simp only at HWA HRA ⊢
 clear hr
 go_enter Tryz.func29, Tryz.ntmps29
 go_upto_region 1 with fail
 try rw [HWA.out]
 try rw [HBA.out]
 try rw [HBR.out]
 try rw [HBS.out]
 try rw [HWR.out]
 go_wp2_with fail
 refine (newWriter_any (32 + (n : Int)) wr).mono ?_
 rintro e w2 ⟨rfl, hw2, hf2, _⟩
 rw [HR.out] at hw2
 have HW2 : Hid (FreshW wr w2 wr.heap.size (32 + (n : Int)) ([], 0) A) := hid ((FreshW.born hw2 hf2 (Nat.le_refl _)).with_ (fun k hk => Nat.lt_of_lt_of_le (HA2.out k hk) HFR.out.size))
 have HF2 := hid hf2
 obtain ⟨b, hb⟩ := eX (wr.heap.size)
 rw [hb] at HW2 ⊢
 have q0 := cR 0 (.int .u64 s0) (HRA.out w2 HF2.out)
 have q1 := cR 1 (.int .u64 s1) (HRA.out w2 HF2.out)
 have q2 := cR 2 (.int .u64 s2) (HRA.out w2 HF2.out)
 have q3 := cR 3 (.int .u64 s3) (HRA.out w2 HF2.out)
 clear hw2 hf2 hb
 go_wp2_with fail
 refine (putSum_any wr w2 b (32 + (n : Int)) [] A HW2.out (by omega) s0 s1 s2 s3 HAB.out.a HAB.out.b HAB.out.c HAB.out.d (by simp only [List.length_nil]; omega)).mono ?_
 rintro e w3 ⟨rfl, hw3, _⟩
 have HW3 := hid hw3
 have HF3 := hid hw3.frm
 have HRD3 := hid (HRD.out.kept (HFR.out.trans HF3.out (by simp)) (by simp))
 clear hw3 HW2 q0 q1 q2 q3
 have hbf := bytes_fit wr w3 b (32 + (n : Int)) _ A HW3.out (by omega) p zs c (fun h => by have := HN.out; rw [h] at this; simp at this; omega) HRD3.out (by simp only [List.nil_append, sumL_length, HN.out]; omega)
 rw [HN.out] at hbf
 have HBF := hid hbf
 clear hbf
 go_wp2_with fail
 refine HBF.out.mono ?_
 rintro e w4 ⟨rfl, hw4, _⟩
 rw [List.nil_append] at hw4
 have HW4 := hid hw4
 have HLN : Hid ((sumL s0 s1 s2 s3 ++ zs).length = 32 + n) := hid (by rw [List.length_append, sumL_length, HN.out])
 clear hw4 HW3 HBF
 go_wp2_with fail
 refine (doneWF_ok wr w4 b (32 + (n : Int)) (sumL s0 s1 s2 s3 ++ zs) A HW4.out (by omega) (by rw [HLN.out]; omega)).mono ?_
 rintro e w5 ⟨g, rfl, hr5, hw5, _, _, _⟩
 rw [HLN.out]
 have HF5 := hid hw5.frm
 have HOF := hid (of_sha2 (some ⟨g, 0, none⟩) (32 + n) (32 + n) (sumL s0 s1 s2 s3 ++ zs) w5 HLN.out (Nat.le_refl _) (by omega) hr5 (fun z hz => by
  rcases List.mem_append.1 hz with h | h
  ·exact selL_bd ⟨s0, s1, s2, s3⟩ z h
  ·exact HBD.out z h) ((HPR.out.kept HFR.out).kept HF5.out))
 have hsr : shaD (sumL s0 s1 s2 s3 ++ zs) = ⟨t0, t1, t2, t3⟩ := HS.out
 rw [hsr] at HOF
 unfold S4.arr at HOF
 clear hr5 hw5 HW4 hsr
 go_wp2_with fail
 refine HOF.out.mono ?_
 rintro e w6 ⟨rfl, hf6⟩
 have HF6 : Hid (Frm [] wr w6) := hid (HF5.out.trans hf6 (by simp))
 clear hf6 HOF
 have hrw := heap_alloc_new w6 (.cells #[.int .u64 t0, .int .u64 t1, .int .u64 t2, .int .u64 t3] 29)
 have hf7 : Frm [] w6 (w6.alloc (.cells #[.int .u64 t0, .int .u64 t1, .int .u64 t2, .int .u64 t3] 29)) := (Frm.refl _ _).alloc _
 obtain ⟨w7, hw7⟩ := eX (w6.alloc (.cells #[.int .u64 t0, .int .u64 t1, .int .u64 t2, .int .u64 t3] 29))
 obtain ⟨bz, hbz⟩ := eX (w6.heap.size)
 rw [hw7, hbz] at hrw
 rw [hw7] at hf7
 have HW7 := hid hw7
 have HBZ := hid hbz
 have HF7 : Hid (Frm [] wr w7) := hid (HF6.out.trans hf7 (by simp))
 have z0 := cR 0 (.int .u64 t0) hrw
 have z1 := cR 1 (.int .u64 t1) hrw
 have z2 := cR 2 (.int .u64 t2) hrw
 have z3 := cR 3 (.int .u64 t3) hrw
 have hr7 := HRB.out w7 HF7.out
 have y0 := fZ 0 hr7
 have y1 := fZ 1 hr7
 have y2 := fZ 2 hr7
 have y3 := fZ 3 hr7
 have v0 := cR 0 (.int .u64 0) hr7
 have v1 := cR 1 (.int .u64 0) hr7
 have v2 := cR 2 (.int .u64 0) hr7
 have v3 := cR 3 (.int .u64 0) hr7
 clear hw7 hbz hf7 hrw
 go_upto_region 6 with fail
 try rw [HBZ.out]
 try rw [HW7.out]
 go_wp2_with fail
 obtain ⟨h4, f4⟩ := set4 (y0 := .int .u64 t0) (y1 := .int .u64 t1) (y2 := .int .u64 t2) (y3 := .int .u64 t3) hr7
 obtain ⟨Wz, hWz⟩ := eX (((((w7.setCell ⟨br, 0, none⟩ (.int .u64 t0)).setCell ⟨br, 1, none⟩ (.int .u64 t1)).setCell ⟨br, 2, none⟩ (.int .u64 t2)).setCell ⟨br, 3, none⟩ (.int .u64 t3)))
 rw [hWz] at h4 f4
 rw [hWz]
 have u0 := cR 0 (.int .u64 t0) h4
 have u1 := cR 1 (.int .u64 t1) h4
 have u2 := cR 2 (.int .u64 t2) h4
 have u3 := cR 3 (.int .u64 t3) h4
 refine bodyPost_ret (v := .agg #[.int .u64 t0, .int .u64 t1, .int .u64 t2, .int .u64 t3]) (by simp [results, Tryz.results29, go_sem, u0, u1, u2, u3]) rfl ?_
 exact ⟨rfl, (HFR.out.trans HF7.out (by simp)).trans f4 (fun i hi hl => by rw [List.mem_singleton] at hi; have := HBS.out; have := HBA.out; omega)⟩
end
section
open Go.RowKit Go.Lib
def selV (s : S4) : List Int := [s.a, s.b, s.c, s.d]
theorem selV_bd {s : S4} (h : s.Bd) (t : Nat) : 0 ≤ (selV s).getD t 0 ∧ (selV s).getD t 0 < 18446744073709551616 := by
 unfold selV
 match t with
 | 0 => exact h.a
 | 1 => exact h.b
 | 2 => exact h.c
 | 3 => exact h.d
 | t + 4 => exact ⟨by simp, by simp⟩
theorem selV_all (s : S4) : sumT (selV s) 4 = selL s := sumT_all s.a s.b s.c s.d
theorem refSealBytes_any (s : S4) (hs : s.Bd) (w : World) :
  Calls Tryz.prog 38 #[.agg s.arr] w fun e w' => ∃ p c, e = .returned (.slice p 32 c) ∧ BufF w none w' p 32 c (selL s) := by
 obtain ⟨PO, hPO⟩ : ∃ PO : Ending → World → Prop, (fun e w' => ∃ p c, e = .returned (.slice p 32 c) ∧ BufF w none w' p 32 c (selL s)) = PO := ⟨_, rfl⟩
 rw [hPO]
 have HP : Hid (∀ p c w', BufF w none w' p 32 c (selL s) → PO (.returned (.slice p 32 c)) w') := hid (fun p c w' h => by rw [← hPO]; exact ⟨p, c, rfl, h⟩)
 have hrow := heap_alloc_new w (.cells s.arr 29)
 have hfa : Frm [] w (w.alloc (.cells s.arr 29)) := (Frm.refl _ _).alloc _
 obtain ⟨wa, hwa⟩ := eX (w.alloc (.cells s.arr 29))
 obtain ⟨ba, hba⟩ := eX (w.heap.size)
 rw [hwa, hba] at hrow
 rw [hwa] at hfa
 have hrw2 := heap_alloc_new wa (.cells s.arr 27)
 have hfb : Frm [] wa (wa.alloc (.cells s.arr 27)) := (Frm.refl _ _).alloc _
 obtain ⟨wb, hwb⟩ := eX (wa.alloc (.cells s.arr 27))
 obtain ⟨bb, hbb⟩ := eX (wa.heap.size)
 rw [hwb, hbb] at hrw2
 rw [hwb] at hfb
 have HEL : Hid (∀ V, Frm [] wb V → ∀ t, t < 4 → V.cell? ⟨bb, t, none⟩ = some (.int .u64 ((selV s).getD t 0))) := hid (fun V hf t ht => by
  rw [cell_of_row _ _ _ _ _ _ (hf.heap hrw2 (by simp))]
  have h4 : t = 0 ∨ t = 1 ∨ t = 2 ∨ t = 3 := by omega
  rcases h4 with rfl | rfl | rfl | rfl <;> rfl)
 have HBD : Hid (∀ t, 0 ≤ (selV s).getD t 0 ∧ (selV s).getD t 0 < 18446744073709551616) := hid (selV_bd hs)
 have HFB : Hid (Frm [] w wb) := hid (hfa.trans hfb (by simp))
 have HAL : Hid (sumT (selV s) 4 = selL s) := hid (selV_all s)
 have HSU : Hid (∀ t, sumT (selV s) (t + 1) = sumT (selV s) t ++ le ((selV s).getD t 0) 8) := hid (fun t => rfl)
 have HB0 : Hid (BufF w none wb none 0 0 []) := hid ⟨Own.nil _ _, rfl, HFB.out.mono (by simp), by simp [blk]⟩
 have HWA := hid hwa
 have HWB := hid hwb
 have HBA := hid hba
 have HBB := hid hbb
 have x0 := cR 0 (.int .u64 s.a) hrow
 have x1 := cR 1 (.int .u64 s.b) hrow
 have x2 := cR 2 (.int .u64 s.c) hrow
 have x3 := cR 3 (.int .u64 s.d) hrow
 obtain ⟨vs, hvs⟩ := eX (selV s)
 rw [hvs] at HEL HBD HAL HSU
 clear hPO hrow hfa hwa hba hrw2 hfb hwb hbb hs hvs
 obtain ⟨s0, s1, s2, s3⟩ := s
 unfold S4.arr at HWA HWB ⊢
 simp only at HWA HWB x0 x1 x2 x3 ⊢
 go_enter Tryz.func38, Tryz.ntmps38
 go_upto_region 2 with fail
 try rw [HWA.out]
 try rw [HBA.out]
 go_upto_region 3 with fail
 try rw [HWB.out]
 try rw [HBB.out]
 clear x0 x1 x2 x3 HWA HWB HBA HBB
 go_wp2_with fail
 go_loopw [3, 5] (fun b i wr => ∃ (t : Nat) (p : Option Addr) (n c : Nat), t ≤ 4 ∧ i = .int .i64 (t : Int) ∧ b = .slice p n c ∧ n ≤ 8 * t ∧ Hid (BufF wb none wr p n c (sumT vs t))) (fun _ i _ => 4 - (intOf i).toNat)
 case atStart => exact ⟨0, none, 0, 0, Nat.zero_le _, rfl, rfl, Nat.le_refl _, hid (BufF.self (Own.nil _ _) rfl)⟩
 case round =>
  obtain ⟨t, p, n, c, ht, rfl, rfl, hn, hb⟩ := hrel
  have HB := hid hb.out
  clear hb
  by_cases hlt : t < 4
  case neg =>
   obtain rfl : t = 4 := by omega
   have hn32 : n = 32 := by rw [← HB.out.len, HAL.out, selL_len]
   subst hn32
   go_wp2_with fail
   try go_returns
   refine HP.out _ _ _ ?_
   have hB := HB0.out.trans HB.out
   rw [HAL.out] at hB
   exact hB
  have t1 : (t : Int) < 4 := by omega
  have z0 := HEL.out wr HB.out.nil.1 t hlt
  have hv := HBD.out t
  have HSX := hid (HSU.out t)
  obtain ⟨v, hvv⟩ := eX (vs.getD t 0)
  rw [hvv] at z0 hv HSX
  have HV := hid hv
  clear hvv hv
  go_upto_region 8 with fail
  clear z0
  obtain ⟨zs, hzs⟩ := eX (sumT vs t)
  rw [hzs] at HB HSX
  have HB1 := hid HB.out
  clear hzs HB
  go_loopw [3, 6, 7] (fun b nv i wx => ∃ (j : Nat) (q : Option Addr) (d : Nat), j ≤ 8 ∧ i = .int .i64 (j : Int) ∧ nv = .int .u64 (v / 2 ^ (8 * j)) ∧ b = .slice q (n + j) d ∧ Hid (BufF wb none wx q (n + j) d (zs ++ le v j))) (fun _ _ i _ => 8 - (intOf i).toNat)
  case atStart => exact ⟨0, p, c, Nat.zero_le _, rfl, by simp, rfl, hid (by rw [show zs ++ le v 0 = zs by simp [le]]; exact HB1.out)⟩
  case round =>
   obtain ⟨j, q, d, hj, rfl, rfl, rfl, hb⟩ := hrel
   have hv := HV.out
   have hq : 0 ≤ v / 2 ^ (8 * j) ∧ v / 2 ^ (8 * j) < 18446744073709551616 := by
    refine ⟨Int.ediv_nonneg hv.1 (Int.pow_nonneg (by decide)), ?_⟩
    exact Int.lt_of_le_of_lt (Int.ediv_le_self _ hv.1) hv.2
   have hsucc : v / 2 ^ (8 * (j + 1)) = v / 2 ^ (8 * j) / 256 := by
    rw [Int.ediv_ediv_of_nonneg (Int.pow_nonneg (by decide)), Nat.mul_add, Int.pow_add]; rfl
   have HS := hid hsucc
   have HLE := hid (le_succ v j)
   have HBJ := hid hb.out
   clear hsucc hv hb
   obtain ⟨x, hxx⟩ := eX (v / 2 ^ (8 * j))
   rw [hxx] at hq HS HLE ⊢
   clear hxx
   obtain ⟨hq0, hq1⟩ := hq
   by_cases hlt8 : j < 8
   ·have hrd : Rd (wr.alloc (.cells #[.int .u8 (x % 256)] 5)) (some ⟨wr.heap.size, 0, none⟩) [x % 256] :=
     (own_of_block (E := 5) (zs := [x % 256]) (heap_alloc_new wr _) (by simp [maxLen])).rd
    have HRD := hid hrd
    have HFA := hid ((Frm.refl [] wr).alloc (.cells #[.int .u8 (x % 256)] 5))
    have HO := hid (HBJ.out.own.kept HFA.out (by simp))
    have htm : Int.tmod x 256 = x % 256 := Int.tmod_eq_emod_of_nonneg hq0
    have htd : Int.tdiv x 256 = x / 256 := Int.tdiv_eq_ediv_of_nonneg hq0
    clear hrd
    go_wp2_with (at_builtin; refine wpList_appB rfl _ _ 24 rfl 5 Tryz.underlying24 infoE q _ d (zs ++ le v j) rfl HBJ.out.len.symm (by rw [HBJ.out.len]; exact HO.out) (some ⟨wr.heap.size, 0, none⟩) 1 1 [x % 256] rfl rfl (by simp) HRD.out (by rw [HBJ.out.len]; simp; omega) ?_)
    intro xs p2 c2 w2 hxs ho2 hf2 hfr2
    have hxe : xs = zs ++ le v (j + 1) := by rw [hxs.out, HLE.out]
    have hxl : xs.length = n + (j + 1) := by
     have h1 := HBJ.out.len
     rw [List.length_append, le_length] at h1
     rw [hxe, List.length_append, le_length]; omega
    rw [hxl]
    have HXL := hid hxl
    have HXE := hid hxe
    clear hxl hxe
    go_wp2_with fail
    go_roundw
    case rel =>
     refine ⟨j + 1, p2, c2, by omega, by go_num, by rw [HS.out], rfl, hid ?_⟩
     have h := ho2.out
     rw [HXL.out, HXE.out] at h
     exact HBJ.out.trans (BufF.pre HFA.out ⟨h, by rw [← HXE.out, HXL.out], hf2.out, fun i hi => (hfr2.out i hi).imp id (fun h => by simpa using h)⟩)
    case measure => simp [intOf] <;> omega
   ·obtain rfl : j = 8 := by omega
    go_wp2_with fail
    go_roundw
    case rel => exact ⟨t + 1, q, n + 8, d, by omega, by go_num, rfl, by omega, hid (by rw [HSX.out]; exact HBJ.out)⟩
    case measure => simp [intOf] <;> omega
end
section
open Go.RowKit Go.Lib
def setsF (w : World) (b : Nat) : List (Nat × Value) → World
 | [] => w
 | (k, v) :: l => setsF (w.setCell ⟨b, k, none⟩ v) b l
theorem sets_rowF (b : Nat) (T : TypeId) (l : List (Nat × Value)) : ∀ (w : World) (row : Array Value), w.heap[b]? = some (.cells row T (0, 0)) → (setsF w b l).heap[b]? = some (.cells (l.foldl (fun r p => r.setIfInBounds p.1 p.2) row) T (0, 0)) ∧ Frm [b] w (setsF w b l) := by
 induction l with
 | nil => exact fun w row h => ⟨h, Frm.refl _ _⟩
 | cons p l ih =>
  intro w row h
  obtain ⟨h1, h2⟩ := ih (w.setCell ⟨b, p.1, none⟩ p.2) _ (heap_setCell_same w b p.1 row _ p.2 h)
  exact ⟨h1, ((Frm.refl [b] w).setCell _ _ (by simp)).trans h2 (fun i hi _ => hi)⟩
def lkR (k : Int) : List MapEntry → Option Value
 | [] => none
 | e :: es => match e.key with
  | .int _ z => if k = z then some e.val else lkR k es
  | _ => lkR k es
def IntK (es : List MapEntry) : Prop := ∀ e ∈ es, ∃ z, e.key = .int .i64 z
theorem findNow_lkR (k : Int) : ∀ (es : List MapEntry) (i : Nat), IntK es →
  (lkR k es = none ∧ Instr.findNow (.int .i64) (.int .i64 k) es i = some none) ∨ ∃ v j, lkR k es = some v ∧ Instr.findNow (.int .i64) (.int .i64 k) es i = some (some (j, v))
 | [], _, _ => Or.inl ⟨rfl, rfl⟩
 | e :: es, i, h => by
  obtain ⟨z, hz⟩ := h e (.head _)
  have ih := findNow_lkR k es (i + 1) (fun x hx => h x (.tail _ hx))
  by_cases hk : k = z
  ·subst hk
   exact Or.inr ⟨e.val, i, by unfold lkR; rw [hz]; simp, by unfold Instr.findNow; rw [hz]; simp [Instr.sameNow]⟩
  ·have h1 : lkR k (e :: es) = lkR k es := by
    conv => lhs; unfold lkR
    rw [hz]; simp [hk]
   have h2 : Instr.findNow (.int .i64) (.int .i64 k) (e :: es) i = Instr.findNow (.int .i64) (.int .i64 k) es (i + 1) := by
    conv => lhs; unfold Instr.findNow
    rw [hz]
    have hb : (k == z) = false := by simpa using hk
    simp only [Instr.sameNow, if_true, hb]
   rw [h1, h2]
   exact ih
theorem run_putR {P : Program} {w : World} (mty kt et : TypeId) (r clock : Nat) (es : Array MapEntry) (k : Int) (val : Value) (hm : P.underlying mty = some (.map kt et)) (hk : P.underlying kt = some (.int .i64)) (hb : w.heap[r]? = some (.map es clock)) (hi : IntK es.toList) (hn : lkR k es.toList = none) :
  (Instr.mapUpdate mty (.map (some r)) (.int .i64 k) val).run P w = .ok () { w with heap := w.heap.setIfInBounds r (.map (es.push { key := .int .i64 k, val := val, born := clock }) (clock + 1)) } := by
 have hf : Instr.findNow (.int .i64) (.int .i64 k) es.toList 0 = some none := by
  rcases findNow_lkR k es.toList 0 hi with h | ⟨v, j, h, _⟩
  ·exact h.2
  ·rw [hn] at h; cases h
 have hc : (Instr.checkKey false 10000 kt (.int .i64 k)).run P w = .ok () w := MapKept.run_checkKey (k := .int .i64 k) hk (by simp [MapKept.IsKey]) false 9999
 simp [Instr.mapUpdate, run_underlying hm, MapKept.run_getObj_map hb, hc, MapKept.run_findKey hk hf, MapKept.run_setObj_map _ hb, Result.andThen]
theorem run_lookR {P : Program} {w : World} (mty kt et : TypeId) (r clock : Nat) (es : Array MapEntry) (k : Int) (zero : Value) (hm : P.underlying mty = some (.map kt et)) (hk : P.underlying kt = some (.int .i64)) (hz : (zeroValue et).run P w = .ok zero w) (hb : w.heap[r]? = some (.map es clock)) (hi : IntK es.toList) :
  (Instr.lookup mty (.map (some r)) (.int .i64 k) true).run P w = .ok (.tuple #[(lkR k es.toList).getD zero, .bool (lkR k es.toList).isSome]) w := by
 have hc : (Instr.checkKey es.isEmpty 10000 kt (.int .i64 k)).run P w = .ok () w := MapKept.run_checkKey (k := .int .i64 k) hk (by simp [MapKept.IsKey]) _ 9999
 rcases findNow_lkR k es.toList 0 hi with ⟨h1, h2⟩ | ⟨v, j, h1, h2⟩
 ·rw [h1]
  simp [Instr.lookup, run_underlying hm, MapKept.run_getObj_map hb, hc, MapKept.run_findKey hk h2, hz, Result.andThen]
 ·rw [h1]
  simp [Instr.lookup, run_underlying hm, MapKept.run_getObj_map hb, hc, MapKept.run_findKey hk h2, Result.andThen]
theorem run_lookR1 {P : Program} {w : World} (mty kt et : TypeId) (r clock : Nat) (es : Array MapEntry) (k : Int) (zero : Value) (hm : P.underlying mty = some (.map kt et)) (hk : P.underlying kt = some (.int .i64)) (hz : (zeroValue et).run P w = .ok zero w) (hb : w.heap[r]? = some (.map es clock)) (hi : IntK es.toList) :
  (Instr.lookup mty (.map (some r)) (.int .i64 k) false).run P w = .ok ((lkR k es.toList).getD zero) w := by
 have hc : (Instr.checkKey es.isEmpty 10000 kt (.int .i64 k)).run P w = .ok () w := MapKept.run_checkKey (k := .int .i64 k) hk (by simp [MapKept.IsKey]) _ 9999
 rcases findNow_lkR k es.toList 0 hi with ⟨h1, h2⟩ | ⟨v, j, h1, h2⟩
 ·rw [h1]
  simp [Instr.lookup, run_underlying hm, MapKept.run_getObj_map hb, hc, MapKept.run_findKey hk h2, hz, Result.andThen]
 ·rw [h1]
  simp [Instr.lookup, run_underlying hm, MapKept.run_getObj_map hb, hc, MapKept.run_findKey hk h2, Result.andThen]
theorem sE (b : Nat) (T : TypeId) (l : List (Nat × Value)) (w : World) (row : Array Value) (h : w.heap[b]? = some (.cells row T (0, 0))) : ∃ W, setsF w b l = W ∧ W.heap[b]? = some (.cells (l.foldl (fun r p => r.setIfInBounds p.1 p.2) row) T (0, 0)) ∧ Frm [b] w W := ⟨_, rfl, sets_rowF b T l w row h⟩

end
section
section
variable {P : Program} {ops : Array Oper} {Q : Exit → Act → World → Prop} {md : Region.Mode} {S : World → Prop}
/-- The first so many operations in whatever order, the condition behind each of them; then what 'L' says. -/
def wpAnyHT (P : Program) (md : Region.Mode) (ops : Array Oper) (Q : Exit → Act → World → Prop) (S : World → Prop) (n : Nat) (L : Array Bool → Act → World → Prop) : Nat → Array Bool → Act → World → Prop
  | 0, listed, a, w => L listed a w
  | f + 1, listed, a, w =>
    Region.ready md ops listed ≠ [] ∧ ∀ i ∈ Region.ready md ops listed, i < n ∧ wpOp P ops Q i (fun a' w' => S w' ∧ wpAnyHT P md ops Q S n L f (listed.setIfInBounds i true) a' w') a w
theorem wpAny_of_headT {n g : Nat} {L : Array Bool → Act → World → Prop} (hL : ∀ listed a w, L listed a w → wpAny P md ops Q g listed a w) :
    ∀ (f : Nat) (listed : Array Bool) (a : Act) (w : World), wpAnyHT P md ops Q S n L f listed a w → wpAny P md ops Q (f + g) listed a w
  | 0, listed, a, w, h => by rw [Nat.zero_add]; exact hL _ _ _ h
  | f + 1, listed, a, w, h => by
    rw [show f + 1 + g = (f + g) + 1 by omega]
    exact ⟨fun h0 => absurd h0 h.1, fun i hi => wpOp_mono (fun a' w' h' => wpAny_of_headT hL f _ a' w' h'.2) (h.2 i hi).2⟩
theorem wpAnyHT_first {n i : Nat} {oi : Oper} {v : Value} {L : Array Bool → Act → World → Prop} (hi : ops[i]? = some oi) (hsel : ∀ (j : Nat) (o : Oper) cs b, ops[j]? = some o → o.op ≠ .select cs b)
    (hQ : ∀ c a w, Q (.panic c) (a.put oi.dst v) w → Q (.panic c) a w)
    (hs : Region.sinkB md ops n = true) (hc : Region.chainB md ops n = true) (hn : n < ops.size) (hin : i < n)
    (hdone : ∀ listed a w, L listed a w → ∀ j ∈ Region.ready md ops listed, n ≤ j) :
    ∀ (f : Nat) (listed : Array Bool) (a : Act) (w : World), HeadInv md ops n listed →
      (∀ j oj, ops[j]? = some oj → j ≠ i → listed.getD j true = false → (∀ e ∈ oj.after, Region.binds md e = true → e.on ≠ i) → oi.apart ops oj = true) →
      i ∈ Region.ready md ops listed → YieldsIf P ops S oi v a → S w →
      wpAnyHT P md ops Q S n L f (listed.setIfInBounds i true) (a.put oi.dst v) w → wpAnyHT P md ops Q S n L (f + 1) listed a w := by
  intro f
  induction f with
  | zero =>
    intro listed a w inv _ hr hy hS H
    have hun := (mem_ready.1 hr).1
    refine ⟨fun h => (by rw [h] at hr; cases hr), fun j hj => ?_⟩
    have hjn : j < n := by
      rcases Nat.lt_or_ge j n with h | h
      · exact h
      · exact absurd hj (tail_waits hs hc hn inv _ i rfl hin hun j h)
    refine ⟨hjn, ?_⟩
    by_cases hji : j = i
    · subst hji; exact hy.wpOp hi hS ⟨hS, H⟩
    · have := hdone _ _ _ H j (ready_mono hj hji)
      omega
  | succ f ih =>
    intro listed a w inv hfree hr hy hS H
    have hun := (mem_ready.1 hr).1
    refine ⟨fun h => (by rw [h] at hr; cases hr), fun j hj => ?_⟩
    have hjn : j < n := by
      rcases Nat.lt_or_ge j n with h | h
      · exact h
      · exact absurd hj (tail_waits hs hc hn inv _ i rfl hin hun j h)
    refine ⟨hjn, ?_⟩
    by_cases hji : j = i
    · subst hji; exact hy.wpOp hi hS ⟨hS, H⟩
    · have h1 := (H.2 j (ready_mono hj hji)).2
      obtain ⟨hjun, oj, hoj, hall⟩ := mem_ready.1 hj
      have hnot : ∀ e ∈ oj.after, Region.binds md e = true → e.on ≠ i := fun e he hb heq => by
        have h1 := hall e he hb
        rw [heq, getD_both hun] at h1
        cases h1
      have h2 := wpOp_putIf hoj (hfree j oj hoj hji hjun hnot) (fun cs b => hsel i oi cs b hi) (fun cs b => hsel j oj cs b hoj) hQ hy h1
      have hfree' : ∀ k ok, ops[k]? = some ok → k ≠ i → (listed.setIfInBounds j true).getD k true = false →
          (∀ e ∈ ok.after, Region.binds md e = true → e.on ≠ i) → oi.apart ops ok = true := fun k ok hk hki hun hno => by
        refine hfree k ok hk hki ?_ hno
        by_cases hjk : j = k
        · subst hjk; exact hjun
        · rw [getD_set_ne true hjk] at hun; exact hun
      refine wpOp_mono (fun a' w' h3 => ⟨h3.2.1, ih (listed.setIfInBounds j true) a' w' (inv.set hj hjn) hfree' (ready_mono hr (Ne.symm hji)) h3.1 h3.2.1 ?_⟩) h2
      rw [Array.setIfInBounds_comm _ _ hji]
      exact h3.2.2
/-- What 'HeadInv' asks, as a Bool. -/
def headInvB (md : Region.Mode) (ops : Array Oper) (n : Nat) (listed : Array Bool) : Bool :=
  decide (listed.size = ops.size) &&
  ((List.range ops.size).all fun j => !listed.getD j false || (match ops[j]? with | some oj => oj.after.all fun e => !Region.binds md e || listed.getD e.on false | none => true)) &&
  ((List.range ops.size).all fun t => decide (t < n) || !listed.getD t true)
theorem headInv_of {n : Nat} {listed : Array Bool} (h : headInvB md ops n listed = true) : HeadInv md ops n listed := by
  unfold headInvB at h
  simp only [Bool.and_eq_true, decide_eq_true_eq] at h
  obtain ⟨⟨h1, h2⟩, h3⟩ := h
  refine ⟨h1, fun j oj hj hl e he hb => ?_, fun t ht htl => ?_⟩
  · have hjlt : j < ops.size := (Array.getElem?_eq_some_iff.1 hj).1
    have h := List.all_eq_true.1 h2 j (List.mem_range.2 hjlt)
    rw [hl, hj] at h
    simp only [Bool.not_true, Bool.false_or] at h
    have h4 := Array.all_eq_true'.1 h e he
    rw [hb] at h4
    simpa using h4
  · have h := List.all_eq_true.1 h3 t (List.mem_range.2 htl)
    simp only [Bool.or_eq_true, decide_eq_true_eq] at h
    rcases h with h | h
    · omega
    · simpa using h
/-- What is asked of the region's form. -/
def tailB (md : Region.Mode) (ops : Array Oper) (n : Nat) : Bool := Region.noSelect ops && decide (n < ops.size) && Region.sinkB md ops n && Region.chainB md ops n
/-- Behind the head: the last ones in their order. -/
def TailL (P : Program) (ops : Array Oper) (Q : Exit → Act → World → Prop) (n : Nat) (l : List Oper) : Array Bool → Act → World → Prop :=
  fun listed a w => Region.seqB .any ops l.length n listed = true ∧ wpList P ops Q l a w
theorem wpAnyHT_take {n i : Nat} {l : List Oper} {oi : Oper} {v : Value} {fuel : Nat} {listed : Array Bool} {a : Act} {w : World} (hB : tailB .any ops n = true) (hi : ops[i]? = some oi) (hin : decide (i < n) = true)
    (hf : Region.free .any ops listed i = true) (hr : (Region.ready .any ops listed).contains i = true) (hI : headInvB .any ops n listed = true)
    (hQ : ∀ c a w, Q (.panic c) (a.put oi.dst v) w → Q (.panic c) a w) (hy : YieldsIf P ops S oi v a) (hS : S w)
    (h : wpAnyHT P .any ops Q S n (TailL P ops Q n l) fuel (listed.setIfInBounds i true) (a.put oi.dst v) w) : wpAnyHT P .any ops Q S n (TailL P ops Q n l) (fuel + 1) listed a w := by
  simp only [tailB, Bool.and_eq_true, decide_eq_true_eq] at hB hin
  obtain ⟨⟨⟨hsel, hn⟩, hs⟩, hc⟩ := hB
  exact wpAnyHT_first hi (Region.noSelect_spec hsel) hQ hs hc hn hin (fun listed a w hL => seqB_ready hL.1) fuel listed a w (headInv_of hI) (Region.free_spec hi hf) (by simpa using hr) hy hS h
/-- One alone may come up: it is carried out, and the condition is shown anew. -/
theorem wpAnyHT_one {n i : Nat} {L : Array Bool → Act → World → Prop} {o : Oper} {fuel : Nat} {listed : Array Bool} {a : Act} {w : World} (ho : ops[i]? = some o) (hr : Region.ready md ops listed = [i]) (hin : decide (i < n) = true)
    (h : ∀ K' : Act → World → Prop, (∀ a w, S w → wpAnyHT P md ops Q S n L fuel (listed.setIfInBounds i true) a w → K' a w) → if Region.wanted o (yielded ops a.tmps) = true then Oper.wp P o a w K' Q else K' (a.put o.dst undef) w) :
    wpAnyHT P md ops Q S n L (fuel + 1) listed a w := by
  refine ⟨by rw [hr]; simp, fun j hj => ?_⟩
  rw [hr, List.mem_singleton] at hj
  subst hj
  exact ⟨of_decide_eq_true hin, wpOp_step ho (fun K' hK => h K' (fun a w hS hW => hK a w ⟨hS, hW⟩))⟩
theorem wpAnyHT_end {n : Nat} {l : List Oper} {listed : Array Bool} {a : Act} {w : World} (hq : Region.seqB .any ops l.length n listed = true) (h : wpList P ops Q l a w) : wpAnyHT P .any ops Q S n (TailL P ops Q n l) 0 listed a w := ⟨hq, h⟩
/-- The beginning. -/
theorem wp_region_tail {id : Nat} {a : Act} {w : World} {l : List Oper} (n m : Nat) (hlen : l.length = m) (hm : P.follows .mixedOrders = true) (hn : decide (n ≤ l.length) = true)
    (h : wpAnyHT P .any l.toArray Q S n (TailL P l.toArray Q n (l.drop n)) n (Array.replicate m false) a w.drew) : (Code.region id l.toArray true).wp P Q a w := by
  have hn' : n ≤ l.length := of_decide_eq_true hn
  subst hlen
  refine wp_region_any hm ?_
  have := wpAny_of_headT (Q := Q) (g := (l.drop n).length) (fun listed a' w' hL => wpAny_of_seq (md := .any) (Q' := Q) (l.drop n) n listed a' w' (fun j => by simp [List.getElem?_drop]) hL.1 hL.2) _ _ _ _ h
  rw [List.length_drop, show n + (l.length - n) = l.length by omega] at this
  simpa using this
end
theorem lA {α : Type} {xs : List α} {i : Nat} (h : i < xs.toArray.size) : xs.toArray[i] = xs[i]'(by simpa using h) := List.getElem_toArray h
theorem lS {α : Type} {i : Nat} {a : α} {xs : List α} (h : i + 1 < (a :: xs).length) : (a :: xs)[i + 1] = xs[i]'(Nat.lt_of_succ_lt_succ h) := rfl
theorem lZ {α : Type} {a : α} {xs : List α} (h : 0 < (a :: xs).length) : (a :: xs)[0] = a := rfl
theorem lI {α : Type} {l : List α} {i : Nat} {a : α} : l.toArray.setIfInBounds i a = (l.set i a).toArray := by simp
theorem lW {α : Type} {x : α} {xs : List α} {a : α} : (x :: xs).set 0 a = a :: xs := List.set_cons_zero
theorem lX {α : Type} {x : α} {xs : List α} {n : Nat} {a : α} : (x :: xs).set (n + 1) a = x :: xs.set n a := List.set_cons_succ
section
variable {P : Program} {ops : Array Oper} {Q : Exit → Act → World → Prop} {S : World → Prop}
def htkB (ops : Array Oper) (n i : Nat) (listed : Array Bool) : Bool := tailB .any ops n && (decide (i < n) && (Region.free .any ops listed i && ((Region.ready .any ops listed).contains i && headInvB .any ops n listed)))
theorem htk {n i : Nat} {l : List Oper} {oi : Oper} {v : Value} {fuel : Nat} {listed : Array Bool} {a : Act} {w : World} (hB : htkB ops n i listed = true) (hi : ops[i]? = some oi)
    (hQ : ∀ c a w, Q (.panic c) (a.put oi.dst v) w → Q (.panic c) a w) (hy : YieldsIf P ops S oi v a) (hS : S w)
    (h : wpAnyHT P .any ops Q S n (TailL P ops Q n l) fuel (listed.setIfInBounds i true) (a.put oi.dst v) w) : wpAnyHT P .any ops Q S n (TailL P ops Q n l) (fuel + 1) listed a w := by
  unfold htkB at hB
  simp only [Bool.and_eq_true] at hB
  obtain ⟨h1, h2, h3, h4, h5⟩ := hB
  exact wpAnyHT_take h1 hi h2 h3 h4 h5 hQ hy hS h
end
section
variable {P : Program} {ops : Array Oper} {Q : Exit → Act → World → Prop} {S : World → Prop}
theorem hI {n i : Nat} {l : List Oper} {oi : Oper} {v : Value} {fuel : Nat} {listed : Array Bool} {a : Act} {w : World} (hi : ops[i]? = some oi) (hy : ∀ w, S w → (execOp a.eval oi).run P w = .ok (.value v) w) (hS : S w)
    (h : wpAnyHT P .any ops Q S n (TailL P ops Q n l) fuel (listed.setIfInBounds i true) (a.put oi.dst v) w) (hB : htkB ops n i listed = true := by kernel_rfl) (hw : Region.wanted oi (yielded ops a.tmps) = true := by rfl) (hQ : ∀ c a w, Q (.panic c) (a.put oi.dst v) w → Q (.panic c) a w := by exact fun _ _ _ h => h) : wpAnyHT P .any ops Q S n (TailL P ops Q n l) (fuel + 1) listed a w := htk hB hi hQ (Or.inl ⟨hw, hy⟩) hS h
theorem hU {n i : Nat} {l : List Oper} {oi : Oper} {fuel : Nat} {listed : Array Bool} {a : Act} {w : World} (hi : ops[i]? = some oi) (hS : S w)
    (h : wpAnyHT P .any ops Q S n (TailL P ops Q n l) fuel (listed.setIfInBounds i true) (a.put oi.dst undef) w) (hB : htkB ops n i listed = true := by kernel_rfl) (hw : Region.wanted oi (yielded ops a.tmps) = false := by rfl) (hQ : ∀ c a w, Q (.panic c) (a.put oi.dst undef) w → Q (.panic c) a w := by exact fun _ _ _ h => h) : wpAnyHT P .any ops Q S n (TailL P ops Q n l) (fuel + 1) listed a w := htk hB hi hQ (Or.inr ⟨hw, rfl⟩) hS h
end

end
section
open Go.RowKit Go.Lib
def rwC : Array Value := #[.func (.func 44) #[] #[], .func (.func 45) #[] #[], .func (.func 46) #[] #[], .func (.func 47) #[] #[]]
def rw1 : Array Value := #[.func (.func 48) #[] #[], .func (.func 49) #[] #[], .func (.func 50) #[] #[], .func (.func 51) #[] #[]]
def rw2 : Array Value := #[.func (.func 52) #[] #[], .func (.func 53) #[] #[], .func (.func 54) #[] #[], .func (.func 55) #[] #[]]
def rw3 : Array Value := #[.func (.func 56) #[] #[], .func (.func 57) #[] #[], .func (.func 58) #[] #[], .func (.func 59) #[] #[]]
def rw4 : Array Value := #[.func (.func 60) #[] #[], .func (.func 61) #[] #[], .func (.func 62) #[] #[], .func (.func 63) #[] #[]]
def rw5 : Array Value := #[.func (.func 64) #[] #[], .func (.func 65) #[] #[], .func (.func 66) #[] #[], .func (.func 67) #[] #[]]
def rowsT : Nat → Array MapEntry
 | 0 => #[]
 | 1 => #[⟨.int .i64 1, .agg rw1, 0⟩]
 | 2 => #[⟨.int .i64 1, .agg rw1, 0⟩, ⟨.int .i64 2, .agg rw2, 1⟩]
 | 3 => #[⟨.int .i64 1, .agg rw1, 0⟩, ⟨.int .i64 2, .agg rw2, 1⟩, ⟨.int .i64 3, .agg rw3, 2⟩]
 | 4 => #[⟨.int .i64 1, .agg rw1, 0⟩, ⟨.int .i64 2, .agg rw2, 1⟩, ⟨.int .i64 3, .agg rw3, 2⟩, ⟨.int .i64 4, .agg rw4, 3⟩]
 | 5 => #[⟨.int .i64 1, .agg rw1, 0⟩, ⟨.int .i64 2, .agg rw2, 1⟩, ⟨.int .i64 3, .agg rw3, 2⟩, ⟨.int .i64 4, .agg rw4, 3⟩, ⟨.int .i64 5, .agg rw5, 4⟩]
 | 6 => #[⟨.int .i64 1, .agg rw1, 0⟩, ⟨.int .i64 2, .agg rw2, 1⟩, ⟨.int .i64 3, .agg rw3, 2⟩, ⟨.int .i64 4, .agg rw4, 3⟩, ⟨.int .i64 5, .agg rw5, 4⟩, ⟨.int .i64 6, .agg rwC, 5⟩]
 | _ => #[⟨.int .i64 1, .agg rw1, 0⟩, ⟨.int .i64 2, .agg rw2, 1⟩, ⟨.int .i64 3, .agg rw3, 2⟩, ⟨.int .i64 4, .agg rw4, 3⟩, ⟨.int .i64 5, .agg rw5, 4⟩, ⟨.int .i64 6, .agg rwC, 5⟩, ⟨.int .i64 7, .agg rwC, 6⟩]
theorem rowsT_int (t : Nat) : IntK (rowsT t).toList := by
 intro e he
 unfold rowsT at he
 split at he <;> simp at he
 all_goals (rcases he with rfl | rfl | rfl | rfl | rfl | rfl | rfl <;> exact ⟨_, rfl⟩)
theorem put_row {w : World} {r : Nat} (t : Nat) (k : Int) (v : Array Value) (hb : w.heap[r]? = some (.map (rowsT t) t)) (hn : lkR k (rowsT t).toList = none) (hs : (rowsT t).push ⟨.int .i64 k, .agg v, t⟩ = rowsT (t + 1)) :
  ∃ w' : World, (Instr.mapUpdate 60 (.map (some r)) (.int .i64 k) (.agg v)).run Tryz.prog w = .ok () w' ∧ w'.heap[r]? = some (.map (rowsT (t + 1)) (t + 1)) ∧ Frm [r] w w' := by
 have h := run_putR (P := Tryz.prog) (w := w) 60 3 58 r t (rowsT t) k (.agg v) Tryz.underlying60 Tryz.underlying3 hb (rowsT_int t) hn
 rw [hs] at h
 have hlt := (Array.getElem?_eq_some_iff.1 hb).1
 refine ⟨_, h, by simp [hlt], ⟨rfl, rfl, rfl, by simp, fun k _ hn => ?_⟩⟩
 have hne : r ≠ k := fun e => hn (by rw [e]; simp)
 simp [hne]
theorem rows_any (w : World) : Calls Tryz.prog 23 #[] w fun e w' => ∃ b, e = .returned (.map (some b)) ∧ w.heap.size ≤ b ∧ w'.heap[b]? = some (.map (rowsT 7) 7) ∧ Frm [] w w' := by
 obtain ⟨PO, hPO⟩ : ∃ PO : Ending → World → Prop, (fun e w' => ∃ b, e = .returned (.map (some b)) ∧ w.heap.size ≤ b ∧ w'.heap[b]? = some (.map (rowsT 7) 7) ∧ Frm [] w w') = PO := ⟨_, rfl⟩
 rw [hPO]
 have HP : Hid (∀ b w', w.heap.size ≤ b → w'.heap[b]? = some (.map (rowsT 7) 7) → Frm [] w w' → PO (.returned (.map (some b))) w') := hid (fun b w' h1 h2 h3 => by rw [← hPO]; exact ⟨b, rfl, h1, h2, h3⟩)
 have hmm := @run_makeMap Tryz.prog
 have hb0 : ∀ V, (Instr.build 58 #[(0, .func (.func 48) #[] #[]), (1, .func (.func 49) #[] #[]), (2, .func (.func 50) #[] #[]), (3, .func (.func 51) #[] #[])]).run Tryz.prog V = .ok (.agg #[.func (.func 48) #[] #[], .func (.func 49) #[] #[], .func (.func 50) #[] #[], .func (.func 51) #[] #[]]) V := fun V => run_build V _ _ _ (by kernel_rfl)
 have hb1 : ∀ V, (Instr.build 58 #[(0, .func (.func 52) #[] #[]), (1, .func (.func 53) #[] #[]), (2, .func (.func 54) #[] #[]), (3, .func (.func 55) #[] #[])]).run Tryz.prog V = .ok (.agg #[.func (.func 52) #[] #[], .func (.func 53) #[] #[], .func (.func 54) #[] #[], .func (.func 55) #[] #[]]) V := fun V => run_build V _ _ _ (by kernel_rfl)
 have hb2 : ∀ V, (Instr.build 58 #[(0, .func (.func 56) #[] #[]), (1, .func (.func 57) #[] #[]), (2, .func (.func 58) #[] #[]), (3, .func (.func 59) #[] #[])]).run Tryz.prog V = .ok (.agg #[.func (.func 56) #[] #[], .func (.func 57) #[] #[], .func (.func 58) #[] #[], .func (.func 59) #[] #[]]) V := fun V => run_build V _ _ _ (by kernel_rfl)
 have hb3 : ∀ V, (Instr.build 58 #[(0, .func (.func 60) #[] #[]), (1, .func (.func 61) #[] #[]), (2, .func (.func 62) #[] #[]), (3, .func (.func 63) #[] #[])]).run Tryz.prog V = .ok (.agg #[.func (.func 60) #[] #[], .func (.func 61) #[] #[], .func (.func 62) #[] #[], .func (.func 63) #[] #[]]) V := fun V => run_build V _ _ _ (by kernel_rfl)
 have hb4 : ∀ V, (Instr.build 58 #[(0, .func (.func 64) #[] #[]), (1, .func (.func 65) #[] #[]), (2, .func (.func 66) #[] #[]), (3, .func (.func 67) #[] #[])]).run Tryz.prog V = .ok (.agg #[.func (.func 64) #[] #[], .func (.func 65) #[] #[], .func (.func 66) #[] #[], .func (.func 67) #[] #[]]) V := fun V => run_build V _ _ _ (by kernel_rfl)
 have hb5 : ∀ V, (Instr.build 58 #[(0, .func (.func 44) #[] #[]), (1, .func (.func 45) #[] #[]), (2, .func (.func 46) #[] #[]), (3, .func (.func 47) #[] #[])]).run Tryz.prog V = .ok (.agg #[.func (.func 44) #[] #[], .func (.func 45) #[] #[], .func (.func 46) #[] #[], .func (.func 47) #[] #[]]) V := fun V => run_build V _ _ _ (by kernel_rfl)
 obtain ⟨w1, hw1⟩ := eX (w.alloc (.cells #[.func (.func 44) #[] #[], .func (.func 45) #[] #[], .func (.func 46) #[] #[], .func (.func 47) #[] #[]] 58))
 have hrow := heap_alloc_new w (.cells #[.func (.func 44) #[] #[], .func (.func 45) #[] #[], .func (.func 46) #[] #[], .func (.func 47) #[] #[]] 58)
 have hf1 : Frm [] w w1 := by rw [← hw1]; exact (Frm.refl _ _).alloc _
 obtain ⟨cr, hcr⟩ := eX (w.heap.size)
 rw [hw1, hcr] at hrow
 have g0 := heap_alloc_new w1 (.map #[] 0)
 have hf2 : Frm [] w1 (w1.alloc (.map #[] 0)) := (Frm.refl _ _).alloc _
 have hlt := lt_of_heap hrow
 obtain ⟨w2, hw2⟩ := eX (w1.alloc (.map #[] 0))
 obtain ⟨mb, hmb⟩ := eX (w1.heap.size)
 rw [hmb] at g0 hlt
 rw [hw2] at g0 hf2
 obtain ⟨w3, e1, g1, k1⟩ := put_row (w := w2) 0 1 rw1 g0 rfl rfl
 obtain ⟨w4, e2, g2, k2⟩ := put_row (w := w3) 1 2 rw2 g1 rfl rfl
 obtain ⟨w5, e3, g3, k3⟩ := put_row (w := w4) 2 3 rw3 g2 rfl rfl
 obtain ⟨w6, e4, g4, k4⟩ := put_row (w := w5) 3 4 rw4 g3 rfl rfl
 obtain ⟨w7, e5, g5, k5⟩ := put_row (w := w6) 4 5 rw5 g4 rfl rfl
 obtain ⟨w8, e6, g6, k6⟩ := put_row (w := w7) 5 6 rwC g5 rfl rfl
 obtain ⟨w9, e7, g7, k7⟩ := put_row (w := w8) 6 7 rwC g6 rfl rfl
 unfold rw1 at e1
 unfold rw2 at e2
 unfold rw3 at e3
 unfold rw4 at e4
 unfold rw5 at e5
 unfold rwC at e6 e7
 have hall : Frm [mb] w2 w9 := ((((((k1.trans k2 (fun i hi _ => hi)).trans k3 (fun i hi _ => hi)).trans k4 (fun i hi _ => hi)).trans k5 (fun i hi _ => hi)).trans k6 (fun i hi _ => hi)).trans k7 (fun i hi _ => hi))
 have h7 : w7.heap[cr]? = some (.cells #[.func (.func 44) #[] #[], .func (.func 45) #[] #[], .func (.func 46) #[] #[], .func (.func 47) #[] #[]] 58 (0, 0)) := (((((k1.trans k2 (fun i hi _ => hi)).trans k3 (fun i hi _ => hi)).trans k4 (fun i hi _ => hi)).trans k5 (fun i hi _ => hi))).heap (hf2.heap hrow (by simp)) (by simp; omega)
 have h8 : w8.heap[cr]? = some (.cells #[.func (.func 44) #[] #[], .func (.func 45) #[] #[], .func (.func 46) #[] #[], .func (.func 47) #[] #[]] 58 (0, 0)) := k6.heap h7 (by simp; omega)
 have x0 := cR 0 (.func (.func 44) #[] #[]) h7
 have y0 := cR 0 (.func (.func 44) #[] #[]) h8
 have x1 := cR 1 (.func (.func 45) #[] #[]) h7
 have y1 := cR 1 (.func (.func 45) #[] #[]) h8
 have x2 := cR 2 (.func (.func 46) #[] #[]) h7
 have y2 := cR 2 (.func (.func 46) #[] #[]) h8
 have x3 := cR 3 (.func (.func 47) #[] #[]) h7
 have y3 := cR 3 (.func (.func 47) #[] #[]) h8
 have HX : Hid (w.heap.size ≤ mb ∧ w9.heap[mb]? = some (.map (rowsT 7) 7) ∧ Frm [] w w9) := hid ⟨by omega, g7, (hf1.trans hf2 (by simp)).trans hall (fun i hi hl => by rw [List.mem_singleton] at hi; omega)⟩
 have HW1 := hid hw1
 have HCR := hid hcr
 have HW2 := hid hw2
 have HMB := hid hmb
 clear hw1 hcr hw2 hmb hPO hrow hf1 g0 hf2 hlt g1 g2 g3 g4 g5 g6 g7 k1 k2 k3 k4 k5 k6 k7 hall h7 h8
 go_enter Tryz.func23, Tryz.ntmps23
 go_upto_region 2 with fail
 try rw [HCR.out]
 try rw [HW1.out]
 rw [← HW2.out] at e1
 rw [← HMB.out] at e1 e2 e3 e4 e5 e6 e7
 go_wp2_with fail
 try go_returns
 show PO (.returned (.map (some w1.heap.size))) w9
 rw [HMB.out]
 exact HP.out _ _ HX.out.1 HX.out.2.1 HX.out.2.2
end
section
open Go.RowKit Go.Lib
theorem tx_getR (B : ByteArray) (t : Nat) (h : t < B.size) : zA (tx B) t = (B[t].toNat : Int) := by
 have h2 : t < B.data.toList.length := by simpa using h
 unfold zA tx
 rw [List.getD_eq_getElem?_getD, List.getElem?_map, List.getElem?_eq_getElem h2]
 rfl
def okC (i : Nat) (c : Int) : Prop := (97 ≤ c ∧ c ≤ 122) ∨ (48 ≤ c ∧ c ≤ 57) ∨ (i ≠ 0 ∧ (c = 46 ∨ c = 95 ∨ c = 45))
def PartL (l : List Int) : Prop := (1 ≤ l.length ∧ l.length ≤ 24) ∧ ∀ i, i < l.length → okC i (zA l i)
instance (i : Nat) (c : Int) : Decidable (okC i c) := by unfold okC; infer_instance
instance (l : List Int) : Decidable (PartL l) := by unfold PartL; infer_instance
theorem bool_decR {P : Prop} [Decidable P] {x : Bool} (h : x = true ↔ P) : x = decide P := by
 by_cases hp : P
 ·rw [decide_eq_true hp]; exact h.2 hp
 ·rw [decide_eq_false hp]; cases x
  ·rfl
  ·exact absurd (h.1 rfl) hp
theorem partW_any (B : ByteArray) (w : World) :
  Calls Tryz.prog 91 #[.string B] w fun e w' => e = .returned (.bool (decide (PartL (tx B)))) ∧ w' = w := by
 obtain ⟨PO, hPO⟩ : ∃ PO : Ending → World → Prop, (fun e w' => e = .returned (.bool (decide (PartL (tx B)))) ∧ w' = w) = PO := ⟨_, rfl⟩
 rw [hPO]
 have HP : Hid (∀ x, (x = true ↔ PartL (tx B)) → PO (.returned (.bool x)) w) := hid (fun x h => by rw [← hPO]; exact ⟨by rw [bool_decR h], rfl⟩)
 have HL : Hid ((tx B).length = B.size) := hid (tx_length B)
 have HG : Hid (∀ t (h : t < B.size), zA (tx B) t = (B[t].toNat : Int)) := hid (fun t h => tx_getR B t h)
 clear hPO
 go_enter Tryz.func91, Tryz.ntmps91
 by_cases h1 : B.size < 1
 case pos =>
  have i1 : (B.size : Int) < 1 := by omega
  go_wp2_with fail
  try go_returns
  exact HP.out _ (by simp; intro h; have := h.1.1; have := HL.out; omega)
 by_cases h2 : 24 < B.size
 case pos =>
  have i1 : ¬ (B.size : Int) < 1 := by omega
  have i2 : (24 : Int) < (B.size : Int) := by omega
  go_wp2_with fail
  try go_returns
  exact HP.out _ (by simp; intro h; have := h.1.2; have := HL.out; omega)
 have i1 : ¬ (B.size : Int) < 1 := by omega
 have i2 : ¬ (24 : Int) < (B.size : Int) := by omega
 go_wp2_with fail
 go_loop [2, 16] (fun r i => ∃ t : Nat, t ≤ B.size ∧ r = .bool false ∧ i = .int .i64 (t : Int) ∧ Hid (∀ j, j < t → okC j (zA (tx B) j))) (fun _ i => B.size - (intOf i).toNat)
 case atStart => exact ⟨0, Nat.zero_le _, rfl, rfl, hid (fun j hj => by omega)⟩
 case round =>
  obtain ⟨t, ht, rfl, rfl, hok⟩ := hrel
  have HOK := hid hok.out
  clear hok
  by_cases hlt : t < B.size
  case neg =>
   obtain rfl : t = B.size := by omega
   go_wp2_with fail
   try go_returns
   exact HP.out _ (by simp; exact ⟨by have := HL.out; omega, fun i hi => HOK.out i (by rw [← HL.out]; exact hi)⟩)
  have t1 : (t : Int) < (B.size : Int) := by omega
  have hb := B[t].toNat_lt
  have HNX : Hid (okC t (B[t].toNat : Int) → ∀ j, j < t + 1 → okC j (zA (tx B) j)) := hid (fun h j hj => by
   by_cases hj2 : j < t
   ·exact HOK.out j hj2
   ·obtain rfl : j = t := by omega
    rw [HG.out j hlt]; exact h)
  have HBD : Hid (PartL (tx B) → okC t (B[t].toNat : Int)) := hid (fun h => by rw [← HG.out t hlt]; exact h.2 t (by rw [HL.out]; exact hlt))
  clear HG HOK
  by_cases a1 : 97 ≤ B[t].toNat ∧ B[t].toNat ≤ 122
  case pos =>
   have i0 : (97 : Int) ≤ (B[t].toNat : Int) := by omega
   have i1 : (B[t].toNat : Int) ≤ 122 := by omega
   have HK : Hid (okC t (B[t].toNat : Int)) := hid (by unfold okC; omega)
   try clear a0
   try clear a5
   try clear a6
   go_wp2_with fail
   go_round
   case rel => exact ⟨t + 1, by omega, rfl, by go_num, hid (HNX.out HK.out)⟩
   case measure => simp [intOf] <;> omega
  by_cases a2 : 48 ≤ B[t].toNat ∧ B[t].toNat ≤ 57
  case pos =>
   have i0 : ¬ (97 : Int) ≤ (B[t].toNat : Int) := by omega
   have i1 : (48 : Int) ≤ (B[t].toNat : Int) := by omega
   have i2 : (B[t].toNat : Int) ≤ 57 := by omega
   have HK : Hid (okC t (B[t].toNat : Int)) := hid (by unfold okC; omega)
   try clear a0
   try clear a5
   try clear a6
   go_wp2_with fail
   go_round
   case rel => exact ⟨t + 1, by omega, rfl, by go_num, hid (HNX.out HK.out)⟩
   case measure => simp [intOf] <;> omega
  by_cases a3 : 122 < B[t].toNat
  case pos =>
   by_cases a0 : t = 0
   case pos =>
    have i0 : (97 : Int) ≤ (B[t].toNat : Int) := by omega
    have i1 : ¬ (B[t].toNat : Int) ≤ 122 := by omega
    have i2 : (48 : Int) ≤ (B[t].toNat : Int) := by omega
    have i3 : ¬ (B[t].toNat : Int) ≤ 57 := by omega
    have i4 : ((t : Int) == 0) = true := by simp; omega
    have HK : Hid (¬ okC t (B[t].toNat : Int)) := hid (by unfold okC; omega)
    try clear a0
    try clear a5
    try clear a6
    go_wp2_with fail
    try go_returns
    exact HP.out _ (by simp; exact fun h => HK.out (HBD.out h))
   have i0 : (97 : Int) ≤ (B[t].toNat : Int) := by omega
   have i1 : ¬ (B[t].toNat : Int) ≤ 122 := by omega
   have i2 : (48 : Int) ≤ (B[t].toNat : Int) := by omega
   have i3 : ¬ (B[t].toNat : Int) ≤ 57 := by omega
   have i4 : ((t : Int) == 0) = false := by simp; omega
   have i5 : ((B[t].toNat : Int) != 46) = true := by simp; omega
   have i6 : ((B[t].toNat : Int) != 95) = true := by simp; omega
   have i7 : ((B[t].toNat : Int) != 45) = true := by simp; omega
   have HK : Hid (¬ okC t (B[t].toNat : Int)) := hid (by unfold okC; omega)
   try clear a0
   try clear a5
   try clear a6
   go_wp2_with fail
   try go_returns
   exact HP.out _ (by simp; exact fun h => HK.out (HBD.out h))
  by_cases a4 : B[t].toNat < 48
  case pos =>
   by_cases a0 : t = 0
   case pos =>
    have i0 : ¬ (97 : Int) ≤ (B[t].toNat : Int) := by omega
    have i1 : ¬ (48 : Int) ≤ (B[t].toNat : Int) := by omega
    have i2 : ((t : Int) == 0) = true := by simp; omega
    have HK : Hid (¬ okC t (B[t].toNat : Int)) := hid (by unfold okC; omega)
    try clear a0
    try clear a5
    try clear a6
    go_wp2_with fail
    try go_returns
    exact HP.out _ (by simp; exact fun h => HK.out (HBD.out h))
   by_cases a5 : B[t].toNat = 46
   case pos =>
    have i0 : ¬ (97 : Int) ≤ (B[t].toNat : Int) := by omega
    have i1 : ¬ (48 : Int) ≤ (B[t].toNat : Int) := by omega
    have i2 : ((t : Int) == 0) = false := by simp; omega
    have i3 : ((B[t].toNat : Int) != 46) = false := by simp; omega
    have HK : Hid (okC t (B[t].toNat : Int)) := hid (by unfold okC; omega)
    try clear a0
    try clear a5
    try clear a6
    go_wp2_with fail
    go_round
    case rel => exact ⟨t + 1, by omega, rfl, by go_num, hid (HNX.out HK.out)⟩
    case measure => simp [intOf] <;> omega
   by_cases a6 : B[t].toNat = 45
   case pos =>
    have i0 : ¬ (97 : Int) ≤ (B[t].toNat : Int) := by omega
    have i1 : ¬ (48 : Int) ≤ (B[t].toNat : Int) := by omega
    have i2 : ((t : Int) == 0) = false := by simp; omega
    have i3 : ((B[t].toNat : Int) != 46) = true := by simp; omega
    have i4 : ((B[t].toNat : Int) != 95) = true := by simp; omega
    have i5 : ((B[t].toNat : Int) != 45) = false := by simp; omega
    have HK : Hid (okC t (B[t].toNat : Int)) := hid (by unfold okC; omega)
    try clear a0
    try clear a5
    try clear a6
    go_wp2_with fail
    go_round
    case rel => exact ⟨t + 1, by omega, rfl, by go_num, hid (HNX.out HK.out)⟩
    case measure => simp [intOf] <;> omega
   have i0 : ¬ (97 : Int) ≤ (B[t].toNat : Int) := by omega
   have i1 : ¬ (48 : Int) ≤ (B[t].toNat : Int) := by omega
   have i2 : ((t : Int) == 0) = false := by simp; omega
   have i3 : ((B[t].toNat : Int) != 46) = true := by simp; omega
   have i4 : ((B[t].toNat : Int) != 95) = true := by simp; omega
   have i5 : ((B[t].toNat : Int) != 45) = true := by simp; omega
   have HK : Hid (¬ okC t (B[t].toNat : Int)) := hid (by unfold okC; omega)
   try clear a0
   try clear a5
   try clear a6
   go_wp2_with fail
   try go_returns
   exact HP.out _ (by simp; exact fun h => HK.out (HBD.out h))
  by_cases a0 : t = 0
  case pos =>
   have i0 : ¬ (97 : Int) ≤ (B[t].toNat : Int) := by omega
   have i1 : (48 : Int) ≤ (B[t].toNat : Int) := by omega
   have i2 : ¬ (B[t].toNat : Int) ≤ 57 := by omega
   have i3 : ((t : Int) == 0) = true := by simp; omega
   have HK : Hid (¬ okC t (B[t].toNat : Int)) := hid (by unfold okC; omega)
   try clear a0
   try clear a5
   try clear a6
   go_wp2_with fail
   try go_returns
   exact HP.out _ (by simp; exact fun h => HK.out (HBD.out h))
  by_cases a6 : B[t].toNat = 95
  case pos =>
   have i0 : ¬ (97 : Int) ≤ (B[t].toNat : Int) := by omega
   have i1 : (48 : Int) ≤ (B[t].toNat : Int) := by omega
   have i2 : ¬ (B[t].toNat : Int) ≤ 57 := by omega
   have i3 : ((t : Int) == 0) = false := by simp; omega
   have i4 : ((B[t].toNat : Int) != 46) = true := by simp; omega
   have i5 : ((B[t].toNat : Int) != 95) = false := by simp; omega
   have HK : Hid (okC t (B[t].toNat : Int)) := hid (by unfold okC; omega)
   try clear a0
   try clear a5
   try clear a6
   go_wp2_with fail
   go_round
   case rel => exact ⟨t + 1, by omega, rfl, by go_num, hid (HNX.out HK.out)⟩
   case measure => simp [intOf] <;> omega
  have i0 : ¬ (97 : Int) ≤ (B[t].toNat : Int) := by omega
  have i1 : (48 : Int) ≤ (B[t].toNat : Int) := by omega
  have i2 : ¬ (B[t].toNat : Int) ≤ 57 := by omega
  have i3 : ((t : Int) == 0) = false := by simp; omega
  have i4 : ((B[t].toNat : Int) != 46) = true := by simp; omega
  have i5 : ((B[t].toNat : Int) != 95) = true := by simp; omega
  have i6 : ((B[t].toNat : Int) != 45) = true := by simp; omega
  have HK : Hid (¬ okC t (B[t].toNat : Int)) := hid (by unfold okC; omega)
  try clear a0
  try clear a5
  try clear a6
  go_wp2_with fail
  try go_returns
  exact HP.out _ (by simp; exact fun h => HK.out (HBD.out h))
end
section
open Go.RowKit Go.Lib
def PrnL (l : List Int) : Prop := ∀ i, i < l.length → 32 ≤ zA l i ∧ zA l i ≤ 126
def ValL (l : List Int) : Prop := (1 ≤ l.length ∧ l.length ≤ 64) ∧ PrnL l
instance (l : List Int) : Decidable (PrnL l) := by unfold PrnL; infer_instance
instance (l : List Int) : Decidable (ValL l) := by unfold ValL; infer_instance
theorem printed_any (B : ByteArray) (hB : B.size ≤ 9223372036854775807) (w : World) :
  Calls Tryz.prog 117 #[.string B] w fun e w' => e = .returned (.bool (decide (PrnL (tx B)))) ∧ w' = w := by
 obtain ⟨PO, hPO⟩ : ∃ PO : Ending → World → Prop, (fun e w' => e = .returned (.bool (decide (PrnL (tx B)))) ∧ w' = w) = PO := ⟨_, rfl⟩
 rw [hPO]
 have HP : Hid (∀ x, (x = true ↔ PrnL (tx B)) → PO (.returned (.bool x)) w) := hid (fun x h => by rw [← hPO]; exact ⟨by rw [bool_decR h], rfl⟩)
 have HL : Hid ((tx B).length = B.size) := hid (tx_length B)
 have HG : Hid (∀ t (h : t < B.size), zA (tx B) t = (B[t].toNat : Int)) := hid (fun t h => tx_getR B t h)
 clear hPO
 go_enter Tryz.func117, Tryz.ntmps117
 go_wp2_with fail
 go_loop [2, 6] (fun r i => ∃ t : Nat, t ≤ B.size ∧ r = .bool false ∧ i = .int .i64 (t : Int) ∧ Hid (∀ j, j < t → 32 ≤ zA (tx B) j ∧ zA (tx B) j ≤ 126)) (fun _ i => B.size - (intOf i).toNat)
 case atStart => exact ⟨0, Nat.zero_le _, rfl, rfl, hid (fun j hj => by omega)⟩
 case round =>
  obtain ⟨t, ht, rfl, rfl, hok⟩ := hrel
  have HOK := hid hok.out
  clear hok
  by_cases hlt : t < B.size
  case neg =>
   obtain rfl : t = B.size := by omega
   go_wp2_with fail
   try go_returns
   exact HP.out _ (by simp; exact fun i hi => HOK.out i (by rw [← HL.out]; exact hi))
  have t1 : (t : Int) < (B.size : Int) := by omega
  have hb := B[t].toNat_lt
  have HNX : Hid (32 ≤ (B[t].toNat : Int) ∧ (B[t].toNat : Int) ≤ 126 → ∀ j, j < t + 1 → 32 ≤ zA (tx B) j ∧ zA (tx B) j ≤ 126) := hid (fun h j hj => by
   by_cases hj2 : j < t
   ·exact HOK.out j hj2
   ·obtain rfl : j = t := by omega
    rw [HG.out j hlt]; exact h)
  have HBD : Hid (PrnL (tx B) → 32 ≤ (B[t].toNat : Int) ∧ (B[t].toNat : Int) ≤ 126) := hid (fun h => by rw [← HG.out t hlt]; exact h t (by rw [HL.out]; exact hlt))
  clear HG HOK
  by_cases a1 : B[t].toNat < 32
  case pos =>
   have i1 : (B[t].toNat : Int) < 32 := by omega
   have HK : Hid (¬ (32 ≤ (B[t].toNat : Int) ∧ (B[t].toNat : Int) ≤ 126)) := hid (by omega)
   go_wp2_with fail
   try go_returns
   exact HP.out _ (by simp; exact fun h => HK.out (HBD.out h))
  by_cases a2 : 126 < B[t].toNat
  case pos =>
   have i1 : ¬ (B[t].toNat : Int) < 32 := by omega
   have i2 : (126 : Int) < (B[t].toNat : Int) := by omega
   have HK : Hid (¬ (32 ≤ (B[t].toNat : Int) ∧ (B[t].toNat : Int) ≤ 126)) := hid (by omega)
   go_wp2_with fail
   try go_returns
   exact HP.out _ (by simp; exact fun h => HK.out (HBD.out h))
  have i1 : ¬ (B[t].toNat : Int) < 32 := by omega
  have i2 : ¬ (126 : Int) < (B[t].toNat : Int) := by omega
  have HK : Hid (32 ≤ (B[t].toNat : Int) ∧ (B[t].toNat : Int) ≤ 126) := hid (by omega)
  go_wp2_with fail
  go_round
  case rel => exact ⟨t + 1, by omega, rfl, by go_num, hid (HNX.out HK.out)⟩
  case measure => simp [intOf] <;> omega
theorem value_anyR (B : ByteArray) (w : World) :
  Calls Tryz.prog 96 #[.string B] w fun e w' => e = .returned (.bool (decide (ValL (tx B)))) ∧ w' = w := by
 obtain ⟨PO, hPO⟩ : ∃ PO : Ending → World → Prop, (fun e w' => e = .returned (.bool (decide (ValL (tx B)))) ∧ w' = w) = PO := ⟨_, rfl⟩
 rw [hPO]
 have HP : Hid (∀ x, (x = true ↔ ValL (tx B)) → PO (.returned (.bool x)) w) := hid (fun x h => by rw [← hPO]; exact ⟨by rw [bool_decR h], rfl⟩)
 have HL : Hid ((tx B).length = B.size) := hid (tx_length B)
 clear hPO
 go_enter Tryz.func96, Tryz.ntmps96
 by_cases h1 : 1 ≤ B.size
 case neg =>
  have i1 : ¬ (1 : Int) ≤ (B.size : Int) := by omega
  go_wp2_with fail
  try go_returns
  exact HP.out _ (by simp; intro h; have := h.1.1; have := HL.out; omega)
 have i1 : (1 : Int) ≤ (B.size : Int) := by omega
 by_cases h2 : B.size ≤ 64
 case neg =>
  have i2 : ¬ (B.size : Int) ≤ 64 := by omega
  go_wp2_with fail
  try go_returns
  exact HP.out _ (by simp; intro h; have := h.1.2; have := HL.out; omega)
 have i2 : (B.size : Int) ≤ 64 := by omega
 have HC := hid (printed_any B (by omega) w)
 go_wp2_with fail
 refine HC.out.mono ?_
 rintro e _ ⟨rfl, rfl⟩
 go_wp2_with fail
 try go_returns
 exact HP.out _ (by simp only [decide_eq_true_eq]; exact ⟨fun h => ⟨by rw [HL.out]; omega, h⟩, fun h => h.2⟩)
theorem within_anyR (n lo hi : Int) (w : World) : Calls Tryz.prog 90 #[.int .i64 n, .int .i64 lo, .int .i64 hi] w fun e w' => e = .returned (.bool (decide (lo ≤ n ∧ n ≤ hi))) ∧ w' = w := by
 go_enter Tryz.func90, Tryz.ntmps90
 by_cases h1 : lo ≤ n
 ·by_cases h2 : n ≤ hi
  ·rw [decide_eq_true ⟨h1, h2⟩]
   go_wp2_with fail
   try go_returns
   exact ⟨rfl, rfl⟩
  ·rw [decide_eq_false (fun h => h2 h.2)]
   go_wp2_with fail
   try go_returns
   exact ⟨rfl, rfl⟩
 ·rw [decide_eq_false (fun h => h1 h.1)]
  go_wp2_with fail
  try go_returns
  exact ⟨rfl, rfl⟩
end
section
open Go.RowKit Go.Lib
theorem countC_any (s : ByteArray) (w : World) :
  Calls Tryz.prog 115 #[.string s, .string ⟨#[47]⟩] w fun e w' => e = .returned (.int .i64 (Lib.countByte s.data.toList 47)) ∧ w' = w := by
 go_enter Tryz.func115, Tryz.ntmps115
 go_wp2_with fail
 rw [run_callFunc_extern Tryz.func126 (by kernel_rfl) (by kernel_rfl) (by kernel_rfl) (e := Extern.BytealgCount.count) (by kernel_rfl), Lib.run_countString]
 simp only [Result.andThen]
 rw [Oper.upon_value]
 go_wp2_with fail
 try go_returns
 exact ⟨rfl, rfl⟩
theorem indexB_any (s : ByteArray) (w : World) :
  Calls Tryz.prog 133 #[.string s, .int .u8 47] w fun e w' => e = .returned (.int .i64 (Lib.indexByte s.data.toList 47)) ∧ w' = w := by
 go_enter Tryz.func133, Tryz.ntmps133
 go_wp2_with fail
 rw [run_callFunc_extern Tryz.func138 (by kernel_rfl) (by kernel_rfl) (by kernel_rfl) (e := Extern.BytealgIndexByte.indexByte) (by kernel_rfl), Lib.run_indexByteString]
 simp only [Result.andThen]
 rw [Oper.upon_value]
 go_wp2_with fail
 try go_returns
 exact ⟨rfl, rfl⟩
theorem indexI_any (s : ByteArray) (w : World) :
  Calls Tryz.prog 130 #[.string s, .string ⟨#[47]⟩] w fun e w' => e = .returned (.int .i64 (Lib.indexByte s.data.toList 47)) ∧ w' = w := by
 have HC := hid (indexB_any s w)
 have hd : s.toList = s.data.toList := Lib.toList_data s
 by_cases hs : s.data.toList = [47]
 case pos =>
  have hb : (([47] : List UInt8) == s.toList) = true := by rw [hd, hs]; rfl
  have HI : Hid (Lib.indexByte s.data.toList 47 = 0) := hid (by rw [hs]; rfl)
  clear hd hs
  go_enter Tryz.func130, Tryz.ntmps130
  go_wp2_with fail
  try go_returns
  refine ⟨?_, rfl⟩
  rw [HI.out]
  rfl
 have hb : (([47] : List UInt8) == s.toList) = false := by rw [hd]; simpa using fun h => hs h.symm
 clear hd hs
 go_enter Tryz.func130, Tryz.ntmps130
 go_wp2_with fail
 refine HC.out.mono ?_
 rintro e _ ⟨rfl, rfl⟩
 go_wp2_with fail
 try go_returns
 exact ⟨rfl, rfl⟩
theorem indexC_any (s : ByteArray) (w : World) :
  Calls Tryz.prog 127 #[.string s, .string ⟨#[47]⟩] w fun e w' => e = .returned (.int .i64 (Lib.indexByte s.data.toList 47)) ∧ w' = w := by
 have HC := hid (indexI_any s w)
 go_enter Tryz.func127, Tryz.ntmps127
 go_wp2_with fail
 refine HC.out.mono ?_
 rintro e _ ⟨rfl, rfl⟩
 go_wp2_with fail
 try go_returns
 exact ⟨rfl, rfl⟩
def rootU (l : List UInt8) : Prop := l.head? = some 47
instance (l : List UInt8) : Decidable (rootU l) := by unfold rootU; infer_instance
theorem hasPre_any (s : ByteArray) (w : World) :
  Calls Tryz.prog 114 #[.string s, .string ⟨#[47]⟩] w fun e w' => e = .returned (.bool (decide (rootU s.data.toList))) ∧ w' = w := by
 obtain ⟨PO, hPO⟩ : ∃ PO : Ending → World → Prop, (fun e w' => e = .returned (.bool (decide (rootU s.data.toList))) ∧ w' = w) = PO := ⟨_, rfl⟩
 rw [hPO]
 have HP : Hid (∀ x, (x = true ↔ rootU s.data.toList) → PO (.returned (.bool x)) w) := hid (fun x h => by rw [← hPO]; exact ⟨by rw [bool_decR h], rfl⟩)
 clear hPO
 go_enter Tryz.func114, Tryz.ntmps114
 by_cases h1 : 1 ≤ s.size
 case neg =>
  have i1 : ¬ (1 : Int) ≤ (s.size : Int) := by omega
  have HN : Hid (¬ rootU s.data.toList) := hid (by
   have : s.data.toList = [] := List.eq_nil_of_length_eq_zero (by have h : s.data.size = s.size := rfl; rw [Array.length_toList]; omega)
   rw [this]; simp [rootU])
  go_wp2_with fail
  try go_returns
  exact HP.out _ (by simp; exact HN.out)
 have i1 : (1 : Int) ≤ (s.size : Int) := by omega
 go_wp2_with fail
 refine HP.out _ ?_
 have e1 : (s.extract 0 1).toList = s.data.toList.take 1 := by rw [Lib.toList_data]; simp
 show ((s.extract 0 1).toList == [47]) = true ↔ _
 rw [e1]
 unfold rootU
 cases h : s.data.toList with
 | nil => simp
 | cons b l => simp
theorem hasPreC_any (s : ByteArray) (w : World) :
  Calls Tryz.prog 94 #[.string s, .string ⟨#[47]⟩] w fun e w' => e = .returned (.bool (decide (rootU s.data.toList))) ∧ w' = w := by
 have HC := hid (hasPre_any s w)
 obtain ⟨x, hx⟩ := eX (decide (rootU s.data.toList))
 rw [hx] at HC ⊢
 clear hx
 go_enter Tryz.func94, Tryz.ntmps94
 go_wp2_with fail
 refine HC.out.mono ?_
 rintro e _ ⟨rfl, rfl⟩
 go_wp2_with fail
 try go_returns
 exact ⟨rfl, rfl⟩
end
section
open Go.RowKit Go.Lib
def splitU : List UInt8 → List (List UInt8)
 | [] => [[]]
 | b :: l => if b = 47 then [] :: splitU l else match splitU l with
  | [] => [[b]]
  | p :: ps => (b :: p) :: ps
theorem splitU_len : ∀ l, (splitU l).length = Lib.countByte l 47 + 1
 | [] => rfl
 | b :: l => by
  have ih := splitU_len l
  unfold splitU Lib.countByte
  unfold Lib.countByte at ih
  by_cases hb : b = 47
  ·subst hb
   rw [if_pos rfl, List.count_cons_self, List.length_cons, ih]
  ·rw [if_neg hb, List.count_cons_of_ne hb]
   cases hs : splitU l with
   | nil => rw [hs] at ih; simp at ih
   | cons p ps => rw [hs] at ih; simpa using ih
theorem splitU_none : ∀ l, Lib.countByte l 47 = 0 → splitU l = [l]
 | [], _ => rfl
 | b :: l, h => by
  unfold Lib.countByte at h
  by_cases hb : b = 47
  ·subst hb; rw [List.count_cons_self] at h; omega
  ·rw [List.count_cons_of_ne hb] at h
   unfold splitU
   rw [if_neg hb, splitU_none l h]
theorem splitU_some : ∀ l, 0 < Lib.countByte l 47 → ∃ m : Nat, Lib.indexByte l 47 = (m : Int) ∧ m < l.length ∧ splitU l = l.take m :: splitU (l.drop (m + 1)) ∧ Lib.countByte l 47 = Lib.countByte (l.drop (m + 1)) 47 + 1
 | [], h => by simp [Lib.countByte] at h
 | b :: l, h => by
  unfold Lib.countByte at h
  by_cases hb : b = 47
  ·subst hb
   refine ⟨0, by unfold Lib.indexByte; simp, by simp, ?_, ?_⟩
   ·conv => lhs; unfold splitU
    rw [if_pos rfl]; rfl
   ·unfold Lib.countByte; rw [List.count_cons_self]; rfl
  ·rw [List.count_cons_of_ne hb] at h
   obtain ⟨m, h1, h2, h3, h4⟩ := splitU_some l h
   refine ⟨m + 1, ?_, by simp; omega, ?_, ?_⟩
   ·unfold Lib.indexByte
    have hbe : (b == 47) = false := by simpa using hb
    rw [hbe, h1]
    have hne : ((m : Int) == -1) = false := by rw [beq_eq_false_iff_ne]; omega
    rw [hne]
    simp
   ·conv => lhs; unfold splitU
    rw [if_neg hb, h3]; rfl
   ·unfold Lib.countByte at h4 ⊢
    rw [List.count_cons_of_ne hb]
    simpa using h4
def stU (p : List UInt8) : Value := .string ⟨p.toArray⟩
theorem stU_str (s : ByteArray) : stU s.data.toList = .string s := by unfold stU; simp
def cellsU (L : List (List UInt8)) (m : Nat) : Array Value := (L.map stU ++ List.replicate m (Value.string ⟨#[]⟩)).toArray
theorem cellsU_put (L : List (List UInt8)) (m : Nat) (p : List UInt8) : (cellsU L (m + 1)).setIfInBounds L.length (stU p) = cellsU (L ++ [p]) m := by
 unfold cellsU
 rw [List.setIfInBounds_toArray]
 congr 1
 rw [List.set_append_right _ _ (by simp)]
 simp [List.replicate_succ]
theorem infoStrU : (Tryz.prog.info? 9).map (fun i => (i.zero, i.size, i.bytes)) = some (some (.string ⟨#[]⟩), 1, 16) := by kernel_rfl
theorem make_strU (k : Nat) (hk : k ≤ 1000000000000) (W : World) : (Instr.makeSlice 133 (.int .i64 (k : Int)) (.int .i64 (k : Int))).run Tryz.prog W = .ok (.slice (some ⟨W.heap.size, 0, none⟩) k k) (W.alloc (.cells (cellsU [] k) 9)) := by
 obtain ⟨i, hi, hz, h1, h2⟩ := info_parts infoStrU
 have h := run_make (P := Tryz.prog) W 133 9 i (.string ⟨#[]⟩) Tryz.underlying133 hi hz .i64 .i64 (k : Int) (k : Int) (by omega) (Int.le_refl _) (by rw [h2]; omega) (by omega)
 rw [h, h1]
 have e : madeCells (Value.string ⟨#[]⟩).cells ((k : Int).toNat * 1) = cellsU [] k := by
  apply Array.ext'
  rw [show (Value.string ⟨#[]⟩).cells = #[Value.string ⟨#[]⟩] from rfl, toList_madeCells_one]
  simp [cellsU]
 rw [e]
 simp
structure SplS (w0 w : World) (b n t : Nat) (l : List UInt8) (S : ByteArray) (done : List (List UInt8)) : Prop where
 eq : splitU l = done ++ splitU S.data.toList
 len : done.length = t
 cnt : Lib.countByte S.data.toList 47 + t = n
 row : w.heap[b]? = some (.cells (cellsU done (n + 1 - t)) 9 (0, 0))
 new : w0.heap.size ≤ b
 fr : Frm [] w0 w
theorem SplS.at_ {w0 w : World} {b n t : Nat} {l : List UInt8} {S : ByteArray} {done : List (List UInt8)} (h : SplS w0 w b n t l S done) (ht : t ≤ n) : w.cell? ⟨b, t, none⟩ = some (.string ⟨#[]⟩) ∧ w.frozen? ⟨b, t, none⟩ = false := by
 refine ⟨?_, fZ t h.row⟩
 rw [cell_of_row _ _ _ _ _ _ h.row]
 unfold cellsU
 have hl := h.len
 have e : n + 1 - t = (n - t) + 1 := by omega
 rw [e, List.getElem?_toArray, List.getElem?_append_right (by simp; omega), List.length_map, hl, Nat.sub_self, List.replicate_succ]
 rfl
theorem SplS.put_ {w0 w : World} {b n t : Nat} {l : List UInt8} {S : ByteArray} {done : List (List UInt8)} (h : SplS w0 w b n t l S done) (ht : t ≤ n) (p : List UInt8) : (w.setCell ⟨b, t, none⟩ (stU p)).heap[b]? = some (.cells (cellsU (done ++ [p]) (n - t)) 9 (0, 0)) ∧ Frm [] w0 (w.setCell ⟨b, t, none⟩ (stU p)) := by
 have e : n + 1 - t = (n - t) + 1 := by omega
 have h1 := heap_setCell_same w b t _ _ (stU p) h.row
 have hl := h.len
 rw [e, ← hl, cellsU_put, hl] at h1
 exact ⟨h1, h.fr.setCell _ _ (fun hb => by have := h.new; simp at hb; omega)⟩
theorem genSplit_any (s : ByteArray) (hs : s.size ≤ 9223372036854775806) (hcn : Lib.countByte s.data.toList 47 ≤ 1000000000) (w : World) :
  Calls Tryz.prog 128 #[.string s, .string ⟨#[47]⟩, .int .i64 0, .int .i64 (-1)] w fun e w' => ∃ b n, e = .returned (.slice (some ⟨b, 0, none⟩) n n) ∧ n = (splitU s.data.toList).length ∧ w.heap.size ≤ b ∧ w'.heap[b]? = some (.cells (cellsU (splitU s.data.toList) 0) 9 (0, 0)) ∧ Frm [] w w' := by
 obtain ⟨PO, hPO⟩ : ∃ PO : Ending → World → Prop, (fun e w' => ∃ b n, e = .returned (.slice (some ⟨b, 0, none⟩) n n) ∧ n = (splitU s.data.toList).length ∧ w.heap.size ≤ b ∧ w'.heap[b]? = some (.cells (cellsU (splitU s.data.toList) 0) 9 (0, 0)) ∧ Frm [] w w') = PO := ⟨_, rfl⟩
 rw [hPO]
 have HP : Hid (∀ b n w', n = (splitU s.data.toList).length → w.heap.size ≤ b → w'.heap[b]? = some (.cells (cellsU (splitU s.data.toList) 0) 9 (0, 0)) → Frm [] w w' → PO (.returned (.slice (some ⟨b, 0, none⟩) n n)) w') := hid (fun b n w' h1 h2 h3 h4 => by rw [← hPO]; exact ⟨b, n, rfl, h1, h2, h3, h4⟩)
 have hsz : s.data.toList.length = s.size := by have h : s.data.size = s.size := rfl; rw [Array.length_toList]; exact h
 have hcl : Lib.countByte s.data.toList 47 ≤ s.size := by rw [← hsz]; exact List.count_le_length
 have HLEN := hid (splitU_len s.data.toList)
 have HC := hid (fun W => countC_any s W)
 obtain ⟨n, hn⟩ := eX (Lib.countByte s.data.toList 47)
 rw [hn] at hcl HC HLEN hcn
 have hmin : ∀ (ts : Array TypeId) (ty : TypeId) (W : World), Sem.run Tryz.prog (Builtin.min_ ts ty #[.int .i64 ((n : Int) + 1), .int .i64 ((s.size : Int) + 1)]) W = .ok (.int .i64 ((n : Int) + 1)) W := by
  intro ts ty W
  have h := run_min_int2 (P := Tryz.prog) (w := W) ts ty .i64 .i64 ((n : Int) + 1) ((s.size : Int) + 1)
  rwa [if_neg (by omega)] at h
 have hmk := fun W => make_strU (n + 1) (by omega) W
 have HSS : Hid (s.data.toList = s.data.toList ∧ Lib.countByte s.data.toList 47 = n) := hid ⟨rfl, hn⟩
 clear hPO hsz hn
 go_enter Tryz.func128, Tryz.ntmps128
 go_wp2_with fail
 refine (HC.out _).mono ?_
 rintro e w1 ⟨rfl, rfl⟩
 go_upto_region 8 with fail
 have hmk2 : ∀ W, (Instr.makeSlice 133 (.int .i64 ((n : Int) + 1)) (.int .i64 ((n : Int) + 1))).run Tryz.prog W = .ok (.slice (some ⟨W.heap.size, 0, none⟩) (n + 1) (n + 1)) (W.alloc (.cells (cellsU [] (n + 1)) 9)) := hmk
 obtain ⟨w2, hw2⟩ := eX (w1.alloc (.cells (cellsU [] (n + 1)) 9))
 have hrow := heap_alloc_new w1 (.cells (cellsU [] (n + 1)) 9)
 obtain ⟨b, hb⟩ := eX (w1.heap.size)
 have hf2 : Frm [] w1 w2 := by rw [← hw2]; exact (Frm.refl _ _).alloc _
 rw [hw2, hb] at hrow
 have H0 : Hid (SplS w1 w2 b n 0 s.data.toList s []) := hid ⟨rfl, rfl, by have := HSS.out.2; omega, hrow, by omega, hf2⟩
 have HW2 := hid hw2
 have HB := hid hb
 clear hw2 hrow hb hf2 hmk
 go_upto_region 9 with fail
 try rw [HB.out]
 try rw [HW2.out]
 clear hmk2 hmin
 go_wp2_with fail
 have HIX := hid (fun (S : ByteArray) W => indexC_any S W)
 have hn9 : n ≤ 1000000000 := by omega
 go_loopw [0, 10] (fun sv i wr => ∃ (t : Nat) (S : ByteArray) (done : List (List UInt8)), t ≤ n ∧ S.size ≤ 9223372036854775806 ∧ sv = .string S ∧ i = .int .i64 (t : Int) ∧ Hid (SplS w1 wr b n t s.data.toList S done)) (fun _ i _ => n - (intOf i).toNat)
 case atStart => exact ⟨0, s, [], Nat.zero_le _, hs, rfl, rfl, H0⟩
 case round =>
  clear H0
  obtain ⟨t, S, done, ht, hS9, rfl, rfl, hin⟩ := hrel
  have HIN := hid hin.out
  clear hin
  obtain ⟨z0, y0⟩ := HIN.out.at_ ht
  by_cases hlt : t < n
  case pos =>
   have t1 : (t : Int) < (n : Int) := by omega
   have t2 : (t : Int) < ((n + 1 : Nat) : Int) := by omega
   obtain ⟨m, h1, h2, h3, h4⟩ := splitU_some S.data.toList (by have := HIN.out.cnt; omega)
   have hS : S.data.toList.length = S.size := by have h : S.data.size = S.size := rfl; rw [Array.length_toList]; exact h
   have hc := HIX.out S wr
   rw [h1] at hc
   have HCI := hid hc
   have m1 : (m : Int) < (S.size : Int) := by omega
   have m2 : m < S.size := by omega
   have m0 : ¬ (m : Int) < 0 := by omega
   have hw0 : wrap64 (m : Int) = (m : Int) := by unfold wrap64; omega
   have hw1 : wrap64 ((m : Int) + 1) = (m : Int) + 1 := by unfold wrap64; omega
   have HH3 := hid h3
   have HH4 := hid h4
   clear h1 h2 h3 h4 hc hS
   go_wp2_with fail
   refine HCI.out.mono ?_
   rintro e w3 ⟨rfl, rfl⟩
   go_upto_region 16 with fail
   have e1 : (S.extract 0 m).data.toList = S.data.toList.take m := by simp
   have e2 : (S.extract (m + 1) S.size).data.toList = S.data.toList.drop (m + 1) := by
    simp
    try exact List.take_of_length_le (by simp)
   have e3 : (S.extract (m + 1) S.size).size ≤ S.size := by simp
   obtain ⟨p1, p2⟩ := HIN.out.put_ ht (S.data.toList.take m)
   rw [← e1, stU_str, e1] at p1
   rw [← e1, stU_str] at p2
   have HNX : Hid (SplS w1 (w3.setCell ⟨b, t, none⟩ (.string (S.extract 0 m))) b n (t + 1) s.data.toList (S.extract (m + 1) S.size) (done ++ [S.data.toList.take m])) := hid ⟨by rw [HIN.out.eq, HH3.out, e2]; simp, by rw [List.length_append, HIN.out.len]; rfl, by rw [e2]; have := HH4.out; have := HIN.out.cnt; omega, by rw [show n + 1 - (t + 1) = n - t by omega]; exact p1, HIN.out.new, p2⟩
   clear p1 p2 e1 e2 z0 y0
   go_wp2_with fail
   go_roundw
   case rel => exact ⟨t + 1, _, _, by omega, by omega, rfl, by go_num, HNX⟩
   case measure => simp [intOf] <;> omega
  obtain rfl : t = n := by omega
  go_wp2_with fail
  try go_returns
  obtain ⟨h1, h2⟩ := HIN.out.put_ (Nat.le_refl _) S.data.toList
  rw [stU_str] at h1 h2
  have he : splitU s.data.toList = done ++ [S.data.toList] := by rw [HIN.out.eq, splitU_none _ (by have := HIN.out.cnt; omega)]
  exact HP.out b (t + 1) _ HLEN.out.symm HIN.out.new (by rw [he]; rw [Nat.sub_self] at h1; exact h1) h2
theorem split_anyR (s : ByteArray) (hs : s.size ≤ 9223372036854775806) (hcn : Lib.countByte s.data.toList 47 ≤ 1000000000) (w : World) :
  Calls Tryz.prog 116 #[.string s, .string ⟨#[47]⟩] w fun e w' => ∃ b n, e = .returned (.slice (some ⟨b, 0, none⟩) n n) ∧ n = (splitU s.data.toList).length ∧ w.heap.size ≤ b ∧ w'.heap[b]? = some (.cells (cellsU (splitU s.data.toList) 0) 9 (0, 0)) ∧ Frm [] w w' := by
 have HC := hid (genSplit_any s hs hcn w)
 clear hs hcn
 go_enter Tryz.func116, Tryz.ntmps116
 go_wp2_with fail
 refine HC.out.mono ?_
 rintro e w1 ⟨b, n, rfl, h1, h2, h3, h4⟩
 have HX := hid (And.intro h1 (And.intro h2 (And.intro h3 h4)))
 clear h1 h2 h3 h4 HC
 go_wp2_with fail
 try go_returns
 exact ⟨b, n, rfl, HX.out⟩
end
end Go.Proofs.YtajfjkfnmmfhmaaGreatDoor
