/- The document's padded. -/
import Derived.Test.YtcnochabdhdlnaaDoorSumZ
namespace Go.Proofs.YtcnochabdhdlnaaDoor
open Go.RowKit
set_option maxRecDepth 100000

/-- How many noughts come behind n bytes (the byte 128 among them) until 56 of a block are there. -/
def gapN (n : Nat) : Nat := (120 - n % 64) % 64
/-- The length's bytes from the highest on, t of them. -/
def lenL (n : Nat) : Nat → List Int
  | 0 => []
  | t + 1 => lenL n t ++ [lenC n (7 - t)]
theorem lenL_length (n t : Nat) : (lenL n t).length = t := by
  induction t with
  | zero => rfl
  | succ t ih => simp [lenL, ih]
def padD (zs : List Int) : List Int := zs ++ [128] ++ List.replicate (gapN (zs.length + 1)) 0 ++ lenL zs.length 8
structure PadW (w0 w : World) (v : Value) (xs : List Int) : Prop where
  own : Own w 5 v xs
  new : ∀ k ∈ v.ownBlock.toList, w0.heap.size ≤ k
  fr : Frm [] w0 w
set_option maxHeartbeats 3200000 in
theorem padded_any (p : Option Addr) (n c : Nat) (zs : List Int) (w : World) (hn : zs.length = n) (hp : zs = [] → p = none → c = 0) (hnb : n + 100 ≤ 140737488355328) (hrd : Rd w p zs) :
    Calls Tryd.prog 34 #[.slice p n c] w fun e w' => ∃ q d, e = .returned (.slice q (padD zs).length d) ∧ Own w' 5 (.slice q (padD zs).length d) (padD zs) ∧ (∀ k ∈ blk q, w.heap.size ≤ k) ∧ Frm [] w w' := by
  have HRD := hid hrd
  have HPC := hid hp
  have HN := hid hn
  clear hrd hn hp
  go_enter Tryd.func34, Tryd.ntmps34
  go_wp2_with (at_builtin; refine wpList_appB rfl _ _ 22 rfl 5 Tryd.underlying22 infoB none 0 0 [] rfl rfl (Own.nil _ _) p n c zs rfl HN.out.symm HPC.out HRD.out (by rw [HN.out]; simp; omega) ?_)
  intro x1 p1 c1 w1 hx1 ho1 hf1 hk1
  have e1 : x1 = zs := hx1.out
  have HX1 := hid e1
  have hl1 : x1.length = n := by rw [e1, HN.out]
  rw [hl1] at ho1 ⊢
  have HL1 := hid hl1
  have hK1 : Hid (∀ k ∈ blk p1, w.heap.size ≤ k) := hid (fun k hk => by
    rcases hk1.out k hk with h | h
    · simp [blk] at h
    · exact h)
  have HF1 : Hid (Frm [] w w1) := hid (by have h := hf1.out; exact h)
  clear e1 hl1 hx1 hf1 hk1
  have hrz : Rd (w1.alloc (.cells #[.int .u8 128] 5)) (some ⟨w1.heap.size, 0, none⟩) [128] :=
    (own_of_block (E := 5) (zs := [128]) (heap_alloc_new w1 _) (by simp [maxLen])).rd
  have HRZ := hid hrz
  have hfz1 : Frm [] w1 (w1.alloc (.cells #[.int .u8 128] 5)) := (Frm.refl _ _).alloc _
  have HOA := hid (ho1.out.kept hfz1 (by simp))
  have HFA := hid (HF1.out.trans hfz1 (by simp))
  have HSZ := hid HF1.out.size
  clear hrz hfz1 ho1
  go_wp2_with (at_builtin; refine wpList_appB rfl _ _ 22 rfl 5 Tryd.underlying22 infoB p1 _ c1 x1 rfl HL1.out.symm (by rw [HL1.out]; exact HOA.out) (some ⟨w1.heap.size, 0, none⟩) 1 1 [128] rfl rfl (by simp) HRZ.out (by rw [HL1.out]; simp; omega) ?_)
  intro x2 p2 c2 w2 hx2 ho2 hf2 hk2
  have hl2 : x2.length = n + 1 := by rw [hx2.out, List.length_append, HL1.out]; rfl
  rw [hl2] at ho2 ⊢
  have HX2 : Hid (x2 = zs ++ [128]) := hid (by rw [hx2.out, HX1.out])
  have HF2 : Hid (Frm [] w w2) := hid (HFA.out.trans hf2.out (fun i hi hl => by have := hK1.out i hi; omega))
  have HK2 : Hid (∀ k ∈ blk p2, w.heap.size ≤ k) := hid (fun k hk => by
    rcases hk2.out k hk with h | h
    · exact hK1.out k h
    · have := HSZ.out
      first | omega | (simp at h; omega))
  clear hx2 hf2 hk2 HFA HOA HRZ HSZ hK1 HF1 HX1 HL1
  have HO2 : Hid (Own w2 5 (.slice p2 (n + 1) c2) (x2 ++ List.replicate 0 0)) := hid (by simpa using ho2.out)
  have HL2 := hid hl2
  clear ho2 hl2
  go_wp2_with fail
  go_loopw [3] (fun v wr => ∃ (j m : Nat) (p : Option Addr) (c : Nat), v = .slice p m c ∧ Hid (m = n + 1 + j) ∧ Hid (j ≤ gapN (n + 1)) ∧ Hid ((x2 ++ List.replicate j 0).length = m) ∧ Hid (Own wr 5 (.slice p m c) (x2 ++ List.replicate j 0)) ∧ Hid (∀ k ∈ blk p, w.heap.size ≤ k) ∧ Hid (Frm [] w wr)) (fun v _ => match v with | .slice _ m _ => n + 1 + gapN (n + 1) - m | _ => 0)
  case atStart => exact ⟨0, n + 1, p2, c2, rfl, hid rfl, hid (Nat.zero_le _), hid (by simp [HL2.out]), HO2, HK2, HF2⟩
  case round =>
    clear HO2 HK2 HF2
    obtain ⟨j, m, p, c, rfl, hm, hj, hln, hown, hblk, hf⟩ := hrel
    have hj' := hj.out
    have hm' := hm.out
    by_cases hlt : m % 64 = 56
    · have hjj : j = gapN (n + 1) := by unfold gapN at hj' ⊢; omega
      have hg : ((m : Int) % 64 = 56) := by omega
      have HJJ := hid hjj
      have hgb : gapN (n + 1) < 64 := by unfold gapN; omega
      have HMM : Hid (m = n + 1 + gapN (n + 1)) := hid (by omega)
      have hmb : m + 16 ≤ 140737488355328 := by omega
      obtain ⟨Y, hY⟩ : ∃ Y, x2 ++ List.replicate j 0 = Y := ⟨_, rfl⟩
      rw [hY] at hln hown
      have HY := hid hY
      have nb : n < 9223372036854775807 := by omega
      have HLN0 : Hid ((Y ++ lenL n 0).length = m) := hid (by simpa [lenL] using hln.out)
      have HOW0 : Hid (Own wr 5 (.slice p m c) (Y ++ lenL n 0)) := hid (by simpa [lenL] using hown.out)
      clear hY hjj hgb hj' hm' hm hj hln hown
      go_wp2_with fail
      clear hg hlt
      go_loopw [5, 3] (fun i v wr => ∃ (t mm : Nat) (p : Option Addr) (c : Nat), t ≤ 8 ∧ i = .int .i64 (7 - (t : Int)) ∧ v = .slice p mm c ∧ Hid (mm = m + t) ∧ Hid ((Y ++ lenL n t).length = mm) ∧ Hid (Own wr 5 (.slice p mm c) (Y ++ lenL n t)) ∧ Hid (∀ k ∈ blk p, w.heap.size ≤ k) ∧ Hid (Frm [] w wr)) (fun i _ _ => ((intOf i) + 1).toNat)
      case atStart => exact ⟨0, m, p, c, by omega, rfl, rfl, hid rfl, HLN0, HOW0, hblk, hf⟩
      case round =>
        clear HLN0 HOW0 hblk hf
        obtain ⟨t, mm, p, c, ht, rfl, rfl, hmm, hln, hown, hblk, hf⟩ := hrel
        by_cases hlt8 : t < 8
        · have hls : lenL n (t + 1) = lenL n t ++ [lenC n (7 - t)] := rfl
          have HLS := hid hls
          have k0 : (0 : Int) ≤ 7 - (t : Int) := by omega
          have k1 : IntKind.u64.wrap (7 - (t : Int)) = 7 - (t : Int) := IntWalk.u64_in _ (by omega)
          have k2 : IntKind.u64.wrap (8 * (7 - (t : Int))) = 8 * (7 - (t : Int)) := IntWalk.u64_in _ (by omega)
          have k3 : (8 * (7 - (t : Int))).toNat = 8 * (7 - t) := by omega
          have k4 : IntKind.i64.wrap (7 - (t : Int) - 1) = 7 - (t : Int) - 1 := IntWalk.i64_in _ (by omega)
          have hmb2 : mm ≤ m + 8 := by have := hmm.out; omega
          obtain ⟨D, hD⟩ : ∃ D, lenC n (7 - t) = D := ⟨_, rfl⟩
          have HD := hid hD
          have hDe : (n : Int) * 8 / 2 ^ (8 * (7 - t)) % 256 = D := by rw [← hD, lenC, show (n : Int) * 8 % 18446744073709551616 = (n : Int) * 8 by omega]
          have hrz : Rd (wr.alloc (.cells #[.int .u8 D] 5)) (some ⟨wr.heap.size, 0, none⟩) [D] :=
            (own_of_block (E := 5) (zs := [D]) (heap_alloc_new wr _) (by simp [maxLen])).rd
          have HRZ := hid hrz
          have hfz1 : Frm [] wr (wr.alloc (.cells #[.int .u8 D] 5)) := (Frm.refl _ _).alloc _
          have HOA := hid (hown.out.kept hfz1 (by simp))
          have HFA := hid (hf.out.trans hfz1 (by simp))
          have HSZ := hid hf.out.size
          clear hrz hfz1 hown hls hD
          go_wp2_with (at_builtin; refine wpList_appB rfl _ _ 22 rfl 5 Tryd.underlying22 infoB p _ c (Y ++ lenL n t) rfl hln.out.symm (by rw [hln.out]; exact HOA.out) (some ⟨wr.heap.size, 0, none⟩) 1 1 [D] rfl rfl (by simp) HRZ.out (by rw [hln.out]; simp; omega) ?_)
          intro xs2 q2 d2 w3 hxs ho2 hf2 hfr2
          have hx3 : xs2 = Y ++ lenL n (t + 1) := by rw [hxs.out, HLS.out, HD.out]
          have hxl : xs2.length = mm + 1 := by
            have h1 := hln.out
            rw [hx3, HLS.out]
            simp only [List.length_append, List.length_cons, List.length_nil] at h1 ⊢
            omega
          have HF3 : Hid (Frm [] w w3) := hid (HFA.out.trans hf2.out (fun i hi hlt => by have := hblk.out i hi; omega))
          have HK3 : Hid (∀ k ∈ blk q2, w.heap.size ≤ k) := hid (fun k hk2 => by
            rcases hfr2.out k hk2 with h | h
            · exact hblk.out k h
            · have := HSZ.out
              first | omega | (simp at h; omega))
          have HO3 := ho2.out
          rw [hxl] at HO3 ⊢
          rw [hx3] at HO3
          have HO4 := hid HO3
          have HLX : Hid ((Y ++ lenL n (t + 1)).length = mm + 1) := hid (by rw [← hx3, hxl])
          clear hxs ho2 hf2 hfr2 hx3 hxl HFA HOA HRZ HSZ HO3 hln hblk hf hDe
          go_wp2_with fail
          go_roundw
          case rel => exact ⟨t + 1, mm + 1, q2, d2, by omega, by go_num, rfl, hid (by have := hmm.out; omega), HLX, HO4, HK3, HF3⟩
          case measure => simp [intOf]; omega
        · obtain rfl : t = 8 := by omega
          clear hlt8
          rw [show (7 : Int) - ((8 : Nat) : Int) = -1 from rfl]
          go_wp2_with fail
          go_returns
          have hpd : Y ++ lenL n 8 = padD zs := by rw [← HY.out, HX2.out, HJJ.out]; unfold padD; rw [HN.out]
          have hll := hln.out
          have hoo := hown.out
          rw [hpd] at hll hoo
          exact ⟨p, c, by rw [hll]; rfl, by rw [hll]; exact hoo, hblk.out, hf.out⟩
    · have hg : ¬ ((m : Int) % 64 = 56) := by omega
      have hg2 : ¬ ((m : Int).tmod 64 = 56) := by rw [Int.tmod_eq_emod_of_nonneg (by omega)]; exact hg
      have hjl : j + 1 ≤ gapN (n + 1) := by unfold gapN at hj' ⊢; omega
      have hgb : gapN (n + 1) < 64 := by unfold gapN; omega
      have HJL := hid hjl
      have hmb : m + 1 ≤ 140737488355328 := by omega
      have hrz : Rd (wr.alloc (.cells #[.int .u8 0] 5)) (some ⟨wr.heap.size, 0, none⟩) [0] :=
        (own_of_block (E := 5) (zs := [0]) (heap_alloc_new wr _) (by simp [maxLen])).rd
      have HRZ := hid hrz
      have hfz1 : Frm [] wr (wr.alloc (.cells #[.int .u8 0] 5)) := (Frm.refl _ _).alloc _
      have HOA := hid (hown.out.kept hfz1 (by simp))
      have HFA := hid (hf.out.trans hfz1 (by simp))
      have HSZ := hid hf.out.size
      clear hrz hfz1 hown hjl hgb hm' hj'
      go_wp2_with (at_builtin; refine wpList_appB rfl _ _ 22 rfl 5 Tryd.underlying22 infoB p _ c (x2 ++ List.replicate j 0) rfl hln.out.symm (by rw [hln.out]; exact HOA.out) (some ⟨wr.heap.size, 0, none⟩) 1 1 [0] rfl rfl (by simp) HRZ.out (by rw [hln.out]; simp; omega) ?_)
      intro xs2 q2 d2 w3 hxs ho2 hf2 hfr2
      have hx3 : xs2 = x2 ++ List.replicate (j + 1) 0 := by rw [hxs.out, List.replicate_succ']
      have hxl : xs2.length = m + 1 := by
        have h1 := hln.out
        rw [hx3]
        simp only [List.length_append, List.length_replicate] at h1 ⊢
        omega
      have HF3 : Hid (Frm [] w w3) := hid (HFA.out.trans hf2.out (fun i hi hlt => by have := hblk.out i hi; omega))
      have HK3 : Hid (∀ k ∈ blk q2, w.heap.size ≤ k) := hid (fun k hk2 => by
        rcases hfr2.out k hk2 with h | h
        · exact hblk.out k h
        · have := HSZ.out
          first | omega | (simp at h; omega))
      have HO3 := ho2.out
      rw [hxl] at HO3 ⊢
      rw [hx3] at HO3
      have HO4 := hid HO3
      have HLX : Hid ((x2 ++ List.replicate (j + 1) 0).length = m + 1) := hid (by rw [← hx3, hxl])
      clear hxs ho2 hf2 hfr2 hx3 hxl HFA HOA HRZ HSZ HO3 hln hblk hf
      go_wp2_with fail
      go_roundw
      case rel => exact ⟨j + 1, m + 1, q2, d2, rfl, hid (by have := hm.out; omega), HJL, HLX, HO4, HK3, HF3⟩
      case measure => show n + 1 + gapN (n + 1) - (m + 1) < n + 1 + gapN (n + 1) - m; have := HJL.out; have := hm.out; omega
end Go.Proofs.YtcnochabdhdlnaaDoor
