/- The document's forms: numbers, sums and noughts behind bytes. -/
import Derived.Test.YtdnnbinmippkdaaDoorPtrD
import Derived.Test.YtdnnbinmippkdaaDoorRefW
namespace Go.Proofs.YtdnnbinmippkdaaDoor
open Go.RowKit
set_option maxRecDepth 100000

/-- Bytes of one's own at p behind a step that may have written into them, or moved them. -/
structure BufN (w : World) (p : Option Addr) (w' : World) (p' : Option Addr) (n' c' : Nat) (zs : List Int) : Prop where
  own : Own w' 5 (.slice p' n' c') zs
  len : zs.length = n'
  fr : Frm (blk p) w w'
  bk : ∀ i ∈ blk p', i ∈ blk p ∨ w.heap.size ≤ i
theorem BufN.trans {w w1 w2 : World} {p p1 p2 : Option Addr} {n1 c1 n2 c2 : Nat} {zs ys : List Int} (h : BufN w p w1 p1 n1 c1 zs) (k : BufN w1 p1 w2 p2 n2 c2 ys) : BufN w p w2 p2 n2 c2 ys :=
  ⟨k.own, k.len, h.fr.trans k.fr (fun i hi hl => (h.bk i hi).elim id (fun h => absurd hl (Nat.not_lt.2 h))), fun i hi => (k.bk i hi).elim (h.bk i) (fun h2 => Or.inr (Nat.le_trans h.fr.size h2))⟩
theorem BufN.pre {w w0 w1 : World} {p p1 : Option Addr} {n1 c1 : Nat} {zs : List Int} (hf : Frm [] w w0) (h : BufN w0 p w1 p1 n1 c1 zs) : BufN w p w1 p1 n1 c1 zs :=
  ⟨h.own, h.len, (hf.mono (by simp)).trans h.fr (fun i hi _ => hi), fun i hi => (h.bk i hi).imp id (fun h2 => Nat.le_trans hf.size h2)⟩
theorem BufN.post {w w1 w2 : World} {p p1 : Option Addr} {n1 c1 : Nat} {zs : List Int} (h : BufN w p w1 p1 n1 c1 zs) (hf : Frm [] w1 w2) : BufN w p w2 p1 n1 c1 zs :=
  ⟨h.own.kept hf (by simp), h.len, h.fr.trans hf (by simp), h.bk⟩
theorem own_capF {w : World} {E : TypeId} {p : Option Addr} {n c : Nat} {zs : List Int} (h : Own w E (.slice p n c) zs) : zs.length = n ∧ n ≤ c ∧ (p = none → c = 0) := by
  obtain ⟨p', c', he, hle, hn, _⟩ := h.shape
  simp only [Value.slice.injEq] at he
  obtain ⟨rfl, h2, rfl⟩ := he
  exact ⟨h2.symm, by omega, fun hp => (hn hp).2⟩
set_option maxHeartbeats 1600000 in
theorem refNum_any (p : Option Addr) (n c : Nat) (zs : List Int) (v : Int) (k : Nat) (w : World) (ho : Own w 5 (.slice p n c) zs) (hv : 0 ≤ v ∧ v < 18446744073709551616) (hk : k ≤ 8) (hn : n ≤ 1000000) :
    Calls Tryd.prog 32 #[.slice p n c, .int .u64 v, .int .i64 (k : Int)] w fun e w' => ∃ p' c', e = .returned (.slice p' (n + k) c') ∧ BufN w p w' p' (n + k) c' (zs ++ le v k) := by
  have HO := hid ho
  have hl := (own_capF ho).1
  have HF := hid (form_any v k hv.1 hv.2 hk w)
  clear ho
  go_enter Tryd.func32, Tryd.ntmps32
  go_wp2_with fail
  refine HF.out.mono ?_
  rintro e w1 ⟨q, d, ok, rfl, ho1, _, hf1, hb1⟩
  have HO1 := hid (HO.out.kept hf1 (by simp))
  have HQ := hid ho1
  have hq := own_capF ho1
  have HF1 := hid hf1
  clear ho1 hf1 hb1 HF
  go_wp2_with (at_builtin; refine wpList_appB rfl _ _ 28 rfl 5 Tryd.underlying28 infoB p n c zs rfl hl.symm (by rw [hl]; exact HO1.out) q k d (le v k) rfl (le_length v k).symm (fun _ => hq.2.2) HQ.out.rd (by rw [hl, le_length]; omega) ?_)
  intro xs p2 c2 w2 hxs ho hf hfr
  have hx := hxs.out
  have hxl : xs.length = n + k := by rw [hx, List.length_append, hl, le_length]
  have HB : Hid (BufN w p w2 p2 (n + k) c2 (zs ++ le v k)) := hid (by
    have h1 := ho.out
    rw [hxl, hx] at h1
    refine BufN.pre HF1.out ⟨h1, by rw [← hx]; exact hxl, hf.out, fun i hi => ?_⟩
    exact hfr.out i hi)
  rw [hxl]
  clear hxs ho hf hfr hx hxl hq
  go_wp2_with fail
  go_returns
  exact ⟨p2, c2, rfl, HB.out⟩
set_option maxHeartbeats 1600000 in
theorem refSums_any (p : Option Addr) (n c : Nat) (zs : List Int) (s0 s1 s2 s3 : Int) (w : World) (ho : Own w 5 (.slice p n c) zs) (h0 : 0 ≤ s0 ∧ s0 < 18446744073709551616) (h1 : 0 ≤ s1 ∧ s1 < 18446744073709551616) (h2 : 0 ≤ s2 ∧ s2 < 18446744073709551616) (h3 : 0 ≤ s3 ∧ s3 < 18446744073709551616) (hn : n ≤ 999900) :
    Calls Tryd.prog 33 #[.slice p n c, .agg #[.int .u64 s0, .int .u64 s1, .int .u64 s2, .int .u64 s3]] w fun e w' => ∃ p' c', e = .returned (.slice p' (n + 32) c') ∧ BufN w p w' p' (n + 32) c' (zs ++ sumL s0 s1 s2 s3) := by
  have hfa : Frm [] w (w.alloc (.cells #[.int .u64 s0, .int .u64 s1, .int .u64 s2, .int .u64 s3] 24)) := (Frm.refl _ _).alloc _
  have HFA := hid hfa
  have HROW := hid (heap_alloc_new w (.cells #[.int .u64 s0, .int .u64 s1, .int .u64 s2, .int .u64 s3] 24))
  have HO0 := hid (ho.kept hfa (by simp))
  have HLW : Hid (∀ k ∈ blk p, k < w.heap.size) := hid (fun k hk => ho.lows k hk)
  have HN := hid (fun q d ys m W (h : Own W 5 (.slice q m d) ys) (hm : m ≤ 1000000) v (hv : 0 ≤ v ∧ v < 18446744073709551616) => refNum_any q m d ys v 8 W h hv (by omega) hm)
  have HB := hid (And.intro h0 (And.intro h1 (And.intro h2 h3)))
  clear hfa ho h0 h1 h2 h3
  go_enter Tryd.func33, Tryd.ntmps33
  go_wp2_with fail
  obtain ⟨sb, hsb⟩ : ∃ sb, w.heap.size = sb := ⟨_, rfl⟩
  obtain ⟨wa, hwa⟩ : ∃ wa, w.alloc (.cells #[.int .u64 s0, .int .u64 s1, .int .u64 s2, .int .u64 s3] 24) = wa := ⟨_, rfl⟩
  have HSB := hid hsb
  rw [hwa] at HFA HO0
  rw [hwa, hsb] at HROW
  rw [hwa, hsb]
  clear hwa hsb
  have HSL : Hid (sb < wa.heap.size) := hid (lt_of_heap HROW.out)
  have HNB : Hid (sb ∉ blk p) := hid (fun h => by have := HLW.out sb h; have := HSB.out; omega)
  refine (HN.out p c zs n wa HO0.out (by omega) s0 HB.out.1).mono ?_
  rintro e w1 ⟨p1, c1, rfl, b1⟩
  have B1 := hid b1
  have hr1 := b1.fr.heap HROW.out HNB.out
  have HR1 := hid hr1
  have HN1 : Hid (sb ∉ blk p1) := hid (fun h => (b1.bk sb h).elim HNB.out (fun h => by have := HSL.out; omega))
  have k1 : w1.cell? ⟨sb, 1, none⟩ = some (.int .u64 s1) := by rw [cell_of_row w1 _ _ _ _ _ hr1]; rfl
  clear b1 hr1
  go_wp2_with fail
  refine (HN.out p1 c1 _ (n + 8) w1 B1.out.own (by omega) s1 HB.out.2.1).mono ?_
  rintro e w2 ⟨p2, c2, rfl, b2⟩
  have B2 := hid (B1.out.trans b2)
  have hr2 := b2.fr.heap HR1.out HN1.out
  have HR2 := hid hr2
  have HN2 : Hid (sb ∉ blk p2) := hid (fun h => (b2.bk sb h).elim HN1.out (fun h => by have := lt_of_heap HR1.out; omega))
  have k2 : w2.cell? ⟨sb, 2, none⟩ = some (.int .u64 s2) := by rw [cell_of_row w2 _ _ _ _ _ hr2]; rfl
  clear b2 hr2 k1
  go_wp2_with fail
  refine (HN.out p2 c2 _ (n + 8 + 8) w2 B2.out.own (by omega) s2 HB.out.2.2.1).mono ?_
  rintro e w3 ⟨p3, c3, rfl, b3⟩
  have B3 := hid (B2.out.trans b3)
  have hr3 := b3.fr.heap HR2.out HN2.out
  have k3 : w3.cell? ⟨sb, 3, none⟩ = some (.int .u64 s3) := by rw [cell_of_row w3 _ _ _ _ _ hr3]; rfl
  clear b3 hr3 k2
  go_wp2_with fail
  refine (HN.out p3 c3 _ (n + 8 + 8 + 8) w3 B3.out.own (by omega) s3 HB.out.2.2.2).mono ?_
  rintro e w4 ⟨p4, c4, rfl, b4⟩
  have B4 : Hid (BufN w p w4 p4 (n + 32) c4 (zs ++ sumL s0 s1 s2 s3)) := hid (by
    have h := (B3.out.trans b4).pre HFA.out
    rw [show n + 8 + 8 + 8 + 8 = n + 32 by omega] at h
    unfold sumL
    simpa only [List.append_assoc] using h)
  rw [show n + 8 + 8 + 8 + 8 = n + 32 by omega]
  clear b4 k3
  go_wp2_with fail
  go_returns
  exact ⟨p4, c4, rfl, B4.out⟩
set_option maxHeartbeats 1600000 in
theorem refPad_any (p : Option Addr) (n c : Nat) (zs : List Int) (to : Nat) (w : World) (ho : Own w 5 (.slice p n c) zs) (hn : n ≤ to) (hto : to ≤ 1000000) :
    Calls Tryd.prog 34 #[.slice p n c, .int .i64 (to : Int)] w fun e w' => ∃ p' c', e = .returned (.slice p' to c') ∧ BufN w p w' p' to c' (zs ++ List.replicate (to - n) 0) := by
  have hl := (own_capF ho).1
  have HB0 : Hid (BufN w p w p n c (zs ++ List.replicate 0 0)) := hid (by simpa using (⟨ho, hl, Frm.refl _ _, fun i hi => Or.inl hi⟩ : BufN w p w p n c zs))
  clear ho
  go_enter Tryd.func34, Tryd.ntmps34
  go_wp2_with fail
  go_loopw [0] (fun v wr => ∃ (k m d : Nat) (q : Option Addr), v = .slice q m d ∧ Hid (m = n + k) ∧ Hid (m ≤ to) ∧ Hid (BufN w p wr q m d (zs ++ List.replicate k 0))) (fun v _ => to - lenV v)
  case atStart => exact ⟨0, n, c, p, rfl, hid rfl, hid hn, HB0⟩
  case round =>
    clear HB0
    obtain ⟨k, m, d, q, rfl, hm, hmt, hb⟩ := hrel
    have hm' := hmt.out
    by_cases hlt : m < to
    · have t1 : (m : Int) < (to : Int) := by omega
      have HRZ : Hid (Rd (wr.alloc (.cells #[.int .u8 0] 5)) (some ⟨wr.heap.size, 0, none⟩) [0]) := hid (own_of_block (E := 5) (zs := [0]) (heap_alloc_new wr _) (by simp [maxLen])).rd
      have HBA := hid (hb.out.post ((Frm.refl [] wr).alloc (.cells #[.int .u8 0] 5)))
      have hlen := hb.out.len
      clear hb
      go_wp2_with (at_builtin; refine wpList_appB rfl _ _ 28 rfl 5 Tryd.underlying28 infoB q m d (zs ++ List.replicate k 0) rfl hlen.symm (by rw [hlen]; exact HBA.out.own) (some ⟨wr.heap.size, 0, none⟩) 1 1 [0] rfl rfl (by simp) HRZ.out (by rw [hlen]; simp; omega) ?_)
      intro xs p2 c2 w2 hxs ho2 hf2 hfr2
      have hx : xs = zs ++ List.replicate (k + 1) 0 := by rw [hxs.out, List.replicate_succ']
      have hxl : xs.length = m + 1 := by
        have h1 := hlen
        rw [hx]
        simp only [List.length_append, List.length_replicate] at h1 ⊢
        omega
      have HB2 : Hid (BufN w p w2 p2 (m + 1) c2 (zs ++ List.replicate (k + 1) 0)) := hid (by
        have h1 := ho2.out
        rw [hxl, hx] at h1
        exact HBA.out.trans ⟨h1, by rw [← hx]; exact hxl, hf2.out, by simpa using hfr2.out⟩)
      rw [hxl]
      clear hxs ho2 hf2 hfr2 hx hxl hlen HBA HRZ
      go_wp2_with fail
      go_roundw
      case rel => exact ⟨k + 1, m + 1, c2, p2, rfl, hid (by have := hm.out; omega), hid (by omega), HB2⟩
      case measure => simp [lenV]; omega
    · obtain rfl : m = to := by omega
      have t1 : ¬ (m : Int) < (m : Int) := by omega
      clear hlt
      go_wp2_with fail
      go_returns
      refine ⟨q, d, rfl, ?_⟩
      have h := hb.out
      rwa [show k = m - n by have := hm.out; omega] at h
end Go.Proofs.YtdnnbinmippkdaaDoor
