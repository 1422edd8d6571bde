/- The document's forms: numbers, sums and noughts behind bytes. Contracts of the document's ptr: Encode of a pointer. Contracts of the law's own. Contracts of the document's ptr: SameLabel of two labels that are the same. SameLabel against a nought label; what was decoded lies in its types' bounds. Plain facts on Fletcher's sum: words, pieces, a byte turned. The document's Fletcher. The document's forms: a number behind letters; a body and its sum; Check of an uberblock. The document's Encode of an uberblock. -/
import Derived.Test.YtkolbijhekbelaaQad
import Derived.Test.YtkolbijhekbelaaQaf
import Derived.BigQuiet
namespace Go.Proofs.Ytkolbijhekbelaa
section
open Go.RowKit
set_option maxRecDepth 100000

/-- Bytes of one's own at p behind a step that may have written into them, or moved them. -/
structure BufN (w : World) (p : Option Addr) (w' : World) (p' : Option Addr) (n' c' : Nat) (zs : List Int) : Prop where
  own : Own w' 5 (.slice p' n' c') zs
  len : zs.length = n'
  fr : Frm (blk p) w w'
  bk : ∀ i ∈ blk p', i ∈ blk p ∨ w.heap.size ≤ i
theorem BufN.trans {w w1 w2 : World} {p p1 p2 : Option Addr} {n1 c1 n2 c2 : Nat} {zs ys : List Int} (h : BufN w p w1 p1 n1 c1 zs) (k : BufN w1 p1 w2 p2 n2 c2 ys) : BufN w p w2 p2 n2 c2 ys :=
  ⟨k.own, k.len, h.fr.trans k.fr (fun i hi hl => (h.bk i hi).elim id (fun h => absurd hl (Nat.not_lt.2 h))), fun i hi => (k.bk i hi).elim (h.bk i) (fun h2 => Or.inr (Nat.le_trans h.fr.size h2))⟩
theorem BufN.pre {w w0 w1 : World} {p p1 : Option Addr} {n1 c1 : Nat} {zs : List Int} (hf : Frm [] w w0) (h : BufN w0 p w1 p1 n1 c1 zs) : BufN w p w1 p1 n1 c1 zs :=
  ⟨h.own, h.len, (hf.mono (by simp)).trans h.fr (fun i hi _ => hi), fun i hi => (h.bk i hi).imp id (fun h2 => Nat.le_trans hf.size h2)⟩
theorem BufN.post {w w1 w2 : World} {p p1 : Option Addr} {n1 c1 : Nat} {zs : List Int} (h : BufN w p w1 p1 n1 c1 zs) (hf : Frm [] w1 w2) : BufN w p w2 p1 n1 c1 zs :=
  ⟨h.own.kept hf (by simp), h.len, h.fr.trans hf (by simp), h.bk⟩
theorem own_capF {w : World} {E : TypeId} {p : Option Addr} {n c : Nat} {zs : List Int} (h : Own w E (.slice p n c) zs) : zs.length = n ∧ n ≤ c ∧ (p = none → c = 0) := by
  obtain ⟨p', c', he, hle, hn, _⟩ := h.shape
  simp only [Value.slice.injEq] at he
  obtain ⟨rfl, h2, rfl⟩ := he
  exact ⟨h2.symm, by omega, fun hp => (hn hp).2⟩
set_option maxHeartbeats 1600000 in
theorem refNum_any (p : Option Addr) (n c : Nat) (zs : List Int) (v : Int) (k : Nat) (w : World) (ho : Own w 5 (.slice p n c) zs) (hv : 0 ≤ v ∧ v < 18446744073709551616) (hk : k ≤ 8) (hn : n ≤ 1000000) :
    Calls Try.prog 49 #[.slice p n c, .int .u64 v, .int .i64 (k : Int)] w fun e w' => ∃ p' c', e = .returned (.slice p' (n + k) c') ∧ BufN w p w' p' (n + k) c' (zs ++ le v k) := by
  have HO := hid ho
  have hl := (own_capF ho).1
  have HF := hid (form_any v k hv.1 hv.2 hk w)
  clear ho
  go_enter Try.func49, Try.ntmps49
  go_wp2_with fail
  refine HF.out.mono ?_
  rintro e w1 ⟨q, d, ok, rfl, ho1, _, hf1, hb1⟩
  have HO1 := hid (HO.out.kept hf1 (by simp))
  have HQ := hid ho1
  have hq := own_capF ho1
  have HF1 := hid hf1
  clear ho1 hf1 hb1 HF
  go_wp2_with (at_builtin; refine wpList_appB rfl _ _ 22 rfl 5 Try.underlying22 infoB p n c zs rfl hl.symm (by rw [hl]; exact HO1.out) q k d (le v k) rfl (le_length v k).symm (fun _ => hq.2.2) HQ.out.rd (by rw [hl, le_length]; omega) ?_)
  intro xs p2 c2 w2 hxs ho hf hfr
  have hx := hxs.out
  have hxl : xs.length = n + k := by rw [hx, List.length_append, hl, le_length]
  have HB : Hid (BufN w p w2 p2 (n + k) c2 (zs ++ le v k)) := hid (by
    have h1 := ho.out
    rw [hxl, hx] at h1
    refine BufN.pre HF1.out ⟨h1, by rw [← hx]; exact hxl, hf.out, fun i hi => ?_⟩
    exact hfr.out i hi)
  rw [hxl]
  clear hxs ho hf hfr hx hxl hq
  go_wp2_with fail
  go_returns
  exact ⟨p2, c2, rfl, HB.out⟩
set_option maxHeartbeats 1600000 in
theorem refSums_any (p : Option Addr) (n c : Nat) (zs : List Int) (s0 s1 s2 s3 : Int) (w : World) (ho : Own w 5 (.slice p n c) zs) (h0 : 0 ≤ s0 ∧ s0 < 18446744073709551616) (h1 : 0 ≤ s1 ∧ s1 < 18446744073709551616) (h2 : 0 ≤ s2 ∧ s2 < 18446744073709551616) (h3 : 0 ≤ s3 ∧ s3 < 18446744073709551616) (hn : n ≤ 999900) :
    Calls Try.prog 50 #[.slice p n c, .agg #[.int .u64 s0, .int .u64 s1, .int .u64 s2, .int .u64 s3]] w fun e w' => ∃ p' c', e = .returned (.slice p' (n + 32) c') ∧ BufN w p w' p' (n + 32) c' (zs ++ sumL s0 s1 s2 s3) := by
  have hfa : Frm [] w (w.alloc (.cells #[.int .u64 s0, .int .u64 s1, .int .u64 s2, .int .u64 s3] 38)) := (Frm.refl _ _).alloc _
  have HFA := hid hfa
  have HROW := hid (heap_alloc_new w (.cells #[.int .u64 s0, .int .u64 s1, .int .u64 s2, .int .u64 s3] 38))
  have HO0 := hid (ho.kept hfa (by simp))
  have HLW : Hid (∀ k ∈ blk p, k < w.heap.size) := hid (fun k hk => ho.lows k hk)
  have HN := hid (fun q d ys m W (h : Own W 5 (.slice q m d) ys) (hm : m ≤ 1000000) v (hv : 0 ≤ v ∧ v < 18446744073709551616) => refNum_any q m d ys v 8 W h hv (by omega) hm)
  have HB := hid (And.intro h0 (And.intro h1 (And.intro h2 h3)))
  clear hfa ho h0 h1 h2 h3
  go_enter Try.func50, Try.ntmps50
  go_wp2_with fail
  obtain ⟨sb, hsb⟩ : ∃ sb, w.heap.size = sb := ⟨_, rfl⟩
  obtain ⟨wa, hwa⟩ : ∃ wa, w.alloc (.cells #[.int .u64 s0, .int .u64 s1, .int .u64 s2, .int .u64 s3] 38) = wa := ⟨_, rfl⟩
  have HSB := hid hsb
  rw [hwa] at HFA HO0
  rw [hwa, hsb] at HROW
  rw [hwa, hsb]
  clear hwa hsb
  have HSL : Hid (sb < wa.heap.size) := hid (lt_of_heap HROW.out)
  have HNB : Hid (sb ∉ blk p) := hid (fun h => by have := HLW.out sb h; have := HSB.out; omega)
  refine (HN.out p c zs n wa HO0.out (by omega) s0 HB.out.1).mono ?_
  rintro e w1 ⟨p1, c1, rfl, b1⟩
  have B1 := hid b1
  have hr1 := b1.fr.heap HROW.out HNB.out
  have HR1 := hid hr1
  have HN1 : Hid (sb ∉ blk p1) := hid (fun h => (b1.bk sb h).elim HNB.out (fun h => by have := HSL.out; omega))
  have k1 : w1.cell? ⟨sb, 1, none⟩ = some (.int .u64 s1) := by rw [cell_of_row w1 _ _ _ _ _ hr1]; rfl
  clear b1 hr1
  go_wp2_with fail
  refine (HN.out p1 c1 _ (n + 8) w1 B1.out.own (by omega) s1 HB.out.2.1).mono ?_
  rintro e w2 ⟨p2, c2, rfl, b2⟩
  have B2 := hid (B1.out.trans b2)
  have hr2 := b2.fr.heap HR1.out HN1.out
  have HR2 := hid hr2
  have HN2 : Hid (sb ∉ blk p2) := hid (fun h => (b2.bk sb h).elim HN1.out (fun h => by have := lt_of_heap HR1.out; omega))
  have k2 : w2.cell? ⟨sb, 2, none⟩ = some (.int .u64 s2) := by rw [cell_of_row w2 _ _ _ _ _ hr2]; rfl
  clear b2 hr2 k1
  go_wp2_with fail
  refine (HN.out p2 c2 _ (n + 8 + 8) w2 B2.out.own (by omega) s2 HB.out.2.2.1).mono ?_
  rintro e w3 ⟨p3, c3, rfl, b3⟩
  have B3 := hid (B2.out.trans b3)
  have hr3 := b3.fr.heap HR2.out HN2.out
  have k3 : w3.cell? ⟨sb, 3, none⟩ = some (.int .u64 s3) := by rw [cell_of_row w3 _ _ _ _ _ hr3]; rfl
  clear b3 hr3 k2
  go_wp2_with fail
  refine (HN.out p3 c3 _ (n + 8 + 8 + 8) w3 B3.out.own (by omega) s3 HB.out.2.2.2).mono ?_
  rintro e w4 ⟨p4, c4, rfl, b4⟩
  have B4 : Hid (BufN w p w4 p4 (n + 32) c4 (zs ++ sumL s0 s1 s2 s3)) := hid (by
    have h := (B3.out.trans b4).pre HFA.out
    rw [show n + 8 + 8 + 8 + 8 = n + 32 by omega] at h
    unfold sumL
    simpa only [List.append_assoc] using h)
  rw [show n + 8 + 8 + 8 + 8 = n + 32 by omega]
  clear b4 k3
  go_wp2_with fail
  go_returns
  exact ⟨p4, c4, rfl, B4.out⟩
set_option maxHeartbeats 1600000 in
theorem refPad_any (p : Option Addr) (n c : Nat) (zs : List Int) (to : Nat) (w : World) (ho : Own w 5 (.slice p n c) zs) (hn : n ≤ to) (hto : to ≤ 1000000) :
    Calls Try.prog 51 #[.slice p n c, .int .i64 (to : Int)] w fun e w' => ∃ p' c', e = .returned (.slice p' to c') ∧ BufN w p w' p' to c' (zs ++ List.replicate (to - n) 0) := by
  have hl := (own_capF ho).1
  have HB0 : Hid (BufN w p w p n c (zs ++ List.replicate 0 0)) := hid (by simpa using (⟨ho, hl, Frm.refl _ _, fun i hi => Or.inl hi⟩ : BufN w p w p n c zs))
  clear ho
  go_enter Try.func51, Try.ntmps51
  go_wp2_with fail
  go_loopw [0] (fun v wr => ∃ (k m d : Nat) (q : Option Addr), v = .slice q m d ∧ Hid (m = n + k) ∧ Hid (m ≤ to) ∧ Hid (BufN w p wr q m d (zs ++ List.replicate k 0))) (fun v _ => to - lenV v)
  case atStart => exact ⟨0, n, c, p, rfl, hid rfl, hid hn, HB0⟩
  case round =>
    clear HB0
    obtain ⟨k, m, d, q, rfl, hm, hmt, hb⟩ := hrel
    have hm' := hmt.out
    by_cases hlt : m < to
    · have t1 : (m : Int) < (to : Int) := by omega
      have HRZ : Hid (Rd (wr.alloc (.cells #[.int .u8 0] 5)) (some ⟨wr.heap.size, 0, none⟩) [0]) := hid (own_of_block (E := 5) (zs := [0]) (heap_alloc_new wr _) (by simp [maxLen])).rd
      have HBA := hid (hb.out.post ((Frm.refl [] wr).alloc (.cells #[.int .u8 0] 5)))
      have hlen := hb.out.len
      clear hb
      go_wp2_with (at_builtin; refine wpList_appB rfl _ _ 22 rfl 5 Try.underlying22 infoB q m d (zs ++ List.replicate k 0) rfl hlen.symm (by rw [hlen]; exact HBA.out.own) (some ⟨wr.heap.size, 0, none⟩) 1 1 [0] rfl rfl (by simp) HRZ.out (by rw [hlen]; simp; omega) ?_)
      intro xs p2 c2 w2 hxs ho2 hf2 hfr2
      have hx : xs = zs ++ List.replicate (k + 1) 0 := by rw [hxs.out, List.replicate_succ']
      have hxl : xs.length = m + 1 := by
        have h1 := hlen
        rw [hx]
        simp only [List.length_append, List.length_replicate] at h1 ⊢
        omega
      have HB2 : Hid (BufN w p w2 p2 (m + 1) c2 (zs ++ List.replicate (k + 1) 0)) := hid (by
        have h1 := ho2.out
        rw [hxl, hx] at h1
        exact HBA.out.trans ⟨h1, by rw [← hx]; exact hxl, hf2.out, by simpa using hfr2.out⟩)
      rw [hxl]
      clear hxs ho2 hf2 hfr2 hx hxl hlen HBA HRZ
      go_wp2_with fail
      go_roundw
      case rel => exact ⟨k + 1, m + 1, c2, p2, rfl, hid (by have := hm.out; omega), hid (by omega), HB2⟩
      case measure => simp [lenV]; omega
    · obtain rfl : m = to := by omega
      have t1 : ¬ (m : Int) < (m : Int) := by omega
      clear hlt
      go_wp2_with fail
      go_returns
      refine ⟨q, d, rfl, ?_⟩
      have h := hb.out
      rwa [show k = m - n by have := hm.out; omega] at h
end
section
open Go.RowKit
set_option maxRecDepth 100000

theorem le_one' (v : Int) (h0 : 0 ≤ v) (h1 : v < 256) : le v 1 = [v] := by
  simp [le, List.range_succ]
  omega
/-- What the document's encoding answers: the error, or bytes of its own. -/
def EncD (w : World) (zs : List Int) (err : Int) (e : Ending) (w' : World) : Prop :=
  (err ≠ 0 ∧ e = .returned (.tuple #[.slice none 0 0, .int .i64 err]) ∧ Frm [] w w') ∨
  (err = 0 ∧ ∃ q n c, e = .returned (.tuple #[.slice q n c, .int .i64 0]) ∧ n = zs.length ∧ Own w' 5 (.slice q n c) zs ∧ Frm [] w w' ∧ ∀ i ∈ blk q, w.heap.size ≤ i)
set_option maxHeartbeats 3200000 in
theorem refEncode_any (p : P9) (hp : p.ok) (w : World) :
    Calls Try.prog 35 #[.agg p.arr] w (EncD w (ptrB p) (checkP p)) := by
  have HP := hid hp
  have HCK := hid (fun W => refCheck9_any p W)
  obtain ⟨C, hC⟩ : ∃ C, checkP p = C := ⟨_, rfl⟩
  rw [hC] at HCK ⊢
  have HC := hid hC
  obtain ⟨PO, hPO⟩ : ∃ PO, EncD w (ptrB p) C = PO := ⟨_, rfl⟩
  rw [hPO]
  have HPO := hid hPO
  have HROW := hid (heap_alloc_new w (.cells p.arr 40))
  have HFA : Hid (Frm [] w (w.alloc (.cells p.arr 40))) := hid ((Frm.refl _ _).alloc _)
  clear hp hC hPO
  unfold P9.arr at HCK HROW HFA ⊢
  obtain ⟨pb, hpb⟩ : ∃ pb, w.heap.size = pb := ⟨_, rfl⟩
  obtain ⟨wa, hwa⟩ : ∃ wa, w.alloc (.cells #[.int .i64 p.top, .int .i64 p.at_, .int .i64 p.bytes, .int .u64 p.birth, .int .i64 p.kind, .int .u64 p.sa, .int .u64 p.sb, .int .u64 p.sc, .int .u64 p.sd] 40) = wa := ⟨_, rfl⟩
  rw [hwa] at HFA
  rw [hwa, hpb] at HROW
  have HPB := hid hpb
  obtain ⟨q0, q1, q2, q3, q4, q5, q6, q7, q8⟩ := ptr_cells HROW.out
  go_enter Try.func35, Try.ntmps35
  go_wp2_with fail
  refine (HCK.out wa).mono ?_
  rintro e w1 ⟨rfl, hf1⟩
  have HF1 := hid (HFA.out.trans hf1 (by simp))
  have hr1 := hf1.heap HROW.out (by simp)
  have HR1 := hid hr1
  clear hf1 q0 q1 q2 q3 q4 q5 q6 q7 q8
  by_cases hC0 : C = 0
  case neg =>
    have hb : (C != 0) = true := by simpa using hC0
    go_wp2_with fail
    rw [← HPO.out]
    exact Or.inl ⟨hC0, rfl, HF1.out⟩
  subst hC0
  have HFT : Hid p.fits := hid (fits_of_check HP.out HC.out)
  obtain ⟨t0, t1⟩ := HFT.out.top
  obtain ⟨d0, d1⟩ := HFT.out.kind
  have e1 : IntKind.u8.wrap p.top = p.top := IntWalk.u8_in _ (by omega)
  have e2 : IntKind.u8.wrap p.kind = p.kind := IntWalk.u8_in _ (by omega)
  have e3 : IntKind.u64.wrap p.bytes = p.bytes := IntWalk.u64_in _ (by have := HFT.out.bytes; omega)
  obtain ⟨q0, q1, q2, q3, q4, q5, q6, q7, q8⟩ := ptr_cells hr1
  clear hr1
  have hfb : Frm [] w1 (w1.alloc (.cells #[.int .u8 p.top, .int .u8 p.kind] 5)) := (Frm.refl _ _).alloc _
  have ho := own_of_block (E := 5) (zs := [p.top, p.kind]) (heap_alloc_new w1 _) (by simp [maxLen])
  obtain ⟨gb, hgb⟩ : ∃ gb, w1.heap.size = gb := ⟨_, rfl⟩
  obtain ⟨wb, hwb⟩ : ∃ wb, w1.alloc (.cells #[.int .u8 p.top, .int .u8 p.kind] 5) = wb := ⟨_, rfl⟩
  have hwb' : w1.alloc (.cells (bv [p.top, p.kind]).toArray 5) = wb := hwb
  rw [hwb] at hfb
  rw [hwb', hgb] at ho
  have HB0 : Hid (BufN wb (some ⟨gb, 0, none⟩) wb (some ⟨gb, 0, none⟩) 2 2 [p.top, p.kind]) := hid ⟨ho, rfl, Frm.refl _ _, fun i hi => Or.inl hi⟩
  have HFB := hid (HF1.out.trans hfb (by simp))
  have HRB := hid (hfb.heap HR1.out (by simp))
  have HNB0 : Hid (pb ∉ blk (some ⟨gb, 0, none⟩)) := hid (by simp [blk]; have := lt_of_heap HR1.out; omega)
  have HGB : Hid (w.heap.size ≤ gb) := hid (by have := HF1.out.size; omega)
  have HPW : Hid (pb < wb.heap.size) := hid (lt_of_heap HRB.out)
  clear hfb ho hwb' HR1
  obtain ⟨r0, r1, r2, r3, r4, r5, r6, r7, r8⟩ := ptr_cells HRB.out
  go_wp2_with fail
  clear q0 q1 q2 q3 q4 q5 q6 q7 q8 r0 r1 r2 r3 r4 r5 r6 r7 r8 hwb hgb e1 e2 e3
  have h1 := refNum_any (some ⟨gb, 0, none⟩) (2) 2 _ p.bytes 2 wb HB0.out.own (by have := HFT.out.bytes; omega) (by omega) (by omega)
  refine h1.mono ?_
  rintro e x1 ⟨p1, c1, rfl, b1⟩
  have B1 := hid (HB0.out.trans b1)
  have hr1 := b1.fr.heap HRB.out HNB0.out
  have R1 := hid hr1
  have N1 : Hid (pb ∉ blk p1) := hid (fun h => (b1.bk pb h).elim HNB0.out (fun h => by have := lt_of_heap HRB.out; omega))
  clear h1 b1 HB0 HNB0 HRB
  obtain ⟨q0, q1, q2, q3, q4, q5, q6, q7, q8⟩ := ptr_cells hr1
  clear hr1
  have e3 : IntKind.u64.wrap p.at_ = p.at_ := IntWalk.u64_in _ (by have := HFT.out.at_; omega)
  go_wp2_with fail
  have h2 := refNum_any p1 (2 + 2) c1 _ p.at_ 4 x1 B1.out.own (by have := HFT.out.at_; omega) (by omega) (by omega)
  refine h2.mono ?_
  rintro e x2 ⟨p2, c2, rfl, b2⟩
  have B2 := hid (B1.out.trans b2)
  have hr2 := b2.fr.heap R1.out N1.out
  have R2 := hid hr2
  have N2 : Hid (pb ∉ blk p2) := hid (fun h => (b2.bk pb h).elim N1.out (fun h => by have := lt_of_heap R1.out; omega))
  clear h2 b2 q0 q1 q2 q3 q4 q5 q6 q7 q8 e3 B1 N1 R1
  obtain ⟨q0, q1, q2, q3, q4, q5, q6, q7, q8⟩ := ptr_cells hr2
  clear hr2
  go_wp2_with fail
  have h3 := refNum_any p2 (2 + 2 + 4) c2 _ p.birth 8 x2 B2.out.own (by have := HFT.out.birth; omega) (by omega) (by omega)
  refine h3.mono ?_
  rintro e x3 ⟨p3, c3, rfl, b3⟩
  have B3 := hid (B2.out.trans b3)
  have hr3 := b3.fr.heap R2.out N2.out
  have R3 := hid hr3
  have N3 : Hid (pb ∉ blk p3) := hid (fun h => (b3.bk pb h).elim N2.out (fun h => by have := lt_of_heap R2.out; omega))
  clear h3 b3 q0 q1 q2 q3 q4 q5 q6 q7 q8 B2 N2 R2
  obtain ⟨q0, q1, q2, q3, q4, q5, q6, q7, q8⟩ := ptr_cells hr3
  clear hr3
  go_wp2_with fail
  have h4 := refSums_any p3 (2 + 2 + 4 + 8) c3 _ p.sa p.sb p.sc p.sd x3 B3.out.own HFT.out.sa HFT.out.sb HFT.out.sc HFT.out.sd (by omega)
  refine h4.mono ?_
  rintro e x4 ⟨p4, c4, rfl, b4⟩
  have B4 := hid (B3.out.trans b4)
  clear h4 b4 q0 q1 q2 q3 q4 q5 q6 q7 q8 B3 N3 R3
  go_wp2_with fail
  have h5 := refPad_any p4 (2 + 2 + 4 + 8 + 32) c4 _ 64 x4 B4.out.own (by omega) (by omega)
  refine h5.mono ?_
  rintro e x5 ⟨p5, c5, rfl, b5⟩
  have B5 : Hid (BufN wb (some ⟨gb, 0, none⟩) x5 p5 64 c5 (ptrB p)) := hid (by
    have h := B4.out.trans b5
    unfold ptrB bodyP
    rw [le_one' p.top t0 (by omega), le_one' p.kind d0 (by omega)]
    simpa only [List.append_assoc, List.cons_append, List.nil_append] using h)
  clear h5 b5 B4
  go_wp2_with fail
  rw [← HPO.out]
  refine Or.inr ⟨rfl, p5, 64, c5, rfl, (ptrB_length p).symm, B5.out.own, HFB.out.trans B5.out.fr (fun i hi hl => by simp [blk] at hi; have := HGB.out; omega), fun i hi => ?_⟩
  rcases B5.out.bk i hi with h | h
  · simp [blk] at h
    have := HGB.out
    omega
  · have := HFB.out.size
    omega
end
section
section
open Go.RowKit Go.Lib
set_option maxRecDepth 100000

end
section
open Go.RowKit
set_option maxRecDepth 100000

end
end
section
open Go.RowKit
set_option maxRecDepth 100000

theorem zero9_ok : zero9.ok := ⟨by decide, by decide, by decide, by decide, by decide⟩
theorem zero12_ok : zero12.ok := ⟨by decide, by decide, by decide, zero9_ok⟩
theorem decP_ok {bs : List Int} (hb : ∀ z ∈ bs, 0 ≤ z ∧ z < 256) : (decP bs).1.ok := by
  by_cases h : (decP bs).2 = 0
  · exact (ptrB_decP hb h).1
  · unfold decP at h ⊢
    split
    · exact zero9_ok
    split
    · exact zero9_ok
    split
    · rename_i h1 h2 h3
      rw [if_neg h1, if_neg h2, if_pos h3] at h
      exact absurd rfl h
    · exact zero9_ok
theorem decU_ok {bs : List Int} (hb : ∀ z ∈ bs, 0 ≤ z ∧ z < 256) : (decU bs).1.ok := by
  by_cases h : (decU bs).2 = 0
  · exact (sealB_decU hb h).1
  · unfold decU at h ⊢
    split
    · exact zero12_ok
    split
    · exact zero12_ok
    rename_i h1 h2
    rw [if_neg h1, if_neg h2] at h
    unfold decBU at h ⊢
    split
    · exact zero12_ok
    split
    · exact zero12_ok
    split
    · rename_i h3 h4 h5
      rw [if_neg h3, if_neg h4, if_pos h5] at h
      exact absurd rfl h
    · exact zero12_ok
/-- Encoding and decoding again, in one shape for both answers. -/
theorem backP (p : P9) (hp : p.ok) : ((checkP p = 0 → (decP (if checkP p = 0 then ptrB p else [])).1 = p ∧ (decP (if checkP p = 0 then ptrB p else [])).2 = 0 ∧ (if checkP p = 0 then ptrB p else []).length = 64) ∧ (checkP p ≠ 0 → (if checkP p = 0 then ptrB p else []).length = 0)) := by
  refine ⟨fun h => ?_, fun h => by rw [if_neg h]; rfl⟩
  rw [if_pos h, decP_ptrB p hp h]
  exact ⟨rfl, rfl, ptrB_length p⟩
theorem backU (u : U12) (hu : u.ok) : ((checkU u = 0 → (decU (if checkU u = 0 then sealB (uberB u) else [])).1 = u ∧ (decU (if checkU u = 0 then sealB (uberB u) else [])).2 = 0 ∧ (if checkU u = 0 then sealB (uberB u) else []).length = 128) ∧ (checkU u ≠ 0 → (if checkU u = 0 then sealB (uberB u) else []).length = 0)) := by
  refine ⟨fun h => ?_, fun h => by rw [if_neg h]; rfl⟩
  rw [if_pos h, decU_sealB u hu h]
  exact ⟨rfl, rfl, by rw [sealB_length, uberB_length]⟩
theorem backL (l : LabV) (w : World) (hl : l.ok w) : ((checkL l = 0 → (decL (if checkL l = 0 then sealB (labB l) else [])).1.same l ∧ (decL (if checkL l = 0 then sealB (labB l) else [])).2 = 0 ∧ (if checkL l = 0 then sealB (labB l) else []).length = 128) ∧ (checkL l ≠ 0 → (decL (if checkL l = 0 then sealB (labB l) else [])).1 = zeroL ∧ (if checkL l = 0 then sealB (labB l) else []).length = 0)) := by
  refine ⟨fun h => ?_, fun h => by rw [if_neg h]; exact ⟨rfl, rfl⟩⟩
  rw [if_pos h]
  obtain ⟨h1, h2⟩ := decL_sealB l w hl h
  exact ⟨h2, h1, by rw [sealB_length, labB_length (checkL_ok hl h).n]⟩
theorem LabV.same.symm {a b : LabV} (h : a.same b) : b.same a := ⟨h.1.symm, h.2.1.symm, h.2.2.1.symm, h.2.2.2.1.symm, h.2.2.2.2.symm⟩
theorem LabV.same.trans {a b c : LabV} (h : a.same b) (k : b.same c) : a.same c := ⟨h.1.trans k.1, h.2.1.trans k.2.1, h.2.2.1.trans k.2.2.1, h.2.2.2.1.trans k.2.2.2.1, h.2.2.2.2.trans k.2.2.2.2⟩
end
section
open Go.RowKit
set_option maxRecDepth 100000

theorem lowW_val {a b c d : Int} (ha : 0 ≤ a ∧ a < 256) (hb : 0 ≤ b ∧ b < 256) (hc : 0 ≤ c ∧ c < 256) (hd : 0 ≤ d ∧ d < 256) : lowW a b c d = a + 256 * b + 65536 * c + 16777216 * d := by
  obtain ⟨a, rfl⟩ : ∃ n : Nat, a = n := ⟨a.toNat, by omega⟩
  obtain ⟨b, rfl⟩ : ∃ n : Nat, b = n := ⟨b.toNat, by omega⟩
  obtain ⟨c, rfl⟩ : ∃ n : Nat, c = n := ⟨c.toNat, by omega⟩
  obtain ⟨d, rfl⟩ : ∃ n : Nat, d = n := ⟨d.toNat, by omega⟩
  unfold lowW
  have e1 : (b : Int) * 256 = ((2 ^ 8 * b : Nat) : Int) := by omega
  have e2 : (c : Int) * 65536 = ((2 ^ 16 * c : Nat) : Int) := by omega
  have e3 : (d : Int) * 16777216 = ((2 ^ 24 * d : Nat) : Int) := by omega
  have f1 : a ||| 2 ^ 8 * b = 2 ^ 8 * b + a := by rw [Nat.or_comm, ← Nat.two_pow_add_eq_or_of_lt (by omega)]
  have f2 : (2 ^ 8 * b + a) ||| 2 ^ 16 * c = 2 ^ 16 * c + (2 ^ 8 * b + a) := by rw [Nat.or_comm, ← Nat.two_pow_add_eq_or_of_lt (by omega)]
  have f3 : (2 ^ 16 * c + (2 ^ 8 * b + a)) ||| 2 ^ 24 * d = 2 ^ 24 * d + (2 ^ 16 * c + (2 ^ 8 * b + a)) := by rw [Nat.or_comm, ← Nat.two_pow_add_eq_or_of_lt (by omega)]
  rw [e1, u32_or_nat _ _ (by omega) (by omega), f1, e2, u32_or_nat _ _ (by omega) (by omega), f2, e3, u32_or_nat _ _ (by omega) (by omega), f3]
  omega
/-- The words of bytes, and their sums. -/
def wv4 (zs : List Int) (k : Nat) : Int := lowW (zA zs (4 * k)) (zA zs (4 * k + 1)) (zA zs (4 * k + 2)) (zA zs (4 * k + 3))
def sA (zs : List Int) : Nat → Int
  | 0 => 0
  | m + 1 => sA zs m + wv4 zs m
def sB (zs : List Int) : Nat → Int
  | 0 => 0
  | m + 1 => sB zs m + sA zs (m + 1)
theorem u64w (n : Int) : IntKind.u64.wrap n = n % 18446744073709551616 := rfl
theorem flW_ab (zs : List Int) (m : Nat) : (flW Z4 zs m).a = sA zs m % 18446744073709551616 ∧ (flW Z4 zs m).b = sB zs m % 18446744073709551616 := by
  induction m with
  | zero => exact ⟨rfl, rfl⟩
  | succ m ih =>
    obtain ⟨h1, h2⟩ := ih
    have e1 : (flW Z4 zs (m + 1)).a = ((flW Z4 zs m).a + wv4 zs m) % 18446744073709551616 := rfl
    have e2 : (flW Z4 zs (m + 1)).b = ((flW Z4 zs m).b + (((flW Z4 zs m).a + wv4 zs m) % 18446744073709551616)) % 18446744073709551616 := rfl
    rw [e1, e2, h1, h2]
    simp only [sA, sB]
    omega
theorem fletch_all (zs : List Int) : fletch zs = flW Z4 zs ((zs.length + 3) / 4) := by
  unfold fletch
  split
  · rw [show (zs.length + 3) / 4 = zs.length / 4 by omega]
  · rw [show (zs.length + 3) / 4 = zs.length / 4 + 1 by omega, flW]
    congr 2
    unfold zA
    rw [List.getD_eq_getElem?_getD, List.getElem?_eq_none (by omega)]
    rfl
theorem zA_left {a b : List Int} {i : Nat} (h : i < a.length) : zA (a ++ b) i = zA a i := by
  unfold zA
  rw [List.getD_eq_getElem?_getD, List.getD_eq_getElem?_getD, List.getElem?_append_left h]
theorem zA_right (a b : List Int) (i : Nat) : zA (a ++ b) (a.length + i) = zA b i := by
  unfold zA
  rw [List.getD_eq_getElem?_getD, List.getD_eq_getElem?_getD, List.getElem?_append_right (by omega), Nat.add_sub_cancel_left]
theorem sA_left {a b : List Int} {q : Nat} (h : a.length = 4 * q) (m : Nat) (hm : m ≤ q) : sA (a ++ b) m = sA a m ∧ sB (a ++ b) m = sB a m := by
  induction m with
  | zero => exact ⟨rfl, rfl⟩
  | succ m ih =>
    obtain ⟨h1, h2⟩ := ih (by omega)
    have e : wv4 (a ++ b) m = wv4 a m := by
      unfold wv4
      rw [zA_left (by omega), zA_left (by omega), zA_left (by omega), zA_left (by omega)]
    simp only [sA, sB, h1, h2, e, and_self]
theorem sA_join {a b : List Int} {q : Nat} (h : a.length = 4 * q) (m : Nat) : sA (a ++ b) (q + m) = sA a q + sA b m ∧ sB (a ++ b) (q + m) = sB a q + (m : Int) * sA a q + sB b m := by
  induction m with
  | zero => have := sA_left (b := b) h q (Nat.le_refl _); simp [sA, sB, this]
  | succ m ih =>
    obtain ⟨h1, h2⟩ := ih
    have e : wv4 (a ++ b) (q + m) = wv4 b m := by
      unfold wv4
      rw [show 4 * (q + m) = a.length + 4 * m by omega, Nat.add_assoc, Nat.add_assoc, Nat.add_assoc, zA_right, zA_right, zA_right, zA_right]
    have e3 : sA (a ++ b) (q + (m + 1)) = sA a q + sA b (m + 1) := by
      rw [← Nat.add_assoc]
      simp only [sA, h1, e]
      omega
    refine ⟨e3, ?_⟩
    have e4 : sB (a ++ b) (q + (m + 1)) = sB (a ++ b) (q + m) + sA (a ++ b) (q + (m + 1)) := rfl
    rw [e4, e3, h2, show sB b (m + 1) = sB b m + sA b (m + 1) from rfl]
    have e5 : ((m + 1 : Nat) : Int) * sA a q = (m : Int) * sA a q + sA a q := by
      rw [show ((m + 1 : Nat) : Int) = (m : Int) + 1 by omega, Int.add_mul, Int.one_mul]
    rw [e5]
    omega
/-- The sum of two pieces is told by theirs. -/
theorem joins_ab {a b : List Int} {q : Nat} (h : a.length = 4 * q) : (fletch (a ++ b)).a = IntKind.u64.wrap ((fletch a).a + (fletch b).a) ∧ (fletch (a ++ b)).b = IntKind.u64.wrap (IntKind.u64.wrap ((fletch a).b + IntKind.u64.wrap ((((b.length + 3) / 4 : Nat) : Int) * (fletch a).a)) + (fletch b).b) := by
  rw [fletch_all (a ++ b), fletch_all a, fletch_all b]
  obtain ⟨m, hm⟩ : ∃ m, (b.length + 3) / 4 = m := ⟨_, rfl⟩
  rw [hm, show ((a ++ b).length + 3) / 4 = q + m by rw [List.length_append]; omega, show (a.length + 3) / 4 = q by omega]
  obtain ⟨x1, x2⟩ := flW_ab (a ++ b) (q + m)
  obtain ⟨y1, y2⟩ := flW_ab a q
  obtain ⟨z1, z2⟩ := flW_ab b m
  obtain ⟨j1, j2⟩ := sA_join (b := b) h m
  rw [x1, x2, y1, y2, z1, z2, j1, j2]
  simp only [u64w]
  have hmul : ((m : Int) * (sA a q % 18446744073709551616)) % 18446744073709551616 = ((m : Int) * sA a q) % 18446744073709551616 := by rw [Int.mul_emod, Int.emod_emod_of_dvd _ (Int.dvd_refl _), ← Int.mul_emod]
  rw [hmul]
  generalize (m : Int) * sA a q = P
  constructor <;> omega
/-- A byte turned alone turns the sum's first part. -/
theorem xor_ne {x m : Int} (hx : 0 ≤ x ∧ x < 256) (hm : 0 ≤ m ∧ m < 256) (h0 : m ≠ 0) : bits .xor .u8 x m ≠ x ∧ 0 ≤ bits .xor .u8 x m ∧ bits .xor .u8 x m < 256 := by
  obtain ⟨x, rfl⟩ : ∃ n : Nat, x = n := ⟨x.toNat, by omega⟩
  obtain ⟨m, rfl⟩ : ∃ n : Nat, m = n := ⟨m.toNat, by omega⟩
  rw [u8_xor_nat _ _ (by omega) (by omega)]
  have hlt : x ^^^ m < 2 ^ 8 := Nat.xor_lt_two_pow (by omega) (by omega)
  refine ⟨fun h => ?_, by omega, by omega⟩
  have h2 : x ^^^ m = x := by omega
  have h3 : x ^^^ (x ^^^ m) = m := by rw [← Nat.xor_assoc, Nat.xor_self, Nat.zero_xor]
  rw [h2, Nat.xor_self] at h3
  omega
theorem zA_set (zs : List Int) (i : Nat) (z : Int) (j : Nat) (hi : i < zs.length) : zA (zs.set i z) j = if j = i then z else zA zs j := by
  unfold zA
  rw [List.getD_eq_getElem?_getD, List.getD_eq_getElem?_getD, List.getElem?_set]
  by_cases h : i = j
  · subst h; simp [hi]
  · rw [if_neg h, if_neg (by omega)]
theorem turned_a {zs : List Int} (hb : ∀ z ∈ zs, 0 ≤ z ∧ z < 256) {i : Nat} (hi : i < zs.length) {z : Int} (hz : 0 ≤ z ∧ z < 256) (hne : z ≠ zA zs i) : (fletch (zs.set i z)).a ≠ (fletch zs).a := by
  have hzb := zA_bd hb
  have hsb : ∀ j, 0 ≤ zA (zs.set i z) j ∧ zA (zs.set i z) j < 256 := fun j => by rw [zA_set _ _ _ _ hi]; split; exact hz; exact hzb j
  have hw : ∀ k, k ≠ i / 4 → wv4 (zs.set i z) k = wv4 zs k := fun k hk => by
    unfold wv4
    rw [zA_set _ _ _ _ hi, zA_set _ _ _ _ hi, zA_set _ _ _ _ hi, zA_set _ _ _ _ hi, if_neg (by omega), if_neg (by omega), if_neg (by omega), if_neg (by omega)]
  have hwd : wv4 (zs.set i z) (i / 4) - wv4 zs (i / 4) ≠ 0 ∧ wv4 (zs.set i z) (i / 4) - wv4 zs (i / 4) < 4294967296 ∧ -4294967296 < wv4 (zs.set i z) (i / 4) - wv4 zs (i / 4) := by
    unfold wv4
    rw [lowW_val (hsb _) (hsb _) (hsb _) (hsb _), lowW_val (hzb _) (hzb _) (hzb _) (hzb _)]
    simp only [zA_set _ _ _ _ hi]
    have q0 := hzb (4 * (i / 4))
    have q1 := hzb (4 * (i / 4) + 1)
    have q2 := hzb (4 * (i / 4) + 2)
    have q3 := hzb (4 * (i / 4) + 3)
    have h4 : i % 4 = 0 ∨ i % 4 = 1 ∨ i % 4 = 2 ∨ i % 4 = 3 := by omega
    rcases h4 with h | h | h | h
    · have e : 4 * (i / 4) = i := by omega
      have ei := congrArg (zA zs) e
      rw [if_pos e, if_neg (by omega), if_neg (by omega), if_neg (by omega)]
      omega
    · have e : 4 * (i / 4) + 1 = i := by omega
      have ei := congrArg (zA zs) e
      rw [if_neg (by omega), if_pos e, if_neg (by omega), if_neg (by omega)]
      omega
    · have e : 4 * (i / 4) + 2 = i := by omega
      have ei := congrArg (zA zs) e
      rw [if_neg (by omega), if_neg (by omega), if_pos e, if_neg (by omega)]
      omega
    · have e : 4 * (i / 4) + 3 = i := by omega
      have ei := congrArg (zA zs) e
      rw [if_neg (by omega), if_neg (by omega), if_neg (by omega), if_pos e]
      omega
  have hs : ∀ m, sA (zs.set i z) m = sA zs m + if i / 4 < m then wv4 (zs.set i z) (i / 4) - wv4 zs (i / 4) else 0 := fun m => by
    induction m with
    | zero => simp [sA]
    | succ m ih =>
      simp only [sA, ih]
      by_cases h1 : i / 4 < m
      · rw [if_pos h1, if_pos (by omega), hw m (by omega)]; omega
      · by_cases h2 : m = i / 4
        · subst h2; rw [if_neg (by omega), if_pos (by omega)]; omega
        · rw [if_neg h1, if_neg (by omega), hw m h2]; omega
  rw [fletch_all, fletch_all, List.length_set]
  intro h
  rw [(flW_ab _ _).1, (flW_ab _ _).1, hs, if_pos (by omega)] at h
  omega
end
section
open Go.RowKit
set_option maxRecDepth 100000

/-- The word behind so many rounds of the inner loop. -/
def wdD (zs : List Int) (i : Nat) : Nat → Int
  | 0 => 0
  | t + 1 => 256 * wdD zs i t + zA zs (i + (3 - t))
theorem wdD_bd {zs : List Int} (hb : ∀ i, 0 ≤ zA zs i ∧ zA zs i < 256) (i t : Nat) : 0 ≤ wdD zs i t ∧ wdD zs i t < 256 ^ t := by
  induction t with
  | zero => simp [wdD]
  | succ t ih =>
    have h := hb (i + (3 - t))
    rw [wdD, Int.pow_succ]
    omega
theorem wdD_four {zs : List Int} (hb : ∀ i, 0 ≤ zA zs i ∧ zA zs i < 256) (i : Nat) : wdD zs i 4 = lowW (zA zs i) (zA zs (i + 1)) (zA zs (i + 2)) (zA zs (i + 3)) := by
  rw [lowW_val (hb _) (hb _) (hb _) (hb _)]
  simp only [wdD, Nat.sub_zero, Nat.sub_self, Nat.add_zero, show 3 - 1 = 2 from rfl, show 3 - 2 = 1 from rfl]
  omega
theorem zA_out {zs : List Int} {i : Nat} (h : zs.length ≤ i) : zA zs i = 0 := by
  unfold zA
  rw [List.getD_eq_getElem?_getD, List.getElem?_eq_none h]
  rfl
theorem fl_up (zs : List Int) : flW Z4 zs ((zs.length + 3) / 4) = fletch zs := by
  unfold fletch
  by_cases h : zs.length % 4 = 0
  · rw [if_pos h, show (zs.length + 3) / 4 = zs.length / 4 by omega]
  · rw [if_neg h, show (zs.length + 3) / 4 = zs.length / 4 + 1 by omega, flW, zA_out (i := 4 * (zs.length / 4) + 3) (by omega)]
/-- The blocks inside the document's Fletcher: the result, the sum. -/
structure StF (w0 w : World) (s : S4) : Prop where
  h0 : w.heap[w0.heap.size]? = some (.cells #[.int .u64 0, .int .u64 0, .int .u64 0, .int .u64 0] 38 (0, 0))
  h1 : w.heap[w0.heap.size + 1]? = some (.cells s.arr 38 (0, 0))
  fr : Frm [] w0 w
end
section
section
open Go.RowKit
set_option maxRecDepth 100000

section
variable {P : Program} {w : World}
/-- append of bytes to a full row that is only read: a new block of one's own. -/
theorem run_appC (t ty E : TypeId) (ht : P.underlying t = some (.slice E)) (hI : (P.info? E).map (fun i => (i.zero, i.size, i.bytes)) = some (some (.int .u8 0), 1, 1))
    (g o : Nat) (zs : List Int) (hz : Rd w (some ⟨g, o, none⟩) zs) (p : Option Addr) (c : Nat) (ns : List Int) (hne : ns ≠ []) (hrd : Rd w p ns) (hsz : zs.length + ns.length ≤ 1000000) :
    ∃ v' w', (Builtin.append_ #[t, t] ty #[.slice (some ⟨g, o, none⟩) zs.length zs.length, .slice p ns.length c]).run P w = .ok v' w' ∧ Own w' E v' (zs ++ ns) ∧ Frm [] w w' ∧ (∀ k ∈ v'.ownBlock.toList, w.heap.size ≤ k) := by
  obtain ⟨i, hi, hz0, h1, h2⟩ := info_parts hI
  obtain ⟨ad, rfl, hnews⟩ := bytes_at hrd hne
  have holds : ∀ j u, (bv zs)[j]? = some u → w.cell? ((⟨g, o, none⟩ : Addr).add j) = some u := by
    by_cases hzn : zs = []
    · subst hzn
      intro j u hu
      simp [bv] at hu
    · obtain ⟨ad', he, h⟩ := bytes_at hz hzn
      obtain rfl := Option.some.inj he
      exact h
  have hpos : 0 < ns.length := List.length_pos_iff.2 hne
  have hr := run_append_grow (P := P) w t ty E i (.int .u8 0) ht hi hz0 ⟨g, o, none⟩ zs.length zs.length (bv zs) (by simp [bv, h1]) holds ad ns.length c (bv ns) (by simp [bv, h1]) hnews (by omega) (by omega) (growslice_fits (by omega) (by rw [h2]; omega))
  have hge := grownCap_ge w (zs.length + ns.length) zs.length E
  have hcm := grownCap_le_maxLen w (zs.length + ns.length) zs.length E (by unfold maxLen; omega)
  have he : (zs ++ ns).length = zs.length + ns.length := List.length_append
  refine ⟨_, _, hr, ?_, (Frm.refl [] w).drew.alloc _, ?_⟩
  · unfold Own
    rw [he, bv_append]
    refine ⟨by simp [bv], .inr ⟨w.heap.size, _, _, rfl, Nat.zero_le _, heap_alloc_new w.drew _, hge, hcm, ?_, ?_⟩⟩
    · simp only [Array.size_append, List.size_toArray, size_zeroCells, bv_length]
      rw [show (Value.int IntKind.u8 0).cells.size = 1 from rfl]
      omega
    · simp only [Array.toList_append, List.append_assoc]
      rw [← List.append_assoc]
      have hl : (bv zs ++ bv ns).length = (zs.length + ns.length) * 1 := by simp [bv]
      rw [← hl]
      exact List.take_left
  · intro k hk
    simp [Value.ownBlock] at hk
    omega
theorem wpList_appC {ops : Array Oper} {rest : List Oper} {o : Oper} {a : Act} {Q : Exit → Act → World → Prop} (hgd : o.guard = none) (s x : Operand) (t : TypeId)
    (ho : o.op = .call { callee := .builtin .append, args := #[s, x], argTypes := #[t, t] })
    (E : TypeId) (ht : P.underlying t = some (.slice E)) (hI : (P.info? E).map (fun i => (i.zero, i.size, i.bytes)) = some (some (.int .u8 0), 1, 1))
    (g0 f0 n0 : Nat) (zs : List Int) (hs : a.eval s = .slice (some ⟨g0, f0, none⟩) n0 n0) (hn0 : n0 = zs.length) (hz : Rd w (some ⟨g0, f0, none⟩) zs)
    (p : Option Addr) (n c : Nat) (ns : List Int) (hx : a.eval x = .slice p n c) (hn : n = ns.length) (hne : ns ≠ []) (hrd : Rd w p ns) (hsz : zs.length + ns.length ≤ 1000000)
    (h : ∀ xs p2 c2 w', Hid (xs = zs ++ ns) → Hid (Own w' E (.slice p2 xs.length c2) xs) → Hid (Frm [] w w') → Hid (∀ k ∈ blk p2, w.heap.size ≤ k) → wpList P ops Q rest (a.put o.dst (.slice p2 xs.length c2)) w') :
    wpList P ops Q (o :: rest) a w := by
  refine wpList_plain hgd fun K hK => ?_
  subst hn
  subst hn0
  obtain ⟨v', w', hrun, h1, h2, h3⟩ := run_appC (P := P) (w := w) t o.type E ht hI g0 f0 zs hz p c ns hne hrd hsz
  obtain ⟨xs, hxs⟩ : ∃ xs, xs = zs ++ ns := ⟨_, rfl⟩
  rw [← hxs] at h1
  obtain ⟨p2, c2, rfl, _, _, _, hb⟩ := h1.shape
  rw [hb] at h3
  unfold Oper.wp
  simp [execOp, ho, resolve, invoke, builtin, hs, hx, hrun, Result.andThen]
  exact hK _ _ (h xs p2 c2 w' hxs h1 h2 h3)
end
set_option maxHeartbeats 1600000 in
/-- A number behind a full row that is only read. -/
theorem refNumC_any (g n : Nat) (zs : List Int) (v : Int) (k : Nat) (w : World) (hz : Rd w (some ⟨g, 0, none⟩) zs) (hl : zs.length = n) (hv : 0 ≤ v ∧ v < 18446744073709551616) (hk : k ≤ 8) (hk1 : 1 ≤ k) (hn : n ≤ 100000) :
    Calls Try.prog 49 #[.slice (some ⟨g, 0, none⟩) n n, .int .u64 v, .int .i64 (k : Int)] w fun e w' => ∃ p' c', e = .returned (.slice p' (n + k) c') ∧ Own w' 5 (.slice p' (n + k) c') (zs ++ le v k) ∧ Frm [] w w' ∧ ∀ i ∈ blk p', w.heap.size ≤ i := by
  have HZ := hid hz
  have HF := hid (form_any v k hv.1 hv.2 hk w)
  clear hz
  go_enter Try.func49, Try.ntmps49
  go_wp2_with fail
  refine HF.out.mono ?_
  rintro e w1 ⟨q, d, ok, rfl, ho1, _, hf1, hb1⟩
  have HZ1 := hid (HZ.out.kept hf1 (by simp))
  have HQ := hid ho1
  have HF1 := hid hf1
  have hne : le v k ≠ [] := fun h => by have := le_length v k; rw [h] at this; simp at this; omega
  clear ho1 hf1 hb1 HF
  go_wp2_with (at_builtin; refine wpList_appC rfl _ _ 22 rfl 5 Try.underlying22 infoB g 0 n zs rfl hl.symm HZ1.out q k d (le v k) rfl (le_length v k).symm hne HQ.out.rd (by rw [hl, le_length]; omega) ?_)
  intro xs p2 c2 w2 hxs ho hf hfr
  have hx := hxs.out
  have hxl : xs.length = n + k := by rw [hx, List.length_append, hl, le_length]
  have HB : Hid (Own w2 5 (.slice p2 (n + k) c2) (zs ++ le v k)) := hid (by
    have h1 := ho.out
    rwa [hxl, hx] at h1)
  have HF2 := hid (HF1.out.trans hf.out (by simp))
  have HNW : Hid (∀ i ∈ blk p2, w.heap.size ≤ i) := hid (fun i hi => Nat.le_trans HF1.out.size (hfr.out i hi))
  rw [hxl]
  clear hxs ho hf hfr hx hxl hne
  go_wp2_with fail
  go_returns
  exact ⟨p2, c2, rfl, HB.out, HF2.out, HNW.out⟩
end
section
open Go.RowKit
set_option maxRecDepth 100000

theorem uberB_parts (u : U12) : ([85, 67, 85, 66] ++ le u.pool 8 ++ le u.txg 8 ++ le u.note 8 ++ ptrB u.root) ++ List.replicate 4 0 = uberB u := by
  have h : (List.replicate 16 (0 : Int)) ++ List.replicate 4 0 = List.replicate 20 0 := rfl
  unfold uberB bodyU ptrB
  simp only [List.append_assoc, h]
end
end
end Go.Proofs.Ytkolbijhekbelaa
