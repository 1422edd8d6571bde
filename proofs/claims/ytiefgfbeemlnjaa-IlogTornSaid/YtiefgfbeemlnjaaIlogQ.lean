/- Contracts of the document's log: Scan. -/
import Derived.Test.YtiefgfbeemlnjaaIlogO
namespace Go.Proofs.Ytiefgfbeemlnjaa
open Go.RowKit
set_option maxRecDepth 100000

theorem le_byte (n : Nat) (k : Nat) : ∀ z ∈ le (n : Int) k, 0 ≤ z ∧ z < 256 := by
  intro z hz
  simp only [le, List.mem_map, List.mem_range] at hz
  obtain ⟨i, _, rfl⟩ := hz
  exact ⟨Int.emod_nonneg _ (by decide), Int.emod_lt_of_pos _ (by decide)⟩
theorem getD_byte {zs : List Int} (h : ∀ z ∈ zs, 0 ≤ z ∧ z < 256) (i : Nat) : 0 ≤ zs.getD i 0 ∧ zs.getD i 0 < 256 := by
  by_cases hi : i < zs.length
  · exact h _ (getD_mem hi)
  · rw [List.getD_eq_getElem?_getD, List.getElem?_eq_none (by omega)]
    exact ⟨by decide, by decide⟩
theorem pieceB_byte (base next i all : Nat) {zs : List Int} (h : ∀ z ∈ zs, 0 ≤ z ∧ z < 256) : ∀ z ∈ pieceB base next i all zs, 0 ≤ z ∧ z < 256 := by
  intro z hz
  rw [pieceB_flat] at hz
  simp only [headB, List.mem_append, bodyJ, List.mem_map, List.mem_range] at hz
  rcases hz with ((((h1 | h1) | h1) | h1) | h1) | ⟨j, _, rfl⟩
  · exact le_byte _ _ z h1
  · exact le_byte _ _ z h1
  · exact le_byte _ _ z h1
  · exact le_byte _ _ z h1
  · exact le_byte _ _ z h1
  · exact getD_byte h _
theorem recT_byte (base next all t : Nat) {zs : List Int} (h : ∀ z ∈ zs, 0 ≤ z ∧ z < 256) : ∀ z ∈ recT base next all zs t, 0 ≤ z ∧ z < 256 := by
  intro z hz
  simp only [recT, List.mem_flatMap, List.mem_range] at hz
  obtain ⟨i, _, hz⟩ := hz
  exact pieceB_byte base next i all h z hz
theorem tellB_byte {zs : List Int} (h : ∀ z ∈ zs, 0 ≤ z ∧ z < 256) (n : Nat) : ∀ z ∈ tellB zs n, 0 ≤ z ∧ z < 256 := by
  intro z hz
  simp only [tellB, List.mem_map, List.mem_range] at hz
  obtain ⟨i, _, rfl⟩ := hz
  exact getD_byte h _
theorem slice_two {P : Program} {t e : TypeId} (ht : P.underlying t = some (.slice e)) (hI : (P.info? e).map (fun i => (i.zero, i.size, i.bytes)) = some (some (.int .u8 0), 1, 1)) (g o n c lo hi : Nat) (hlo : lo < hi) (hc : hi ≤ c) (W : World) :
    (Instr.slice t (.slice (some ⟨g, o, none⟩) n c) (some (.int .i64 (lo : Int))) (some (.int .i64 (hi : Int))) none).run P W = .ok (.slice (some ⟨g, o + lo, none⟩) (hi - lo) (c - lo)) W := by
  obtain ⟨i, hi', hz, h1, h2⟩ := info_parts hI
  have he : P.elem t = e := by simp [Program.elem, ht]
  rw [run_slice_lh W t _ _ _ (elem_of ht) .i64 .i64 _ _ (by omega) (by omega) (by omega), he]
  have hs : (sizeOf e).run P W = .ok 1 W := by simp [sizeOf, typeInfo, hi', h1, Result.andThen]
  rw [hs]
  have hne : ¬ c = lo := by omega
  by_cases h0 : lo = 0
  · subst h0; simp [Result.andThen, sliced, Addr.add]
  · simp [Result.andThen, sliced, Addr.add, hne, h0]
set_option maxHeartbeats 400000 in
theorem refScan_bad (base : Int) (h : base < 0 ∨ 281474976710656 < base) (p : Option Addr) (n c : Nat) (w : World) :
    Calls Try.prog 17 #[.int .i64 base, .slice p n c] w fun e w' => e = .returned (.tuple #[.pointer none, .slice none 0 0, .int .i64 1]) ∧ w = w' := by
  go_enter Try.func17, Try.ntmps17
  go_wp2_with fail
  refine (refNew_bad base h _).mono ?_
  rintro e w1 ⟨rfl, rfl⟩
  go_wp2_with fail
  go_returns
  exact ⟨rfl, rfl⟩
set_option maxHeartbeats 400000 in
theorem refScan_len (base : Nat) (h : base ≤ 281474976710656) (p : Option Addr) (n c : Nat) (hn : n ≠ 22528) (w : World) :
    Calls Try.prog 17 #[.int .i64 base, .slice p n c] w fun e w' => e = .returned (.tuple #[.pointer none, .slice none 0 0, .int .i64 160]) ∧ Frm [] w w' := by
  have hq : ((n : Int) != 22528) = true := by simp; omega
  have hq2 : ((n : Int) == 22528) = false := by simp; omega
  clear hn
  go_enter Try.func17, Try.ntmps17
  go_wp2_with fail
  refine (refNew_ok base (by omega) (by omega) _).mono ?_
  rintro e w1 ⟨b, rfl, hL, hf, hb⟩
  go_wp2_with fail
  go_returns
  exact ⟨rfl, hf⟩
set_option maxHeartbeats 1600000 in
theorem refScan_ok (base : Nat) (hb1 : base ≤ 281474976710656) (p : Option Addr) (zs : List Int) (c : Nat) (hn : zs.length = 22528) (hc : 22528 ≤ c) (hz : ∀ z ∈ zs, 0 ≤ z ∧ z < 256) (w : World) (hrd : Rd w p zs) :
    Calls Try.prog 17 #[.int .i64 base, .slice p 22528 c] w (PostS IsRef base zs w) := by
  obtain ⟨g, o, rfl⟩ : ∃ g o, p = some ⟨g, o, none⟩ := by
    rcases hrd with h | ⟨g, o, h, _⟩
    · rw [h] at hn; simp at hn
    · exact ⟨g, o, h⟩
  have HN := hid hn
  have HZ := hid hz
  have HRD := hid hrd
  clear hn hz hrd
  go_enter Try.func17, Try.ntmps17
  go_wp2_with fail
  refine (refNew_ok base (by omega) (by omega) _).mono ?_
  rintro e w1 ⟨b, rfl, hL, hf, hb⟩
  have HL1 : Hid (IsRef w1 b base (((recsB base 1 []).length : Nat) : Int) ((1 + ([] : List (List Int)).length : Nat) : Int)) := hid hL
  have HF1 := hid hf
  have HB : Hid (b < w1.heap.size ∧ w.heap.size ≤ b) := hid ⟨hL.cells.1, hb⟩
  clear hL hf hb
  go_wp2_with fail
  go_loopw [9] (fun v wr => ∃ (q : Option Addr) (n d : Nat) (vs : List Value) (bs : List (List Int)), v = .slice q n d ∧ Hid (LOwn (b + 1) 0 wr q n d vs bs) ∧ Hid (recsB base 1 bs <+: zs) ∧ Hid (∀ x ∈ bs, x.length ≤ 4096) ∧ Hid (IsRef wr b base (((recsB base 1 bs).length : Nat) : Int) ((1 + bs.length : Nat) : Int)) ∧ Hid (Frm [] w wr) ∧ b < wr.heap.size) (fun v _ => 257 - lenOf v)
  case atStart => exact ⟨none, 0, 0, [], [], rfl, hid (LOwn.nil _ _), hid (List.nil_prefix), hid (by simp), HL1, HF1, HB.out.1⟩
  case round =>
    clear HL1 HF1
    obtain ⟨q, n, d, vs, bs, rfl, hl, hpre, hsm, hL, hf, hbw⟩ := hrel
    obtain ⟨A, hA⟩ : ∃ A, (recsB base 1 bs).length = A := ⟨_, rfl⟩
    have HA := hid hA
    have hat := recsB_at hpre.out
    rw [HN.out, hA, hl.out.lenB] at hat
    obtain ⟨hat1, hat2⟩ := hat
    rw [hA] at hL
    have HBL := hid (hl.out.lenB)
    clear hA
    go_wp2_with fail
    refine (told_any b base A (1 + bs.length) _ zs c HN.out hat2 HZ.out _ hL.out (HRD.out.kept hf.out (by simp))).mono ?_
    rintro e w2 ⟨hf2, ⟨rfl, hno⟩ | ⟨N, p2, c2, hN4, hfit0, hN16, rfl, ho2, hk2⟩⟩
    · have HF2 := hid (hf.out.trans hf2 (by simp))
      have HP : Hid (PostS IsRef base zs w (.returned (.tuple #[.pointer (some ⟨b, 0, none⟩), .slice q n d, .int .i64 0])) w2) := hid
        ⟨b, q, n, d, vs, bs, rfl, ⟨hpre.out, hsm.out, by rw [HA.out]; exact hno⟩, hl.out.kept hf2 (by simp), by rw [HA.out]; exact hL.out.kept hf2 (by simp), HF2.out, HB.out.2⟩
      clear hf2 hno
      go_wp2_with fail
      go_returns
      exact HP.out
    · obtain ⟨body, hbody⟩ : ∃ body, tellB (zs.drop A) N = body := ⟨_, rfl⟩
      have HBODY := hid hbody
      rw [hbody] at ho2
      have hbl : body.length = N := by rw [← hbody, tellB_length]
      have hbb : ∀ z ∈ body, 0 ≤ z ∧ z < 256 := by rw [← hbody]; exact tellB_byte (fun z hz => HZ.out z (List.mem_of_mem_drop hz)) N
      have HBL2 := hid hbl
      have HBB := hid hbb
      have hpa := pcs_le N hN4
      have hpa1 := pcs_pos N
      obtain ⟨m, hm⟩ : ∃ m, pcs N = m := ⟨_, rfl⟩
      rw [hm] at hpa hpa1 hfit0
      have HM := hid hm
      have HL2 := hid (hL.out.kept hf2 (by simp))
      have HLX := hid (hl.out.kept hf2 (by simp))
      have HF2 := hid (hf.out.trans hf2 (by simp))
      have HO2 := hid ho2
      have HK2 := hid hk2
      have HW2 := hid hf2.size
      have H16 := hid hN16
      have hnb : 1 + bs.length < 9223372036854775808 := by have := HBL.out; omega
      have HNB := hid hnb
      clear hbody hbl hbb hm hf2 ho2 hk2 hN16 hnb
      go_wp2_with fail
      refine (refRecord_any b base (1 + bs.length) A p2 body N c2 HBL2.out (by omega) HNB.out (by omega) _ HL2.out HO2.out.rd).mono ?_
      rintro e w3 ⟨p3, n3, c3, rfl, hn3, ho3, hf3, hk3⟩
      have hn3' : n3 = m * 88 := by rw [hn3, HM.out]
      subst hn3'
      have HLZ := hid (HLX.out.kept hf3 (by simp))
      have HL3 := hid (HL2.out.kept hf3 (by simp))
      have HF3 := hid (HF2.out.trans hf3 (by simp))
      have HO3 := hid ho3
      have HOB : Hid (OwnAt w3 (.slice p2 N c2) body) := hid ⟨p2, c2, by rw [HBL2.out], HO2.out.kept hf3 (by simp)⟩
      have HW3 := hid hf3.size
      obtain ⟨RB, hRB⟩ : ∃ RB, recB base (1 + bs.length) body = RB := ⟨_, rfl⟩
      have HRB := hid hRB
      rw [hRB] at HO3
      have hrl : RB.length = m * 88 := by rw [← hRB, recB_length, HBL2.out, HM.out]
      have hrb : ∀ z ∈ RB, 0 ≤ z ∧ z < 256 := by rw [← hRB]; exact recT_byte _ _ _ _ HBB.out
      have HRL := hid hrl
      obtain ⟨lb, e0, e1, e2, f1, f2⟩ := HL3.out.cells
      obtain ⟨TS, hTS⟩ : ∃ TS, (zs.drop A).take (m * 88) = TS := ⟨_, rfl⟩
      have hcv1 := fun k => cv_any (P := Try.prog) (w := w3.drewN k) 22 5 9 Try.underlying22 Try.underlying5 Try.underlying9 (n := m * 88) (((HRD.out.kept HF3.out (by simp)).drop A).take (m * 88) |>.drewN k) (c - A) (by rw [List.length_take, List.length_drop, HN.out]; omega)
      have hcv2 := fun k => cv_any (P := Try.prog) (w := w3.drewN k) 22 5 9 Try.underlying22 Try.underlying5 Try.underlying9 (HO3.out.rd.drewN k) c3 hrl
      rw [hTS] at hcv1
      have hsl : ∀ W : World, (Instr.slice 22 (.slice (some ⟨g, o, none⟩) 22528 c) (some (.int .i64 (A : Int))) (some (.int .i64 ((A : Int) + (m : Int) * 88))) none).run Try.prog W = .ok (.slice (some ⟨g, o + A, none⟩) (m * 88) (c - A)) W := fun W => by
        have h := slice_two (P := Try.prog) Try.underlying22 infoB g o 22528 c A (A + m * 88) (by omega) (by omega) W
        rwa [show ((A + m * 88 : Nat) : Int) = (A : Int) + (m : Int) * 88 by omega, show A + m * 88 - A = m * 88 by omega] at h
      have hsl2 : ∀ W : World, (Instr.sliceAt 22 (.slice (some ⟨g, o, none⟩) 22528 c) (some (.int .i64 (A : Int))) (some (.int .i64 ((A : Int) + (m : Int) * 88))) none).run Try.prog W = .ok (.slice (some ⟨g, o + A, none⟩) (m * 88) (c - A)) W := fun W => by
        rw [run_sliceAt_slice (h := elem_of Try.underlying22)]
        exact hsl W
      have hw1 : IntKind.i64.wrap ((A : Int) + (m : Int) * 88) = (A : Int) + (m : Int) * 88 := IntWalk.i64_in _ (by omega)
      have HTS := hid hTS
      have htsb : ∀ z ∈ TS, 0 ≤ z ∧ z < 256 := by rw [← hTS]; exact fun z hz => HZ.out z (List.mem_of_mem_drop (List.mem_of_mem_take hz))
      have HHB := hid hrb
      have HTB := hid htsb
      clear hTS hRB hrl hrb htsb hn3
      by_cases hts : TS = RB
      · have HEQ := hid hts
        rw [hts] at hcv1
        clear hts
        generalize strOfNums RB = S at hcv1 hcv2
        go_wp2_with fail
        go_quiet (fail)
        clear hcv1 hcv2 hsl hsl2
        have hf4 : Frm [] w3 (w3.drewN nq) := (Frm.refl [] w3).drewN nq
        have HLX4 := hid (HLZ.out.kept hf4 (by simp))
        have HL4 := hid (HL3.out.kept hf4 (by simp))
        have HF4 := hid (HF3.out.trans hf4 (by simp))
        have HOA4 := hid (HOB.out.kept hf4 (by simp))
        have HW4 := hid hf4.size
        obtain ⟨w4, hw4⟩ : ∃ w4, w3.drewN nq = w4 := ⟨_, rfl⟩
        rw [hw4] at HLX4 HL4 HF4 HOA4 HW4 ⊢
        clear hw4 hf4 e0 e1 e2 f1 f2 HL3 HLZ HF3 HOB HO3
        have HPS := hid (pre_snoc (b := body) hpre.out (by
          rw [HA.out]
          have h1 := List.take_prefix (m * 88) (zs.drop A)
          rw [HTS.out, HEQ.out, ← HRB.out] at h1
          exact h1))
        have hlen : (recsB base 1 (bs ++ [body])).length = A + m * 88 := by
          rw [recsB_snoc, List.length_append, recB_length, HA.out, HBL2.out, HM.out]
        have HLEN := hid hlen
        have hn1 : n + 1 ≤ 256 := by omega
        have hfa : Frm [] w4 (w4.alloc (.cells #[.slice p2 N c2] 22)) := (Frm.refl _ _).alloc _
        have HLY := hid (HLX4.out.kept hfa (by simp))
        have HOB := hid (HOA4.out.kept hfa (by simp))
        have HLA := hid (HL4.out.kept hfa (by simp))
        have HFA := hid (HF4.out.trans hfa (by simp))
        have HRV : Hid (Rv (w4.alloc (.cells #[.slice p2 N c2] 22)) (some ⟨w4.heap.size, 0, none⟩) [.slice p2 N c2]) := hid (rv_block (cs := #[.slice p2 N c2]) (heap_alloc_new _ _))
        have HVN : Hid (∀ k ∈ (Value.slice p2 N c2).ownBlock.toList, b + 1 ≤ k ∧ k ∉ blk q ∧ ∀ u ∈ vs, k ∉ u.ownBlock.toList) := hid (fun k hk => by
          rw [own_blk] at hk
          have h1 := HK2.out k hk
          refine ⟨by omega, fun h2 => ?_, fun u hu h2 => ?_⟩
          · have := ownsRow_low hl.out.own k h2; omega
          · obtain ⟨i, hi, rfl⟩ := List.getElem_of_mem hu
            have hlow := (hl.out.each i (Nat.zero_le _) (by rw [← hl.out.lenV]; exact hi)).lows k (by rw [List.getD_eq_getElem?_getD, List.getElem?_eq_getElem hi]; exact h2)
            omega)
        have HBS : Hid (b + 1 ≤ (w4.alloc (.cells #[.slice p2 N c2] 22)).heap.size) := hid (by have := hfa.size; have := HW4.out; have := HW3.out; have := HW2.out; omega)
        clear hlen hfa
        go_wp2_with (at_builtin; refine wpList_appV rfl _ _ 25 rfl 22 1 24 (.slice none 0 0) Try.underlying25 infoR rfl (by decide) q n d vs rfl HLY.out.own (some ⟨w4.heap.size, 0, none⟩) 1 1 [.slice p2 N c2] rfl rfl (by simp) HRV.out (by simp [Value.oneCell']) (by unfold maxLen; omega) (by omega) ?_)
        intro p3 d3 w5 ho3 hf3 hfr3
        have HLZ := hid (HLY.out.snoc HBS.out HOB.out HVN.out ho3.out hf3.out (fun k hk => by have := hfr3.out k hk; simpa using this))
        have hbq : b ∉ blk q := fun h => by have := hl.out.newp b h; omega
        have HL5 := hid (HLA.out.kept hf3.out hbq)
        have HF5 : Hid (Frm [] w w5) := hid (HFA.out.trans hf3.out (fun i hi hlt => by have := hl.out.newp i hi; have := HB.out.2; omega))
        obtain ⟨lb3, e0, e1, e2, f1, f2⟩ := HL5.out.cells
        clear ho3 hf3 hfr3
        have hbn : bs.length ≤ 256 := by have := HBL.out; omega
        have HFS : Hid (∀ x y : Value, Frm [b] w5 ((w5.setCell ⟨b, 1, none⟩ x).setCell ⟨b, 2, none⟩ y)) := hid (fun x y => ((Frm.refl _ _).setCell _ _ (by simp)).setCell _ _ (by simp))
        go_wp2_with fail
        go_roundw
        case rel =>
          refine ⟨p3, n + 1, d3, vs ++ [.slice p2 N c2], bs ++ [body], rfl, hid (HLZ.out.kept (HFS.out _ _) (fun k hk _ => by simp at hk; omega)), HPS, hid (fun x hx => ?_), hid ?_, hid (HF5.out.trans (HFS.out _ _) (fun i hi hlt => by have := HB.out.2; simp at hi; omega)), Nat.lt_of_lt_of_le lb3 (HFS.out _ _).size⟩
          · rcases List.mem_append.1 hx with h | h
            · exact hsm.out x h
            · simp only [List.mem_singleton] at h
              rw [h, HBL2.out]; exact hN4
          · show _ = _
            rw [heap_setCell_same _ b 2 _ _ _ (heap_setCell_same _ b 1 _ _ _ HL5.out), HLEN.out]
            have e1 : ((1 + (bs ++ [body]).length : Nat) : Int) = 1 + (bs.length : Int) + 1 := by rw [List.length_append, List.length_singleton]; omega
            rw [e1, show ((A + m * 88 : Nat) : Int) = (A : Int) + (m : Int) * 88 by omega]
            rfl
        case measure => simp [lenOf]; omega
      · have hne : ¬ strOfNums TS = strOfNums RB := fun h => hts (str_inj HTB.out HHB.out h)
        have hno : NoRec base (1 + bs.length) (zs.drop A) := noRec_tell H16.out (by omega) (by rw [HM.out, List.length_drop, HN.out]; omega) (by rw [HM.out, HTS.out, HBODY.out, HRB.out]; exact hts)
        have HP : Hid (∀ k, PostS IsRef base zs w (.returned (.tuple #[.pointer (some ⟨b, 0, none⟩), .slice q n d, .int .i64 0])) (w3.drewN k)) := hid (fun k =>
          ⟨b, q, n, d, vs, bs, rfl, ⟨hpre.out, hsm.out, by rw [HA.out]; exact hno⟩, HLZ.out.kept ((Frm.refl [] w3).drewN k) (by simp), by rw [HA.out]; exact HL3.out, HF3.out.drewN k, HB.out.2⟩)
        have hne2 : ((strOfNums TS).toList == (strOfNums RB).toList) = false := beq_eq_false_iff_ne.2 (fun h => hne (by
          rw [ByteArray.toList_eq, ByteArray.toList_eq] at h
          exact ByteArray.ext (Array.toList_inj.1 h)))
        clear hts hno
        generalize strOfNums RB = S at hcv2 hne hne2
        generalize strOfNums TS = S2 at hcv1 hne hne2
        go_wp2_with fail
        go_quiet (fail)
        clear hcv1 hcv2 hsl hsl2
        go_wp2_with fail
        go_returns
        exact HP.out _
end Go.Proofs.Ytiefgfbeemlnjaa
