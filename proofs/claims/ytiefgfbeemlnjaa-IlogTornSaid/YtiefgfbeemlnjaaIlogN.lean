/- Contracts of package ilog: Scan. -/
import Derived.Test.YtiefgfbeemlnjaaIlogL
import Derived.StillTailTactics
namespace Go.Proofs.Ytiefgfbeemlnjaa
open Go.RowKit
set_option maxRecDepth 100000

def lenOf (v : Value) : Nat := match v with | .slice _ n _ => n | _ => 0
theorem lenOf_slice (p : Option Addr) (n c : Nat) : lenOf (.slice p n c) = n := rfl
theorem recsB_at {base : Nat} {bs : List (List Int)} {zs : List Int} (h : recsB base 1 bs <+: zs) : bs.length * 88 ≤ (recsB base 1 bs).length ∧ (recsB base 1 bs).length ≤ zs.length := ⟨recsB_length_ge _ _ _, h.length_le⟩
/-- What Scan answers of a region. -/
def PostS (I : World → Nat → Int → Int → Int → Prop) (base : Nat) (zs : List Int) (w : World) (e : Ending) (w' : World) : Prop :=
  ∃ (b : Nat) (q : Option Addr) (n c : Nat) (vs : List Value) (bs : List (List Int)), e = .returned (.tuple #[.pointer (some ⟨b, 0, none⟩), .slice q n c, .int .i64 0]) ∧ Told base 1 zs bs ∧ LOwn (b + 1) 0 w' q n c vs bs ∧ I w' b base (((recsB base 1 bs).length : Nat) : Int) ((1 + bs.length : Nat) : Int) ∧ Frm [] w w' ∧ w.heap.size ≤ b
set_option maxHeartbeats 400000 in
theorem scan_bad (base : Int) (h : base < 0 ∨ 281474976710656 < base) (p : Option Addr) (n c : Nat) (w : World) :
    Calls Try.prog 16 #[.int .i64 base, .slice p n c] w fun e w' => e = .returned (.tuple #[.pointer none, .slice none 0 0, .int .i64 1]) ∧ w = w' := by
  go_enter Try.func16, Try.ntmps16
  go_wp2_with fail
  refine (logNew_bad base h _).mono ?_
  rintro e w1 ⟨rfl, rfl⟩
  go_wp2_with fail
  go_returns
  exact ⟨rfl, rfl⟩
set_option maxHeartbeats 400000 in
theorem scan_len (base : Nat) (h : base ≤ 281474976710656) (p : Option Addr) (n c : Nat) (hn : n ≠ 22528) (w : World) :
    Calls Try.prog 16 #[.int .i64 base, .slice p n c] w fun e w' => e = .returned (.tuple #[.pointer none, .slice none 0 0, .int .i64 160]) ∧ Frm [] w w' := by
  have hq : ((n : Int) != 22528) = true := by simp; omega
  have hq2 : ((n : Int) == 22528) = false := by simp; omega
  clear hn
  go_enter Try.func16, Try.ntmps16
  go_wp2_with fail
  refine (logNew_ok base (by omega) (by omega) _).mono ?_
  rintro e w1 ⟨b, rfl, hL, hf, hb⟩
  go_wp2_with fail
  go_returns
  exact ⟨rfl, hf⟩
set_option maxHeartbeats 1600000 in
theorem scan_ok (base : Nat) (hb1 : base ≤ 281474976710656) (p : Option Addr) (zs : List Int) (c : Nat) (hn : zs.length = 22528) (hc : 22528 ≤ c) (hz : ∀ z ∈ zs, 0 ≤ z ∧ z < 256) (w : World) (hrd : Rd w p zs) :
    Calls Try.prog 16 #[.int .i64 base, .slice p 22528 c] w (PostS IsLog base zs w) := by
  have HN := hid hn
  have HZ := hid hz
  have HRD := hid hrd
  clear hn hz hrd
  go_enter Try.func16, Try.ntmps16
  go_wp2_with fail
  refine (logNew_ok base (by omega) (by omega) _).mono ?_
  rintro e w1 ⟨b, rfl, hL, hf, hb⟩
  have HL1 : Hid (IsLog w1 b base (((recsB base 1 []).length : Nat) : Int) ((1 + ([] : List (List Int)).length : Nat) : Int)) := hid hL
  have HF1 := hid hf
  have HB : Hid (b < w1.heap.size ∧ w.heap.size ≤ b) := hid ⟨hL.cells.1, hb⟩
  clear hL hf hb
  go_wp2_with fail
  go_loopw [9] (fun v wr => ∃ (q : Option Addr) (n d : Nat) (vs : List Value) (bs : List (List Int)), v = .slice q n d ∧ Hid (LOwn (b + 1) 0 wr q n d vs bs) ∧ Hid (recsB base 1 bs <+: zs) ∧ Hid (∀ x ∈ bs, x.length ≤ 4096) ∧ Hid (IsLog wr b base (((recsB base 1 bs).length : Nat) : Int) ((1 + bs.length : Nat) : Int)) ∧ Hid (Frm [] w wr) ∧ b < wr.heap.size) (fun v _ => 257 - lenOf v)
  case atStart => exact ⟨none, 0, 0, [], [], rfl, hid (LOwn.nil _ _), hid (List.nil_prefix), hid (by simp), HL1, HF1, HB.out.1⟩
  case round =>
    clear HL1 HF1
    obtain ⟨q, n, d, vs, bs, rfl, hl, hpre, hsm, hL, hf, hbw⟩ := hrel
    obtain ⟨A, hA⟩ : ∃ A, (recsB base 1 bs).length = A := ⟨_, rfl⟩
    have HA := hid hA
    have hat := recsB_at hpre.out
    rw [HN.out, hA, hl.out.lenB] at hat
    obtain ⟨hat1, hat2⟩ := hat
    rw [hA] at hL
    obtain ⟨lb, e0, e1, e2, f1, f2⟩ := hL.out.cells
    obtain ⟨pp, hsr, hrp⟩ := slice_low Try.underlying22 infoB p zs 22528 c A HN.out hat2 hc wr (HRD.out.kept hf.out (by simp))
    have hsr2 : ∀ W : World, (Instr.sliceAt 22 (.slice p 22528 c) (some (.int .i64 (A : Int))) none none).run Try.prog W = .ok (.slice pp (22528 - A) (c - A)) W := by
      intro W
      rw [run_sliceAt_slice (h := elem_of Try.underlying22)]
      exact hsr W
    have HRP := hid hrp
    have HBL := hid (hl.out.lenB)
    clear hA hrp
    go_wp2_with fail
    refine (record_any b base A (1 + bs.length) pp (zs.drop A) (22528 - A) (c - A) (by rw [List.length_drop, HN.out]) (by omega) (fun z hz => HZ.out z (List.mem_of_mem_drop hz)) (by omega) (by have := HBL.out; omega) _ hL.out HRP.out).mono ?_
    rintro e w2 ⟨hf2, ⟨rfl, hno⟩ | ⟨body, p2, n2, c2, hbl, hbp, rfl, hn2, ho2, hk2⟩⟩
    · have HF2 := hid (hf.out.trans hf2 (by simp))
      have HP : Hid (PostS IsLog base zs w (.returned (.tuple #[.pointer (some ⟨b, 0, none⟩), .slice q n d, .int .i64 0])) w2) := hid
        ⟨b, q, n, d, vs, bs, rfl, ⟨hpre.out, hsm.out, by rw [HA.out]; exact hno⟩, hl.out.kept hf2 (by simp), by rw [HA.out]; exact hL.out.kept hf2 (by simp), HF2.out, HB.out.2⟩
      clear hsr hsr2 e0 e1 e2 f1 f2 hf2 hno
      go_wp2_with fail
      go_returns
      exact HP.out
    · have HN2 := hid hn2
      have hn24 : n2 ≤ 4096 := by omega
      have hpa := pcs_le n2 hn24
      have hpa1 := pcs_pos n2
      obtain ⟨m, hm⟩ : ∃ m, pcs n2 = m := ⟨_, rfl⟩
      have HPQ := hid (pieces_any n2 (by omega))
      rw [hm] at HPQ hpa hpa1
      have HPQ' : Hid (∀ W : World, Calls Try.prog 75 #[.int .i64 n2] W fun e w' => e = .returned (.int .i64 (m : Int)) ∧ w' = W) := hid (fun W => (HPQ.out W).mono fun e w' h => ⟨h.1, h.2.symm⟩)
      have HM := hid hm
      have HPS := hid (pre_snoc hpre.out (by rw [HA.out]; exact hbp))
      have hlen : (recsB base 1 (bs ++ [body])).length = A + m * 88 := by
        rw [recsB_snoc, List.length_append, recB_length, HA.out, ← HN2.out, HM.out]
      have hfit : A + m * 88 ≤ 22528 := by
        have := HPS.out.length_le
        rw [hlen, HN.out] at this
        exact this
      have HLEN := hid hlen
      have hn1 : n + 1 ≤ 256 := by omega
      have HOA : Hid (OwnAt w2 (.slice p2 n2 c2) body) := hid ⟨p2, c2, by rw [HN2.out], ho2⟩
      have HLX := hid (hl.out.kept hf2 (by simp))
      have HL2 := hid (hL.out.kept hf2 (by simp))
      have HF2 := hid (hf.out.trans hf2 (by simp))
      have hfa : Frm [] w2 (w2.alloc (.cells #[.slice p2 n2 c2] 22)) := (Frm.refl _ _).alloc _
      have HLY := hid (HLX.out.kept hfa (by simp))
      have HOB := hid (HOA.out.kept hfa (by simp))
      have HLA := hid (HL2.out.kept hfa (by simp))
      have HFA := hid (HF2.out.trans hfa (by simp))
      have HRV : Hid (Rv (w2.alloc (.cells #[.slice p2 n2 c2] 22)) (some ⟨w2.heap.size, 0, none⟩) [.slice p2 n2 c2]) := hid (rv_block (cs := #[.slice p2 n2 c2]) (heap_alloc_new _ _))
      have HVN : Hid (∀ k ∈ (Value.slice p2 n2 c2).ownBlock.toList, b + 1 ≤ k ∧ k ∉ blk q ∧ ∀ u ∈ vs, k ∉ u.ownBlock.toList) := hid (fun k hk => by
        rw [own_blk] at hk
        have h1 := hk2 k hk
        refine ⟨by omega, fun h2 => ?_, fun u hu h2 => ?_⟩
        · have := ownsRow_low hl.out.own k h2; omega
        · obtain ⟨i, hi, rfl⟩ := List.getElem_of_mem hu
          have hlow := (hl.out.each i (Nat.zero_le _) (by rw [← hl.out.lenV]; exact hi)).lows k (by rw [List.getD_eq_getElem?_getD, List.getElem?_eq_getElem hi]; exact h2)
          omega)
      have hbs : b + 1 ≤ (w2.alloc (.cells #[.slice p2 n2 c2] 22)).heap.size := by have := hf2.size; have := hfa.size; omega
      have HBS := hid hbs
      clear hsr hsr2 e0 e1 e2 f1 f2 hf2 hn2 hbp ho2 hk2 hm hlen hfa hbs
      go_wp2_with (at_builtin; refine wpList_appV rfl _ _ 25 rfl 22 1 24 (.slice none 0 0) Try.underlying25 infoR rfl (by decide) q n d vs rfl HLY.out.own (some ⟨w2.heap.size, 0, none⟩) 1 1 [.slice p2 n2 c2] rfl rfl (by simp) HRV.out (by simp [Value.oneCell']) (by unfold maxLen; omega) (by omega) ?_)
      intro p3 d3 w3 ho3 hf3 hfr3
      have HLZ := hid (HLY.out.snoc HBS.out HOB.out HVN.out ho3.out hf3.out (fun k hk => by have := hfr3.out k hk; simpa using this))
      have hbq : b ∉ blk q := fun h => by have := hl.out.newp b h; omega
      have HL3 := hid (HLA.out.kept hf3.out hbq)
      have HF3 : Hid (Frm [] w w3) := hid (HFA.out.trans hf3.out (fun i hi hlt => by have := hl.out.newp i hi; have := HB.out.2; omega))
      obtain ⟨lb3, e0, e1, e2, f1, f2⟩ := HL3.out.cells
      have hw1 : IntKind.i64.wrap ((m : Int) * 88) = (m : Int) * 88 := IntWalk.i64_in _ (by omega)
      have hw2 : IntKind.i64.wrap ((A : Int) + (m : Int) * 88) = (A : Int) + (m : Int) * 88 := IntWalk.i64_in _ (by omega)
      clear ho3 hf3 hfr3
      go_wp2_with fail
      go_still_tail 11, (by kernel_rfl)
      refine wpStill_step (fun K hK => ?_)
      go_simp
      refine ⟨_, HPQ'.out _, hK _ ?_⟩
      clear hK K
      repeat still_step
      refine wpStill_nil ?_
      change wpList _ _ _ _ _ w3.drew
      have HF4 : Hid (Frm [] w w3.drew) := hid (HF3.out.drew)
      have HL4 : Hid (IsLog w3.drew b base A ((1 + bs.length : Nat) : Int)) := hid HL3.out
      have HLW : Hid (LOwn (b + 1) 0 w3.drew p3 (n + 1) d3 (vs ++ [.slice p2 n2 c2]) (bs ++ [body])) := hid (HLZ.out.kept ((Frm.refl [] w3).drew) (by simp))
      obtain ⟨w4, hw4⟩ : ∃ w4, w3.drew = w4 := ⟨_, rfl⟩
      rw [hw4] at HF4 HL4 HLW ⊢
      clear hw4 HF3 HL3 HLZ e0 e1 e2 f1 f2 lb3
      obtain ⟨lb3, e0, e1, e2, f1, f2⟩ := HL4.out.cells
      have hbn : bs.length ≤ 256 := by have := HBL.out; omega
      have HFS : Hid (∀ x y : Value, Frm [b] w4 ((w4.setCell ⟨b, 1, none⟩ x).setCell ⟨b, 2, none⟩ y)) := hid (fun x y => ((Frm.refl _ _).setCell _ _ (by simp)).setCell _ _ (by simp))
      go_wp2_with fail
      go_roundw
      case rel =>
        refine ⟨p3, n + 1, d3, vs ++ [.slice p2 n2 c2], bs ++ [body], rfl, hid (HLW.out.kept (HFS.out _ _) (fun k hk _ => by simp at hk; omega)), HPS, hid (fun x hx => ?_), hid ?_, hid (HF4.out.trans (HFS.out _ _) (fun i hi hlt => by have := HB.out.2; simp at hi; omega)), Nat.lt_of_lt_of_le lb3 (HFS.out _ _).size⟩
        · rcases List.mem_append.1 hx with h | h
          · exact hsm.out x h
          · simp only [List.mem_singleton] at h
            rw [h]; exact hbl
        · show _ = _
          rw [heap_setCell_same _ b 2 _ _ _ (heap_setCell_same _ b 1 _ _ _ HL4.out), HLEN.out]
          have e1 : ((1 + (bs ++ [body]).length : Nat) : Int) = 1 + (bs.length : Int) + 1 := by rw [List.length_append, List.length_singleton]; omega
          rw [e1, show ((A + m * 88 : Nat) : Int) = (A : Int) + (m : Int) * 88 by omega]
          rfl
      case measure => simp [lenOf]; omega
end Go.Proofs.Ytiefgfbeemlnjaa
