/- Helpers of the statements on scans: Same, region; one Scan of both sides. -/
import Derived.Test.YtiefgfbeemlnjaaIlogQ
import Derived.Test.YtiefgfbeemlnjaaIlogG
namespace Go.Proofs.Ytiefgfbeemlnjaa
open Go.RowKit
set_option maxRecDepth 100000

set_option maxHeartbeats 800000 in
theorem same_true (bs : List (List Int)) (p q : Option Addr) (n c d : Nat) (hn : bs.length = n) (hb : n < 9223372036854775807) (w : World) (h1 : LRd w p bs) (h2 : LRd w q bs) :
    Calls Try.prog 18 #[.slice p n c, .slice q n d] w fun e w' => e = .returned (.bool true) ∧ Frm [] w w' := by
  have HN := hid hn
  have H1 := hid h1
  have H2 := hid h2
  clear hn h1 h2
  go_enter Try.func18, Try.ntmps18
  go_wp2_with fail
  go_loopw [5] (fun i wr => ∃ j : Nat, j ≤ n ∧ i = .int .i64 j ∧ Hid (Frm [] w wr)) (fun i _ => n - (intOf i).toNat)
  case atStart => exact ⟨0, Nat.zero_le _, rfl, hid (Frm.refl _ _)⟩
  case round =>
    obtain ⟨j, hj, rfl, hf⟩ := hrel
    by_cases hlt : j < n
    · obtain ⟨g, o, rfl, h1⟩ : ∃ g o, p = some ⟨g, o, none⟩ ∧ ∀ i, i < bs.length → ∃ q n c, wr.cell? ⟨g, o + i, none⟩ = some (.slice q n c) ∧ n = (bs.getD i []).length ∧ Rd wr q (bs.getD i []) := by
        rcases H1.out.kept hf.out with h | h
        · have := HN.out; rw [h] at this; simp at this; omega
        · exact h
      obtain ⟨g2, o2, rfl, h2⟩ : ∃ g o, q = some ⟨g, o, none⟩ ∧ ∀ i, i < bs.length → ∃ q n c, wr.cell? ⟨g, o + i, none⟩ = some (.slice q n c) ∧ n = (bs.getD i []).length ∧ Rd wr q (bs.getD i []) := by
        rcases H2.out.kept hf.out with h | h
        · have := HN.out; rw [h] at this; simp at this; omega
        · exact h
      obtain ⟨q1, n1, c1, k1, e1, r1⟩ := h1 j (by rw [HN.out]; exact hlt)
      obtain ⟨q2, n2, c2, k2, e2, r2⟩ := h2 j (by rw [HN.out]; exact hlt)
      have hcv1 := fun k => cv_any (P := Try.prog) (w := wr.drewN k) 22 5 9 Try.underlying22 Try.underlying5 Try.underlying9 (r1.drewN k) c1 e1.symm
      have hcv2 := fun k => cv_any (P := Try.prog) (w := wr.drewN k) 22 5 9 Try.underlying22 Try.underlying5 Try.underlying9 (r2.drewN k) c2 e2.symm
      have HF : Hid (∀ k, Frm [] w (wr.drewN k)) := hid (fun k => hf.out.drewN k)
      clear h1 h2 e1 e2 r1 r2
      generalize strOfNums (bs.getD j []) = S at hcv1 hcv2
      have t0 : (0 : Int) ≤ (j : Int) := by omega
      have t1 : (j : Int) < (n : Int) := by omega
      go_wp2_with fail
      go_quiet (fail)
      clear hcv1 hcv2
      go_wp2_with fail
      go_roundw
      case rel => exact ⟨j + 1, by omega, by go_num, HF.out _⟩
      case measure => simp [intOf]; omega
    · obtain rfl : j = n := by omega
      clear hlt
      go_wp2_with fail
      go_returns
      exact ⟨rfl, hf.out⟩
/-- A region of noughts that begins with bytes. -/
def rgB (ns : List Int) : List Int := ns.take 22528 ++ List.replicate (22528 - ns.length) 0
theorem rgB_length (ns : List Int) : (rgB ns).length = 22528 := by simp [rgB]; omega
theorem rgB_byte {ns : List Int} (h : ∀ z ∈ ns, 0 ≤ z ∧ z < 256) : ∀ z ∈ rgB ns, 0 ≤ z ∧ z < 256 := by
  intro z hz
  rcases List.mem_append.1 hz with h1 | h1
  · exact h z (List.mem_of_mem_take h1)
  · rw [List.eq_of_mem_replicate h1]; exact ⟨by decide, by decide⟩
set_option maxHeartbeats 1600000 in
theorem region_any (p : Option Addr) (n c : Nat) (zs : List Int) (hnz : zs.length = n) (hn : n ≤ 140737488351232) (w : World) (hrd : Rd w p zs) :
    Calls Try.prog 19 #[.int .i64 0, .slice p n c] w fun e w' => ∃ g, e = .returned (.slice (some ⟨g, 0, none⟩) 22528 22528) ∧ w'.heap[g]? = some (.cells (bv (rgB zs)).toArray 5 (0, 0)) ∧ Frm [] w w' ∧ w.heap.size ≤ g := by
  have HRD := hid hrd
  have HNZ := hid hnz
  have hmk := run_make_row' (P := Try.prog) 22 5 (.int .u8 0) 1 Try.underlying22 infoB rfl .i64 .i64 22528 (by omega) (by omega)
  rw [show ((22528 : Nat) : Int) = 22528 from rfl] at hmk
  clear hrd hnz
  go_enter Try.func19, Try.ntmps19
  go_wp2_with fail
  go_loopw [6] (fun i wr => ∃ j : Nat, j ≤ n ∧ j ≤ 22528 ∧ i = .int .i64 j ∧ Hid (wr.heap[w.heap.size]? = some (.cells (bv (zs.take j) ++ List.replicate (22528 - j) (Value.int .u8 0)).toArray 5 (0, 0))) ∧ Hid (Frm [] w wr)) (fun i _ => n - (intOf i).toNat)
  case atStart =>
    refine ⟨0, Nat.zero_le _, Nat.zero_le _, rfl, ?_, (Frm.refl _ _).alloc _⟩
    show _ = _
    rw [heap_alloc_new]
    congr 2
    apply Array.ext'
    simp [toList_madeCells_one, bv]
  case round =>
    obtain ⟨j, hj, hj2, rfl, hcur, hfr⟩ := hrel
    by_cases hlt : j < n
    · have hb1 : decide ((j : Int) < (n : Int)) = true := by simp; omega
      by_cases hlt2 : j < 22528
      · have hb2 : decide ((j : Int) < 22528) = true := by simp; omega
        have htl : (zs.take j).length = j := by rw [List.length_take, HNZ.out]; omega
        have hc : wr.cell? ⟨w.heap.size, j, none⟩ = some (.int .u8 0) := by
          rw [cell_of_row wr _ j _ _ (0,0) hcur.out]
          have h := get_mid (bv (zs.take j)) (22528 - j) (Value.int .u8 0) (by omega)
          rw [bv_length, htl] at h
          simpa using h
        have hf := frozen_of_row wr w.heap.size j _ _ hcur.out
        obtain ⟨g, o, rfl, hcs⟩ : ∃ g o, p = some ⟨g, o, none⟩ ∧ wr.cell? ⟨g, o + j, none⟩ = some (.int .u8 (zs.getD j 0)) := by
          rcases HRD.out.kept hfr.out (by simp) with h | ⟨g, o, hp, h⟩
          · have := HNZ.out; rw [h] at this; simp at this; omega
          · exact ⟨g, o, hp, h _ (by rw [HNZ.out]; exact hlt)⟩
        have htk : zs.take (j + 1) = zs.take j ++ [zs.getD j 0] := by
          rw [List.take_add_one, List.getD_eq_getElem?_getD, List.getElem?_eq_getElem (by rw [HNZ.out]; exact hlt)]; rfl
        obtain ⟨z, hz⟩ : ∃ z, zs.getD j 0 = z := ⟨_, rfl⟩
        rw [hz] at hcs htk
        have HTK := hid htk
        have HTL := hid htl
        clear htk htl hz
        go_wp2_with fail
        go_roundw
        case rel =>
          refine ⟨j + 1, by omega, by omega, by go_num, ?_, hfr.out.setCell _ _ (by simp)⟩
          show _ = _
          rw [heap_setCell_same wr w.heap.size j _ _ _ hcur.out]
          congr 2
          apply Array.ext'
          have e1 : 22528 - j = (22528 - (j + 1)) + 1 := by omega
          have h := set_mid (bv (zs.take j)) (22528 - (j + 1)) (Value.int .u8 0) (Value.int .u8 z)
          rw [bv_length, HTL.out, ← e1] at h
          rw [HTK.out, bv_append]
          simpa [bv] using h
        case measure => simp [intOf]; omega
      · obtain rfl : j = 22528 := by omega
        have HP : Hid (wr.heap[w.heap.size]? = some (.cells (bv (rgB zs)).toArray 5 (0, 0))) := hid (by
          have h := hcur.out
          unfold rgB
          rw [HNZ.out, show 22528 - n = 0 by omega, List.replicate_zero, List.append_nil]
          rw [Nat.sub_self, List.replicate_zero, List.append_nil] at h
          exact h)
        have hb2 : decide ((22528 : Int) < 22528) = false := by decide
        clear hlt2
        go_wp2_with fail
        go_returns
        exact ⟨w.heap.size, rfl, HP.out, hfr.out, Nat.le_refl _⟩
    · obtain rfl : j = n := by omega
      have HP : Hid (wr.heap[w.heap.size]? = some (.cells (bv (rgB zs)).toArray 5 (0, 0))) := hid (by
        have h := hcur.out
        unfold rgB
        rw [List.take_of_length_le (by rw [HNZ.out]; omega)] at h
        rw [List.take_of_length_le (by rw [HNZ.out]; omega), HNZ.out, bv_append]
        simpa [bv] using h)
      have hb1 : decide ((j : Int) < (j : Int)) = false := by simp
      clear hlt
      go_wp2_with fail
      go_returns
      exact ⟨w.heap.size, rfl, HP.out, hfr.out, Nat.le_refl _⟩
/-- What a Scan of any bytes answers, told with its list alone. -/
def PostU (isn : Bool) (er : Int) (bs : List (List Int)) (w : World) (e : Ending) (w' : World) : Prop :=
  ∃ (po q : Option Addr) (n c : Nat), e = .returned (.tuple #[.pointer po, .slice q n c, .int .i64 er]) ∧ po.isNone = isn ∧ bs.length = n ∧ n < 9223372036854775807 ∧ LRd w' q bs ∧ Frm [] w w'
theorem postU_of {I : World → Nat → Int → Int → Int → Prop} {base : Nat} {zs : List Int} {bs0 : List (List Int)} {w : World} {e : Ending} {w' : World} (hl : zs.length = 22528) (h0 : Told base 1 zs bs0) (h : PostS I base zs w e w') : PostU false 0 bs0 w e w' := by
  obtain ⟨b, q, n, c, vs, bs, rfl, ht, hl', hi, hf, hb⟩ := h
  have e := told_one h0 ht
  subst e
  refine ⟨some ⟨b, 0, none⟩, q, n, c, rfl, rfl, hl'.lenB, ?_, hl'.rd, hf⟩
  have h1 := recsB_at ht.pre
  rw [hl, hl'.lenB] at h1
  omega
theorem told_ex (base next : Nat) (k : Nat) (zs : List Int) (hk : zs.length ≤ k * 88) : ∃ bs, Told base next zs bs := by
  induction k generalizing next zs with
  | zero => exact ⟨[], List.nil_prefix, by simp, noRec_short (by simp [recsB]; omega)⟩
  | succ k ih =>
    by_cases h : ∃ body : List Int, body.length ≤ 4096 ∧ recB base next body <+: zs
    · obtain ⟨body, hb, hp⟩ := h
      have hp1 := pcs_pos body.length
      obtain ⟨bs, hbs⟩ := ih (next + 1) (zs.drop (recB base next body).length) (by rw [List.length_drop, recB_length]; omega)
      obtain ⟨r, rfl⟩ := hp
      rw [List.drop_left] at hbs
      refine ⟨body :: bs, ?_, ?_, ?_⟩
      · simp only [recsB]
        obtain ⟨r2, rfl⟩ := hbs.pre
        rw [← List.append_assoc]
        exact List.prefix_append _ _
      · intro x hx
        rcases List.mem_cons.1 hx with rfl | hx
        · exact hb
        · exact hbs.small x hx
      · have := hbs.last
        simp only [recsB, List.length_append, List.length_cons]
        rw [← List.drop_drop, List.drop_left, show next + (bs.length + 1) = next + 1 + bs.length by omega]
        exact this
    · refine ⟨[], List.nil_prefix, by simp, ?_⟩
      simp only [recsB, List.length_nil, List.drop_zero, Nat.add_zero]
      intro body hb hp
      exact h ⟨body, hb, hp⟩
/-- One Scan of both sides: the same answer. -/
theorem both_scan (base : Int) (zs : List Int) (n : Nat) (hn : zs.length = n) (hz : ∀ z ∈ zs, 0 ≤ z ∧ z < 256) : ∃ (isn : Bool) (er : Int) (bs : List (List Int)),
    (∀ (p : Option Addr) (c : Nat) (w : World), n ≤ c → Rd w p zs → Calls Try.prog 16 #[.int .i64 base, .slice p n c] w (PostU isn er bs w)) ∧
    (∀ (p : Option Addr) (c : Nat) (w : World), n ≤ c → Rd w p zs → Calls Try.prog 17 #[.int .i64 base, .slice p n c] w (PostU isn er bs w)) := by
  by_cases hbad : base < 0 ∨ 281474976710656 < base
  · refine ⟨true, 1, [], fun p c w _ _ => (scan_bad base hbad p n c w).mono ?_, fun p c w _ _ => (refScan_bad base hbad p n c w).mono ?_⟩
    · rintro e w' ⟨rfl, rfl⟩
      exact ⟨none, none, 0, 0, rfl, rfl, rfl, by omega, Or.inl rfl, Frm.refl _ _⟩
    · rintro e w' ⟨rfl, rfl⟩
      exact ⟨none, none, 0, 0, rfl, rfl, rfl, by omega, Or.inl rfl, Frm.refl _ _⟩
  obtain ⟨bn, rfl⟩ : ∃ bn : Nat, base = bn := ⟨base.toNat, by omega⟩
  by_cases hl : n = 22528
  · subst hl
    obtain ⟨bs0, h0⟩ := told_ex bn 1 256 zs (by omega)
    refine ⟨false, 0, bs0, fun p c w hc hr => (scan_ok bn (by omega) p zs c hn hc hz w hr).mono fun e w' h => postU_of hn h0 h, fun p c w hc hr => (refScan_ok bn (by omega) p zs c hn hc hz w hr).mono fun e w' h => postU_of hn h0 h⟩
  · refine ⟨true, 160, [], fun p c w _ _ => (scan_len bn (by omega) p n c hl w).mono ?_, fun p c w _ _ => (refScan_len bn (by omega) p n c hl w).mono ?_⟩
    · rintro e w' ⟨rfl, hf⟩
      exact ⟨none, none, 0, 0, rfl, rfl, rfl, by omega, Or.inl rfl, hf⟩
    · rintro e w' ⟨rfl, hf⟩
      exact ⟨none, none, 0, 0, rfl, rfl, rfl, by omega, Or.inl rfl, hf⟩
end Go.Proofs.Ytiefgfbeemlnjaa
