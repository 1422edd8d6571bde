/- The document's Slots. -/
import Derived.Test.YtkolbijhekbelaaQav
import Derived.Test.YtkolbijhekbelaaQaw
import Derived.Test.YtkolbijhekbelaaQam
import Derived.Deep.DeepCutAuto
namespace Go.Proofs.Ytkolbijhekbelaa
section
open Go.RowKit Go.Lib
set_option maxRecDepth 100000

theorem ref_four {bs : List Int} (hl : bs.length = 72) : ∃ b0 b1 b2 b3 b4 b5 b6 b7 rest, bs = b0 :: b1 :: b2 :: b3 :: b4 :: b5 :: b6 :: b7 :: rest := by
  match bs, hl with
  | b0 :: b1 :: b2 :: b3 :: b4 :: b5 :: b6 :: b7 :: rest, _ => exact ⟨b0, b1, b2, b3, b4, b5, b6, b7, rest, rfl⟩
def slotR (bs : List Int) : Bool := decide ((decP (bs.drop 8)).2 = 0) && (mayS (slotP bs) && (decide (bs.getD 0 0 ≤ 1) && (decide (bs.getD 1 0 = 0) && (decide (bs.getD 2 0 = 0) && decide (bs.getD 3 0 = 0)))))
theorem slotE_ref {bs : List Int} (hl : bs.length = 72) (hb : ∀ z ∈ bs, 0 ≤ z ∧ z < 256) : slotE bs = slotR bs := by
  unfold slotE slotR
  by_cases h0 : (decP (bs.drop 8)).2 = 0
  case neg => simp [h0]
  by_cases h1 : mayS (slotP bs) = true
  case neg => simp [h1]
  rw [decide_eq_true h0, h1, Bool.true_and, Bool.true_and, Bool.true_and, Bool.true_and]
  have hf := (mayS_form h1).1
  have hp := (ptrB_decP (fun z hz => hb z (List.mem_of_mem_drop hz)) h0).2.2
  obtain ⟨M, hM1, hM2, hM3⟩ := num4_at bs hb
  obtain ⟨b0, b1, b2, b3, b4, b5, b6, b7, rest, rfl⟩ := ref_four hl
  have g0 := hb b0 (by simp)
  have e4 := hM3 0 (by omega)
  have e5 := hM3 1 (by omega)
  have e6 := hM3 2 (by omega)
  have e7 := hM3 3 (by omega)
  have hs : (slotP (b0 :: b1 :: b2 :: b3 :: b4 :: b5 :: b6 :: b7 :: rest)).size = (M : Int) := hM2
  have hu : (slotP (b0 :: b1 :: b2 :: b3 :: b4 :: b5 :: b6 :: b7 :: rest)).used = decide (b0 = 1) := rfl
  have hr : (slotP (b0 :: b1 :: b2 :: b3 :: b4 :: b5 :: b6 :: b7 :: rest)).root = (decP rest).1 := rfl
  have hp' : ptrB (decP rest).1 = rest := hp
  have hle : le (M : Int) 4 = [b4, b5, b6, b7] := by
    unfold le
    simp only [List.range_succ, List.range_zero, List.nil_append, List.cons_append, List.map_cons, List.map_nil]
    simp at e4 e5 e6 e7
    simp [e4, e5, e6, e7]
  rw [hs, hu, hr, hp', hle] at hf
  rw [hf]
  have hiff : ([ub (decide (b0 = 1)), 0, 0, 0] ++ [b4, b5, b6, b7] ++ rest = b0 :: b1 :: b2 :: b3 :: b4 :: b5 :: b6 :: b7 :: rest) ↔ (b0 ≤ 1 ∧ b1 = 0 ∧ b2 = 0 ∧ b3 = 0) := by
    simp only [List.cons_append, List.nil_append, List.cons.injEq, and_true]
    unfold ub
    by_cases hb1 : b0 = 1
    · subst hb1
      simp [eq_comm]
    · simp only [decide_eq_false hb1]
      constructor
      · rintro ⟨c0, c1, c2, c3⟩; simp at c0; omega
      · rintro ⟨c0, c1, c2, c3⟩; refine ⟨?_, ?_, ?_, ?_⟩ <;> first | omega | (simp; omega)
  refine Bool.eq_iff_iff.2 ?_
  rw [decide_eq_true_iff, hiff]
  show _ ↔ (decide (b0 ≤ 1) && (decide (b1 = 0) && (decide (b2 = 0) && decide (b3 = 0)))) = true
  simp only [Bool.and_eq_true, decide_eq_true_eq]
theorem leV_num4 {bs : List Int} (hl : bs.length = 72) : leV ((bs.drop 4).take 4) = num4 bs := by
  obtain ⟨b0, b1, b2, b3, b4, b5, b6, b7, rest, rfl⟩ := ref_four hl
  simp [leV, num4]
  omega
/-- Four bytes are read. -/
theorem qnum4 (b c : Nat) (p : Option Addr) (zs : List Int) (hl : zs.length = 4) (hb : ∀ z ∈ zs, 0 ≤ z ∧ z < 256) (w : World) (hw : IsQ w b p c zs 0 0) :
    Calls Try.prog 44 #[.pointer (some ⟨b, 0, none⟩), .int .i64 4] w fun e w' => e = .returned (.int .u64 (leV zs)) ∧ Frm [b] w w' := by
  refine (qnum_any b c 0 p zs hb 0 4 w hw (by omega) (by omega)).mono ?_
  rintro e w' ⟨rfl, _, h2⟩
  refine ⟨?_, h2⟩
  rw [readS_ok]
  unfold numT
  rw [if_neg (by omega), if_neg (by rw [List.drop_zero, hl]; omega)]
  simp [← hl]
set_option maxHeartbeats 12800000 in
theorem refSlots_any (p : Option Addr) (L c : Nat) (bs : List Int) (w : World) (hr : Rd w p bs) (hL : bs.length = L) (hb : L ≤ 140737488351232) (hc : L ≤ c ∧ c ≤ 9223372036854775807) (hz : ∀ z ∈ bs, 0 ≤ z ∧ z < 256) :
    Calls Try.prog 24 #[.slice p L c] w (SltA w bs) := by
  obtain ⟨PO, hPO⟩ : ∃ PO : Ending → World → Prop, SltA w bs = PO := ⟨_, rfl⟩
  rw [hPO]
  have HP1 : Hid (∀ w', sltE bs = 120 → Frm [] w w' → PO (.returned (.tuple #[.slice none 0 0, .int .i64 120])) w') := hid (fun w' h1 h3 => by rw [← hPO]; exact ⟨h3, Or.inl ⟨h1, rfl⟩⟩)
  have HP2 : Hid (∀ q m cq w', sltE bs = 0 → w'.ownsRow 0 48 11 (.slice q m cq) m (rowsSl (sltL bs)) → m = (sltL bs).length → m ≤ 112 → (∀ k ∈ blk q, w.heap.size ≤ k) → Frm [] w w' → PO (.returned (.tuple #[.slice q m cq, .int .i64 0])) w') := hid (fun q m cq w' h1 h2 h3 h4 h5 h6 => by rw [← hPO]; exact ⟨h6, Or.inr ⟨h1, q, m, cq, rfl, h2, h3, h4, h5⟩⟩)
  have HL := hid hL
  have HZ := hid hz
  by_cases hbad : badT bs
  · have HE : Hid (sltE bs = 120) := hid (by unfold sltE; rw [if_pos hbad])
    have HBAD := hid hbad
    obtain ⟨hc0, hc1⟩ := hc
    clear hr hL hz hPO hbad
    by_cases h2 : L % 72 = 0
    · have h1 : 8064 < L := by
        rcases HBAD.out with h | h <;> rw [HL.out] at h <;> omega
      have h2c : ((L : Int) % 72 == 0) = true := by simp; omega
      have h2d : ((L : Int) % 72 != 0) = false := by simp; omega
      have htm : (L : Int).tmod 72 = ((L % 72 : Nat) : Int) := by rw [Int.tmod_eq_emod_of_nonneg (by omega)]; omega
      have h2e : ((L : Int).tmod 72 != 0) = false := by rw [htm, h2]; rfl
      clear htm
      go_enter Try.func24, Try.ntmps24
      go_wp2_with fail
      first | go_returns | skip
      exact HP1.out _ HE.out (Frm.refl _ _)
    · have h2b : (((L : Int) % 72) != 0) = true := by simp; omega
      have h2c : ((L : Int) % 72 == 0) = false := by simp; omega
      have htm : (L : Int).tmod 72 = ((L % 72 : Nat) : Int) := by rw [Int.tmod_eq_emod_of_nonneg (by omega)]; omega
      have h2d : ((L : Int).tmod 72 != 0) = true := by rw [htm, bne_iff_ne]; omega
      have h2e : ((L : Int).tmod 72 == 0) = false := by rw [htm, beq_eq_false_iff_ne]; omega
      clear htm
      go_enter Try.func24, Try.ntmps24
      go_wp2_with fail
      first | go_returns | skip
      exact HP1.out _ HE.out (Frm.refl _ _)
  · have hnb : L ≤ 8064 ∧ L % 72 = 0 := by unfold badT at hbad; rw [hL] at hbad; omega
    obtain ⟨hn1, hn2⟩ := hnb
    have HMD := hid hn2
    have HR := hid hr
    obtain ⟨hc0, hc1⟩ := hc
    have HNB := hid hbad
    have h2c : ((L : Int) % 72 == 0) = true := by simp; omega
    have h2d : ((L : Int) % 72 != 0) = false := by simp; omega
    have htm : (L : Int).tmod 72 = ((L % 72 : Nat) : Int) := by rw [Int.tmod_eq_emod_of_nonneg (by omega)]; omega
    have h2e : ((L : Int).tmod 72 != 0) = false := by rw [htm, hn2]; rfl
    clear htm
    clear hr hL hz hPO hbad
    go_enter Try.func24, Try.ntmps24
    go_wp2_with fail
    have HCL : Hid ((cutL 72 bs).length = L / 72) := hid (by rw [cutL_len, HL.out]; unfold np; have := HMD.out; omega)
    clear h2c h2d h2e
    go_loopw [5, 4] (fun i s4 wr => ∃ (t a : Nat) (q : Option Addr) (cq : Nat), a ≤ L ∧ t ≤ 112 ∧ i = .int .i64 (a : Int) ∧ s4 = .slice q t cq ∧ Hid (a = t * 72) ∧ Hid (Frm [] w wr ∧ wr.ownsRow 0 48 11 (.slice q t cq) t (rowsSl (((cutL 72 bs).take t).map slotP)) ∧ (∀ k ∈ blk q, w.heap.size ≤ k) ∧ ∀ x ∈ (cutL 72 bs).take t, slotE x = true)) (fun i _ _ => L - (intOf i).toNat)
    case atStart => exact ⟨0, 0, none, 0, Nat.zero_le _, Nat.zero_le _, rfl, rfl, hid (by omega), hid ⟨Frm.refl _ _, ⟨rfl, Or.inl ⟨rfl, rfl⟩⟩, by simp [blk], by simp⟩⟩
    case round =>
      obtain ⟨t, a, q, cq, ht, ht112, rfl, rfl, hA, hin⟩ := hrel
      have HA0 := hid hA.out
      have HIN := hid hin.out
      clear hA hin
      by_cases hlt : a < L
      · have t1 : (a : Int) < (L : Int) := by omega
        have hE7 : a + 72 ≤ L := by have := HA0.out; have := HMD.out; omega
        have ht111 : t + 1 ≤ 112 := by have := HA0.out; omega
        have hzc : (cutL 72 bs)[t]? = some (pc 72 t bs) := cutL_get (by omega) (by rw [HL.out, ← HA0.out]; exact hlt)
        obtain ⟨xne, xle, xin⟩ := cutL_mem (n := 72) (by omega) (List.mem_of_getElem? hzc)
        have hxl : (pc 72 t bs).length = 72 := by unfold pc; rw [List.length_take, List.length_drop, HL.out, ← HA0.out]; omega
        have hxe : pc 72 t bs = (bs.drop a).take 72 := by unfold pc; rw [HA0.out]
        have HTK : Hid ((cutL 72 bs).take (t + 1) = (cutL 72 bs).take t ++ [pc 72 t bs]) := hid (by rw [List.take_add_one, hzc]; rfl)
        obtain ⟨x, hx⟩ : ∃ x, pc 72 t bs = x := ⟨_, rfl⟩
        rw [hx] at hzc xin hxl hxe HTK
        have HXZ : Hid (∀ z ∈ x, 0 ≤ z ∧ z < 256) := hid (fun z hz => HZ.out z (xin z hz))
        have HXL := hid hxl
        have HXE := hid hxe
        have HZC := hid hzc
        obtain ⟨p4, hs41, hs42, hr4, _, hp4⟩ := slice_midT p bs L c (a + 4) (a + 8) HL.out (by omega) (by omega) hc0 wr (HR.out.kept HIN.out.1 (by simp))
        obtain rfl := hp4 (by omega)
        rw [show a + 8 - (a + 4) = 4 by omega] at hs41 hs42 hr4
        rw [show ((a + 4 : Nat) : Int) = (a : Int) + 4 by omega, show ((a + 8 : Nat) : Int) = (a : Int) + 8 by omega] at hs41 hs42
        have hz4 : (bs.drop (a + 4)).take 4 = (x.drop 4).take 4 := by rw [hxe, List.drop_take, List.drop_drop, List.take_take]; rfl
        rw [hz4] at hr4
        have hl4 : ((x.drop 4).take 4).length = 4 := by rw [List.length_take, List.length_drop, hxl]; rfl
        have hop := open_any (p.map (·.add (a + 4))) (c - (a + 4)) ((x.drop 4).take 4) wr hr4 (fun h0 => by rw [h0] at hl4; simp at hl4) (by omega)
        rw [hl4] at hop
        have HOPN := hid hop
        have HL4 := hid hl4
        have HS8 : Hid (∀ W, Frm [] wr W → ∃ pp, (∀ W : World, (Instr.slice 22 (.slice p L c) (some (.int .i64 ((a : Int) + 8))) (some (.int .i64 ((a : Int) + 72))) none).run Try.prog W = .ok (.slice pp 64 (c - (a + 8))) W) ∧ (∀ W : World, (Instr.sliceAt 22 (.slice p L c) (some (.int .i64 ((a : Int) + 8))) (some (.int .i64 ((a : Int) + 72))) none).run Try.prog W = .ok (.slice pp 64 (c - (a + 8))) W) ∧ Rd W pp (x.drop 8) ∧ pp = p.map (·.add (a + 8))) := hid (fun W hf => by
          obtain ⟨p8, hs81, hs82, hr8, _, hp8⟩ := slice_midT p bs L c (a + 8) (a + 72) HL.out (by omega) (by omega) hc0 W ((HR.out.kept HIN.out.1 (by simp)).kept hf (by simp))
          rw [show a + 72 - (a + 8) = 64 by omega] at hs81 hs82 hr8
          rw [show ((a + 8 : Nat) : Int) = (a : Int) + 8 by omega, show ((a + 72 : Nat) : Int) = (a : Int) + 72 by omega] at hs81 hs82
          have hz8 : (bs.drop (a + 8)).take 64 = x.drop 8 := by rw [HXE.out, List.drop_take, List.drop_drop]
          rw [hz8] at hr8
          exact ⟨p8, hs81, hs82, hr8, hp8 (by omega)⟩)
        have HLE := hid hlt
        clear hr4 hz4 hl4 hop hzc xin hxl hxe hx xne xle hp4
        go_wp2_with fail
        refine HOPN.out.mono ?_
        rintro e w5 ⟨rb, pq, cq2, rfl, hq5, hf5, hnb5, hnp5⟩
        have HQ5 := hid hq5
        have HF5 := hid hf5
        have HNB5 := hid hnb5
        have HNP5 := hid hnp5
        obtain ⟨p8, hs81, hs82, hr8, hp8⟩ := HS8.out w5 hf5
        subst hp8
        have hdc := refDecode_any (p.map (·.add (a + 8))) 64 (c - (a + 8)) (x.drop 8) w5 (by rw [List.length_drop, HXL.out]) hr8 (fun z hz => HXZ.out z (List.mem_of_mem_drop hz)) (by omega)
        obtain ⟨⟨v, E⟩, hv⟩ : ∃ z, decP (x.drop 8) = z := ⟨_, rfl⟩
        rw [hv] at hdc
        have HV := hid hv
        obtain ⟨a0, a1, a2, a3, a4, a5, a6, a7, a8⟩ := v
        unfold P9.arr at hdc
        simp only at hdc
        have HDC := hid hdc
        clear hdc hv hr8 hq5 hf5 hnb5 hnp5 HS8 HOPN hs41 hs42
        go_wp2_with fail
        refine HDC.out.mono ?_
        rintro e w6 ⟨rfl, hf6⟩
        obtain ⟨w7, hw7⟩ : ∃ z, w6.alloc (.cells #[.int .i64 a0, .int .i64 a1, .int .i64 a2, .int .u64 a3, .int .i64 a4, .int .u64 a5, .int .u64 a6, .int .u64 a7, .int .u64 a8] 40) = z := ⟨_, rfl⟩
        have hf7 : Frm [] w6 w7 := by rw [← hw7]; exact (Frm.refl _ _).alloc _
        obtain ⟨bp, hbp⟩ : ∃ z, w6.heap.size = z := ⟨_, rfl⟩
        have hrow7 : w7.heap[bp]? = some (.cells #[.int .i64 a0, .int .i64 a1, .int .i64 a2, .int .u64 a3, .int .i64 a4, .int .u64 a5, .int .u64 a6, .int .u64 a7, .int .u64 a8] 40 (0, 0)) := by rw [← hw7]; exact heap_alloc_to _ _ hbp
        have HROW7 := hid hrow7
        have HBP : Hid (w5.heap.size ≤ bp) := hid (by have := hf6.size; omega)
        have HF7 := hid (hf6.trans hf7 (by simp))
        have HW7 := hid hw7
        have HB7 := hid hbp
        clear hf6 hf7 hrow7 hw7 hbp HDC hs81 hs82
        go_upto_region 9 with fail
        rw [HB7.out, HW7.out]
        clear HW7 HB7
        obtain ⟨g, o, hp, hcs⟩ : ∃ g o, p = some ⟨g, o, none⟩ ∧ ∀ i, i < bs.length → w.cell? ⟨g, o + i, none⟩ = some (.int .u8 (bs.getD i 0)) := by
          rcases HR.out with h | h
          · have := HL.out; rw [h] at this; simp at this; omega
          · exact h
        have hget : ∀ j, j < 72 → bs.getD (a + j) 0 = x.getD j 0 := fun j hj => by
          rw [HXE.out, List.getD_eq_getElem?_getD, List.getD_eq_getElem?_getD, List.getElem?_take, if_pos hj, List.getElem?_drop]
        obtain ⟨b0, hb0⟩ : ∃ z, x.getD 0 0 = z := ⟨_, rfl⟩
        obtain ⟨b1, hb1⟩ : ∃ z, x.getD 1 0 = z := ⟨_, rfl⟩
        obtain ⟨b2, hb2⟩ : ∃ z, x.getD 2 0 = z := ⟨_, rfl⟩
        obtain ⟨b3, hb3⟩ : ∃ z, x.getD 3 0 = z := ⟨_, rfl⟩
        have HBB : Hid (x.getD 0 0 = b0 ∧ x.getD 1 0 = b1 ∧ x.getD 2 0 = b2 ∧ x.getD 3 0 = b3) := hid ⟨hb0, hb1, hb2, hb3⟩
        have HCE : Hid (∀ W, Frm [] w W → W.cell? ⟨g, o + a, none⟩ = some (.int .u8 b0) ∧ W.cell? ⟨g, o + (a + 1), none⟩ = some (.int .u8 b1) ∧ W.cell? ⟨g, o + (a + 2), none⟩ = some (.int .u8 b2) ∧ W.cell? ⟨g, o + (a + 3), none⟩ = some (.int .u8 b3)) := hid (fun W hf => by
          have hc : ∀ j z, j < 72 → x.getD j 0 = z → W.cell? ⟨g, o + (a + j), none⟩ = some (.int .u8 z) := fun j z hj hz => by
            have h1 := hcs (a + j) (by rw [HL.out]; omega)
            rw [hget j hj, hz] at h1
            exact (hf.cell (World.block_lt_of_cell? w _ h1) (by simp)).trans h1
          exact ⟨hc 0 b0 (by omega) hb0, hc 1 b1 (by omega) hb1, hc 2 b2 (by omega) hb2, hc 3 b3 (by omega) hb3⟩)
        have HGL : Hid (g < w.heap.size) := hid (World.block_lt_of_cell? w _ (hcs 0 (by rw [HL.out]; omega)))
        obtain ⟨N, hN⟩ : ∃ z, num4 x = z := ⟨_, rfl⟩
        have HN := hid hN
        have HNB4 : Hid (0 ≤ N ∧ N < 4294967296) := hid (by obtain ⟨M, h1, h2, _⟩ := num4_at x HXZ.out; rw [← hN, h2]; omega)
        have hnb := HNB4.out
        obtain ⟨hnb0, hnb1⟩ := hnb
        have hwn : IntKind.i64.wrap N = N := by rw [IntKind.wrap_i64]; omega
        have hwn2 : wrap64 N = N := by unfold wrap64; omega
        have HQ7 := hid (HQ5.out.kept HF7.out (by simp) (by simp))
        have HNU : Hid (∀ W, Frm [] w7 W → Calls Try.prog 44 #[.pointer (some ⟨rb, 0, none⟩), .int .i64 4] W fun e w' => e = .returned (.int .u64 N) ∧ Frm [rb] W w') := hid (fun W hf => by
          have h := qnum4 rb cq2 pq ((x.drop 4).take 4) HL4.out (fun z hz => HXZ.out z (List.mem_of_mem_drop (List.mem_of_mem_take hz))) W (HQ7.out.kept hf (by simp) (by simp))
          rw [leV_num4 HXL.out, HN.out] at h
          exact h)
        have HRB : Hid (rb < w5.heap.size ∧ wr.heap.size ≤ rb) := hid ⟨HQ5.out.cells.1, HNB5.out⟩
        have HF0 : Hid (Frm [] w w7) := hid ((HIN.out.1.trans HF5.out (by simp)).trans HF7.out (by simp))
        have HDKE : Hid (∀ W W' : World, (W.cell? ⟨g, o + a, none⟩ = some (.int .u8 b0) ∧ W.cell? ⟨bp, 0, none⟩ = some (.int .i64 a0) ∧ W.cell? ⟨bp, 1, none⟩ = some (.int .i64 a1) ∧ W.cell? ⟨bp, 2, none⟩ = some (.int .i64 a2) ∧ W.cell? ⟨bp, 3, none⟩ = some (.int .u64 a3) ∧ W.cell? ⟨bp, 4, none⟩ = some (.int .i64 a4) ∧ W.cell? ⟨bp, 5, none⟩ = some (.int .u64 a5) ∧ W.cell? ⟨bp, 6, none⟩ = some (.int .u64 a6) ∧ W.cell? ⟨bp, 7, none⟩ = some (.int .u64 a7) ∧ W.cell? ⟨bp, 8, none⟩ = some (.int .u64 a8)) → Frm [rb] W W' → (W'.cell? ⟨g, o + a, none⟩ = some (.int .u8 b0) ∧ W'.cell? ⟨bp, 0, none⟩ = some (.int .i64 a0) ∧ W'.cell? ⟨bp, 1, none⟩ = some (.int .i64 a1) ∧ W'.cell? ⟨bp, 2, none⟩ = some (.int .i64 a2) ∧ W'.cell? ⟨bp, 3, none⟩ = some (.int .u64 a3) ∧ W'.cell? ⟨bp, 4, none⟩ = some (.int .i64 a4) ∧ W'.cell? ⟨bp, 5, none⟩ = some (.int .u64 a5) ∧ W'.cell? ⟨bp, 6, none⟩ = some (.int .u64 a6) ∧ W'.cell? ⟨bp, 7, none⟩ = some (.int .u64 a7) ∧ W'.cell? ⟨bp, 8, none⟩ = some (.int .u64 a8))) := hid (fun W W' hs hf => by
          have hg : g ≠ rb := by have := HRB.out.2; have := HGL.out; have := HIN.out.1.size; omega
          have hb : bp ≠ rb := by have := HRB.out.1; have := HBP.out; omega
          have kc : ∀ q v, q.block ≠ rb → W.cell? q = some v → W'.cell? q = some v := fun q v hq hv => (hf.cell (World.block_lt_of_cell? W _ hv) (by simpa using hq)).trans hv
          exact ⟨kc _ _ hg hs.1, kc _ _ hb hs.2.1, kc _ _ hb hs.2.2.1, kc _ _ hb hs.2.2.2.1, kc _ _ hb hs.2.2.2.2.1, kc _ _ hb hs.2.2.2.2.2.1, kc _ _ hb hs.2.2.2.2.2.2.1, kc _ _ hb hs.2.2.2.2.2.2.2.1, kc _ _ hb hs.2.2.2.2.2.2.2.2.1, kc _ _ hb hs.2.2.2.2.2.2.2.2.2⟩)
        have HS0 : Hid (∀ W, Frm [] w7 W → W.cell? ⟨g, o + a, none⟩ = some (.int .u8 b0) ∧ W.cell? ⟨bp, 0, none⟩ = some (.int .i64 a0) ∧ W.cell? ⟨bp, 1, none⟩ = some (.int .i64 a1) ∧ W.cell? ⟨bp, 2, none⟩ = some (.int .i64 a2) ∧ W.cell? ⟨bp, 3, none⟩ = some (.int .u64 a3) ∧ W.cell? ⟨bp, 4, none⟩ = some (.int .i64 a4) ∧ W.cell? ⟨bp, 5, none⟩ = some (.int .u64 a5) ∧ W.cell? ⟨bp, 6, none⟩ = some (.int .u64 a6) ∧ W.cell? ⟨bp, 7, none⟩ = some (.int .u64 a7) ∧ W.cell? ⟨bp, 8, none⟩ = some (.int .u64 a8)) := hid (fun W hf => by
          obtain ⟨z0, z1, z2, z3, z4, z5, z6, z7, z8⟩ := ptr_cells (p := ⟨a0, a1, a2, a3, a4, a5, a6, a7, a8⟩) (hf.heap HROW7.out (by simp))
          exact ⟨(HCE.out W (HF0.out.trans hf (by simp))).1, z0, z1, z2, z3, z4, z5, z6, z7, z8⟩)
        subst hp
        clear hcs hget hb0 hb1 hb2 hb3 hN
        go_cut [9] from 20 to 95 (fun z wx => ∃ bb : Nat, z = .pointer (some ⟨bb, 0, none⟩) ∧ Hid (wx.heap[bb]? = some (.cells #[.bool (decide (b0 = 1)), .int .i64 N, .int .i64 a0, .int .i64 a1, .int .i64 a2, .int .u64 a3, .int .i64 a4, .int .u64 a5, .int .u64 a6, .int .u64 a7, .int .u64 a8] 48 (0, 0)) ∧ Frm [rb] w7 wx))
        case first =>
          refine wp_region_tail (S := fun W => (W.cell? ⟨g, o + a, none⟩ = some (.int .u8 b0) ∧ W.cell? ⟨bp, 0, none⟩ = some (.int .i64 a0) ∧ W.cell? ⟨bp, 1, none⟩ = some (.int .i64 a1) ∧ W.cell? ⟨bp, 2, none⟩ = some (.int .i64 a2) ∧ W.cell? ⟨bp, 3, none⟩ = some (.int .u64 a3) ∧ W.cell? ⟨bp, 4, none⟩ = some (.int .i64 a4) ∧ W.cell? ⟨bp, 5, none⟩ = some (.int .u64 a5) ∧ W.cell? ⟨bp, 6, none⟩ = some (.int .u64 a6) ∧ W.cell? ⟨bp, 7, none⟩ = some (.int .u64 a7) ∧ W.cell? ⟨bp, 8, none⟩ = some (.int .u64 a8))) 11 12 rfl (by kernel_rfl) (by kernel_rfl) ?_
          refine wpAnyHT_take (i := 0) (oi := _) (v := ?_) (by kernel_rfl) rfl (by kernel_rfl) (by kernel_rfl) (by kernel_rfl) (by kernel_rfl) (fun _ _ _ h => h) (Or.inl ⟨by rfl, ?_⟩) (HS0.out _ (Frm.refl [] _).drew) ?_
          rotate_left 1
          · (intro W hSw; obtain ⟨s0, s1, s2, s3, s4, s5, s6, s7, s8, s9⟩ := hSw; (try simp only [List.getElem_toArray, List.getElem_cons_zero]); go_simp; try with_reducible rfl)
          try simp only [List.getElem_toArray, List.getElem_cons_zero, Act.put, List.setIfInBounds_toArray, List.set_cons_zero, List.set_cons_succ]
          refine wpAnyHT_take (i := 1) (oi := _) (v := ?_) (by kernel_rfl) rfl (by kernel_rfl) (by kernel_rfl) (by kernel_rfl) (by kernel_rfl) (fun _ _ _ h => h) (Or.inl ⟨by rfl, ?_⟩) (HS0.out _ (Frm.refl [] _).drew) ?_
          rotate_left 1
          · (intro W hSw; obtain ⟨s0, s1, s2, s3, s4, s5, s6, s7, s8, s9⟩ := hSw; (try simp only [List.getElem_toArray, List.getElem_cons_succ, List.getElem_cons_zero]); go_simp; try with_reducible rfl)
          try simp only [List.getElem_toArray, List.getElem_cons_succ, List.getElem_cons_zero, Act.put, List.setIfInBounds_toArray, List.set_cons_zero, List.set_cons_succ]
          refine wpAnyHT_take (i := 2) (oi := _) (v := ?_) (by kernel_rfl) rfl (by kernel_rfl) (by kernel_rfl) (by kernel_rfl) (by kernel_rfl) (fun _ _ _ h => h) (Or.inl ⟨by rfl, ?_⟩) (HS0.out _ (Frm.refl [] _).drew) ?_
          rotate_left 1
          · (intro W hSw; obtain ⟨s0, s1, s2, s3, s4, s5, s6, s7, s8, s9⟩ := hSw; (try simp only [List.getElem_toArray, List.getElem_cons_succ, List.getElem_cons_zero]); go_simp; try with_reducible rfl)
          try simp only [List.getElem_toArray, List.getElem_cons_succ, List.getElem_cons_zero, Act.put, List.setIfInBounds_toArray, List.set_cons_zero, List.set_cons_succ]
          refine wpAnyHT_take (i := 3) (oi := _) (v := ?_) (by kernel_rfl) rfl (by kernel_rfl) (by kernel_rfl) (by kernel_rfl) (by kernel_rfl) (fun _ _ _ h => h) (Or.inl ⟨by rfl, ?_⟩) (HS0.out _ (Frm.refl [] _).drew) ?_
          rotate_left 1
          · (intro W hSw; obtain ⟨s0, s1, s2, s3, s4, s5, s6, s7, s8, s9⟩ := hSw; (try simp only [List.getElem_toArray, List.getElem_cons_succ, List.getElem_cons_zero]); go_simp; try with_reducible rfl)
          try simp only [List.getElem_toArray, List.getElem_cons_succ, List.getElem_cons_zero, Act.put, List.setIfInBounds_toArray, List.set_cons_zero, List.set_cons_succ]
          refine wpAnyHT_take (i := 4) (oi := _) (v := ?_) (by kernel_rfl) rfl (by kernel_rfl) (by kernel_rfl) (by kernel_rfl) (by kernel_rfl) (fun _ _ _ h => h) (Or.inl ⟨by rfl, ?_⟩) (HS0.out _ (Frm.refl [] _).drew) ?_
          rotate_left 1
          · (intro W hSw; obtain ⟨s0, s1, s2, s3, s4, s5, s6, s7, s8, s9⟩ := hSw; (try simp only [List.getElem_toArray, List.getElem_cons_succ, List.getElem_cons_zero]); go_simp; try with_reducible rfl)
          try simp only [List.getElem_toArray, List.getElem_cons_succ, List.getElem_cons_zero, Act.put, List.setIfInBounds_toArray, List.set_cons_zero, List.set_cons_succ]
          refine wpAnyHT_take (i := 5) (oi := _) (v := ?_) (by kernel_rfl) rfl (by kernel_rfl) (by kernel_rfl) (by kernel_rfl) (by kernel_rfl) (fun _ _ _ h => h) (Or.inl ⟨by rfl, ?_⟩) (HS0.out _ (Frm.refl [] _).drew) ?_
          rotate_left 1
          · (intro W hSw; obtain ⟨s0, s1, s2, s3, s4, s5, s6, s7, s8, s9⟩ := hSw; (try simp only [List.getElem_toArray, List.getElem_cons_succ, List.getElem_cons_zero]); go_simp; try with_reducible rfl)
          try simp only [List.getElem_toArray, List.getElem_cons_succ, List.getElem_cons_zero, Act.put, List.setIfInBounds_toArray, List.set_cons_zero, List.set_cons_succ]
          refine wpAnyHT_take (i := 8) (oi := _) (v := ?_) (by kernel_rfl) rfl (by kernel_rfl) (by kernel_rfl) (by kernel_rfl) (by kernel_rfl) (fun _ _ _ h => h) (Or.inl ⟨by rfl, ?_⟩) (HS0.out _ (Frm.refl [] _).drew) ?_
          rotate_left 1
          · (intro W hSw; obtain ⟨s0, s1, s2, s3, s4, s5, s6, s7, s8, s9⟩ := hSw; (try simp only [List.getElem_toArray, List.getElem_cons_succ, List.getElem_cons_zero]); go_simp; try with_reducible rfl)
          try simp only [List.getElem_toArray, List.getElem_cons_succ, List.getElem_cons_zero, Act.put, List.setIfInBounds_toArray, List.set_cons_zero, List.set_cons_succ]
          refine wpAnyHT_two (i := 6) (j := 10) rfl rfl (by kernel_rfl) (by kernel_rfl) (by kernel_rfl) (fun K hK => ?_) (fun K hK => ?_)
          · try simp only [List.getElem_toArray, List.getElem_cons_succ, List.getElem_cons_zero]
            go_simp
            refine (HNU.out _ (Frm.refl [] _).drew).mono ?_
            rintro e w8 ⟨rfl, hf8⟩
            refine hK _ _ (HDKE.out _ _ (HS0.out _ (Frm.refl [] _).drew) hf8) ?_
            clear hK K
            refine wpAnyHT_take (i := 7) (oi := _) (v := ?_) (by kernel_rfl) rfl (by kernel_rfl) (by kernel_rfl) (by kernel_rfl) (by kernel_rfl) (fun _ _ _ h => h) (Or.inl ⟨by rfl, ?_⟩) (HDKE.out _ _ (HS0.out _ (Frm.refl [] _).drew) hf8) ?_
            rotate_left 1
            · (intro W hSw; obtain ⟨s0, s1, s2, s3, s4, s5, s6, s7, s8, s9⟩ := hSw; (try simp only [List.getElem_toArray, List.getElem_cons_succ, List.getElem_cons_zero]); go_simp; try with_reducible rfl)
            try simp only [List.getElem_toArray, List.getElem_cons_succ, List.getElem_cons_zero, Act.put, List.setIfInBounds_toArray, List.set_cons_zero, List.set_cons_succ]
            refine wpAnyHT_take (i := 9) (oi := _) (v := ?_) (by kernel_rfl) rfl (by kernel_rfl) (by kernel_rfl) (by kernel_rfl) (by kernel_rfl) (fun _ _ _ h => h) (Or.inl ⟨by rfl, ?_⟩) (HDKE.out _ _ (HS0.out _ (Frm.refl [] _).drew) hf8) ?_
            rotate_left 1
            · (intro W hSw; obtain ⟨s0, s1, s2, s3, s4, s5, s6, s7, s8, s9⟩ := hSw; (try simp only [List.getElem_toArray, List.getElem_cons_succ, List.getElem_cons_zero]); go_simp; try with_reducible rfl)
            try simp only [List.getElem_toArray, List.getElem_cons_succ, List.getElem_cons_zero, Act.put, List.setIfInBounds_toArray, List.set_cons_zero, List.set_cons_succ]
            refine wpAnyHT_one (i := 10) rfl (by kernel_rfl) (by kernel_rfl) (fun K hK => ?_)
            try simp only [List.getElem_toArray, List.getElem_cons_succ, List.getElem_cons_zero]
            go_simp
            refine hK _ _ (HDKE.out _ _ (HDKE.out _ _ (HS0.out _ (Frm.refl [] _).drew) hf8) ((Frm.refl [rb] _).alloc _)) ?_
            clear hK K
            try simp only [List.getElem_toArray, List.getElem_cons_succ, List.getElem_cons_zero, Act.put, List.setIfInBounds_toArray, List.set_cons_zero, List.set_cons_succ]
            refine wpAnyHT_end (by kernel_rfl) ?_
            simp only [List.drop_succ_cons, List.drop_zero]
            go_wp2_with fail
            go_meet
            exact ⟨_, rfl, hid ⟨heap_alloc_to _ _ rfl, (((Frm.refl [rb] w7).drew.trans hf8 (fun i hi _ => hi)).alloc _)⟩⟩
          · try simp only [List.getElem_toArray, List.getElem_cons_succ, List.getElem_cons_zero]
            go_simp
            refine hK _ _ (HS0.out _ ((Frm.refl [] _).drew.alloc _)) ?_
            clear hK K
            try simp only [List.getElem_toArray, List.getElem_cons_succ, List.getElem_cons_zero, Act.put, List.setIfInBounds_toArray, List.set_cons_zero, List.set_cons_succ]
            refine wpAnyHT_one (i := 6) rfl (by kernel_rfl) (by kernel_rfl) (fun K hK => ?_)
            try simp only [List.getElem_toArray, List.getElem_cons_succ, List.getElem_cons_zero]
            go_simp
            refine (HNU.out _ ((Frm.refl [] _).drew.alloc _)).mono ?_
            rintro e w8 ⟨rfl, hf8⟩
            refine hK _ _ (HDKE.out _ _ (HS0.out _ ((Frm.refl [] _).drew.alloc _)) hf8) ?_
            clear hK K
            refine wpAnyHT_take (i := 7) (oi := _) (v := ?_) (by kernel_rfl) rfl (by kernel_rfl) (by kernel_rfl) (by kernel_rfl) (by kernel_rfl) (fun _ _ _ h => h) (Or.inl ⟨by rfl, ?_⟩) (HDKE.out _ _ (HS0.out _ ((Frm.refl [] _).drew.alloc _)) hf8) ?_
            rotate_left 1
            · (intro W hSw; obtain ⟨s0, s1, s2, s3, s4, s5, s6, s7, s8, s9⟩ := hSw; (try simp only [List.getElem_toArray, List.getElem_cons_succ, List.getElem_cons_zero]); go_simp; try with_reducible rfl)
            try simp only [List.getElem_toArray, List.getElem_cons_succ, List.getElem_cons_zero, Act.put, List.setIfInBounds_toArray, List.set_cons_zero, List.set_cons_succ]
            refine wpAnyHT_take (i := 9) (oi := _) (v := ?_) (by kernel_rfl) rfl (by kernel_rfl) (by kernel_rfl) (by kernel_rfl) (by kernel_rfl) (fun _ _ _ h => h) (Or.inl ⟨by rfl, ?_⟩) (HDKE.out _ _ (HS0.out _ ((Frm.refl [] _).drew.alloc _)) hf8) ?_
            rotate_left 1
            · (intro W hSw; obtain ⟨s0, s1, s2, s3, s4, s5, s6, s7, s8, s9⟩ := hSw; (try simp only [List.getElem_toArray, List.getElem_cons_succ, List.getElem_cons_zero]); go_simp; try with_reducible rfl)
            try simp only [List.getElem_toArray, List.getElem_cons_succ, List.getElem_cons_zero, Act.put, List.setIfInBounds_toArray, List.set_cons_zero, List.set_cons_succ]
            have hrow : w8.heap[w7.heap.size]? = some (.cells sl0.arr 48 (0, 0)) := hf8.heap (heap_alloc_to w7.drew (.cells #[.bool false, .int .i64 0, .int .i64 0, .int .i64 0, .int .i64 0, .int .u64 0, .int .i64 0, .int .u64 0, .int .u64 0, .int .u64 0, .int .u64 0] 48) rfl) (by have := HRB.out.1; have := HF7.out.size; simp; omega)
            obtain ⟨y0, y1, y2, y3, y4, y5, y6, y7, y8, y9, y10⟩ := sl_cells (s := sl0) hrow
            obtain ⟨f0, f1, f2, f3, f4, f5, f6, f7, f8, f9, f10⟩ := sl_froz hrow
            simp only [sl0, zero9] at y0 y1 y2 y3 y4 y5 y6 y7 y8 y9 y10
            refine wpAnyHT_end (by kernel_rfl) ?_
            simp only [List.drop_succ_cons, List.drop_zero]
            go_wp2_with fail
            have hst := st11_row ⟨(b0 == 1), N, ⟨a0, a1, a2, a3, a4, a5, a6, a7, a8⟩⟩ sl0 hrow
            obtain ⟨wz, hwz⟩ : ∃ wz, st11 w8 w7.heap.size ⟨(b0 == 1), N, ⟨a0, a1, a2, a3, a4, a5, a6, a7, a8⟩⟩ = wz := ⟨_, rfl⟩
            rw [hwz] at hst
            have hwz' : (((((((((((w8.setCell ⟨w7.heap.size, 0, none⟩ (.bool (b0 == 1))).setCell ⟨w7.heap.size, 1, none⟩ (.int .i64 N)).setCell ⟨w7.heap.size, 2, none⟩ (.int .i64 a0)).setCell ⟨w7.heap.size, 3, none⟩ (.int .i64 a1)).setCell ⟨w7.heap.size, 4, none⟩ (.int .i64 a2)).setCell ⟨w7.heap.size, 5, none⟩ (.int .u64 a3)).setCell ⟨w7.heap.size, 6, none⟩ (.int .i64 a4)).setCell ⟨w7.heap.size, 7, none⟩ (.int .u64 a5)).setCell ⟨w7.heap.size, 8, none⟩ (.int .u64 a6)).setCell ⟨w7.heap.size, 9, none⟩ (.int .u64 a7)).setCell ⟨w7.heap.size, 10, none⟩ (.int .u64 a8)) = wz := hwz
            rw [hwz']
            go_meet
            exact ⟨_, rfl, hid ⟨hst.1, ((((Frm.refl [rb] w7).drew.alloc _).trans hf8 (fun i hi _ => hi)).trans hst.2 (fun i hi hl => by simp at hi; omega))⟩⟩
        obtain ⟨bb, rfl, hbb⟩ := hcut
        have HBB9 := hid hbb.out.1
        have HF9 := hid hbb.out.2
        clear hbb HDKE HS0 HNU hwn hwn2
        have HFW : Hid (Frm [] w wc) := hid (HF0.out.trans HF9.out (fun i hi hl => by have := HRB.out.2; have := HIN.out.1.size; simp at hi; omega))
        obtain ⟨z0, z1, z2, z3, z4, z5, z6, z7, z8, z9, z10⟩ := sl_cells (s := ⟨decide (b0 = 1), N, ⟨a0, a1, a2, a3, a4, a5, a6, a7, a8⟩⟩) HBB9.out
        simp only at z0 z1 z2 z3 z4 z5 z6 z7 z8 z9 z10
        have hmy := refMay_any ⟨decide (b0 = 1), N, ⟨a0, a1, a2, a3, a4, a5, a6, a7, a8⟩⟩ wc
        obtain ⟨M, hM⟩ : ∃ M, mayS ⟨decide (b0 = 1), N, ⟨a0, a1, a2, a3, a4, a5, a6, a7, a8⟩⟩ = M := ⟨_, rfl⟩
        rw [hM] at hmy
        unfold Sl.arr Sl.row at hmy
        simp only at hmy
        have HMY := hid hmy
        have HSP : Hid (slotP x = ⟨decide (b0 = 1), N, ⟨a0, a1, a2, a3, a4, a5, a6, a7, a8⟩⟩) := hid (by unfold slotP; rw [HBB.out.1, HN.out, HV.out])
        have HSE : Hid (slotE x = (decide (E = 0) && (M && (decide (b0 ≤ 1) && (decide (b1 = 0) && (decide (b2 = 0) && decide (b3 = 0))))))) := hid (by
          rw [slotE_ref HXL.out HXZ.out]
          unfold slotR
          rw [HSP.out, hM, HV.out, HBB.out.1, HBB.out.2.1, HBB.out.2.2.1, HBB.out.2.2.2])
        clear hmy hM
        go_wp2_with fail
        refine HMY.out.mono ?_
        rintro e w10 ⟨rfl, hf10⟩
        have HF10 := hid (HFW.out.trans hf10 (by simp))
        have HB10 := hid (hf10.heap HBB9.out (by simp))
        have HQB : Hid (Frm [rb] wr w10) := hid (((((HF5.out.trans HF7.out (by simp)).mono (by simp) : Frm [rb] wr w7).trans HF9.out (fun i hi _ => hi)).trans hf10 (by simp)))
        obtain ⟨c0, c1, c2, c3⟩ := HCE.out w10 HF10.out
        clear hf10 z0 z1 z2 z3 z4 z5 z6 z7 z8 z9 z10 HMY
        obtain ⟨BAD, hBAD⟩ : ∃ z, (!slotE x) = z := ⟨_, rfl⟩
        have HBAD := hid hBAD
        clear hBAD
        have HBX : Hid (BAD = !(decide (E = 0) && (M && (decide (b0 ≤ 1) && (decide (b1 = 0) && (decide (b2 = 0) && decide (b3 = 0))))))) := hid (by rw [← HBAD.out, HSE.out])
        go_upto_region 11 with fail
        go_cut [91] from 20 to 95 (fun v wx => v = .bool BAD ∧ wx = w10)
        case first =>
          by_cases h0 : E = 0
          case neg =>
            have g0 : (E == 0) = false := by simpa using h0
            have g1 : (E != 0) = true := by simpa using h0
            go_wp2_with fail
            go_meet
            case rel => exact ⟨by rw [HBX.out]; simp [h0], rfl⟩
          subst h0
          cases M
          · go_wp2_with fail
            go_meet
            case rel => exact ⟨by rw [HBX.out]; rfl, rfl⟩
          by_cases h1 : b0 ≤ 1
          case neg =>
            have g0 : decide (1 < b0) = true := decide_eq_true (by omega)
            have g1 : 1 < b0 := by omega
            go_wp2_with fail
            go_meet
            case rel => exact ⟨by rw [HBX.out]; simp <;> omega, rfl⟩
          have g0 : decide (1 < b0) = false := decide_eq_false (by omega)
          by_cases h2 : b1 = 0
          case neg =>
            have g2 : (b1 == 0) = false := by simpa using h2
            have g3 : (b1 != 0) = true := by simpa using h2
            go_wp2_with fail
            go_meet
            case rel => exact ⟨by rw [HBX.out]; simp [h2], rfl⟩
          have g2 : (b1 == 0) = true := by simpa using h2
          have g3 : (b1 != 0) = false := by simpa using h2
          by_cases h3 : b2 = 0
          case neg =>
            have g4 : (b2 == 0) = false := by simpa using h3
            have g5 : (b2 != 0) = true := by simpa using h3
            have H2 := hid h2
            clear h2
            go_wp2_with fail
            go_meet
            case rel => exact ⟨by rw [HBX.out]; simp [h3], rfl⟩
          have g4 : (b2 == 0) = true := by simpa using h3
          have g5 : (b2 != 0) = false := by simpa using h3
          by_cases h4 : b3 = 0
          case neg =>
            have g6 : (b3 == 0) = false := by simpa using h4
            have g7 : (b3 != 0) = true := by simpa using h4
            have H2 := hid h2
            have H3 := hid h3
            clear h2 h3
            go_wp2_with fail
            go_meet
            case rel => exact ⟨by rw [HBX.out]; simp [h4], rfl⟩
          have g6 : (b3 == 0) = true := by simpa using h4
          have g7 : (b3 != 0) = false := by simpa using h4
          have H1 := hid h1
          have H2 := hid h2
          have H3 := hid h3
          have H4 := hid h4
          clear h2 h3 h4
          go_wp2_with fail
          go_meet
          case rel => exact ⟨by rw [HBX.out]; simp [H1.out, H2.out, H3.out, H4.out], rfl⟩
        obtain ⟨rfl, hwc⟩ := hcut
        have hwr := hwc.symm
        clear hwc
        subst hwr
        cases BAD
        case true =>
          have HE : Hid (sltE bs = 120) := hid (by
            unfold sltE
            rw [if_neg HNB.out, if_neg (fun hall => by have h := hall x (List.mem_of_getElem? HZC.out); have h2 := HBAD.out; rw [h] at h2; exact absurd h2 (by decide))])
          go_wp2_with fail
          first | go_returns | skip
          exact HP1.out _ HE.out HF10.out
        case false =>
          have HB : Hid (slotE x = true) := hid (by have h := HBAD.out; simpa using h)
          obtain ⟨z0, z1, z2, z3, z4, z5, z6, z7, z8, z9, z10⟩ := sl_cells (s := ⟨decide (b0 = 1), N, ⟨a0, a1, a2, a3, a4, a5, a6, a7, a8⟩⟩) HB10.out
          simp only at z0 z1 z2 z3 z4 z5 z6 z7 z8 z9 z10
          have HA := hid ((Frm.refl [] w10).alloc (.cells #[.bool (decide (b0 = 1)), .int .i64 N, .int .i64 a0, .int .i64 a1, .int .i64 a2, .int .u64 a3, .int .i64 a4, .int .u64 a5, .int .u64 a6, .int .u64 a7, .int .u64 a8] 48))
          have HRV := hid (rv_block (heap_alloc_new w10 (.cells #[.bool (decide (b0 = 1)), .int .i64 N, .int .i64 a0, .int .i64 a1, .int .i64 a2, .int .u64 a3, .int .i64 a4, .int .u64 a5, .int .u64 a6, .int .u64 a7, .int .u64 a8] 48)))
          have HQL := hid (ownsRow_low HIN.out.2.1)
          have HOW := hid (ownsRow_kept HIN.out.2.1 (HQB.out.trans (HA.out.mono (by simp)) (fun i hi _ => hi)) (fun k hk hm => by rw [List.mem_singleton] at hm; have := HQL.out k hk; have := HRB.out.2; omega))
          go_wp2_with (at_builtin; refine wpList_appV rfl _ _ 42 rfl 48 11 88 _ Try.underlying42 infoSl rfl (by decide) q t cq _ rfl HOW.out (some ⟨w10.heap.size, 0, none⟩) 1 1 [.bool (decide (b0 = 1)), .int .i64 N, .int .i64 a0, .int .i64 a1, .int .i64 a2, .int .u64 a3, .int .i64 a4, .int .u64 a5, .int .u64 a6, .int .u64 a7, .int .u64 a8] rfl rfl (by simp) HRV.out (by intro u hu; simp at hu; rcases hu with rfl | rfl | rfl | rfl | rfl | rfl | rfl | rfl | rfl | rfl | rfl <;> rfl) (by unfold maxLen; omega) (by omega) ?_)
          intro q3 c3 w3 ho3 hf3 hb3
          have HNX : Hid (Frm [] w w3 ∧ w3.ownsRow 0 48 11 (.slice q3 (t + 1) c3) (t + 1) (rowsSl (((cutL 72 bs).take (t + 1)).map slotP)) ∧ (∀ k ∈ blk q3, w.heap.size ≤ k) ∧ ∀ x ∈ (cutL 72 bs).take (t + 1), slotE x = true) := hid (by
            obtain ⟨b1, b2, b3, b4⟩ := HIN.out
            have hz := HF10.out.size
            have hzA := HA.out.size
            refine ⟨(HF10.out.trans HA.out (by simp)).trans hf3.out (fun i hi hl => by have := b3 i hi; omega), ?_, fun i hi => ?_, fun y hy => ?_⟩
            · have h := ho3.out
              rw [HTK.out, List.map_append, rowsSl_app]
              simpa [HSP.out, rowsSl, Sl.row] using h
            · rcases hb3.out i hi with h | h
              · exact b3 i h
              · first | omega | (simp at h; omega)
            · rw [HTK.out] at hy
              rcases List.mem_append.1 hy with hy | hy
              · exact b4 y hy
              · rw [List.mem_singleton] at hy; subst hy; exact HB.out)
          have HA1 : Hid (a + 72 = (t + 1) * 72) := hid (by have := HA0.out; omega)
          clear ho3 hf3 hb3 HOW HRV HA z0 z1 z2 z3 z4 z5 z6 z7 z8 z9 z10
          go_wp2_with fail
          go_roundw
          case rel => exact ⟨t + 1, a + 72, q3, c3, by omega, by omega, by go_num, by go_num, HA1, HNX⟩
          case measure => first | (simp [intOf]; done) | (simp [intOf]; omega)
      · have HT : Hid (t = L / 72) := hid (by have := HA0.out; omega)
        have htk : (cutL 72 bs).take t = cutL 72 bs := List.take_of_length_le (by rw [HCL.out, HT.out]; exact Nat.le_refl _)
        have HE : Hid (sltE bs = 0) := hid (by
          unfold sltE
          rw [if_neg HNB.out, if_pos (fun y hy => HIN.out.2.2.2 y (by rw [htk]; exact hy))])
        have HOW : Hid (wr.ownsRow 0 48 11 (.slice q t cq) t (rowsSl (sltL bs))) := hid (by have h := HIN.out.2.1; rw [htk] at h; exact h)
        have HML : Hid (t = (sltL bs).length) := hid (by unfold sltL; rw [List.length_map, HCL.out, HT.out])
        have HFF := hid HIN.out.1
        have HNN := hid HIN.out.2.2.1
        clear HIN htk
        go_wp2_with fail
        first | go_returns | skip
        exact HP2.out q t cq _ HE.out HOW.out HML.out ht112 HNN.out HFF.out
end
end Go.Proofs.Ytkolbijhekbelaa
