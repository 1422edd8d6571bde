/- tree.Slots. The law's covers. The law's awake: its numbers. What Since tells: pure. -/
import Derived.Test.YtkolbijhekbelaaQan
namespace Go.Proofs.Ytkolbijhekbelaa
section
open Go.RowKit Go.Lib
set_option maxRecDepth 100000

theorem infoSl : (Try.prog.info? 48).map (fun i => (i.zero, i.size, i.bytes)) = some (some (.agg sl0.arr), 11, 88) := by kernel_rfl
theorem pc_full {α : Type} {n : Nat} {l x : List α} (hn : 0 < n) (hd : l.length % n = 0) (h : x ∈ cutL n l) : x.length = n := by
  obtain ⟨i, hi⟩ := List.getElem?_of_mem h
  obtain ⟨rfl, h2⟩ := pc_get hi
  have h3 := np_le hn h2
  unfold pc
  rw [List.length_take, List.length_drop]
  obtain ⟨k, hk⟩ := Nat.dvd_of_mod_eq_zero hd
  rw [hk] at h3 ⊢
  have h4 : i + 1 ≤ k := by
    rw [Nat.mul_comm i n] at h3
    exact Nat.lt_of_mul_lt_mul_left h3
  have h5 : n * (i + 1) ≤ n * k := Nat.mul_le_mul_left n h4
  rw [Nat.mul_add, Nat.mul_one] at h5
  rw [Nat.mul_comm i n]
  omega
def badT (bs : List Int) : Prop := bs.length % 72 ≠ 0 ∨ 8064 < bs.length
instance (bs : List Int) : Decidable (badT bs) := by unfold badT; infer_instance
/-- What Slots answers: an error, or slots. -/
def sltE (bs : List Int) : Int := if badT bs then 120 else if ∀ x ∈ cutL 72 bs, slotE x = true then 0 else 120
def sltL (bs : List Int) : List Sl := (cutL 72 bs).map slotP
def SltA (w : World) (bs : List Int) (e : Ending) (w' : World) : Prop := Frm [] w w' ∧ ((sltE bs = 120 ∧ e = .returned (.tuple #[.slice none 0 0, .int .i64 120])) ∨ (sltE bs = 0 ∧ ∃ q m cq, e = .returned (.tuple #[.slice q m cq, .int .i64 0]) ∧ w'.ownsRow 0 48 11 (.slice q m cq) m (rowsSl (sltL bs)) ∧ m = (sltL bs).length ∧ m ≤ 112 ∧ ∀ k ∈ blk q, w.heap.size ≤ k))
set_option maxHeartbeats 12800000 in
theorem slots_any (p : Option Addr) (L c : Nat) (bs : List Int) (w : World) (hr : Rd w p bs) (hL : bs.length = L) (hb : L ≤ 140737488351232) (hc : L ≤ c ∧ c ≤ 9223372036854775807) (hz : ∀ z ∈ bs, 0 ≤ z ∧ z < 256) :
    Calls Try.prog 23 #[.slice p L c] w (SltA w bs) := by
  obtain ⟨PO, hPO⟩ : ∃ PO : Ending → World → Prop, SltA w bs = PO := ⟨_, rfl⟩
  rw [hPO]
  have HP1 : Hid (∀ w', sltE bs = 120 → Frm [] w w' → PO (.returned (.tuple #[.slice none 0 0, .int .i64 120])) w') := hid (fun w' h1 h3 => by rw [← hPO]; exact ⟨h3, Or.inl ⟨h1, rfl⟩⟩)
  have HP2 : Hid (∀ q m cq w', sltE bs = 0 → w'.ownsRow 0 48 11 (.slice q m cq) m (rowsSl (sltL bs)) → m = (sltL bs).length → m ≤ 112 → (∀ k ∈ blk q, w.heap.size ≤ k) → Frm [] w w' → PO (.returned (.tuple #[.slice q m cq, .int .i64 0])) w') := hid (fun q m cq w' h1 h2 h3 h4 h5 h6 => by rw [← hPO]; exact ⟨h6, Or.inr ⟨h1, q, m, cq, rfl, h2, h3, h4, h5⟩⟩)
  have HL := hid hL
  have HZ := hid hz
  by_cases hbad : badT bs
  · have HE : Hid (sltE bs = 120) := hid (by unfold sltE; rw [if_pos hbad])
    have HBAD := hid hbad
    obtain ⟨hc0, hc1⟩ := hc
    clear hr hL hz hPO hbad
    by_cases h2 : L % 72 = 0
    · have h1 : 8064 < L := by
        rcases HBAD.out with h | h <;> rw [HL.out] at h <;> omega
      have h2c : ((L : Int) % 72 == 0) = true := by simp; omega
      have h2d : ((L : Int) % 72 != 0) = false := by simp; omega
      have htm : (L : Int).tmod 72 = ((L % 72 : Nat) : Int) := by rw [Int.tmod_eq_emod_of_nonneg (by omega)]; omega
      have h2e : ((L : Int).tmod 72 != 0) = false := by rw [htm, h2]; rfl
      clear htm
      go_enter Try.func23, Try.ntmps23
      go_wp2_with fail
      first | go_returns | skip
      exact HP1.out _ HE.out (Frm.refl _ _)
    · have h2b : (((L : Int) % 72) != 0) = true := by simp; omega
      have h2c : ((L : Int) % 72 == 0) = false := by simp; omega
      have htm : (L : Int).tmod 72 = ((L % 72 : Nat) : Int) := by rw [Int.tmod_eq_emod_of_nonneg (by omega)]; omega
      have h2d : ((L : Int).tmod 72 != 0) = true := by rw [htm, bne_iff_ne]; omega
      have h2e : ((L : Int).tmod 72 == 0) = false := by rw [htm, beq_eq_false_iff_ne]; omega
      clear htm
      go_enter Try.func23, Try.ntmps23
      go_wp2_with fail
      first | go_returns | skip
      exact HP1.out _ HE.out (Frm.refl _ _)
  · have hnb : L ≤ 8064 ∧ L % 72 = 0 := by unfold badT at hbad; rw [hL] at hbad; omega
    obtain ⟨hn1, hn2⟩ := hnb
    have HMD := hid hn2
    have HCU := hid (cutb_any 72 (by omega) p L c bs w hr hL hb hc)
    obtain ⟨hc0, hc1⟩ := hc
    have HNB := hid hbad
    have h2c : ((L : Int) % 72 == 0) = true := by simp; omega
    have h2d : ((L : Int) % 72 != 0) = false := by simp; omega
    have htm : (L : Int).tmod 72 = ((L % 72 : Nat) : Int) := by rw [Int.tmod_eq_emod_of_nonneg (by omega)]; omega
    have h2e : ((L : Int).tmod 72 != 0) = false := by rw [htm, hn2]; rfl
    clear htm
    clear hr hL hz hPO hbad
    go_enter Try.func23, Try.ntmps23
    go_wp2_with fail
    refine HCU.out.mono ?_
    rintro e w1 ⟨qp, m, cp, ks, rfl, ho, hks, hf, hnw⟩
    have hmb : m ≤ 112 := by
      rw [← ho.ln, ← List.length_map (f := Bk.bs), hks, cutL_len]
      unfold np
      have := HL.out
      omega
    have HO := hid ho
    have HKS := hid hks
    have HF := hid hf
    have HCL : Hid ((cutL 72 bs).length = m) := hid (by rw [← hks, List.length_map, ho.ln])
    clear ho hks hf hnw HCU h2c h2d h2e
    go_wp2_with fail
    go_loopw [21, 4] (fun i s4 wr => ∃ (t : Nat) (q : Option Addr) (cq : Nat), t ≤ m ∧ i = .int .i64 (t : Int) ∧ s4 = .slice q t cq ∧ Hid (Frm [] w1 wr ∧ wr.ownsRow 0 48 11 (.slice q t cq) t (rowsSl (((cutL 72 bs).take t).map slotP)) ∧ (∀ k ∈ blk q, w1.heap.size ≤ k) ∧ ∀ x ∈ (cutL 72 bs).take t, slotE x = true)) (fun i _ _ => m - (intOf i).toNat)
    case atStart => exact ⟨0, none, 0, Nat.zero_le _, rfl, rfl, hid ⟨Frm.refl _ _, ⟨rfl, Or.inl ⟨rfl, rfl⟩⟩, by simp [blk], by simp⟩⟩
    case round =>
      obtain ⟨t, q, cq, ht, rfl, rfl, hin⟩ := hrel
      by_cases hlt : t < m
      · have t1 : (t : Int) < (m : Int) := by omega
        obtain ⟨x, hx⟩ : ∃ x, ks[t]? = some x := ⟨_, List.getElem?_eq_getElem (by rw [HO.out.ln]; exact hlt)⟩
        obtain ⟨g, cur, rfl, _, hgc⟩ := HO.out.at hx
        have hzc : (cutL 72 bs)[t]? = some x.bs := by rw [← HKS.out, List.getElem?_map, hx]; rfl
        obtain ⟨xne, xle, xin⟩ := cutL_mem (n := 72) (by omega) (List.mem_of_getElem? hzc)
        have xl : x.bs.length = 72 := pc_full (by omega) (by rw [HL.out]; exact HMD.out) (List.mem_of_getElem? hzc)
        have q0 : wr.cell? ⟨g, t, none⟩ = some (.slice x.p x.bs.length x.c) := (hin.out.1.cell (World.block_lt_of_cell? w1 _ hgc) (by simp)).trans hgc
        have hbk := (HO.out.it x (List.mem_of_getElem? hx)).1
        have hsl := slot_any x.p x.c x.bs wr (hbk.rd.kept hin.out.1 (by simp)) xl (by have := hbk.cp; rw [xl] at this; exact this) (fun z hz => HZ.out z (xin z hz))
        rw [xl] at q0
        have HTK : Hid ((cutL 72 bs).take (t + 1) = (cutL 72 bs).take t ++ [x.bs]) := hid (by rw [List.take_add_one, hzc]; rfl)
        have HZC := hid hzc
        unfold SlotA at hsl
        obtain ⟨v, hv⟩ : ∃ z, slotP x.bs = z := ⟨_, rfl⟩
        obtain ⟨B, hB⟩ : ∃ z, slotE x.bs = z := ⟨_, rfl⟩
        rw [hv, hB] at hsl
        have HV := hid hv
        have HB := hid hB
        obtain ⟨u, z, a0, a1, a2, a3, a4, a5, a6, a7, a8⟩ := v
        unfold Sl.arr Sl.row at hsl
        simp only at hsl
        have HSL := hid hsl
        have HIN := hid hin.out
        clear hsl hin hx hgc hzc hv hB xin xne xle xl hbk
        go_wp2_with fail
        refine HSL.out.mono ?_
        rintro e w5 ⟨rfl, hf5⟩
        obtain ⟨w6, hw6⟩ : ∃ zz, w5.alloc (.cells #[.bool u, .int .i64 z, .int .i64 a0, .int .i64 a1, .int .i64 a2, .int .u64 a3, .int .i64 a4, .int .u64 a5, .int .u64 a6, .int .u64 a7, .int .u64 a8] 48) = zz := ⟨_, rfl⟩
        have hf6 : Frm [] w5 w6 := by rw [← hw6]; exact (Frm.refl _ _).alloc _
        obtain ⟨b6, hb6⟩ : ∃ zz, w5.heap.size = zz := ⟨_, rfl⟩
        have hrow6 : w6.heap[b6]? = some (.cells (Sl.arr ⟨u, z, ⟨a0, a1, a2, a3, a4, a5, a6, a7, a8⟩⟩) 48 (0, 0)) := by rw [← hw6]; exact heap_alloc_to _ _ hb6
        obtain ⟨y0, y1, y2, y3, y4, y5, y6, y7, y8, y9, y10⟩ := sl_cells hrow6
        simp only at y0 y1 y2 y3 y4 y5 y6 y7 y8 y9 y10
        have HF6 := hid (hf5.trans hf6 (by simp))
        have HW6 := hid hw6
        have HB6 := hid hb6
        clear hf5 hf6 hrow6 hw6 hb6 HSL
        cases B
        · have HE : Hid (sltE bs = 120) := hid (by
            unfold sltE
            rw [if_neg HNB.out, if_neg (fun hall => by have h := hall x.bs (List.mem_of_getElem? HZC.out); rw [HB.out] at h; exact absurd h (by decide))])
          have HFF := hid ((HF.out.trans HIN.out.1 (by simp)).trans HF6.out (by simp))
          go_wp2_with fail
          rw [HW6.out]
          first | go_returns | skip
          exact HP1.out _ HE.out HFF.out
        · go_upto_region 10 with fail
          rw [HB6.out, HW6.out]
          clear HW6 HB6
          have HA := hid ((Frm.refl [] w6).alloc (.cells #[.bool u, .int .i64 z, .int .i64 a0, .int .i64 a1, .int .i64 a2, .int .u64 a3, .int .i64 a4, .int .u64 a5, .int .u64 a6, .int .u64 a7, .int .u64 a8] 48))
          have HRV := hid (rv_block (heap_alloc_new w6 (.cells #[.bool u, .int .i64 z, .int .i64 a0, .int .i64 a1, .int .i64 a2, .int .u64 a3, .int .i64 a4, .int .u64 a5, .int .u64 a6, .int .u64 a7, .int .u64 a8] 48)))
          have HOW := hid (ownsRow_kept HIN.out.2.1 (HF6.out.trans HA.out (by simp)) (by simp))
          go_wp2_with (at_builtin; refine wpList_appV rfl _ _ 42 rfl 48 11 88 _ Try.underlying42 infoSl rfl (by decide) q t cq _ rfl HOW.out (some ⟨w6.heap.size, 0, none⟩) 1 1 [.bool u, .int .i64 z, .int .i64 a0, .int .i64 a1, .int .i64 a2, .int .u64 a3, .int .i64 a4, .int .u64 a5, .int .u64 a6, .int .u64 a7, .int .u64 a8] rfl rfl (by simp) HRV.out (by intro u hu; simp at hu; rcases hu with rfl | rfl | rfl | rfl | rfl | rfl | rfl | rfl | rfl | rfl | rfl <;> rfl) (by unfold maxLen; omega) (by omega) ?_)
          intro q3 c3 w3 ho3 hf3 hb3
          have HNX : Hid (Frm [] w1 w3 ∧ w3.ownsRow 0 48 11 (.slice q3 (t + 1) c3) (t + 1) (rowsSl (((cutL 72 bs).take (t + 1)).map slotP)) ∧ (∀ k ∈ blk q3, w1.heap.size ≤ k) ∧ ∀ x ∈ (cutL 72 bs).take (t + 1), slotE x = true) := hid (by
            obtain ⟨b1, b2, b3, b4⟩ := HIN.out
            have hz := b1.size
            have hz6 := HF6.out.size
            have hzA := HA.out.size
            refine ⟨((b1.trans HF6.out (by simp)).trans HA.out (by simp)).trans hf3.out (fun i hi hl => by have := b3 i hi; omega), ?_, fun i hi => ?_, fun y hy => ?_⟩
            · have h := ho3.out
              rw [HTK.out, List.map_append, rowsSl_app]
              simpa [HV.out, rowsSl, Sl.row] using h
            · rcases hb3.out i hi with h | h
              · exact b3 i h
              · first | omega | (simp at h; omega)
            · rw [HTK.out] at hy
              rcases List.mem_append.1 hy with hy | hy
              · exact b4 y hy
              · rw [List.mem_singleton] at hy; subst hy; exact HB.out)
          clear ho3 hf3 hb3 HOW HRV HA y0 y1 y2 y3 y4 y5 y6 y7 y8 y9 y10
          go_wp2_with fail
          go_roundw
          case rel => exact ⟨t + 1, q3, c3, by omega, by go_num, by go_num, HNX⟩
          case measure => first | (simp [intOf]; done) | (simp [intOf]; omega)
      · obtain rfl : t = m := by omega
        have htk : (cutL 72 bs).take t = cutL 72 bs := List.take_of_length_le (by rw [HCL.out]; exact Nat.le_refl _)
        have HE : Hid (sltE bs = 0) := hid (by
          unfold sltE
          rw [if_neg HNB.out, if_pos (fun y hy => hin.out.2.2.2 y (by rw [htk]; exact hy))])
        have HOW : Hid (wr.ownsRow 0 48 11 (.slice q t cq) t (rowsSl (sltL bs))) := hid (by have h := hin.out.2.1; rw [htk] at h; exact h)
        have HML : Hid (t = (sltL bs).length) := hid (by unfold sltL; rw [List.length_map, HCL.out])
        have HFF := hid (HF.out.trans hin.out.1 (by simp))
        have HNN := hid (fun k hk => by have := hin.out.2.2.1 k hk; have := HF.out.size; exact (show w.heap.size ≤ k by omega))
        clear hin htk
        go_wp2_with fail
        first | go_returns | skip
        exact HP2.out q t cq _ HE.out HOW.out HML.out hmb HNN.out HFF.out
end
section
open Go.RowKit Go.Lib
set_option maxRecDepth 100000

/-- Is a number told by spans? -/
def covL (l : List Sp) (at_ : Int) : Bool := l.any (fun x => decide (x.a ≤ at_) && decide (at_ < x.a + x.m))
set_option maxHeartbeats 6400000 in
theorem covers_any (p : Option Addr) (L c : Nat) (l : List Sp) (at_ : Int) (w : World) (hr : Rv w p (rowS l)) (hL : l.length = L) (hb : L ≤ 1954687338212) (hx : ∀ x ∈ l, 0 ≤ x.a ∧ 1 ≤ x.m ∧ x.a + x.m ≤ 9007199254740992) :
    Calls Try.prog 28 #[.slice p L c, .int .i64 at_] w fun e w' => e = .returned (.bool (covL l at_)) ∧ Frm [] w w' := by
  obtain ⟨PO, hPO⟩ : ∃ PO : Ending → World → Prop, (fun e w' => e = .returned (.bool (covL l at_)) ∧ Frm [] w w') = PO := ⟨_, rfl⟩
  rw [hPO]
  have HP : Hid (∀ b w', covL l at_ = b → Frm [] w w' → PO (.returned (.bool b)) w') := hid (fun b w' h1 h2 => by rw [← hPO]; exact ⟨by rw [h1], h2⟩)
  have HR := hid hr
  have HL := hid hL
  have HX := hid hx
  clear hr hL hx hPO
  go_enter Try.func28, Try.ntmps28
  go_wp2_with fail
  go_loopw [5] (fun i wr => ∃ (t : Nat), t ≤ L ∧ i = .int .i64 (t : Int) ∧ Hid (Frm [] w wr ∧ covL (l.take t) at_ = false)) (fun i _ => L - (intOf i).toNat)
  case atStart => exact ⟨0, Nat.zero_le _, rfl, hid ⟨Frm.refl _ _, rfl⟩⟩
  case round =>
    obtain ⟨t, ht, rfl, hin⟩ := hrel
    have HIN := hid hin.out
    clear hin
    by_cases hlt : t < L
    · have t1 : (t : Int) < (L : Int) := by omega
      obtain ⟨x, hv⟩ : ∃ v, l[t]? = some v := ⟨_, List.getElem?_eq_getElem (by rw [HL.out]; exact hlt)⟩
      have hvm := List.mem_of_getElem? hv
      obtain ⟨hx0, hx1, hx2⟩ := HX.out x hvm
      have HTK : Hid (l.take (t + 1) = l.take t ++ [x]) := hid (by rw [List.take_add_one, hv]; rfl)
      have hrr := HR.out
      rcases hrr with h0 | ⟨g, o, rfl, hcs⟩
      · exact absurd (rowS_get l t x hv).1 (by rw [h0]; simp)
      have r0 : wr.cell? ⟨g, o + t * 2, none⟩ = some (.int .i64 x.a) := (HIN.out.1.cell (World.block_lt_of_cell? w _ (hcs (t * 2) _ (rowS_get l t x hv).1)) (by simp)).trans (hcs (t * 2) _ (rowS_get l t x hv).1)
      have r1 : wr.cell? ⟨g, o + t * 2 + 1, none⟩ = some (.int .i64 x.m) := by
        have h := hcs (t * 2 + 1) _ (rowS_get l t x hv).2
        rw [← Nat.add_assoc] at h
        exact (HIN.out.1.cell (World.block_lt_of_cell? w _ h) (by simp)).trans h
      have HVM := hid hvm
      obtain ⟨xa, xm⟩ := x
      simp only at hx0 hx1 hx2 r0 r1
      have hws : wrap64 (xa + xm) = xa + xm := by unfold wrap64; omega
      have hws2 : IntKind.i64.wrap (xa + xm) = xa + xm := by rw [IntKind.wrap_i64]; omega
      clear hv hvm hcs
      by_cases h1 : xa ≤ at_
      · have hd1 : decide (xa ≤ at_) = true := decide_eq_true h1
        by_cases h2 : at_ < xa + xm
        · have hd2 : decide (at_ < xa + xm) = true := decide_eq_true h2
          have HC : Hid (covL l at_ = true) := hid (by unfold covL; rw [List.any_eq_true]; exact ⟨_, HVM.out, by simp [h1, h2]⟩)
          go_upto_region 4 with fail
          go_quiet (fail)
          have HFQ : Hid (Frm [] w (wr.drewN nq)) := hid (HIN.out.1.drewN nq)
          generalize wr.drewN nq = wq at *
          go_wp2_with fail
          first | go_returns | skip
          exact HP.out _ _ HC.out HFQ.out
        · have hd2 : decide (at_ < xa + xm) = false := decide_eq_false h2
          have HC : Hid (covL (l.take (t + 1)) at_ = false) := hid (by
            have h := HIN.out.2
            unfold covL at h ⊢
            rw [HTK.out, List.any_append, h]
            simp [h2])
          clear h2
          go_upto_region 4 with fail
          go_quiet (fail)
          have HFQ : Hid (Frm [] w (wr.drewN nq)) := hid (HIN.out.1.drewN nq)
          generalize wr.drewN nq = wq at *
          go_wp2_with fail
          go_roundw
          case rel => exact ⟨t + 1, by omega, by go_num, hid ⟨HFQ.out, HC.out⟩⟩
          case measure => first | (simp [intOf]; done) | (simp [intOf]; omega)
      · have hd1 : decide (xa ≤ at_) = false := decide_eq_false h1
        have HC : Hid (covL (l.take (t + 1)) at_ = false) := hid (by
          have h := HIN.out.2
          unfold covL at h ⊢
          rw [HTK.out, List.any_append, h]
          simp [h1])
        clear h1
        go_upto_region 4 with fail
        go_quiet (fail)
        have HFQ : Hid (Frm [] w (wr.drewN nq)) := hid (HIN.out.1.drewN nq)
        generalize wr.drewN nq = wq at *
        go_wp2_with fail
        go_roundw
        case rel => exact ⟨t + 1, by omega, by go_num, hid ⟨HFQ.out, HC.out⟩⟩
        case measure => first | (simp [intOf]; done) | (simp [intOf]; omega)
    · obtain rfl : t = L := by omega
      have HC : Hid (covL l at_ = false) := hid (by have h := HIN.out.2; rw [List.take_of_length_le (by rw [HL.out]; exact Nat.le_refl _)] at h; exact h)
      go_wp2_with fail
      first | go_returns | skip
      exact HP.out _ _ HC.out HIN.out.1
end
section
open Go.RowKit Go.Lib
set_option maxRecDepth 100000

def pT : P9 := ⟨0, 0, 3, 5, 1, 0, 0, 0, 0⟩
def sT : Sl := ⟨true, 3, pT⟩
theorem pT_ok : pT.ok := ⟨by decide, by decide, by decide, by decide, by decide⟩
def bT : List Int := List.replicate 1024 0 ++ [7]
theorem bT_len : bT.length = 1025 := by simp [bT]
theorem splitT : splitL bT = [[], [7]] := by kernel_rfl
theorem packT : packE [pT] = 0 ∧ packB [pT] = [ptrB pT] := ⟨by kernel_rfl, by kernel_rfl⟩
theorem unpT : unpE (ptrB pT) = 0 ∧ unpL (ptrB pT) = [pT] := ⟨by kernel_rfl, by kernel_rfl⟩
theorem tabT : tabE [sT] = 0 := by kernel_rfl
theorem sltT : sltE (tabB [sT]) = 0 ∧ sltL (tabB [sT]) = [sT] := ⟨by kernel_rfl, by kernel_rfl⟩
theorem sinT : sinceL 2000 4 [pT] = [⟨0, 1024⟩] := by kernel_rfl
theorem costT : costI 1024 = 3 := by kernel_rfl
theorem blankT : blank bT = false := by kernel_rfl
theorem ptrB_byteT (p : P9) : ∀ z ∈ ptrB p, 0 ≤ z ∧ z < 256 := by
  intro z hz
  unfold ptrB at hz
  rcases List.mem_append.1 hz with hz | hz
  · exact bodyP_byte _ z hz
  · obtain rfl := (List.mem_replicate.1 hz).2; omega
theorem tabB_byte (l : List Sl) : ∀ z ∈ tabB l, 0 ≤ z ∧ z < 256 := by
  intro z hz
  unfold tabB at hz
  obtain ⟨x, hx, hz⟩ := List.mem_flatten.1 hz
  obtain ⟨s, _, rfl⟩ := List.mem_map.1 hx
  exact formS_byte s z hz
theorem two_blk : ∀ ls : List Bk, ls.map Bk.bs = [[], [7]] → ∃ x0 x1 : Bk, ls = [x0, x1] ∧ x0.bs = [] ∧ x1.bs = [7]
  | [], h => by simp at h
  | [_], h => by simp at h
  | [x0, x1], h => by simp at h; exact ⟨x0, x1, rfl, h.1, h.2⟩
  | _ :: _ :: _ :: _, h => by simp at h
theorem one_blk (b : List Int) : ∀ ls : List Bk, ls.map Bk.bs = [b] → ∃ x0 : Bk, ls = [x0] ∧ x0.bs = b
  | [], h => by simp at h
  | [x0], h => by simp at h; exact ⟨x0, rfl, h⟩
  | _ :: _ :: _, h => by simp at h
set_option maxHeartbeats 12800000 in
theorem awakeT_any (w : World) : Calls Try.prog 9 #[] w fun e w' => e = .returned (.bool true) ∧ Frm [] w w' := by
  obtain ⟨PO, hPO⟩ : ∃ PO : Ending → World → Prop, (fun e w' => e = .returned (.bool true) ∧ Frm [] w w') = PO := ⟨_, rfl⟩
  rw [hPO]
  have HP : Hid (∀ w', Frm [] w w' → PO (.returned (.bool true)) w') := hid (fun w' h => by rw [← hPO]; exact ⟨rfl, h⟩)
  clear hPO
  obtain ⟨CZ, hCZ⟩ : ∃ c, (bv (List.replicate 1025 0)).toArray = c := ⟨_, rfl⟩
  obtain ⟨g, hg⟩ : ∃ q, w.heap.size = q := ⟨_, rfl⟩
  obtain ⟨w1, hw1⟩ : ∃ q, w.alloc (.cells CZ 5) = q := ⟨_, rfl⟩
  have hmk : (Instr.makeSlice 22 (.int .i64 1025) (.int .i64 1025)).run Try.prog w = .ok (.slice (some ⟨g, 0, none⟩) 1025 1025) w1 := by
    have h := make_u8 1025 (by omega) w
    rw [hg, hCZ, hw1] at h
    exact h
  have HF1 : Hid (Frm [] w w1) := hid (by rw [← hw1]; exact (Frm.refl _ _).alloc _)
  have HR1 : Hid (w1.heap[g]? = some (.cells (bv (List.replicate 1025 0)).toArray 5 (0, 0))) := hid (by rw [← hw1, hCZ]; exact heap_alloc_to _ _ hg)
  have hz := frozen_of_row w1 g 1024 _ _ HR1.out
  have hy : w1.cell? ⟨g, 1024, none⟩ = some (.int .u8 0) := by rw [cell_of_row w1 _ _ _ _ _ HR1.out]; simp [bv]
  have HR2 : Hid ((w1.setCell ⟨g, 1024, none⟩ (.int .u8 7)).heap[g]? = some (.cells (bv bT).toArray 5 (0, 0))) := hid (by
    rw [heap_setCell_same w1 g 1024 _ _ (.int .u8 7) HR1.out]
    congr 2)
  have HF2 : Hid (Frm [g] w1 (w1.setCell ⟨g, 1024, none⟩ (.int .u8 7))) := hid ((Frm.refl _ _).setCell _ _ (by simp))
  have HG := hid hg
  clear hCZ hg hw1
  go_enter Try.func9, Try.ntmps9
  go_wp2_with fail
  generalize w1.setCell ⟨g, 1024, none⟩ (.int .u8 7) = w2 at *
  refine (split_any (some ⟨g, 0, none⟩) 1025 1025 bT w2 (rd_blockT HR2.out) bT_len (by omega) (by omega)).mono ?_
  rintro e w3 ⟨qs, ms, cs, ls, rfl, hos, hls, hfs, hns⟩
  rw [splitT] at hls
  obtain ⟨x0, x1, rfl, hx0, hx1⟩ := two_blk ls hls
  obtain rfl : ms = 2 := by have := hos.ln; simpa using this.symm
  obtain ⟨gs, curs, rfl, hgs, s0⟩ := hos.at (i := 0) rfl
  obtain ⟨gs', curs', hgs', _, s1⟩ := hos.at (i := 1) rfl
  obtain rfl : gs = gs' := by simpa using hgs'
  rw [hx0] at s0
  rw [hx1] at s1
  simp only [List.length_nil, List.length_cons, Nat.zero_add] at s0 s1
  have HF3 : Hid (Frm [] w w3) := hid ((HF1.out.trans (HF2.out.trans hfs (by simp)) (fun i hi hl => by rw [List.mem_singleton] at hi; have := HG.out; omega)))
  have HGS : Hid (w.heap.size ≤ gs) := hid (by have h1 := hns.1 gs (by simp [blk]); have h2 := HF2.out.size; have h3 := HF1.out.size; omega)
  have hbp : ∀ W, (Instr.build 40 #[(2, .int .i64 3), (3, .int .u64 5), (4, .int .i64 1)]).run Try.prog W = .ok (.agg #[.int .i64 0, .int .i64 0, .int .i64 3, .int .u64 5, .int .i64 1, .int .u64 0, .int .u64 0, .int .u64 0, .int .u64 0]) W := fun W => run_build W _ _ _ (by kernel_rfl)
  obtain ⟨w4, hw4⟩ : ∃ q, w3.alloc (.cells #[.int .i64 0, .int .i64 0, .int .i64 3, .int .u64 5, .int .i64 1, .int .u64 0, .int .u64 0, .int .u64 0, .int .u64 0] 40) = q := ⟨_, rfl⟩
  have hf4 : Frm [] w3 w4 := by rw [← hw4]; exact (Frm.refl _ _).alloc _
  obtain ⟨pb, hpb⟩ : ∃ q, w3.heap.size = q := ⟨_, rfl⟩
  have hrow4 : w4.heap[pb]? = some (.cells #[.int .i64 0, .int .i64 0, .int .i64 3, .int .u64 5, .int .i64 1, .int .u64 0, .int .u64 0, .int .u64 0, .int .u64 0] 40 (0, 0)) := by rw [← hw4]; exact heap_alloc_to _ _ hpb
  have HROW4 := hid hrow4
  have HFS := hid hfs
  have HF4 := hid hf4
  have HW4 := hid hw4
  have HPB := hid hpb
  have HS0 := hid s0
  have HS1 := hid s1
  clear hos hls hgs hgs' hfs hns hf4 hw4 hpb s0 s1 hx0 hx1 hz hy hmk
  go_upto_region 5 with fail
  rw [HPB.out, HW4.out]
  clear HPB HW4
  obtain ⟨y0, y1, y2, y3, y4, y5, y6, y7, y8⟩ := ptr_cells (p := pT) hrow4
  unfold pT at y0 y1 y2 y3 y4 y5 y6 y7 y8
  simp only at y0 y1 y2 y3 y4 y5 y6 y7 y8
  clear hrow4
  go_wp2_with fail
  have HRV := hid (rv_block (heap_alloc_new w4 (.cells #[.int .i64 0, .int .i64 0, .int .i64 3, .int .u64 5, .int .i64 1, .int .u64 0, .int .u64 0, .int .u64 0, .int .u64 0] 40)))
  have HFA := hid ((Frm.refl [] w4).alloc (.cells #[.int .i64 0, .int .i64 0, .int .i64 3, .int .u64 5, .int .i64 1, .int .u64 0, .int .u64 0, .int .u64 0, .int .u64 0] 40))
  refine (pack_any (some ⟨w4.heap.size, 0, none⟩) 1 1 [pT] _ HRV.out rfl (by omega) (by omega) (by intro q hq; rw [List.mem_singleton] at hq; subst hq; exact pT_ok)).mono ?_
  rintro e w5 ⟨hf5, hp⟩
  rcases hp with ⟨hne, _⟩ | ⟨_, qp, mp, cp, lp, rfl, hop, hlp, hnp⟩
  · exact absurd packT.1 hne
  rw [packT.2] at hlp
  obtain ⟨xp, rfl, hxp⟩ := one_blk _ lp hlp
  obtain rfl : mp = 1 := by have := hop.ln; simpa using this.symm
  have hpl : (ptrB pT).length = 64 := ptrB_length _
  obtain ⟨gp, curp, rfl, _, u0⟩ := hop.at (i := 0) rfl
  rw [hxp, hpl] at u0
  have HBKP := hid (hop.it xp (by simp)).1
  have HXP := hid hxp
  have HF5 := hid (HFA.out.trans hf5 (by simp))
  have HU0 := hid u0
  clear hop hlp hnp hf5 hxp hpl HRV y0 y1 y2 y3 y4 y5 y6 y7 y8
  go_upto_region 8 with fail
  go_wp2_with fail
  refine (unpack_any xp.p 64 xp.c (ptrB pT) w5 (by rw [← HXP.out]; exact HBKP.out.rd) (ptrB_length _) (by omega) (by have h := HBKP.out.cp; rw [HXP.out, ptrB_length] at h; exact h) (ptrB_byteT _)).mono ?_
  rintro e w6 ⟨hf6, hp⟩
  rcases hp with ⟨hne, _⟩ | ⟨_, qm, mm, cm, rfl, hom, hml, _, hmn⟩
  · rw [unpT.1] at hne; exact absurd hne (by decide)
  rw [unpT.2] at hom hml
  obtain rfl : mm = 1 := hml
  have HOM := hid hom
  have HF6 := hid ((HF5.out.trans hf6 (by simp)))
  have HF56 := hid hf6
  have HMN := hid hmn
  obtain ⟨y0, y1, y2, y3, y4, y5, y6, y7, y8⟩ := ptr_cells (p := pT) (HF6.out.heap HROW4.out (by simp))
  unfold pT at y0 y1 y2 y3 y4 y5 y6 y7 y8
  simp only at y0 y1 y2 y3 y4 y5 y6 y7 y8
  clear hf6 hom hmn u0
  have hbs : ∀ W, (Instr.build 48 #[(0, .bool true), (1, .int .i64 3), (2, .agg #[.int .i64 0, .int .i64 0, .int .i64 3, .int .u64 5, .int .i64 1, .int .u64 0, .int .u64 0, .int .u64 0, .int .u64 0])]).run Try.prog W = .ok (.agg #[.bool true, .int .i64 3, .int .i64 0, .int .i64 0, .int .i64 3, .int .u64 5, .int .i64 1, .int .u64 0, .int .u64 0, .int .u64 0, .int .u64 0]) W := fun W => run_build W _ _ _ (by kernel_rfl)
  go_upto_region 9 with fail
  go_wp2_with fail
  have HRV := hid (rv_block (heap_alloc_new w6 (.cells #[.bool true, .int .i64 3, .int .i64 0, .int .i64 0, .int .i64 3, .int .u64 5, .int .i64 1, .int .u64 0, .int .u64 0, .int .u64 0, .int .u64 0] 48)))
  have HFA6 := hid ((Frm.refl [] w6).alloc (.cells #[.bool true, .int .i64 3, .int .i64 0, .int .i64 0, .int .i64 3, .int .u64 5, .int .i64 1, .int .u64 0, .int .u64 0, .int .u64 0, .int .u64 0] 48))
  refine (table_any (some ⟨w6.heap.size, 0, none⟩) 1 1 [sT] _ HRV.out rfl (by omega) (by intro q hq; rw [List.mem_singleton] at hq; subst hq; exact pT_ok)).mono ?_
  rintro e w7 ⟨hf7, hp⟩
  rcases hp with ⟨hne, _⟩ | ⟨_, qt, mt, ct, rfl, hmt, hot, hnt⟩
  · exact absurd tabT hne
  obtain rfl : mt = 72 := hmt
  have HF7 := hid (HFA6.out.trans hf7 (by simp))
  have HOT := hid hot
  obtain ⟨hct0, hct1⟩ := owns_cap (show w7.ownsRow 0 5 1 (.slice qt 72 ct) 72 (bv (tabB [sT])) from hot)
  unfold maxLen at hct1
  clear hf7 hot hnt HRV y0 y1 y2 y3 y4 y5 y6 y7 y8
  go_upto_region 10 with fail
  go_wp2_with fail
  refine (slots_any qt 72 ct (tabB [sT]) w7 HOT.out.rd (tabB_len _) (by omega) ⟨hct0, hct1⟩ (tabB_byte _)).mono ?_
  rintro e w8 ⟨hf8, hp⟩
  rcases hp with ⟨hne, _⟩ | ⟨_, qs2, m2, c2, rfl, ho2, hl2, _, hn2⟩
  · rw [sltT.1] at hne; exact absurd hne (by decide)
  rw [sltT.2] at ho2 hl2
  obtain rfl : m2 = 1 := hl2
  have HO2 := hid ho2
  have HF8 := hid ((HF7.out.trans hf8 (by simp)))
  have HF78 := hid hf8
  obtain ⟨y0, y1, y2, y3, y4, y5, y6, y7, y8⟩ := ptr_cells (p := pT) ((HF6.out.trans HF8.out (by simp)).heap HROW4.out (by simp))
  unfold pT at y0 y1 y2 y3 y4 y5 y6 y7 y8
  simp only at y0 y1 y2 y3 y4 y5 y6 y7 y8
  clear hf8 ho2 hn2
  go_upto_region 11 with fail
  go_wp2_with fail
  have HRV := hid (rv_block (heap_alloc_new w8 (.cells #[.int .i64 0, .int .i64 0, .int .i64 3, .int .u64 5, .int .i64 1, .int .u64 0, .int .u64 0, .int .u64 0, .int .u64 0] 40)))
  have HFA8 := hid ((Frm.refl [] w8).alloc (.cells #[.int .i64 0, .int .i64 0, .int .i64 3, .int .u64 5, .int .i64 1, .int .u64 0, .int .u64 0, .int .u64 0, .int .u64 0] 40))
  refine (since_any 2000 4 (some ⟨w8.heap.size, 0, none⟩) 1 1 [pT] _ HRV.out rfl (by omega) (by omega)).mono ?_
  rintro e w9 ⟨qi, ni, ci, rfl, hoi, hf9, _⟩
  rw [sinT] at hoi
  obtain rfl : ni = 1 := hoi.2.symm
  have HF9 := hid (HFA8.out.trans hf9 (by simp))
  have HF39 := hid (((HF4.out.trans HF6.out (by simp)).trans HF8.out (by simp)).trans HF9.out (by simp))
  have HF49 := hid ((HF6.out.trans HF8.out (by simp)).trans HF9.out (by simp))
  have s0 := (HF39.out.cell (World.block_lt_of_cell? _ _ HS0.out) (by simp)).trans HS0.out
  have s1 := (HF39.out.cell (World.block_lt_of_cell? _ _ HS1.out) (by simp)).trans HS1.out
  clear hoi hf9 HRV y0 y1 y2 y3 y4 y5 y6 y7 y8
  go_upto_region 13 with fail
  have hcm : ∃ gm, qm = some ⟨gm, 0, none⟩ ∧ ∀ j u, (rowsP [pT])[j]? = some u → w6.cell? ⟨gm, j, none⟩ = some u := by
    have h := HOM.out
    rcases h.2 with ⟨_, h0⟩ | ⟨gm, c', cur, he, _⟩
    · omega
    · simp only [Value.slice.injEq] at he
      obtain ⟨rfl, _, _⟩ := he
      refine ⟨gm, rfl, fun j u hu => ?_⟩
      rw [World.ownsRow.cellAt h j (by have := (List.getElem?_eq_some_iff.1 hu).1; simpa [rowsP, P9.arr] using this)]
      exact hu
  obtain ⟨gm, rfl, hcm⟩ := hcm
  have hct : ∃ gt, qs2 = some ⟨gt, 0, none⟩ ∧ ∀ j u, (rowsSl [sT])[j]? = some u → w8.cell? ⟨gt, j, none⟩ = some u := by
    have h := HO2.out
    rcases h.2 with ⟨_, h0⟩ | ⟨gm, c', cur, he, _⟩
    · omega
    · simp only [Value.slice.injEq] at he
      obtain ⟨rfl, _, _⟩ := he
      refine ⟨gm, rfl, fun j u hu => ?_⟩
      rw [World.ownsRow.cellAt h j (by have := (List.getElem?_eq_some_iff.1 hu).1; simpa [rowsSl, Sl.row] using this)]
      exact hu
  obtain ⟨gt, rfl, hct⟩ := hct
  have HF69 := hid ((HF7.out.trans HF78.out (by simp)).trans HF9.out (by simp))
  obtain ⟨z0, z1, z2, z3, z4, z5, z6, z7, z8⟩ := ptr_cells (p := pT) HROW4.out
  unfold pT at z0 z1 z2 z3 z4 z5 z6 z7 z8
  simp only at z0 z1 z2 z3 z4 z5 z6 z7 z8
  have m0 : w9.cell? ⟨gm, 0, none⟩ = some (.int .i64 0) := (HF69.out.cell (World.block_lt_of_cell? _ _ (hcm 0 _ rfl)) (by simp)).trans (hcm 0 _ rfl)
  have m1 : w9.cell? ⟨gm, 1, none⟩ = some (.int .i64 0) := (HF69.out.cell (World.block_lt_of_cell? _ _ (hcm 1 _ rfl)) (by simp)).trans (hcm 1 _ rfl)
  have m2 : w9.cell? ⟨gm, 2, none⟩ = some (.int .i64 3) := (HF69.out.cell (World.block_lt_of_cell? _ _ (hcm 2 _ rfl)) (by simp)).trans (hcm 2 _ rfl)
  have m3 : w9.cell? ⟨gm, 3, none⟩ = some (.int .u64 5) := (HF69.out.cell (World.block_lt_of_cell? _ _ (hcm 3 _ rfl)) (by simp)).trans (hcm 3 _ rfl)
  have m4 : w9.cell? ⟨gm, 4, none⟩ = some (.int .i64 1) := (HF69.out.cell (World.block_lt_of_cell? _ _ (hcm 4 _ rfl)) (by simp)).trans (hcm 4 _ rfl)
  have m5 : w9.cell? ⟨gm, 5, none⟩ = some (.int .u64 0) := (HF69.out.cell (World.block_lt_of_cell? _ _ (hcm 5 _ rfl)) (by simp)).trans (hcm 5 _ rfl)
  have m6 : w9.cell? ⟨gm, 6, none⟩ = some (.int .u64 0) := (HF69.out.cell (World.block_lt_of_cell? _ _ (hcm 6 _ rfl)) (by simp)).trans (hcm 6 _ rfl)
  have m7 : w9.cell? ⟨gm, 7, none⟩ = some (.int .u64 0) := (HF69.out.cell (World.block_lt_of_cell? _ _ (hcm 7 _ rfl)) (by simp)).trans (hcm 7 _ rfl)
  have m8 : w9.cell? ⟨gm, 8, none⟩ = some (.int .u64 0) := (HF69.out.cell (World.block_lt_of_cell? _ _ (hcm 8 _ rfl)) (by simp)).trans (hcm 8 _ rfl)
  have t0 : w9.cell? ⟨gt, 2, none⟩ = some (.int .i64 0) := (HF9.out.cell (World.block_lt_of_cell? _ _ (hct 2 _ rfl)) (by simp)).trans (hct 2 _ rfl)
  have t1 : w9.cell? ⟨gt, 3, none⟩ = some (.int .i64 0) := (HF9.out.cell (World.block_lt_of_cell? _ _ (hct 3 _ rfl)) (by simp)).trans (hct 3 _ rfl)
  have t2 : w9.cell? ⟨gt, 4, none⟩ = some (.int .i64 3) := (HF9.out.cell (World.block_lt_of_cell? _ _ (hct 4 _ rfl)) (by simp)).trans (hct 4 _ rfl)
  have t3 : w9.cell? ⟨gt, 5, none⟩ = some (.int .u64 5) := (HF9.out.cell (World.block_lt_of_cell? _ _ (hct 5 _ rfl)) (by simp)).trans (hct 5 _ rfl)
  have t4 : w9.cell? ⟨gt, 6, none⟩ = some (.int .i64 1) := (HF9.out.cell (World.block_lt_of_cell? _ _ (hct 6 _ rfl)) (by simp)).trans (hct 6 _ rfl)
  have t5 : w9.cell? ⟨gt, 7, none⟩ = some (.int .u64 0) := (HF9.out.cell (World.block_lt_of_cell? _ _ (hct 7 _ rfl)) (by simp)).trans (hct 7 _ rfl)
  have t6 : w9.cell? ⟨gt, 8, none⟩ = some (.int .u64 0) := (HF9.out.cell (World.block_lt_of_cell? _ _ (hct 8 _ rfl)) (by simp)).trans (hct 8 _ rfl)
  have t7 : w9.cell? ⟨gt, 9, none⟩ = some (.int .u64 0) := (HF9.out.cell (World.block_lt_of_cell? _ _ (hct 9 _ rfl)) (by simp)).trans (hct 9 _ rfl)
  have t8 : w9.cell? ⟨gt, 10, none⟩ = some (.int .u64 0) := (HF9.out.cell (World.block_lt_of_cell? _ _ (hct 10 _ rfl)) (by simp)).trans (hct 10 _ rfl)
  have y0 := (HF49.out.cell (World.block_lt_of_cell? _ _ z0) (by simp)).trans z0
  have y1 := (HF49.out.cell (World.block_lt_of_cell? _ _ z1) (by simp)).trans z1
  have y2 := (HF49.out.cell (World.block_lt_of_cell? _ _ z2) (by simp)).trans z2
  have y3 := (HF49.out.cell (World.block_lt_of_cell? _ _ z3) (by simp)).trans z3
  have y4 := (HF49.out.cell (World.block_lt_of_cell? _ _ z4) (by simp)).trans z4
  have y5 := (HF49.out.cell (World.block_lt_of_cell? _ _ z5) (by simp)).trans z5
  have y6 := (HF49.out.cell (World.block_lt_of_cell? _ _ z6) (by simp)).trans z6
  have y7 := (HF49.out.cell (World.block_lt_of_cell? _ _ z7) (by simp)).trans z7
  have y8 := (HF49.out.cell (World.block_lt_of_cell? _ _ z8) (by simp)).trans z8
  have HB1 := hid (fun n => blank_any none 0 0 [] (w9.drewN n) (Or.inl rfl) rfl (by omega))
  rw [show blank [] = true from rfl] at HB1
  have HB2 := hid (fun n => blank_any (some ⟨g, 0, none⟩) 1025 1025 bT (w9.drewN n) (((rd_blockT HR2.out).kept (HFS.out.trans HF39.out (by simp)) (by simp)).drewN n) bT_len (by omega))
  rw [blankT] at HB2
  have HCO := hid (fun W => cost_any 1024 W (by omega))
  rw [costT] at HCO
  have heq := fun W => eq9_eql pT pT W
  rw [decide_eq_true (rfl : pT = pT)] at heq
  unfold P9.arr pT at heq
  simp only at heq
  have HFW := hid (HF3.out.trans HF39.out (by simp))
  clear hcm hct z0 z1 z2 z3 z4 z5 z6 z7 z8 s0 s1
  go_quiet ((first | (go_at_call 15; with_reducible exact Calls.quiet_of_same (HCO.out _)) | (go_at_call 13; first | (with_reducible exact Calls.quiet_of_same (HB1.out _)) | (with_reducible exact Calls.quiet_of_same (HB2.out _)))))
  have HFQ := hid (HFW.out.drewN nq)
  generalize w9.drewN nq = wq at *
  go_wp2_with fail
  first | go_returns | skip
  exact HP.out _ HFQ.out
end
section
open Go.RowKit Go.Lib
set_option maxRecDepth 100000

theorem covL_iff (l : List Sp) (x : Int) : covL l x = true ↔ ∃ y ∈ l, y.a ≤ x ∧ x < y.a + y.m := by
  unfold covL
  simp
theorem covL_add {acc : List Sp} (h : ∀ y ∈ acc, 1 ≤ y.m) {at_ m : Int} (hm : 0 ≤ m) (x : Int) : covL (addS acc at_ m) x = true ↔ covL acc x = true ∨ (at_ ≤ x ∧ x < at_ + m) := by
  rcases List.eq_nil_or_concat acc with rfl | ⟨acc', y, rfl⟩
  · unfold addS covL; simp
  · rw [List.concat_eq_append] at h ⊢
    have hy := h y (by simp)
    rw [addS_last, covL_iff, covL_iff]
    split
    · rename_i he
      constructor
      · rintro ⟨z, hz, h1, h2⟩
        rcases List.mem_append.1 hz with hz | hz
        · exact Or.inl ⟨z, by simp [hz], h1, h2⟩
        · rw [List.mem_singleton] at hz; subst hz
          simp only at h1 h2
          rcases Int.lt_or_le x (y.a + y.m) with h3 | h3
          · exact Or.inl ⟨y, by simp, h1, h3⟩
          · exact Or.inr ⟨by omega, by omega⟩
      · rintro (⟨z, hz, h1, h2⟩ | ⟨h1, h2⟩)
        · rcases List.mem_append.1 hz with hz | hz
          · exact ⟨z, by simp [hz], h1, h2⟩
          · rw [List.mem_singleton] at hz; subst hz
            exact ⟨⟨z.a, z.m + m⟩, by simp, h1, by simp only; omega⟩
        · exact ⟨⟨y.a, y.m + m⟩, by simp, by simp only; omega, by simp only; omega⟩
    · constructor
      · rintro ⟨z, hz, h1, h2⟩
        rcases List.mem_append.1 hz with hz | hz
        · exact Or.inl ⟨z, hz, h1, h2⟩
        · rw [List.mem_singleton] at hz; subst hz
          exact Or.inr ⟨h1, h2⟩
      · rintro (⟨z, hz, h1, h2⟩ | ⟨h1, h2⟩)
        · exact ⟨z, List.mem_append_left _ hz, h1, h2⟩
        · exact ⟨⟨at_, m⟩, by simp, h1, h2⟩
theorem addS_pos {acc : List Sp} (h : ∀ y ∈ acc, 1 ≤ y.m) {at_ m : Int} (hm : 1 ≤ m) : ∀ y ∈ addS acc at_ m, 1 ≤ y.m := by
  rcases List.eq_nil_or_concat acc with rfl | ⟨acc', y, rfl⟩
  · intro z hz; unfold addS at hz; simp at hz; subst hz; exact hm
  · rw [List.concat_eq_append] at h ⊢
    have hy := h y (by simp)
    rw [addS_last]
    intro z hz
    split at hz
    · rcases List.mem_append.1 hz with hz | hz
      · exact h z (by simp [hz])
      · rw [List.mem_singleton] at hz; subst hz; simp only; omega
    · rcases List.mem_append.1 hz with hz | hz
      · exact h z hz
      · rw [List.mem_singleton] at hz; subst hz; exact hm
theorem manyI_pos {size : Int} {i : Nat} (h : ¬ size ≤ 1024 * (i : Int)) : 1 ≤ manyI size i ∧ manyI size i ≤ 1024 ∧ 1024 * (i : Int) + manyI size i ≤ size := by
  unfold manyI; split <;> omega
/-- What bytes Since tells. -/
def bornAt (size txg : Int) (i : Nat) (l : List P9) (x : Int) : Prop := ∃ (j : Nat) (p : P9), l[j]? = some p ∧ ¬ (p.zero ∨ p.birth ≤ txg) ∧ 1024 * ((i : Int) + (j : Int)) ≤ x ∧ x < 1024 * ((i : Int) + (j : Int)) + 1024 ∧ x < size
theorem sinceR_cov (size txg x : Int) : ∀ (l : List P9) (i : Nat) (acc : List Sp), (∀ y ∈ acc, 1 ≤ y.m) → (covL (sinceR size txg i l acc) x = true ↔ covL acc x = true ∨ bornAt size txg i l x)
  | [], i, acc, _ => by
    unfold sinceR bornAt
    simp
  | p :: l, i, acc, h => by
    have hc : bornAt size txg i (p :: l) x ↔ (¬ (p.zero ∨ p.birth ≤ txg) ∧ 1024 * (i : Int) ≤ x ∧ x < 1024 * (i : Int) + 1024 ∧ x < size) ∨ bornAt size txg (i + 1) l x := by
      unfold bornAt
      constructor
      · rintro ⟨j, q, hq, h1, h2, h3, h4⟩
        cases j with
        | zero => simp at hq; subst hq; exact Or.inl ⟨h1, by omega, by omega, h4⟩
        | succ j => simp at hq; exact Or.inr ⟨j, q, hq, h1, by omega, by omega, h4⟩
      · rintro (⟨h1, h2, h3, h4⟩ | ⟨j, q, hq, h1, h2, h3, h4⟩)
        · exact ⟨0, p, rfl, h1, by omega, by omega, h4⟩
        · exact ⟨j + 1, q, by simpa using hq, h1, by omega, by omega, h4⟩
    rw [hc]
    unfold sinceR
    split
    · rename_i he
      refine ⟨Or.inl, ?_⟩
      rintro (h1 | ⟨_, h2, _, h4⟩ | ⟨j, q, _, _, h2, _, h4⟩)
      · exact h1
      · omega
      · omega
    · rename_i hne
      split
      · rename_i hs
        rw [sinceR_cov size txg x l (i + 1) acc h]
        constructor
        · rintro (h1 | h1)
          · exact Or.inl h1
          · exact Or.inr (Or.inr h1)
        · rintro (h1 | ⟨h1, _⟩ | h1)
          · exact Or.inl h1
          · exact absurd hs h1
          · exact Or.inr h1
      · rename_i hs
        obtain ⟨m1, m2, m3⟩ := manyI_pos hne
        rw [sinceR_cov size txg x l (i + 1) _ (addS_pos h m1), covL_add h (by omega)]
        have hm : (1024 * (i : Int) ≤ x ∧ x < 1024 * (i : Int) + manyI size i) ↔ (¬ (p.zero ∨ p.birth ≤ txg) ∧ 1024 * (i : Int) ≤ x ∧ x < 1024 * (i : Int) + 1024 ∧ x < size) := by
          constructor
          · rintro ⟨h1, h2⟩; exact ⟨hs, h1, by omega, by omega⟩
          · rintro ⟨_, h1, h2, h3⟩
            refine ⟨h1, ?_⟩
            unfold manyI; split <;> omega
        rw [hm, or_assoc]
theorem since_cov (size txg x : Int) (l : List P9) : covL (sinceL size txg l) x = true ↔ bornAt size txg 0 l x := by
  unfold sinceL
  rw [sinceR_cov size txg x l 0 [] (by simp)]
  simp [covL]
theorem since_mono {size t1 t2 x : Int} {l : List P9} (ht : t1 ≤ t2) (h : covL (sinceL size t2 l) x = true) : covL (sinceL size t1 l) x = true := by
  rw [since_cov] at h ⊢
  obtain ⟨j, p, h1, h2, h3, h4, h5⟩ := h
  exact ⟨j, p, h1, fun hz => h2 (hz.imp (fun h => h) (fun h => by omega)), h3, h4, h5⟩
/-- Spans rise, are apart, and lie within the size. -/
def SpsOk (size : Int) (i : Nat) (l : List Sp) : Prop := (∀ y ∈ l, 0 ≤ y.a ∧ y.a % 1024 = 0 ∧ 1 ≤ y.m ∧ y.a + y.m ≤ size ∧ y.a + y.m ≤ 1024 * (i : Int)) ∧ l.Pairwise (fun x y => x.a + x.m < y.a)
theorem SpsOk.up {size : Int} {i : Nat} {l : List Sp} (h : SpsOk size i l) : SpsOk size (i + 1) l := ⟨fun y hy => by have := h.1 y hy; refine ⟨this.1, this.2.1, this.2.2.1, this.2.2.2.1, ?_⟩; omega, h.2⟩
theorem SpsOk.add {size : Int} {i : Nat} {acc : List Sp} (h : SpsOk size i acc) {m : Int} (h1 : 1 ≤ m) (h2 : m ≤ 1024) (h3 : 1024 * (i : Int) + m ≤ size) : SpsOk size (i + 1) (addS acc (1024 * (i : Int)) m) := by
  rcases List.eq_nil_or_concat acc with rfl | ⟨acc', y, rfl⟩
  · refine ⟨fun z hz => ?_, by unfold addS; simp⟩
    unfold addS at hz
    simp at hz
    subst hz
    exact ⟨by simp only; omega, by simp only; omega, h1, h3, by simp only; omega⟩
  · rw [List.concat_eq_append] at h ⊢
    obtain ⟨ha, hp⟩ := h
    have hy := ha y (by simp)
    rw [List.pairwise_append] at hp
    obtain ⟨hp1, _, hp3⟩ := hp
    have hy3 := fun x hx => hp3 x hx y (by simp)
    rw [addS_last]
    split
    · rename_i he
      refine ⟨fun z hz => ?_, ?_⟩
      · rcases List.mem_append.1 hz with hz | hz
        · have := ha z (by simp [hz]); omega
        · rw [List.mem_singleton] at hz; subst hz
          simp only
          omega
      · rw [List.pairwise_append]
        exact ⟨hp1, List.pairwise_singleton _ _, fun x hx z hz => by rw [List.mem_singleton] at hz; subst hz; exact hy3 x hx⟩
    · rename_i hne
      refine ⟨fun z hz => ?_, ?_⟩
      · rcases List.mem_append.1 hz with hz | hz
        · have := ha z hz; omega
        · rw [List.mem_singleton] at hz; subst hz
          simp only
          omega
      · rw [List.pairwise_append]
        refine ⟨by rw [List.pairwise_append]; exact ⟨hp1, List.pairwise_singleton _ _, hp3⟩, List.pairwise_singleton _ _, fun x hx z hz => ?_⟩
        rw [List.mem_singleton] at hz; subst hz
        simp only
        rcases List.mem_append.1 hx with hx | hx
        · have := hy3 x hx; omega
        · rw [List.mem_singleton] at hx; subst hx; omega
theorem sinceR_ok (size txg : Int) : ∀ (l : List P9) (i : Nat) (acc : List Sp), SpsOk size i acc → ∃ k, SpsOk size k (sinceR size txg i l acc)
  | [], i, acc, h => ⟨i, by unfold sinceR; exact h⟩
  | p :: l, i, acc, h => by
    unfold sinceR
    split
    · exact ⟨i, h⟩
    · rename_i hne
      split
      · exact sinceR_ok size txg l (i + 1) acc h.up
      · obtain ⟨m1, m2, m3⟩ := manyI_pos hne
        exact sinceR_ok size txg l (i + 1) _ (h.add m1 m2 m3)
theorem since_ok (size txg : Int) (l : List P9) : ∃ k, SpsOk size k (sinceL size txg l) := sinceR_ok size txg l 0 [] ⟨by simp, List.Pairwise.nil⟩
/-- What the law asks of two answers, the first byte and the last one of each span. -/
theorem since_ends {size t1 t2 : Int} {l : List P9} (ht : t1 ≤ t2) {y : Sp} (hy : y ∈ sinceL size t2 l) : covL (sinceL size t1 l) y.a = true ∧ covL (sinceL size t1 l) (y.a + y.m - 1) = true := by
  obtain ⟨k, hk, _⟩ := since_ok size t2 l
  have h := hk y hy
  exact ⟨since_mono ht ((covL_iff _ _).2 ⟨y, hy, by omega, by omega⟩), since_mono ht ((covL_iff _ _).2 ⟨y, hy, by omega, by omega⟩)⟩
end
end Go.Proofs.Ytkolbijhekbelaa
