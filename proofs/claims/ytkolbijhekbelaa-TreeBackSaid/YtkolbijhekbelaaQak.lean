/- tree.Unpack. Pointers held against one another; a nought pointer. A region that draws its order, whose last operations come in one order: what comes ahead of them is taken under a condition on the world, which the last ones may break. Speaks of no program. Lists of spans: as cells, and the library's Delete. -/
import Derived.Test.YtkolbijhekbelaaQaj
import Derived.Test.YtkolbijhekbelaaQae
import Derived.Test.YtkolbijhekbelaaQag
import Derived.DeepKeys
import Derived.OrdersHeld
import Derived.StillTail
import Derived.Deep.RegionHeld3
import Derived.Test.YtkolbijhekbelaaQab
import Derived.StillTailTactics
import Derived.Deep.DeepCutAuto
namespace Go.Proofs.Ytkolbijhekbelaa
section
open Go.RowKit Go.Lib
set_option maxRecDepth 100000

def badU (bs : List Int) : Prop := bs.length = 0 ∨ 1024 < bs.length ∨ bs.length % 64 ≠ 0
instance (bs : List Int) : Decidable (badU bs) := by unfold badU; infer_instance
/-- What Unpack answers: an error, or pointers. -/
def unpE (bs : List Int) : Int := if badU bs then 120 else if ∀ x ∈ cutL 64 bs, (decP x).2 = 0 then 0 else 120
def unpL (bs : List Int) : List P9 := (cutL 64 bs).map (fun x => (decP x).1)
def UnpA (w : World) (bs : List Int) (e : Ending) (w' : World) : Prop := Frm [] w w' ∧ ((unpE bs = 120 ∧ e = .returned (.tuple #[.slice none 0 0, .int .i64 120])) ∨ (unpE bs = 0 ∧ ∃ q m cq, e = .returned (.tuple #[.slice q m cq, .int .i64 0]) ∧ w'.ownsRow 0 40 9 (.slice q m cq) m (rowsP (unpL bs)) ∧ m = (unpL bs).length ∧ m ≤ 16 ∧ ∀ k ∈ blk q, w.heap.size ≤ k))
set_option maxHeartbeats 12800000 in
theorem unpack_any (p : Option Addr) (L c : Nat) (bs : List Int) (w : World) (hr : Rd w p bs) (hL : bs.length = L) (hb : L ≤ 140737488351232) (hc : L ≤ c ∧ c ≤ 9223372036854775807) (hz : ∀ z ∈ bs, 0 ≤ z ∧ z < 256) :
    Calls Try.prog 19 #[.slice p L c] w (UnpA w bs) := by
  obtain ⟨PO, hPO⟩ : ∃ PO : Ending → World → Prop, UnpA w bs = PO := ⟨_, rfl⟩
  rw [hPO]
  have HP1 : Hid (∀ w', unpE bs = 120 → Frm [] w w' → PO (.returned (.tuple #[.slice none 0 0, .int .i64 120])) w') := hid (fun w' h1 h3 => by rw [← hPO]; exact ⟨h3, Or.inl ⟨h1, rfl⟩⟩)
  have HP2 : Hid (∀ q m cq w', unpE bs = 0 → w'.ownsRow 0 40 9 (.slice q m cq) m (rowsP (unpL bs)) → m = (unpL bs).length → m ≤ 16 → (∀ k ∈ blk q, w.heap.size ≤ k) → Frm [] w w' → PO (.returned (.tuple #[.slice q m cq, .int .i64 0])) w') := hid (fun q m cq w' h1 h2 h3 h4 h5 h6 => by rw [← hPO]; exact ⟨h6, Or.inr ⟨h1, q, m, cq, rfl, h2, h3, h4, h5⟩⟩)
  have HL := hid hL
  have HZ := hid hz
  by_cases hbad : badU bs
  · have HE : Hid (unpE bs = 120) := hid (by unfold unpE; rw [if_pos hbad])
    have HBAD := hid hbad
    obtain ⟨hc0, hc1⟩ := hc
    clear hr hL hz hPO hbad
    by_cases h0 : L = 0
    · subst h0
      go_enter Try.func19, Try.ntmps19
      go_wp2_with fail
      first | go_returns | skip
      exact HP1.out _ HE.out (Frm.refl _ _)
    · have h0b : ((L : Int) == 0) = false := by simp; omega
      by_cases h1 : 1024 < L
      · go_enter Try.func19, Try.ntmps19
        go_wp2_with fail
        first | go_returns | skip
        exact HP1.out _ HE.out (Frm.refl _ _)
      · have h2 : L % 64 ≠ 0 := by
          rcases HBAD.out with h | h | h <;> rw [HL.out] at h <;> omega
        have h2b : (((L : Int) % 64) != 0) = true := by simp; omega
        have h2c : ((L : Int) % 64 == 0) = false := by simp; omega
        have htm : (L : Int).tmod 64 = ((L % 64 : Nat) : Int) := by rw [Int.tmod_eq_emod_of_nonneg (by omega)]; omega
        have h2d : ((L : Int).tmod 64 != 0) = true := by rw [htm, bne_iff_ne]; omega
        have h2e : ((L : Int).tmod 64 == 0) = false := by rw [htm, beq_eq_false_iff_ne]; omega
        clear htm
        go_enter Try.func19, Try.ntmps19
        go_wp2_with fail
        first | go_returns | skip
        exact HP1.out _ HE.out (Frm.refl _ _)
  · have hnb : L ≠ 0 ∧ L ≤ 1024 ∧ L % 64 = 0 := by unfold badU at hbad; rw [hL] at hbad; omega
    obtain ⟨hn0, hn1, hn2⟩ := hnb
    have HCU := hid (cutb_any 64 (by omega) p L c bs w hr hL hb hc)
    obtain ⟨hc0, hc1⟩ := hc
    have HNB := hid hbad
    have h0b : ((L : Int) == 0) = false := by simp; omega
    have h2c : ((L : Int) % 64 == 0) = true := by simp; omega
    have h2d : ((L : Int) % 64 != 0) = false := by simp; omega
    have htm : (L : Int).tmod 64 = ((L % 64 : Nat) : Int) := by rw [Int.tmod_eq_emod_of_nonneg (by omega)]; omega
    have h2e : ((L : Int).tmod 64 != 0) = false := by rw [htm, hn2]; rfl
    clear htm
    clear hr hL hz hPO hbad
    go_enter Try.func19, Try.ntmps19
    go_wp2_with fail
    refine HCU.out.mono ?_
    rintro e w1 ⟨qp, m, cp, ks, rfl, ho, hks, hf, hnw⟩
    have hmb : m ≤ 16 := by
      rw [← ho.ln, ← List.length_map (f := Bk.bs), hks, cutL_len]
      unfold np
      have := HL.out
      omega
    have HO := hid ho
    have HKS := hid hks
    have HF := hid hf
    have HCL : Hid ((cutL 64 bs).length = m) := hid (by rw [← hks, List.length_map, ho.ln])
    clear ho hks hf hnw HCU h0b h2c h2d h2e
    go_wp2_with fail
    go_loopw [26, 4] (fun i s4 wr => ∃ (t : Nat) (q : Option Addr) (cq : Nat), t ≤ m ∧ i = .int .i64 (t : Int) ∧ s4 = .slice q t cq ∧ Hid (Frm [] w1 wr ∧ wr.ownsRow 0 40 9 (.slice q t cq) t (rowsP (((cutL 64 bs).take t).map (fun x => (decP x).1))) ∧ (∀ k ∈ blk q, w1.heap.size ≤ k) ∧ ∀ x ∈ (cutL 64 bs).take t, (decP x).2 = 0)) (fun i _ _ => m - (intOf i).toNat)
    case atStart => exact ⟨0, none, 0, Nat.zero_le _, rfl, rfl, hid ⟨Frm.refl _ _, ⟨rfl, Or.inl ⟨rfl, rfl⟩⟩, by simp [blk], by simp⟩⟩
    case round =>
      obtain ⟨t, q, cq, ht, rfl, rfl, hin⟩ := hrel
      by_cases hlt : t < m
      · have t1 : (t : Int) < (m : Int) := by omega
        obtain ⟨x, hx⟩ : ∃ x, ks[t]? = some x := ⟨_, List.getElem?_eq_getElem (by rw [HO.out.ln]; exact hlt)⟩
        obtain ⟨g, cur, rfl, _, hgc⟩ := HO.out.at hx
        have hzc : (cutL 64 bs)[t]? = some x.bs := by rw [← HKS.out, List.getElem?_map, hx]; rfl
        obtain ⟨xne, xle, xin⟩ := cutL_mem (n := 64) (by omega) (List.mem_of_getElem? hzc)
        have q0 : wr.cell? ⟨g, t, none⟩ = some (.slice x.p x.bs.length x.c) := (hin.out.1.cell (World.block_lt_of_cell? w1 _ hgc) (by simp)).trans hgc
        have hdc := decode_any x.p x.bs.length x.c x.bs wr rfl (by omega) (((HO.out.it x (List.mem_of_getElem? hx)).1.rd).kept hin.out.1 (by simp)) (fun z hz => HZ.out z (xin z hz))
        have HTK : Hid ((cutL 64 bs).take (t + 1) = (cutL 64 bs).take t ++ [x.bs]) := hid (by rw [List.take_add_one, hzc]; rfl)
        have HZC := hid hzc
        obtain ⟨⟨v, E⟩, hv⟩ : ∃ z, decP x.bs = z := ⟨_, rfl⟩
        rw [hv] at hdc
        have HV := hid hv
        obtain ⟨a0, a1, a2, a3, a4, a5, a6, a7, a8⟩ := v
        unfold P9.arr at hdc
        simp only at hdc
        obtain ⟨xl, hxl⟩ : ∃ z, x.bs.length = z := ⟨_, rfl⟩
        rw [hxl] at hdc q0
        have HDC := hid hdc
        have HIN := hid hin.out
        clear hdc hin hx hgc hzc hv xin xne hxl
        go_wp2_with fail
        refine HDC.out.mono ?_
        rintro e w5 ⟨rfl, hf5⟩
        by_cases hE : E = 0
        · subst hE
          obtain ⟨w6, hw6⟩ : ∃ z, w5.alloc (.cells #[.int .i64 a0, .int .i64 a1, .int .i64 a2, .int .u64 a3, .int .i64 a4, .int .u64 a5, .int .u64 a6, .int .u64 a7, .int .u64 a8] 40) = z := ⟨_, rfl⟩
          have hf6 : Frm [] w5 w6 := by rw [← hw6]; exact (Frm.refl _ _).alloc _
          have hrow6 : w6.heap[w5.heap.size]? = some (.cells #[.int .i64 a0, .int .i64 a1, .int .i64 a2, .int .u64 a3, .int .i64 a4, .int .u64 a5, .int .u64 a6, .int .u64 a7, .int .u64 a8] 40 (0, 0)) := by rw [← hw6]; exact heap_alloc_to _ _ rfl
          obtain ⟨b6, hb6⟩ : ∃ z, w5.heap.size = z := ⟨_, rfl⟩
          rw [hb6] at hrow6
          obtain ⟨y0, y1, y2, y3, y4, y5, y6, y7, y8⟩ := ptr_cells (p := ⟨a0, a1, a2, a3, a4, a5, a6, a7, a8⟩) hrow6
          simp only at y0 y1 y2 y3 y4 y5 y6 y7 y8
          have HF6 := hid (hf5.trans hf6 (by simp))
          have HW6 := hid hw6
          have HB6 := hid hb6
          clear hf5 hf6 hrow6 hw6 hb6 HDC
          go_upto_region 8 with fail
          rw [HB6.out, HW6.out]
          clear HW6 HB6
          have HA := hid ((Frm.refl [] w6).alloc (.cells #[.int .i64 a0, .int .i64 a1, .int .i64 a2, .int .u64 a3, .int .i64 a4, .int .u64 a5, .int .u64 a6, .int .u64 a7, .int .u64 a8] 40))
          have HRV := hid (rv_block (heap_alloc_new w6 (.cells #[.int .i64 a0, .int .i64 a1, .int .i64 a2, .int .u64 a3, .int .i64 a4, .int .u64 a5, .int .u64 a6, .int .u64 a7, .int .u64 a8] 40)))
          have HOW := hid (ownsRow_kept HIN.out.2.1 (HF6.out.trans HA.out (by simp)) (by simp))
          go_wp2_with (at_builtin; refine wpList_appV rfl _ _ 30 rfl 40 9 72 _ Try.underlying30 infoP9 rfl (by decide) q t cq _ rfl HOW.out (some ⟨w6.heap.size, 0, none⟩) 1 1 [.int .i64 a0, .int .i64 a1, .int .i64 a2, .int .u64 a3, .int .i64 a4, .int .u64 a5, .int .u64 a6, .int .u64 a7, .int .u64 a8] rfl rfl (by simp) HRV.out (by intro u hu; simp at hu; rcases hu with rfl | rfl | rfl | rfl | rfl | rfl | rfl | rfl | rfl <;> rfl) (by unfold maxLen; omega) (by omega) ?_)
          intro q3 c3 w3 ho3 hf3 hb3
          have HNX : Hid (Frm [] w1 w3 ∧ w3.ownsRow 0 40 9 (.slice q3 (t + 1) c3) (t + 1) (rowsP (((cutL 64 bs).take (t + 1)).map (fun x => (decP x).1))) ∧ (∀ k ∈ blk q3, w1.heap.size ≤ k) ∧ ∀ x ∈ (cutL 64 bs).take (t + 1), (decP x).2 = 0) := hid (by
            obtain ⟨b1, b2, b3, b4⟩ := HIN.out
            have hz := b1.size
            have hz6 := HF6.out.size
            have hzA := HA.out.size
            refine ⟨((b1.trans HF6.out (by simp)).trans HA.out (by simp)).trans hf3.out (fun i hi hl => by have := b3 i hi; omega), ?_, fun i hi => ?_, fun y hy => ?_⟩
            · have h := ho3.out
              rw [HTK.out, List.map_append, rowsP_app]
              simpa [HV.out, rowsP, P9.arr] using h
            · rcases hb3.out i hi with h | h
              · exact b3 i h
              · first | omega | (simp at h; omega)
            · rw [HTK.out] at hy
              rcases List.mem_append.1 hy with hy | hy
              · exact b4 y hy
              · rw [List.mem_singleton] at hy; subst hy; rw [HV.out])
          clear ho3 hf3 hb3 HOW HRV HA y0 y1 y2 y3 y4 y5 y6 y7 y8
          go_wp2_with fail
          go_roundw
          case rel => exact ⟨t + 1, q3, c3, by omega, by go_num, by go_num, HNX⟩
          case measure => first | (simp [intOf]; done) | (simp [intOf]; omega)
        · have HE : Hid (unpE bs = 120) := hid (by
            unfold unpE
            rw [if_neg HNB.out, if_neg (fun hall => hE (by have := hall x.bs (List.mem_of_getElem? HZC.out); rw [HV.out] at this; exact this))])
          have hcb : (E == 0) = false := by simpa using hE
          have HFF := hid (((HF.out.trans HIN.out.1 (by simp)).trans hf5 (by simp)))
          clear hf5 HDC
          go_wp2_with fail
          first | go_returns | skip
          exact HP1.out _ HE.out (HFF.out.trans ((Frm.refl [] _).alloc _) (by simp))
      · obtain rfl : t = m := by omega
        have htk : (cutL 64 bs).take t = cutL 64 bs := List.take_of_length_le (by rw [HCL.out]; exact Nat.le_refl _)
        have HE : Hid (unpE bs = 0) := hid (by
          unfold unpE
          rw [if_neg HNB.out, if_pos (fun y hy => hin.out.2.2.2 y (by rw [htk]; exact hy))])
        have HOW : Hid (wr.ownsRow 0 40 9 (.slice q t cq) t (rowsP (unpL bs))) := hid (by have h := hin.out.2.1; rw [htk] at h; exact h)
        have HML : Hid (t = (unpL bs).length) := hid (by unfold unpL; rw [List.length_map, HCL.out])
        have HFF := hid (HF.out.trans hin.out.1 (by simp))
        have HNN := hid (fun k hk => by have := hin.out.2.2.1 k hk; have := HF.out.size; exact (show w.heap.size ≤ k by omega))
        clear hin htk
        go_wp2_with fail
        first | go_returns | skip
        exact HP2.out q t cq _ HE.out HOW.out HML.out hmb HNN.out HFF.out
end
section
open Go.RowKit Go.Lib
set_option maxRecDepth 100000

def P9.lits (p : P9) : List Lit := [.int .i64 p.top, .int .i64 p.at_, .int .i64 p.bytes, .int .u64 p.birth, .int .i64 p.kind, .int .u64 p.sa, .int .u64 p.sb, .int .u64 p.sc, .int .u64 p.sd]
instance : DecidableEq P9 := fun p q => decidable_of_iff (p.top = q.top ∧ p.at_ = q.at_ ∧ p.bytes = q.bytes ∧ p.birth = q.birth ∧ p.kind = q.kind ∧ p.sa = q.sa ∧ p.sb = q.sb ∧ p.sc = q.sc ∧ p.sd = q.sd) (by
  obtain ⟨a0, a1, a2, a3, a4, a5, a6, a7, a8⟩ := p
  obtain ⟨b0, b1, b2, b3, b4, b5, b6, b7, b8⟩ := q
  simp)
theorem P9.lits_inj {p q : P9} : p.lits = q.lits ↔ p = q := by
  obtain ⟨a0, a1, a2, a3, a4, a5, a6, a7, a8⟩ := p
  obtain ⟨b0, b1, b2, b3, b4, b5, b6, b7, b8⟩ := q
  simp [P9.lits]
theorem eqS (a0 a1 a2 a3 b0 b1 b2 b3 : Int) (d : Nat) (w : World) : (Op.equalIn (d + 3) 38 (.agg #[.int .u64 a0, .int .u64 a1, .int .u64 a2, .int .u64 a3]) (.agg #[.int .u64 b0, .int .u64 b1, .int .u64 b2, .int .u64 b3])).run Try.prog w = .ok (decide (a0 = b0 ∧ a1 = b1 ∧ a2 = b2 ∧ a3 = b3)) w := by
  have hS : Try.prog.underlying 38 = some (.struct (Try.prog.fieldsOf 38)) := by kernel_rfl
  have hp : Try.prog.stoodInHeld 38 = false := by kernel_rfl
  rw [show d + 3 = (d + 2) + 1 from rfl, run_equalIn_agg w (d + 2) _ _ _ hS hp]
  simp only [Program.fieldsOf, Try.underlying38]
  go_simp
  by_cases h0 : a0 = b0 <;> by_cases h1 : a1 = b1 <;> by_cases h2 : a2 = b2 <;> by_cases h3 : a3 = b3 <;> simp [h0, h1, h2, h3]
theorem eq9 (p q : P9) (d : Nat) (w : World) : (Op.equalIn (d + 5) 40 (.agg p.arr) (.agg q.arr)).run Try.prog w = .ok (decide (p = q)) w := by
  have hS : Try.prog.underlying 40 = some (.struct (Try.prog.fieldsOf 40)) := by kernel_rfl
  have hp : Try.prog.stoodInHeld 40 = false := by kernel_rfl
  obtain ⟨a0, a1, a2, a3, a4, a5, a6, a7, a8⟩ := p
  obtain ⟨b0, b1, b2, b3, b4, b5, b6, b7, b8⟩ := q
  have hs := fun w => eqS a5 a6 a7 a8 b5 b6 b7 b8 (d + 1) w
  unfold P9.arr
  rw [show d + 5 = (d + 4) + 1 from rfl, run_equalIn_agg w (d + 4) _ _ _ hS hp]
  simp only [Program.fieldsOf, Try.underlying40]
  go_simp
  by_cases h0 : a0 = b0
  case neg => simp [h0]
  subst h0
  by_cases h1 : a1 = b1
  case neg => simp [h1]
  subst h1
  by_cases h2 : a2 = b2
  case neg => simp [h2]
  subst h2
  by_cases h3 : a3 = b3
  case neg => simp [h3]
  subst h3
  by_cases h4 : a4 = b4
  case neg => simp [h4]
  subst h4
  by_cases h5 : a5 = b5
  case neg => simp [h5]
  subst h5
  by_cases h6 : a6 = b6
  case neg => simp [h6]
  subst h6
  by_cases h7 : a7 = b7
  case neg => simp [h7]
  subst h7
  by_cases h8 : a8 = b8
  case neg => simp [h8]
  subst h8
  simp
theorem eq9_eql (p q : P9) (w : World) : (binOp .eql 40 (.agg p.arr) (.agg q.arr)).run Try.prog w = .ok (.bool (decide (p = q))) w := by
  rw [run_eql_struct, show (10000 : Nat) = 9995 + 5 from rfl, eq9]; rfl
theorem eq9_neq (p q : P9) (w : World) : (binOp .neq 40 (.agg p.arr) (.agg q.arr)).run Try.prog w = .ok (.bool (!decide (p = q))) w := by
  rw [run_neq_struct, show (10000 : Nat) = 9995 + 5 from rfl, eq9]; rfl
theorem P9.zero_iff (p : P9) : p = zero9 ↔ p.zero := by
  obtain ⟨a0, a1, a2, a3, a4, a5, a6, a7, a8⟩ := p
  simp [zero9, P9.zero]
/-- A slot. -/
structure Sl where
  used : Bool
  size : Int
  root : P9
def Sl.row (s : Sl) : List Value := [.bool s.used, .int .i64 s.size, .int .i64 s.root.top, .int .i64 s.root.at_, .int .i64 s.root.bytes, .int .u64 s.root.birth, .int .i64 s.root.kind, .int .u64 s.root.sa, .int .u64 s.root.sb, .int .u64 s.root.sc, .int .u64 s.root.sd]
def sl0 : Sl := ⟨false, 0, zero9⟩
instance : DecidableEq Sl := fun s t => decidable_of_iff (s.used = t.used ∧ s.size = t.size ∧ s.root = t.root) (by
  obtain ⟨a, b, c⟩ := s
  obtain ⟨a', b', c'⟩ := t
  simp)
theorem eqSl (s t : Sl) (d : Nat) (w : World) : (Op.equalIn (d + 7) 48 (.agg s.row.toArray) (.agg t.row.toArray)).run Try.prog w = .ok (decide (s = t)) w := by
  have hS : Try.prog.underlying 48 = some (.struct (Try.prog.fieldsOf 48)) := by kernel_rfl
  have hp : Try.prog.stoodInHeld 48 = false := by kernel_rfl
  obtain ⟨u, z, p⟩ := s
  obtain ⟨u', z', q⟩ := t
  have he := fun w => eq9 p q (d + 1) w
  obtain ⟨a0, a1, a2, a3, a4, a5, a6, a7, a8⟩ := p
  obtain ⟨b0, b1, b2, b3, b4, b5, b6, b7, b8⟩ := q
  unfold P9.arr at he
  simp only at he
  unfold Sl.row
  simp only
  rw [show d + 7 = (d + 6) + 1 from rfl, run_equalIn_agg w (d + 6) _ _ _ hS hp]
  simp only [Program.fieldsOf, Try.underlying48]
  go_simp
  by_cases hu : u = u'
  case neg => simp [hu]
  subst hu
  by_cases hz : z = z'
  case neg => simp [hz]
  subst hz
  simp only [if_true]
  generalize hE : (decide (a0 = b0) && (decide (a1 = b1) && (decide (a2 = b2) && (decide (a3 = b3) && (decide (a4 = b4) && (decide (a5 = b5) && (decide (a6 = b6) && (decide (a7 = b7) && decide (a8 = b8))))))))) = E
  cases E <;> simp_all
end
section
section
variable {P : Program} {ops : Array Oper} {Q : Exit → Act → World → Prop} {md : Region.Mode} {S : World → Prop}
/-- The first so many operations in whatever order, the condition behind each of them; then what 'L' says. -/
def wpAnyHT (P : Program) (md : Region.Mode) (ops : Array Oper) (Q : Exit → Act → World → Prop) (S : World → Prop) (n : Nat) (L : Array Bool → Act → World → Prop) : Nat → Array Bool → Act → World → Prop
  | 0, listed, a, w => L listed a w
  | f + 1, listed, a, w =>
    Region.ready md ops listed ≠ [] ∧ ∀ i ∈ Region.ready md ops listed, i < n ∧ wpOp P ops Q i (fun a' w' => S w' ∧ wpAnyHT P md ops Q S n L f (listed.setIfInBounds i true) a' w') a w
theorem wpAny_of_headT {n g : Nat} {L : Array Bool → Act → World → Prop} (hL : ∀ listed a w, L listed a w → wpAny P md ops Q g listed a w) :
    ∀ (f : Nat) (listed : Array Bool) (a : Act) (w : World), wpAnyHT P md ops Q S n L f listed a w → wpAny P md ops Q (f + g) listed a w
  | 0, listed, a, w, h => by rw [Nat.zero_add]; exact hL _ _ _ h
  | f + 1, listed, a, w, h => by
    rw [show f + 1 + g = (f + g) + 1 by omega]
    exact ⟨fun h0 => absurd h0 h.1, fun i hi => wpOp_mono (fun a' w' h' => wpAny_of_headT hL f _ a' w' h'.2) (h.2 i hi).2⟩
theorem wpAnyHT_first {n i : Nat} {oi : Oper} {v : Value} {L : Array Bool → Act → World → Prop} (hi : ops[i]? = some oi) (hsel : ∀ (j : Nat) (o : Oper) cs b, ops[j]? = some o → o.op ≠ .select cs b)
    (hQ : ∀ c a w, Q (.panic c) (a.put oi.dst v) w → Q (.panic c) a w)
    (hs : Region.sinkB md ops n = true) (hc : Region.chainB md ops n = true) (hn : n < ops.size) (hin : i < n)
    (hdone : ∀ listed a w, L listed a w → ∀ j ∈ Region.ready md ops listed, n ≤ j) :
    ∀ (f : Nat) (listed : Array Bool) (a : Act) (w : World), HeadInv md ops n listed →
      (∀ j oj, ops[j]? = some oj → j ≠ i → listed.getD j true = false → (∀ e ∈ oj.after, Region.binds md e = true → e.on ≠ i) → oi.apart ops oj = true) →
      i ∈ Region.ready md ops listed → YieldsIf P ops S oi v a → S w →
      wpAnyHT P md ops Q S n L f (listed.setIfInBounds i true) (a.put oi.dst v) w → wpAnyHT P md ops Q S n L (f + 1) listed a w := by
  intro f
  induction f with
  | zero =>
    intro listed a w inv _ hr hy hS H
    have hun := (mem_ready.1 hr).1
    refine ⟨fun h => (by rw [h] at hr; cases hr), fun j hj => ?_⟩
    have hjn : j < n := by
      rcases Nat.lt_or_ge j n with h | h
      · exact h
      · exact absurd hj (tail_waits hs hc hn inv _ i rfl hin hun j h)
    refine ⟨hjn, ?_⟩
    by_cases hji : j = i
    · subst hji; exact hy.wpOp hi hS ⟨hS, H⟩
    · have := hdone _ _ _ H j (ready_mono hj hji)
      omega
  | succ f ih =>
    intro listed a w inv hfree hr hy hS H
    have hun := (mem_ready.1 hr).1
    refine ⟨fun h => (by rw [h] at hr; cases hr), fun j hj => ?_⟩
    have hjn : j < n := by
      rcases Nat.lt_or_ge j n with h | h
      · exact h
      · exact absurd hj (tail_waits hs hc hn inv _ i rfl hin hun j h)
    refine ⟨hjn, ?_⟩
    by_cases hji : j = i
    · subst hji; exact hy.wpOp hi hS ⟨hS, H⟩
    · have h1 := (H.2 j (ready_mono hj hji)).2
      obtain ⟨hjun, oj, hoj, hall⟩ := mem_ready.1 hj
      have hnot : ∀ e ∈ oj.after, Region.binds md e = true → e.on ≠ i := fun e he hb heq => by
        have h1 := hall e he hb
        rw [heq, getD_both hun] at h1
        cases h1
      have h2 := wpOp_putIf hoj (hfree j oj hoj hji hjun hnot) (fun cs b => hsel i oi cs b hi) (fun cs b => hsel j oj cs b hoj) hQ hy h1
      have hfree' : ∀ k ok, ops[k]? = some ok → k ≠ i → (listed.setIfInBounds j true).getD k true = false →
          (∀ e ∈ ok.after, Region.binds md e = true → e.on ≠ i) → oi.apart ops ok = true := fun k ok hk hki hun hno => by
        refine hfree k ok hk hki ?_ hno
        by_cases hjk : j = k
        · subst hjk; exact hjun
        · rw [getD_set_ne true hjk] at hun; exact hun
      refine wpOp_mono (fun a' w' h3 => ⟨h3.2.1, ih (listed.setIfInBounds j true) a' w' (inv.set hj hjn) hfree' (ready_mono hr (Ne.symm hji)) h3.1 h3.2.1 ?_⟩) h2
      rw [Array.setIfInBounds_comm _ _ hji]
      exact h3.2.2
/-- What 'HeadInv' asks, as a Bool. -/
def headInvB (md : Region.Mode) (ops : Array Oper) (n : Nat) (listed : Array Bool) : Bool :=
  decide (listed.size = ops.size) &&
  ((List.range ops.size).all fun j => !listed.getD j false || (match ops[j]? with | some oj => oj.after.all fun e => !Region.binds md e || listed.getD e.on false | none => true)) &&
  ((List.range ops.size).all fun t => decide (t < n) || !listed.getD t true)
theorem headInv_of {n : Nat} {listed : Array Bool} (h : headInvB md ops n listed = true) : HeadInv md ops n listed := by
  unfold headInvB at h
  simp only [Bool.and_eq_true, decide_eq_true_eq] at h
  obtain ⟨⟨h1, h2⟩, h3⟩ := h
  refine ⟨h1, fun j oj hj hl e he hb => ?_, fun t ht htl => ?_⟩
  · have hjlt : j < ops.size := (Array.getElem?_eq_some_iff.1 hj).1
    have h := List.all_eq_true.1 h2 j (List.mem_range.2 hjlt)
    rw [hl, hj] at h
    simp only [Bool.not_true, Bool.false_or] at h
    have h4 := Array.all_eq_true'.1 h e he
    rw [hb] at h4
    simpa using h4
  · have h := List.all_eq_true.1 h3 t (List.mem_range.2 htl)
    simp only [Bool.or_eq_true, decide_eq_true_eq] at h
    rcases h with h | h
    · omega
    · simpa using h
/-- What is asked of the region's form. -/
def tailB (md : Region.Mode) (ops : Array Oper) (n : Nat) : Bool := Region.noSelect ops && decide (n < ops.size) && Region.sinkB md ops n && Region.chainB md ops n
/-- Behind the head: the last ones in their order. -/
def TailL (P : Program) (ops : Array Oper) (Q : Exit → Act → World → Prop) (n : Nat) (l : List Oper) : Array Bool → Act → World → Prop :=
  fun listed a w => Region.seqB .any ops l.length n listed = true ∧ wpList P ops Q l a w
theorem wpAnyHT_take {n i : Nat} {l : List Oper} {oi : Oper} {v : Value} {fuel : Nat} {listed : Array Bool} {a : Act} {w : World} (hB : tailB .any ops n = true) (hi : ops[i]? = some oi) (hin : decide (i < n) = true)
    (hf : Region.free .any ops listed i = true) (hr : (Region.ready .any ops listed).contains i = true) (hI : headInvB .any ops n listed = true)
    (hQ : ∀ c a w, Q (.panic c) (a.put oi.dst v) w → Q (.panic c) a w) (hy : YieldsIf P ops S oi v a) (hS : S w)
    (h : wpAnyHT P .any ops Q S n (TailL P ops Q n l) fuel (listed.setIfInBounds i true) (a.put oi.dst v) w) : wpAnyHT P .any ops Q S n (TailL P ops Q n l) (fuel + 1) listed a w := by
  simp only [tailB, Bool.and_eq_true, decide_eq_true_eq] at hB hin
  obtain ⟨⟨⟨hsel, hn⟩, hs⟩, hc⟩ := hB
  exact wpAnyHT_first hi (Region.noSelect_spec hsel) hQ hs hc hn hin (fun listed a w hL => seqB_ready hL.1) fuel listed a w (headInv_of hI) (Region.free_spec hi hf) (by simpa using hr) hy hS h
/-- One alone may come up: it is carried out, and the condition is shown anew. -/
theorem wpAnyHT_one {n i : Nat} {L : Array Bool → Act → World → Prop} {o : Oper} {fuel : Nat} {listed : Array Bool} {a : Act} {w : World} (ho : ops[i]? = some o) (hr : Region.ready md ops listed = [i]) (hin : decide (i < n) = true)
    (h : ∀ K' : Act → World → Prop, (∀ a w, S w → wpAnyHT P md ops Q S n L fuel (listed.setIfInBounds i true) a w → K' a w) → if Region.wanted o (yielded ops a.tmps) = true then Oper.wp P o a w K' Q else K' (a.put o.dst undef) w) :
    wpAnyHT P md ops Q S n L (fuel + 1) listed a w := by
  refine ⟨by rw [hr]; simp, fun j hj => ?_⟩
  rw [hr, List.mem_singleton] at hj
  subst hj
  exact ⟨of_decide_eq_true hin, wpOp_step ho (fun K' hK => h K' (fun a w hS hW => hK a w ⟨hS, hW⟩))⟩
theorem wpAnyHT_end {n : Nat} {l : List Oper} {listed : Array Bool} {a : Act} {w : World} (hq : Region.seqB .any ops l.length n listed = true) (h : wpList P ops Q l a w) : wpAnyHT P .any ops Q S n (TailL P ops Q n l) 0 listed a w := ⟨hq, h⟩
/-- The beginning. -/
theorem wp_region_tail {id : Nat} {a : Act} {w : World} {l : List Oper} (n m : Nat) (hlen : l.length = m) (hm : P.follows .mixedOrders = true) (hn : decide (n ≤ l.length) = true)
    (h : wpAnyHT P .any l.toArray Q S n (TailL P l.toArray Q n (l.drop n)) n (Array.replicate m false) a w.drew) : (Code.region id l.toArray true).wp P Q a w := by
  have hn' : n ≤ l.length := of_decide_eq_true hn
  subst hlen
  refine wp_region_any hm ?_
  have := wpAny_of_headT (Q := Q) (g := (l.drop n).length) (fun listed a' w' hL => wpAny_of_seq (md := .any) (Q' := Q) (l.drop n) n listed a' w' (fun j => by simp [List.getElem?_drop]) hL.1 hL.2) _ _ _ _ h
  rw [List.length_drop, show n + (l.length - n) = l.length by omega] at this
  simpa using this
end
end
section
open Go.RowKit Go.Lib
set_option maxRecDepth 100000

/-- append into the room that is there. -/
theorem wpList_appRoomG {P : Program} {w : World} {ops : Array Oper} {rest : List Oper} {o : Oper} {a : Act} {Q : Exit → Act → World → Prop} (hgd : o.guard = none) (s x : Operand) (t : TypeId)
    (ho : o.op = .call { callee := .builtin .append, args := #[s, x], argTypes := #[t, t] })
    (E : TypeId) (sz bytes : Nat) (z : Value) (ht : P.underlying t = some (.slice E)) (hI : (P.info? E).map (fun i => (i.zero, i.size, i.bytes)) = some (some z, sz, bytes))
    (g n cap : Nat) (C : List Value) (hg : w.heap[g]? = some (.cells C.toArray E (0, 0))) (hs : a.eval s = .slice (some ⟨g, 0, none⟩) n cap)
    (p : Option Addr) (m c : Nat) (hx : a.eval x = .slice p m c) (news : List Value) (hnl : news.length = m * sz) (hrd : Rv w p news) (hp : news = [] → p ≠ none) (h1 : ∀ u ∈ news, u.oneCell' = true) (hroom : n + m ≤ cap) (hfit : n * sz + news.length ≤ C.length)
    (h : ∀ w', Hid (w'.heap[g]? = some (.cells (C.take (n * sz) ++ news ++ C.drop (n * sz + news.length)).toArray E (0, 0))) → Hid (Frm [g] w w') → wpList P ops Q rest (a.put o.dst (.slice (some ⟨g, 0, none⟩) (n + m) cap)) w') :
    wpList P ops Q (o :: rest) a w := by
  refine wpList_plain hgd fun K hK => ?_
  obtain ⟨i, hi, hz, hi1, hi2⟩ := info_parts hI
  obtain ⟨q, hq, hnews⟩ : ∃ q : Addr, p = some q ∧ ∀ j u, news[j]? = some u → w.cell? (q.add j) = some u := by
    rcases hrd with h0 | ⟨g0, o0, rfl, hc⟩
    · cases p with
      | none => exact absurd rfl (hp h0)
      | some q => exact ⟨q, rfl, fun j u hu => by rw [h0] at hu; simp at hu⟩
    · exact ⟨_, rfl, fun j u hu => by rw [show (⟨g0, o0, none⟩ : Addr).add j = ⟨g0, o0 + j, none⟩ by cases j <;> simp [Addr.add]]; exact hc j u hu⟩
  subst hq
  have hrun := run_append_room (P := P) (w := w) t o.type E i ht hi g n cap C.toArray hg q m c news (by rw [hi1]; exact hnl) hnews h1 hroom (by rw [hi1]; simpa using hfit)
  unfold Oper.wp
  simp only [execOp, ho, resolve, invoke, builtin, Sem.run_bind, Sem.run_pure, Result.andThen_ok, List.map_toArray, List.map_cons, List.map_nil, hs, hx, hrun]
  refine hK _ _ (h _ (hid ?_) (hid ⟨rfl, rfl, rfl, by simp, fun j _ hj => setRow_other w g j _ (by simpa using hj)⟩))
  rw [setRow_heap w g _ _ E _ hg, hi1]

/-- A span. -/
structure Sp where
  a : Int
  m : Int
def Sp.e (y : Sp) : Int := y.a + y.m
def rowS : List Sp → List Value
  | [] => []
  | y :: l => .int .i64 y.a :: .int .i64 y.m :: rowS l
theorem rowS_len : ∀ l : List Sp, (rowS l).length = l.length * 2
  | [] => rfl
  | y :: l => by simp only [rowS, List.length_cons, rowS_len l]; omega
theorem rowS_app : ∀ a b : List Sp, rowS (a ++ b) = rowS a ++ rowS b
  | [], _ => rfl
  | y :: a, b => by simp only [List.cons_append, rowS, rowS_app a b]
theorem rowS_take : ∀ (k : Nat) (l : List Sp), (rowS l).take (k * 2) = rowS (l.take k)
  | 0, l => by simp [rowS]
  | k + 1, [] => by simp [rowS]
  | k + 1, y :: l => by rw [show (k + 1) * 2 = k * 2 + 1 + 1 by omega]; simp only [rowS, List.take_succ_cons, rowS_take k l]
theorem rowS_drop : ∀ (k : Nat) (l : List Sp), (rowS l).drop (k * 2) = rowS (l.drop k)
  | 0, l => by simp
  | k + 1, [] => by simp [rowS]
  | k + 1, y :: l => by rw [show (k + 1) * 2 = k * 2 + 1 + 1 by omega]; simp only [rowS, List.drop_succ_cons, rowS_drop k l]
theorem rowS_one : ∀ (l : List Sp), ∀ v ∈ rowS l, v.oneCell' = true
  | [], v, h => by simp [rowS] at h
  | y :: l, v, h => by
    simp only [rowS, List.mem_cons] at h
    rcases h with rfl | rfl | h
    · rfl
    · rfl
    · exact rowS_one l v h
theorem rowS_get : ∀ (l : List Sp) (i : Nat) (y : Sp), l[i]? = some y → (rowS l)[i * 2]? = some (.int .i64 y.a) ∧ (rowS l)[i * 2 + 1]? = some (.int .i64 y.m)
  | [], i, y, h => by simp at h
  | x :: l, 0, y, h => by simp at h; subst h; simp [rowS]
  | x :: l, i + 1, y, h => by
    simp only [List.getElem?_cons_succ] at h
    have h1 := rowS_get l i y h
    rw [show (i + 1) * 2 = i * 2 + 1 + 1 by omega]
    simpa [rowS] using h1
theorem infoSp : (Try.prog.info? 54).map (fun i => (i.zero, i.size, i.bytes)) = some (some (.agg #[.int .i64 0, .int .i64 0]), 2, 16) := by kernel_rfl
/-- A list of spans of one's own. -/
def OwnS (w : World) (p : Option Addr) (n c : Nat) (l : List Sp) : Prop := w.ownsRow 0 54 2 (.slice p n c) n (rowS l) ∧ l.length = n
theorem OwnS.kept {w w' : World} {p : Option Addr} {n c : Nat} {l : List Sp} {T : List Nat} (h : OwnS w p n c l) (hf : Frm T w w') (hp : ∀ k ∈ blk p, k ∉ T) : OwnS w' p n c l := ⟨ownsRow_kept h.1 hf hp, h.2⟩
theorem OwnS.block {w : World} {p : Option Addr} {n c : Nat} {l : List Sp} (h : OwnS w p n c l) (hn : 0 < n) : ∃ g C, p = some ⟨g, 0, none⟩ ∧ w.heap[g]? = some (.cells (List.toArray C) 54 (0, 0)) ∧ n ≤ c ∧ c ≤ maxLen ∧ C.length = c * 2 ∧ C.take (n * 2) = rowS l := by
  rcases h.1.2 with ⟨_, h0⟩ | ⟨g, c', cur, he, _, hg, hc, hm, hs, ht⟩
  · omega
  · simp only [Value.slice.injEq] at he
    obtain ⟨rfl, _, rfl⟩ := he
    exact ⟨g, cur.toList, rfl, by simpa using hg, hc, hm, by simpa using hs, ht⟩
theorem OwnS.cap {w : World} {p : Option Addr} {n c : Nat} {l : List Sp} (h : OwnS w p n c l) : n ≤ c ∧ c ≤ maxLen := by
  rcases h.1.2 with ⟨he, h0⟩ | ⟨g, c', cur, he, _, hg, hc, hm, hs, ht⟩
  · simp only [Value.slice.injEq] at he
    obtain ⟨_, _, rfl⟩ := he
    exact ⟨by omega, by unfold maxLen; omega⟩
  · simp only [Value.slice.injEq] at he
    obtain ⟨_, _, rfl⟩ := he
    exact ⟨hc, hm⟩
theorem OwnS.nil {w : World} {p : Option Addr} {n c : Nat} {l : List Sp} (h : OwnS w p n c l) (hn : p = none) : n = 0 ∧ c = 0 := by
  rcases h.1.2 with ⟨he, h0⟩ | ⟨g, c', cur, he, _, hg, hc, hm, hs, ht⟩
  · simp only [Value.slice.injEq] at he
    exact ⟨h0, he.2.2⟩
  · simp only [Value.slice.injEq] at he
    rw [hn] at he; simp at he
theorem OwnS.of {w : World} {g n c : Nat} {l : List Sp} {C : List Value} (hg : w.heap[g]? = some (.cells C.toArray 54 (0, 0))) (hn : n ≤ c) (hm : c ≤ maxLen) (hl : C.length = c * 2) (ht : C.take (n * 2) = rowS l) (hln : l.length = n) : OwnS w (some ⟨g, 0, none⟩) n c l :=
  ⟨⟨by rw [rowS_len, hln], Or.inr ⟨g, c, C.toArray, rfl, Nat.zero_le _, hg, hn, hm, by simpa using hl, by simpa using ht⟩⟩, hln⟩
theorem OwnS.rv {w : World} {p : Option Addr} {n c : Nat} {l : List Sp} (h : OwnS w p n c l) : Rv w p (rowS l) := by
  by_cases hn : 0 < n
  · obtain ⟨g, C, rfl, hg, hc, hm, hl, ht⟩ := h.block hn
    refine Or.inr ⟨g, 0, rfl, fun i u hu => ?_⟩
    rw [cell_of_row _ _ _ _ _ _ hg, Nat.zero_add]
    rw [← ht, List.getElem?_take] at hu
    split at hu
    · simpa using hu
    · cases hu
  · have h0 : l = [] := List.eq_nil_of_length_eq_zero (by have := h.2; omega)
    subst h0
    exact Or.inl rfl
theorem OwnS.at {w : World} {p : Option Addr} {n c : Nat} {l : List Sp} (h : OwnS w p n c l) {i : Nat} {y : Sp} (hi : l[i]? = some y) : ∃ g, p = some ⟨g, 0, none⟩ ∧ w.cell? ⟨g, i * 2, none⟩ = some (.int .i64 y.a) ∧ w.cell? ⟨g, i * 2 + 1, none⟩ = some (.int .i64 y.m) := by
  have hlt := (List.getElem?_eq_some_iff.1 hi).1
  obtain ⟨g, C, rfl, hg, hc, hm, hl, ht⟩ := h.block (by have := h.2; omega)
  obtain ⟨h1, h2⟩ := rowS_get l i y hi
  have e : ∀ t v, (rowS l)[t]? = some v → w.cell? ⟨g, t, none⟩ = some v := fun t v hv => by
    rw [cell_of_row _ _ _ _ _ _ hg]
    rw [← ht, List.getElem?_take] at hv
    split at hv
    · simpa using hv
    · cases hv
  exact ⟨g, rfl, e _ _ h1, e _ _ h2⟩
end
end Go.Proofs.Ytkolbijhekbelaa
