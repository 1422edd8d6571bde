/- tree.slot. -/
import Derived.Test.YtkolbijhekbelaaQam
import Derived.Test.YtkolbijhekbelaaQaf
import Derived.Laws.BitsAllLaws
namespace Go.Proofs.Ytkolbijhekbelaa
section
open Go.RowKit Go.Lib
set_option maxRecDepth 100000

theorem i64_orT (a b : Nat) (ha : a < 9223372036854775808) (hb : b < 9223372036854775808) : bits .or .i64 (a : Int) (b : Int) = ((a ||| b : Nat) : Int) := by
  have hx : a ||| b < 2 ^ 63 := Nat.or_lt_two_pow (by omega) (by omega)
  show IntKind.i64.wrap ((BitVec.ofInt 64 (a : Int) ||| BitVec.ofInt 64 (b : Int)).toNat : Int) = _
  rw [BitVec.toNat_or, ofInt_u64 a (by omega), ofInt_u64 b (by omega)]
  exact IntWalk.i64_in _ (by omega)
theorem or_modT (N j : Nat) (hj : j < 4) : bits .or .i64 ((N % 2 ^ (8 * j) : Nat) : Int) (IntKind.i64.wrap ((N : Int) / 2 ^ (8 * j) % 256 * 2 ^ (8 * j))) = ((N % 2 ^ (8 * (j + 1)) : Nat) : Int) := by
  have ec : (2 : Int) ^ (8 * j) = ((2 ^ (8 * j) : Nat) : Int) := by simp
  have e1 : (N : Int) / 2 ^ (8 * j) % 256 * 2 ^ (8 * j) = ((N / 2 ^ (8 * j) % 256 * 2 ^ (8 * j) : Nat) : Int) := by rw [ec]; simp
  have hq : (2 : Nat) ^ (8 * j) ≤ 2 ^ 24 := Nat.pow_le_pow_right (by decide) (by omega)
  have hq0 : 0 < (2 : Nat) ^ (8 * j) := Nat.pow_pos (by decide)
  have hm : N / 2 ^ (8 * j) % 256 * 2 ^ (8 * j) ≤ 255 * 2 ^ 24 := Nat.mul_le_mul (by omega) hq
  have hl : N % 2 ^ (8 * j) < 2 ^ (8 * j) := Nat.mod_lt _ hq0
  have e2 : (2 : Nat) ^ (8 * (j + 1)) = 2 ^ (8 * j) * 256 := by rw [Nat.mul_add, Nat.pow_add]
  rw [e1, IntWalk.i64_in _ (by omega), i64_orT _ _ (by omega) (by omega), e2, Nat.mod_mul]
  congr 1
  rw [Nat.or_comm, ← Nat.shiftLeft_eq, ← Nat.shiftLeft_add_eq_or_of_lt hl, Nat.shiftLeft_eq, Nat.mul_comm, Nat.add_comm]
def st11 (w : World) (b : Nat) (s : Sl) : World :=
  ((((((((((w.setCell ⟨b, 0, none⟩ (.bool s.used)).setCell ⟨b, 1, none⟩ (.int .i64 s.size)).setCell ⟨b, 2, none⟩ (.int .i64 s.root.top)).setCell ⟨b, 3, none⟩ (.int .i64 s.root.at_)).setCell ⟨b, 4, none⟩ (.int .i64 s.root.bytes)).setCell ⟨b, 5, none⟩ (.int .u64 s.root.birth)).setCell ⟨b, 6, none⟩ (.int .i64 s.root.kind)).setCell ⟨b, 7, none⟩ (.int .u64 s.root.sa)).setCell ⟨b, 8, none⟩ (.int .u64 s.root.sb)).setCell ⟨b, 9, none⟩ (.int .u64 s.root.sc)).setCell ⟨b, 10, none⟩ (.int .u64 s.root.sd)
theorem st11_row {w : World} {b : Nat} {T : TypeId} (s t : Sl) (h : w.heap[b]? = some (.cells t.arr T (0, 0))) : (st11 w b s).heap[b]? = some (.cells s.arr T (0, 0)) ∧ Frm [b] w (st11 w b s) := by
  have h4 := sets_row b T [(0, .bool s.used), (1, .int .i64 s.size), (2, .int .i64 s.root.top), (3, .int .i64 s.root.at_), (4, .int .i64 s.root.bytes), (5, .int .u64 s.root.birth), (6, .int .i64 s.root.kind), (7, .int .u64 s.root.sa), (8, .int .u64 s.root.sb), (9, .int .u64 s.root.sc), (10, .int .u64 s.root.sd)] w t.arr h
  unfold Sl.arr Sl.row at h4 ⊢
  simp only [List.foldl, List.setIfInBounds_toArray, List.set_cons_zero, List.set_cons_succ] at h4
  exact h4
theorem sl_froz {W : World} {b : Nat} {cs : Array Value} {T : TypeId} (h : W.heap[b]? = some (.cells cs T (0, 0))) : W.frozen? ⟨b, 0, none⟩ = false ∧ W.frozen? ⟨b, 1, none⟩ = false ∧ W.frozen? ⟨b, 2, none⟩ = false ∧ W.frozen? ⟨b, 3, none⟩ = false ∧ W.frozen? ⟨b, 4, none⟩ = false ∧ W.frozen? ⟨b, 5, none⟩ = false ∧ W.frozen? ⟨b, 6, none⟩ = false ∧ W.frozen? ⟨b, 7, none⟩ = false ∧ W.frozen? ⟨b, 8, none⟩ = false ∧ W.frozen? ⟨b, 9, none⟩ = false ∧ W.frozen? ⟨b, 10, none⟩ = false :=
  ⟨frozen_of_row W b 0 _ _ h, frozen_of_row W b 1 _ _ h, frozen_of_row W b 2 _ _ h, frozen_of_row W b 3 _ _ h, frozen_of_row W b 4 _ _ h, frozen_of_row W b 5 _ _ h, frozen_of_row W b 6 _ _ h, frozen_of_row W b 7 _ _ h, frozen_of_row W b 8 _ _ h, frozen_of_row W b 9 _ _ h, frozen_of_row W b 10 _ _ h⟩
theorem formS_byte (s : Sl) : ∀ z ∈ formS s, 0 ≤ z ∧ z < 256 := by
  intro z hz
  unfold formS at hz
  split at hz
  · rcases List.mem_append.1 hz with hz | hz
    · rcases List.mem_append.1 hz with hz | hz
      · simp at hz; omega
      · simp [szB] at hz; omega
    · unfold ptrB at hz
      rcases List.mem_append.1 hz with hz | hz
      · exact bodyP_byte _ z hz
      · obtain rfl := (List.mem_replicate.1 hz).2; omega
  · obtain rfl := (List.mem_replicate.1 hz).2; omega
/-- Four bytes as a number. -/
def num4 (bs : List Int) : Int := bs.getD 4 0 + 256 * bs.getD 5 0 + 65536 * bs.getD 6 0 + 16777216 * bs.getD 7 0
theorem num4_at (bs : List Int) (hb : ∀ z ∈ bs, 0 ≤ z ∧ z < 256) : ∃ N : Nat, N < 4294967296 ∧ num4 bs = (N : Int) ∧ ∀ j, j < 4 → bs.getD (4 + j) 0 = (N : Int) / 2 ^ (8 * j) % 256 := by
  have hd : ∀ i, 0 ≤ bs.getD i 0 ∧ bs.getD i 0 < 256 := by
    intro i
    rw [List.getD_eq_getElem?_getD]
    rcases h : bs[i]? with _ | v
    · simp
    · simpa using hb v (List.mem_of_getElem? h)
  have h4 := hd 4
  have h5 := hd 5
  have h6 := hd 6
  have h7 := hd 7
  refine ⟨(num4 bs).toNat, by unfold num4; omega, by unfold num4; omega, fun j hj => ?_⟩
  rw [Int.toNat_of_nonneg (by unfold num4; omega)]
  have h : j = 0 ∨ j = 1 ∨ j = 2 ∨ j = 3 := by omega
  unfold num4
  rcases h with rfl | rfl | rfl | rfl
  · show bs.getD 4 0 = _; rw [show (2 : Int) ^ (8 * 0) = 1 by decide]; rw [Int.ediv_one]; omega
  · show bs.getD 5 0 = _; rw [show (2 : Int) ^ (8 * 1) = 256 by decide]; omega
  · show bs.getD 6 0 = _; rw [show (2 : Int) ^ (8 * 2) = 65536 by decide]; omega
  · show bs.getD 7 0 = _; rw [show (2 : Int) ^ (8 * 3) = 16777216 by decide]; omega
def slotP (bs : List Int) : Sl := ⟨decide (bs.getD 0 0 = 1), num4 bs, (decP (bs.drop 8)).1⟩
def slotE (bs : List Int) : Bool := decide ((decP (bs.drop 8)).2 = 0) && (mayS (slotP bs) && decide (formS (slotP bs) = bs))
def SlotA (w : World) (bs : List Int) (e : Ending) (w' : World) : Prop := e = .returned (.tuple #[.agg (slotP bs).arr, .bool (slotE bs)]) ∧ Frm [] w w'
theorem rd_dropT {w : World} {g o : Nat} {bs : List Int} (k : Nat) (h : ∀ i, i < bs.length → w.cell? ⟨g, o + i, none⟩ = some (.int .u8 (bs.getD i 0))) : Rd w (some ⟨g, o + k, none⟩) (bs.drop k) :=
  Or.inr ⟨g, o + k, rfl, fun i hi => by
    rw [List.length_drop] at hi
    rw [Nat.add_assoc, h (k + i) (by omega)]
    simp [List.getD_eq_getElem?_getD]⟩
set_option maxHeartbeats 12800000 in
theorem slot_any (p : Option Addr) (c : Nat) (bs : List Int) (w : World) (hr : Rd w p bs) (hL : bs.length = 72) (hc : 72 ≤ c ∧ c ≤ 9223372036854775807) (hb : ∀ z ∈ bs, 0 ≤ z ∧ z < 256) :
    Calls Try.prog 42 #[.slice p 72 c] w (SlotA w bs) := by
  obtain ⟨PO, hPO⟩ : ∃ PO : Ending → World → Prop, SlotA w bs = PO := ⟨_, rfl⟩
  rw [hPO]
  obtain ⟨sv, hsv⟩ : ∃ s, slotP bs = s := ⟨_, rfl⟩
  obtain ⟨ev, hev⟩ : ∃ s, slotE bs = s := ⟨_, rfl⟩
  have HP : Hid (∀ w', Frm [] w w' → PO (.returned (.tuple #[.agg sv.arr, .bool ev])) w') := hid (fun w' h => by rw [← hPO, ← hsv, ← hev]; exact ⟨rfl, h⟩)
  rcases hr with h0 | ⟨g, o, rfl, hcs⟩
  · rw [h0] at hL; simp at hL
  obtain ⟨N, hN, hnum, hbyte⟩ := num4_at bs hb
  have HRW : Hid (Rd w (some ⟨g, o, none⟩) bs) := hid (Or.inr ⟨g, o, rfl, hcs⟩)
  have hrd8 := rd_dropT 8 hcs
  have HCS : Hid (∀ i, i < 72 → w.cell? ⟨g, o + i, none⟩ = some (.int .u8 (bs.getD i 0))) := hid (fun i hi => hcs i (by omega))
  have HDE := hid (fun W (hf : Frm [] w W) => decode_any (some ⟨g, o + 8, none⟩) 64 (c - 8) (bs.drop 8) W (by rw [List.length_drop, hL]) (by omega) (hrd8.kept hf (by simp)) (fun z hz => hb z (List.mem_of_mem_drop hz)))
  have HBB := hid hb
  have HBL := hid hL
  have HNUM := hid hnum
  have HBY := hid hbyte
  have HN := hid hN
  obtain ⟨⟨v, E⟩, hv⟩ : ∃ q, decP (bs.drop 8) = q := ⟨_, rfl⟩
  obtain ⟨x0, hx0⟩ : ∃ x, bs.getD 0 0 = x := ⟨_, rfl⟩
  have HSV : Hid (sv = ⟨decide (x0 = 1), (N : Int), v⟩) := hid (by rw [← hsv]; unfold slotP; rw [hv, hx0, hnum])
  have HEV : Hid (ev = (decide (E = 0) && (mayS sv && decide (formS sv = bs)))) := hid (by rw [← hev, ← hsv]; unfold slotE; rw [hv])
  have HVOK : Hid (E = 0 → v.ok) := hid (fun h => by have h1 := (ptrB_decP (bs := bs.drop 8) (fun z hz => hb z (List.mem_of_mem_drop hz)) (by rw [hv]; exact h)).1; rw [hv] at h1; exact h1)
  rw [hv] at HDE
  have hz00 : w.cell? ⟨g, o, none⟩ = some (.int .u8 x0) := by have h := HCS.out 0 (by omega); rw [hx0] at h; simpa using h
  obtain ⟨a0, a1, a2, a3, a4, a5, a6, a7, a8⟩ := v
  unfold P9.arr at HDE
  simp only at HDE
  obtain ⟨hc0, hc1⟩ := hc
  obtain ⟨w1, hw1⟩ : ∃ q, w.alloc (.cells sl0.arr 48) = q := ⟨_, rfl⟩
  have HF1 : Hid (Frm [] w w1) := hid (by rw [← hw1]; exact (Frm.refl _ _).alloc _)
  obtain ⟨rb, hrb⟩ : ∃ q, w.heap.size = q := ⟨_, rfl⟩
  have HR1 : Hid (w1.heap[rb]? = some (.cells sl0.arr 48 (0, 0))) := hid (by rw [← hw1]; exact heap_alloc_to _ _ hrb)
  unfold sl0 Sl.arr Sl.row zero9 at hw1
  simp only at hw1
  have HW1 := hid hw1
  have HRB := hid hrb
  have hcap : ((c : Int) - 8).toNat = c - 8 := by omega
  clear hPO hsv hev hcs hrd8 hL hnum hbyte hN hv hx0 hw1 hrb hb
  go_enter Try.func42, Try.ntmps42
  go_upto_region 1 with fail
  rw [HRB.out, HW1.out]
  go_wp2_with fail
  refine (HDE.out _ HF1.out).mono ?_
  rintro e w2 ⟨rfl, hf2⟩
  obtain ⟨w3, hw3⟩ : ∃ q, w2.alloc (.cells #[.int .i64 a0, .int .i64 a1, .int .i64 a2, .int .u64 a3, .int .i64 a4, .int .u64 a5, .int .u64 a6, .int .u64 a7, .int .u64 a8] 40) = q := ⟨_, rfl⟩
  have HF3 : Hid (Frm [] w1 w3) := hid (by rw [← hw3]; exact hf2.trans ((Frm.refl [] w2).alloc _) (by simp))
  obtain ⟨pb, hpb⟩ : ∃ q, w2.heap.size = q := ⟨_, rfl⟩
  have hrow3 : w3.heap[pb]? = some (.cells #[.int .i64 a0, .int .i64 a1, .int .i64 a2, .int .u64 a3, .int .i64 a4, .int .u64 a5, .int .u64 a6, .int .u64 a7, .int .u64 a8] 40 (0, 0)) := by rw [← hw3]; exact heap_alloc_to _ _ hpb
  obtain ⟨y0, y1, y2, y3, y4, y5, y6, y7, y8⟩ := ptr_cells (p := ⟨a0, a1, a2, a3, a4, a5, a6, a7, a8⟩) hrow3
  simp only at y0 y1 y2 y3 y4 y5 y6 y7 y8
  have z0 : w3.cell? ⟨g, o, none⟩ = some (.int .u8 x0) := ((HF1.out.trans HF3.out (by simp)).cell (World.block_lt_of_cell? _ _ hz00) (by simp)).trans hz00
  have HW3 := hid hw3
  have HPB := hid hpb
  clear hw3 hpb hf2 hrow3 HDE hz00
  go_upto_region 2 with fail
  rw [HPB.out, HW3.out]
  clear HPB HW3
  have hbz : ∀ W (U : Bool), (Instr.build 48 #[(0, .bool U), (2, .agg #[.int .i64 a0, .int .i64 a1, .int .i64 a2, .int .u64 a3, .int .i64 a4, .int .u64 a5, .int .u64 a6, .int .u64 a7, .int .u64 a8])]).run Try.prog W = .ok (.agg #[.bool U, .int .i64 0, .int .i64 a0, .int .i64 a1, .int .i64 a2, .int .u64 a3, .int .i64 a4, .int .u64 a5, .int .u64 a6, .int .u64 a7, .int .u64 a8]) W := fun W U => run_build W _ _ _ (by kernel_rfl)
  obtain ⟨U, hU⟩ : ∃ u, decide (x0 = 1) = u := ⟨_, rfl⟩
  have HF4 : Hid (Frm [] w3 (w3.drew.alloc (.cells #[.bool false, .int .i64 0, .int .i64 0, .int .i64 0, .int .i64 0, .int .u64 0, .int .i64 0, .int .u64 0, .int .u64 0, .int .u64 0, .int .u64 0] 48))) := hid ((Frm.refl [] w3).drew.alloc _)
  have k0 : (w3.drew.alloc (.cells #[.bool false, .int .i64 0, .int .i64 0, .int .i64 0, .int .i64 0, .int .u64 0, .int .i64 0, .int .u64 0, .int .u64 0, .int .u64 0, .int .u64 0] 48)).cell? ⟨g, o, none⟩ = some (.int .u8 x0) := (HF4.out.cell (World.block_lt_of_cell? _ _ z0) (by simp)).trans z0
  have k1 : (w3.drew.alloc (.cells #[.bool false, .int .i64 0, .int .i64 0, .int .i64 0, .int .i64 0, .int .u64 0, .int .i64 0, .int .u64 0, .int .u64 0, .int .u64 0, .int .u64 0] 48)).cell? ⟨pb, 0, none⟩ = some (.int .i64 a0) := (HF4.out.cell (World.block_lt_of_cell? _ _ y0) (by simp)).trans y0
  have k2 : (w3.drew.alloc (.cells #[.bool false, .int .i64 0, .int .i64 0, .int .i64 0, .int .i64 0, .int .u64 0, .int .i64 0, .int .u64 0, .int .u64 0, .int .u64 0, .int .u64 0] 48)).cell? ⟨pb, 1, none⟩ = some (.int .i64 a1) := (HF4.out.cell (World.block_lt_of_cell? _ _ y1) (by simp)).trans y1
  have k3 : (w3.drew.alloc (.cells #[.bool false, .int .i64 0, .int .i64 0, .int .i64 0, .int .i64 0, .int .u64 0, .int .i64 0, .int .u64 0, .int .u64 0, .int .u64 0, .int .u64 0] 48)).cell? ⟨pb, 2, none⟩ = some (.int .i64 a2) := (HF4.out.cell (World.block_lt_of_cell? _ _ y2) (by simp)).trans y2
  have k4 : (w3.drew.alloc (.cells #[.bool false, .int .i64 0, .int .i64 0, .int .i64 0, .int .i64 0, .int .u64 0, .int .i64 0, .int .u64 0, .int .u64 0, .int .u64 0, .int .u64 0] 48)).cell? ⟨pb, 3, none⟩ = some (.int .u64 a3) := (HF4.out.cell (World.block_lt_of_cell? _ _ y3) (by simp)).trans y3
  have k5 : (w3.drew.alloc (.cells #[.bool false, .int .i64 0, .int .i64 0, .int .i64 0, .int .i64 0, .int .u64 0, .int .i64 0, .int .u64 0, .int .u64 0, .int .u64 0, .int .u64 0] 48)).cell? ⟨pb, 4, none⟩ = some (.int .i64 a4) := (HF4.out.cell (World.block_lt_of_cell? _ _ y4) (by simp)).trans y4
  have k6 : (w3.drew.alloc (.cells #[.bool false, .int .i64 0, .int .i64 0, .int .i64 0, .int .i64 0, .int .u64 0, .int .i64 0, .int .u64 0, .int .u64 0, .int .u64 0, .int .u64 0] 48)).cell? ⟨pb, 5, none⟩ = some (.int .u64 a5) := (HF4.out.cell (World.block_lt_of_cell? _ _ y5) (by simp)).trans y5
  have k7 : (w3.drew.alloc (.cells #[.bool false, .int .i64 0, .int .i64 0, .int .i64 0, .int .i64 0, .int .u64 0, .int .i64 0, .int .u64 0, .int .u64 0, .int .u64 0, .int .u64 0] 48)).cell? ⟨pb, 6, none⟩ = some (.int .u64 a6) := (HF4.out.cell (World.block_lt_of_cell? _ _ y6) (by simp)).trans y6
  have k8 : (w3.drew.alloc (.cells #[.bool false, .int .i64 0, .int .i64 0, .int .i64 0, .int .i64 0, .int .u64 0, .int .i64 0, .int .u64 0, .int .u64 0, .int .u64 0, .int .u64 0] 48)).cell? ⟨pb, 7, none⟩ = some (.int .u64 a7) := (HF4.out.cell (World.block_lt_of_cell? _ _ y7) (by simp)).trans y7
  have k9 : (w3.drew.alloc (.cells #[.bool false, .int .i64 0, .int .i64 0, .int .i64 0, .int .i64 0, .int .u64 0, .int .i64 0, .int .u64 0, .int .u64 0, .int .u64 0, .int .u64 0] 48)).cell? ⟨pb, 8, none⟩ = some (.int .u64 a8) := (HF4.out.cell (World.block_lt_of_cell? _ _ y8) (by simp)).trans y8
  refine wp_region_tail (S := fun W => (W.cell? ⟨g, o, none⟩ = some (.int .u8 x0) ∧ W.cell? ⟨pb, 0, none⟩ = some (.int .i64 a0) ∧ W.cell? ⟨pb, 1, none⟩ = some (.int .i64 a1) ∧ W.cell? ⟨pb, 2, none⟩ = some (.int .i64 a2) ∧ W.cell? ⟨pb, 3, none⟩ = some (.int .u64 a3) ∧ W.cell? ⟨pb, 4, none⟩ = some (.int .i64 a4) ∧ W.cell? ⟨pb, 5, none⟩ = some (.int .u64 a5) ∧ W.cell? ⟨pb, 6, none⟩ = some (.int .u64 a6) ∧ W.cell? ⟨pb, 7, none⟩ = some (.int .u64 a7) ∧ W.cell? ⟨pb, 8, none⟩ = some (.int .u64 a8))) 7 8 rfl (by kernel_rfl) (by kernel_rfl) ?_
  refine wpAnyHT_take (i := 0) (oi := _) (v := ?_) (by kernel_rfl) rfl (by kernel_rfl) (by kernel_rfl) (by kernel_rfl) (by kernel_rfl) (fun _ _ _ h => h) (Or.inl ⟨by rfl, ?_⟩) ⟨z0, y0, y1, y2, y3, y4, y5, y6, y7, y8⟩ ?_
  rotate_left 1
  · (intro W hSw; obtain ⟨h0, p0, p1, p2, p3, p4, p5, p6, p7, p8⟩ := hSw; (try simp only [List.getElem_toArray, List.getElem_cons_zero]); go_simp; try with_reducible rfl)
  try simp only [List.getElem_toArray, List.getElem_cons_zero, Act.put, List.setIfInBounds_toArray, List.set_cons_zero, List.set_cons_succ]
  refine wpAnyHT_take (i := 1) (oi := _) (v := ?_) (by kernel_rfl) rfl (by kernel_rfl) (by kernel_rfl) (by kernel_rfl) (by kernel_rfl) (fun _ _ _ h => h) (Or.inl ⟨by rfl, ?_⟩) ⟨z0, y0, y1, y2, y3, y4, y5, y6, y7, y8⟩ ?_
  rotate_left 1
  · (intro W hSw; obtain ⟨h0, p0, p1, p2, p3, p4, p5, p6, p7, p8⟩ := hSw; (try simp only [List.getElem_toArray, List.getElem_cons_succ, List.getElem_cons_zero]); go_simp; try with_reducible rfl)
  try simp only [List.getElem_toArray, List.getElem_cons_succ, List.getElem_cons_zero, Act.put, List.setIfInBounds_toArray, List.set_cons_zero, List.set_cons_succ]
  refine wpAnyHT_take (i := 2) (oi := _) (v := ?_) (by kernel_rfl) rfl (by kernel_rfl) (by kernel_rfl) (by kernel_rfl) (by kernel_rfl) (fun _ _ _ h => h) (Or.inl ⟨by rfl, ?_⟩) ⟨z0, y0, y1, y2, y3, y4, y5, y6, y7, y8⟩ ?_
  rotate_left 1
  · (intro W hSw; obtain ⟨h0, p0, p1, p2, p3, p4, p5, p6, p7, p8⟩ := hSw; (try simp only [List.getElem_toArray, List.getElem_cons_succ, List.getElem_cons_zero]); go_simp; try with_reducible rfl)
  try simp only [List.getElem_toArray, List.getElem_cons_succ, List.getElem_cons_zero, Act.put, List.setIfInBounds_toArray, List.set_cons_zero, List.set_cons_succ]
  refine wpAnyHT_take (i := 3) (oi := _) (v := ?_) (by kernel_rfl) rfl (by kernel_rfl) (by kernel_rfl) (by kernel_rfl) (by kernel_rfl) (fun _ _ _ h => h) (Or.inl ⟨by rfl, ?_⟩) ⟨z0, y0, y1, y2, y3, y4, y5, y6, y7, y8⟩ ?_
  rotate_left 1
  · (intro W hSw; obtain ⟨h0, p0, p1, p2, p3, p4, p5, p6, p7, p8⟩ := hSw; (try simp only [List.getElem_toArray, List.getElem_cons_succ, List.getElem_cons_zero]); go_simp; try with_reducible rfl)
  try simp only [List.getElem_toArray, List.getElem_cons_succ, List.getElem_cons_zero, Act.put, List.setIfInBounds_toArray, List.set_cons_zero, List.set_cons_succ]
  refine wpAnyHT_take (i := 4) (oi := _) (v := ?_) (by kernel_rfl) rfl (by kernel_rfl) (by kernel_rfl) (by kernel_rfl) (by kernel_rfl) (fun _ _ _ h => h) (Or.inl ⟨by rfl, ?_⟩) ⟨z0, y0, y1, y2, y3, y4, y5, y6, y7, y8⟩ ?_
  rotate_left 1
  · (intro W hSw; obtain ⟨h0, p0, p1, p2, p3, p4, p5, p6, p7, p8⟩ := hSw; (try simp only [List.getElem_toArray, List.getElem_cons_succ, List.getElem_cons_zero]); go_simp; try with_reducible rfl)
  try simp only [List.getElem_toArray, List.getElem_cons_succ, List.getElem_cons_zero, Act.put, List.setIfInBounds_toArray, List.set_cons_zero, List.set_cons_succ]
  refine wpAnyHT_take (i := 5) (oi := _) (v := ?_) (by kernel_rfl) rfl (by kernel_rfl) (by kernel_rfl) (by kernel_rfl) (by kernel_rfl) (fun _ _ _ h => h) (Or.inl ⟨by rfl, ?_⟩) ⟨z0, y0, y1, y2, y3, y4, y5, y6, y7, y8⟩ ?_
  rotate_left 1
  · (intro W hSw; obtain ⟨h0, p0, p1, p2, p3, p4, p5, p6, p7, p8⟩ := hSw; (try simp only [List.getElem_toArray, List.getElem_cons_succ, List.getElem_cons_zero]); go_simp; try with_reducible rfl)
  try simp only [List.getElem_toArray, List.getElem_cons_succ, List.getElem_cons_zero, Act.put, List.setIfInBounds_toArray, List.set_cons_zero, List.set_cons_succ]
  refine wpAnyHT_one (i := 6) rfl (by kernel_rfl) (by kernel_rfl) (fun K hK => ?_)
  try simp only [List.getElem_toArray, List.getElem_cons_succ, List.getElem_cons_zero]
  go_simp
  refine hK _ _ ⟨k0, k1, k2, k3, k4, k5, k6, k7, k8, k9⟩ ?_
  clear hK K
  try simp only [List.getElem_toArray, List.getElem_cons_succ, List.getElem_cons_zero, Act.put, List.setIfInBounds_toArray, List.set_cons_zero, List.set_cons_succ]
  refine wpAnyHT_end (by kernel_rfl) ?_
  simp only [List.drop_succ_cons, List.drop_zero]
  go_wp2_with fail
  obtain ⟨sb, hsb⟩ : ∃ q, w3.heap.size = q := ⟨_, rfl⟩
  obtain ⟨w5, hw5⟩ : ∃ q, (w3.alloc (.cells #[.bool (x0 == 1), .int .i64 0, .int .i64 a0, .int .i64 a1, .int .i64 a2, .int .u64 a3, .int .i64 a4, .int .u64 a5, .int .u64 a6, .int .u64 a7, .int .u64 a8] 48)).drew = q := ⟨_, rfl⟩
  have HR5 : Hid (w5.heap[sb]? = some (.cells (Sl.arr ⟨x0 == 1, ((N % 2 ^ (8 * 0) : Nat) : Int), ⟨a0, a1, a2, a3, a4, a5, a6, a7, a8⟩⟩) 48 (0, 0))) := hid (by
    rw [← hw5]
    refine (heap_alloc_to _ _ hsb).trans ?_
    rw [show 8 * 0 = 0 from rfl, Nat.pow_zero, Nat.mod_one]
    rfl)
  have HF5 : Hid (Frm [] w3 w5) := hid (by rw [← hw5]; exact ((Frm.refl [] w3).alloc _).drew)
  have HSB : Hid (w3.heap.size = sb) := hid hsb
  rw [hw5, hsb]
  clear hw5 hsb y0 y1 y2 y3 y4 y5 y6 y7 y8 z0 k0 k1 k2 k3 k4 k5 k6 k7 k8 k9 hbz
  obtain ⟨U, hU⟩ : ∃ u, (x0 == 1) = u := ⟨_, rfl⟩
  have HSV2 : Hid (sv = ⟨U, (N : Int), ⟨a0, a1, a2, a3, a4, a5, a6, a7, a8⟩⟩) := hid (by rw [HSV.out, ← hU]; rfl)
  rw [hU] at HR5 ⊢
  clear hU HSV
  go_loopw [20] (fun i wr => ∃ (t : Nat), t ≤ 4 ∧ i = .int .i64 (t : Int) ∧ Hid (Frm [sb] w5 wr ∧ wr.heap[sb]? = some (.cells (Sl.arr ⟨U, ((N % 2 ^ (8 * t) : Nat) : Int), ⟨a0, a1, a2, a3, a4, a5, a6, a7, a8⟩⟩) 48 (0, 0)))) (fun i _ => 4 - (intOf i).toNat)
  case atStart => exact ⟨0, Nat.zero_le _, rfl, hid ⟨Frm.refl _ _, HR5.out⟩⟩
  case round =>
    obtain ⟨t, ht, rfl, hin⟩ := hrel
    have HIN := hid hin.out
    clear hin
    by_cases hlt : t < 4
    · have hol := or_modT N t hlt
      obtain ⟨A, hA⟩ : ∃ A, N % 2 ^ (8 * t) = A := ⟨_, rfl⟩
      obtain ⟨x, hx⟩ : ∃ x, (N : Int) / 2 ^ (8 * t) % 256 = x := ⟨_, rfl⟩
      have hxb : 0 ≤ x ∧ x < 256 := by rw [← hx]; omega
      rw [hA, hx, IntWalk.i64_left] at hol
      have HOL := hid hol
      have c1 := (sl_cells HIN.out.2).2.1
      simp only at c1
      rw [hA] at c1
      have hfz := frozen_of_row wr sb 1 _ _ HIN.out.2
      have hbyte := HCS.out (4 + t) (by omega)
      rw [HBY.out t hlt, hx] at hbyte
      have b1 : wr.cell? ⟨g, o + (4 + t), none⟩ = some (.int .u8 x) := by
        have h1 := World.block_lt_of_cell? _ _ hbyte
        have h2 := (HF1.out.trans HF3.out (by simp)).trans HF5.out (by simp)
        refine (HIN.out.1.cell (Nat.lt_of_lt_of_le h1 h2.size) ?_).trans ((h2.cell h1 (by simp)).trans hbyte)
        have h3 := (HF1.out.trans HF3.out (by simp)).size
        have h4 := HSB.out
        simp only at h1
        simp only [List.mem_singleton]
        omega
      have HA := hid hA
      clear hol hA hx hbyte
      have h8 : wrap64 (4 + (t : Int)) = 4 + (t : Int) := by unfold wrap64; omega
      have h8b : IntKind.i64.wrap (4 + (t : Int)) = 4 + (t : Int) := by rw [IntKind.wrap_i64]; omega
      have h8c : (4 + (t : Int)).toNat = 4 + t := by omega
      have h8d : wrap64 (8 * (t : Int)) = 8 * (t : Int) := by unfold wrap64; omega
      have h8e : IntKind.i64.wrap (8 * (t : Int)) = 8 * (t : Int) := by rw [IntKind.wrap_i64]; omega
      obtain ⟨x0', x1'⟩ := hxb
      have hi0 : (0 : Int) ≤ 4 + (t : Int) := by omega
      have hi1 : 4 + (t : Int) < 72 := by omega
      have hi2 : decide (4 + (t : Int) < 72) = true := decide_eq_true hi1
      have hi3 : decide ((0 : Int) ≤ 4 + (t : Int)) = true := decide_eq_true hi0
      have hs0 : (0 : Int) ≤ 8 * (t : Int) := by omega
      have hs1 : 8 * (t : Int) ≤ 64 := by omega
      have hs2 : (8 * (t : Int)).toNat = 8 * t := by omega
      go_upto_region 6 with fail
      refine wp_region_tail (S := fun W => (W.cell? ⟨sb, 1, none⟩ = some (.int .i64 (A : Int)) ∧ W.cell? ⟨g, o + (4 + t), none⟩ = some (.int .u8 x))) 13 14 rfl (by kernel_rfl) (by kernel_rfl) ?_
      refine wpAnyHT_take (i := 0) (oi := _) (v := ?_) (by kernel_rfl) rfl (by kernel_rfl) (by kernel_rfl) (by kernel_rfl) (by kernel_rfl) (fun _ _ _ h => h) (Or.inl ⟨by rfl, ?_⟩) ⟨c1, b1⟩ ?_
      rotate_left 1
      · (intro W hSw; obtain ⟨h0, h1⟩ := hSw; (try simp only [List.getElem_toArray, List.getElem_cons_zero]); go_simp; try with_reducible rfl)
      try simp only [List.getElem_toArray, List.getElem_cons_zero, Act.put, List.setIfInBounds_toArray, List.set_cons_zero, List.set_cons_succ]
      refine wpAnyHT_take (i := 1) (oi := _) (v := ?_) (by kernel_rfl) rfl (by kernel_rfl) (by kernel_rfl) (by kernel_rfl) (by kernel_rfl) (fun _ _ _ h => h) (Or.inl ⟨by rfl, ?_⟩) ⟨c1, b1⟩ ?_
      rotate_left 1
      · (intro W hSw; obtain ⟨h0, h1⟩ := hSw; (try simp only [List.getElem_toArray, List.getElem_cons_succ, List.getElem_cons_zero]); go_simp; try with_reducible rfl)
      try simp only [List.getElem_toArray, List.getElem_cons_succ, List.getElem_cons_zero, Act.put, List.setIfInBounds_toArray, List.set_cons_zero, List.set_cons_succ]
      refine wpAnyHT_take (i := 2) (oi := _) (v := ?_) (by kernel_rfl) rfl (by kernel_rfl) (by kernel_rfl) (by kernel_rfl) (by kernel_rfl) (fun _ _ _ h => h) (Or.inl ⟨by rfl, ?_⟩) ⟨c1, b1⟩ ?_
      rotate_left 1
      · (intro W hSw; obtain ⟨h0, h1⟩ := hSw; (try simp only [List.getElem_toArray, List.getElem_cons_succ, List.getElem_cons_zero]); go_simp; try with_reducible rfl)
      try simp only [List.getElem_toArray, List.getElem_cons_succ, List.getElem_cons_zero, Act.put, List.setIfInBounds_toArray, List.set_cons_zero, List.set_cons_succ]
      refine wpAnyHT_take (i := 3) (oi := _) (v := ?_) (by kernel_rfl) rfl (by kernel_rfl) (by kernel_rfl) (by kernel_rfl) (by kernel_rfl) (fun _ _ _ h => h) (Or.inl ⟨by rfl, ?_⟩) ⟨c1, b1⟩ ?_
      rotate_left 1
      · (intro W hSw; obtain ⟨h0, h1⟩ := hSw; (try simp only [List.getElem_toArray, List.getElem_cons_succ, List.getElem_cons_zero]); go_simp; try with_reducible rfl)
      try simp only [List.getElem_toArray, List.getElem_cons_succ, List.getElem_cons_zero, Act.put, List.setIfInBounds_toArray, List.set_cons_zero, List.set_cons_succ]
      refine wpAnyHT_take (i := 4) (oi := _) (v := ?_) (by kernel_rfl) rfl (by kernel_rfl) (by kernel_rfl) (by kernel_rfl) (by kernel_rfl) (fun _ _ _ h => h) (Or.inl ⟨by rfl, ?_⟩) ⟨c1, b1⟩ ?_
      rotate_left 1
      · (intro W hSw; obtain ⟨h0, h1⟩ := hSw; (try simp only [List.getElem_toArray, List.getElem_cons_succ, List.getElem_cons_zero]); go_simp; try with_reducible rfl)
      try simp only [List.getElem_toArray, List.getElem_cons_succ, List.getElem_cons_zero, Act.put, List.setIfInBounds_toArray, List.set_cons_zero, List.set_cons_succ]
      refine wpAnyHT_take (i := 5) (oi := _) (v := ?_) (by kernel_rfl) rfl (by kernel_rfl) (by kernel_rfl) (by kernel_rfl) (by kernel_rfl) (fun _ _ _ h => h) (Or.inl ⟨by rfl, ?_⟩) ⟨c1, b1⟩ ?_
      rotate_left 1
      · (intro W hSw; obtain ⟨h0, h1⟩ := hSw; (try simp only [List.getElem_toArray, List.getElem_cons_succ, List.getElem_cons_zero]); go_simp; try with_reducible rfl)
      try simp only [List.getElem_toArray, List.getElem_cons_succ, List.getElem_cons_zero, Act.put, List.setIfInBounds_toArray, List.set_cons_zero, List.set_cons_succ]
      refine wpAnyHT_take (i := 6) (oi := _) (v := ?_) (by kernel_rfl) rfl (by kernel_rfl) (by kernel_rfl) (by kernel_rfl) (by kernel_rfl) (fun _ _ _ h => h) (Or.inl ⟨by rfl, ?_⟩) ⟨c1, b1⟩ ?_
      rotate_left 1
      · (intro W hSw; obtain ⟨h0, h1⟩ := hSw; (try simp only [List.getElem_toArray, List.getElem_cons_succ, List.getElem_cons_zero]); go_simp; try with_reducible rfl)
      try simp only [List.getElem_toArray, List.getElem_cons_succ, List.getElem_cons_zero, Act.put, List.setIfInBounds_toArray, List.set_cons_zero, List.set_cons_succ]
      refine wpAnyHT_take (i := 7) (oi := _) (v := ?_) (by kernel_rfl) rfl (by kernel_rfl) (by kernel_rfl) (by kernel_rfl) (by kernel_rfl) (fun _ _ _ h => h) (Or.inl ⟨by rfl, ?_⟩) ⟨c1, b1⟩ ?_
      rotate_left 1
      · (intro W hSw; obtain ⟨h0, h1⟩ := hSw; (try simp only [List.getElem_toArray, List.getElem_cons_succ, List.getElem_cons_zero]); go_simp; try with_reducible rfl)
      try simp only [List.getElem_toArray, List.getElem_cons_succ, List.getElem_cons_zero, Act.put, List.setIfInBounds_toArray, List.set_cons_zero, List.set_cons_succ]
      refine wpAnyHT_take (i := 8) (oi := _) (v := ?_) (by kernel_rfl) rfl (by kernel_rfl) (by kernel_rfl) (by kernel_rfl) (by kernel_rfl) (fun _ _ _ h => h) (Or.inl ⟨by rfl, ?_⟩) ⟨c1, b1⟩ ?_
      rotate_left 1
      · (intro W hSw; obtain ⟨h0, h1⟩ := hSw; (try simp only [List.getElem_toArray, List.getElem_cons_succ, List.getElem_cons_zero]); go_simp; try with_reducible rfl)
      try simp only [List.getElem_toArray, List.getElem_cons_succ, List.getElem_cons_zero, Act.put, List.setIfInBounds_toArray, List.set_cons_zero, List.set_cons_succ]
      refine wpAnyHT_take (i := 9) (oi := _) (v := ?_) (by kernel_rfl) rfl (by kernel_rfl) (by kernel_rfl) (by kernel_rfl) (by kernel_rfl) (fun _ _ _ h => h) (Or.inl ⟨by rfl, ?_⟩) ⟨c1, b1⟩ ?_
      rotate_left 1
      · (intro W hSw; obtain ⟨h0, h1⟩ := hSw; (try simp only [List.getElem_toArray, List.getElem_cons_succ, List.getElem_cons_zero]); go_simp; try with_reducible rfl)
      try simp only [List.getElem_toArray, List.getElem_cons_succ, List.getElem_cons_zero, Act.put, List.setIfInBounds_toArray, List.set_cons_zero, List.set_cons_succ]
      refine wpAnyHT_take (i := 10) (oi := _) (v := ?_) (by kernel_rfl) rfl (by kernel_rfl) (by kernel_rfl) (by kernel_rfl) (by kernel_rfl) (fun _ _ _ h => h) (Or.inl ⟨by rfl, ?_⟩) ⟨c1, b1⟩ ?_
      rotate_left 1
      · (intro W hSw; obtain ⟨h0, h1⟩ := hSw; (try simp only [List.getElem_toArray, List.getElem_cons_succ, List.getElem_cons_zero]); go_simp; try with_reducible rfl)
      try simp only [List.getElem_toArray, List.getElem_cons_succ, List.getElem_cons_zero, Act.put, List.setIfInBounds_toArray, List.set_cons_zero, List.set_cons_succ]
      refine wpAnyHT_take (i := 11) (oi := _) (v := ?_) (by kernel_rfl) rfl (by kernel_rfl) (by kernel_rfl) (by kernel_rfl) (by kernel_rfl) (fun _ _ _ h => h) (Or.inl ⟨by rfl, ?_⟩) ⟨c1, b1⟩ ?_
      rotate_left 1
      · (intro W hSw; obtain ⟨h0, h1⟩ := hSw; (try simp only [List.getElem_toArray, List.getElem_cons_succ, List.getElem_cons_zero]); go_simp; try with_reducible rfl)
      try simp only [List.getElem_toArray, List.getElem_cons_succ, List.getElem_cons_zero, Act.put, List.setIfInBounds_toArray, List.set_cons_zero, List.set_cons_succ]
      refine wpAnyHT_take (i := 12) (oi := _) (v := ?_) (by kernel_rfl) rfl (by kernel_rfl) (by kernel_rfl) (by kernel_rfl) (by kernel_rfl) (fun _ _ _ h => h) (Or.inl ⟨by rfl, ?_⟩) ⟨c1, b1⟩ ?_
      rotate_left 1
      · (intro W hSw; obtain ⟨h0, h1⟩ := hSw; (try simp only [List.getElem_toArray, List.getElem_cons_succ, List.getElem_cons_zero]); go_simp; try with_reducible rfl)
      try simp only [List.getElem_toArray, List.getElem_cons_succ, List.getElem_cons_zero, Act.put, List.setIfInBounds_toArray, List.set_cons_zero, List.set_cons_succ]
      refine wpAnyHT_end (by kernel_rfl) ?_
      simp only [List.drop_succ_cons, List.drop_zero]
      go_wp2_with fail
      have HNX : Hid (∀ v : Int, v = ((N % 2 ^ (8 * (t + 1)) : Nat) : Int) → Frm [sb] w5 (wr.drew.setCell ⟨sb, 1, none⟩ (.int .i64 v)) ∧ (wr.drew.setCell ⟨sb, 1, none⟩ (.int .i64 v)).heap[sb]? = some (.cells (Sl.arr ⟨U, ((N % 2 ^ (8 * (t + 1)) : Nat) : Int), ⟨a0, a1, a2, a3, a4, a5, a6, a7, a8⟩⟩) 48 (0, 0))) := hid (fun v hv => by
        rw [hv]
        refine ⟨HIN.out.1.drew.setCell _ _ (by simp), ?_⟩
        rw [heap_setCell_same wr.drew sb 1 _ _ _ HIN.out.2]
        rfl)
      go_roundw
      case rel => exact ⟨t + 1, by omega, by go_num, hid (HNX.out _ HOL.out)⟩
      case measure => first | (simp [intOf]; done) | (simp [intOf]; omega)
    · obtain rfl : t = 4 := by omega
      clear ht hlt
      have HIN4 : Hid (Frm [sb] w5 wr ∧ wr.heap[sb]? = some (.cells (Sl.arr ⟨U, (N : Int), ⟨a0, a1, a2, a3, a4, a5, a6, a7, a8⟩⟩) 48 (0, 0))) := hid (by
        have h := HIN.out
        rw [show 8 * 4 = 32 from rfl, Nat.mod_eq_of_lt (show N < 2 ^ 32 from HN.out)] at h
        exact h)
      clear HIN
      have HW5 := hid ((HF1.out.trans HF3.out (by simp)).trans HF5.out (by simp))
      have HWR : Hid (Frm [] w wr) := hid (HW5.out.trans HIN4.out.1 (fun i hi hl => by rw [List.mem_singleton] at hi; have := HSB.out; have := (HF1.out.trans HF3.out (by simp)).size; omega))
      have hrb1 : rb < w1.heap.size := lt_of_heap HR1.out
      have HNE : Hid (sb ≠ rb) := hid (by have := HSB.out; have := HF3.out.size; omega)
      have HRR : Hid (wr.heap[rb]? = some (.cells sl0.arr 48 (0, 0))) := hid (HIN4.out.1.heap ((HF3.out.trans HF5.out (by simp)).heap HR1.out (by simp)) (by have := HNE.out; intro h; rw [List.mem_singleton] at h; omega))
      have HS0 : Hid (wr.drew.heap[sb]? = some (.cells (Sl.arr ⟨U, (N : Int), ⟨a0, a1, a2, a3, a4, a5, a6, a7, a8⟩⟩) 48 (0, 0)) ∧ Frm [rb] wr wr.drew ∧ ∃ s : Sl, wr.drew.heap[rb]? = some (.cells s.arr 48 (0, 0))) := hid ⟨HIN4.out.2, (Frm.refl _ _).drew, sl0, HRR.out⟩
      have HMB := hid (fun W => maybe_any ⟨U, (N : Int), ⟨a0, a1, a2, a3, a4, a5, a6, a7, a8⟩⟩ W)
      have HRWW : Hid (∀ W, Frm [rb] wr W → Rd W (some ⟨g, o, none⟩) bs) := hid (fun W hW => by
        have hg : g ≠ rb := by have h1 : g < w.heap.size := World.block_lt_of_cell? _ _ (HCS.out 0 (by omega)); have := HRB.out; omega
        exact HRW.out.kept (HWR.out.trans hW (fun i hi hl => by rw [List.mem_singleton] at hi; have := HRB.out; omega)) (by simp))
      have HFO := hid (fun (h : mayS ⟨U, (N : Int), ⟨a0, a1, a2, a3, a4, a5, a6, a7, a8⟩⟩ = true) (hE : E = 0) W => formSl_any ⟨U, (N : Int), ⟨a0, a1, a2, a3, a4, a5, a6, a7, a8⟩⟩ (mayS_cond h (HVOK.out hE)) W)
      obtain ⟨M, hM⟩ : ∃ M, mayS ⟨U, (N : Int), ⟨a0, a1, a2, a3, a4, a5, a6, a7, a8⟩⟩ = M := ⟨_, rfl⟩
      rw [hM] at HMB HFO
      obtain ⟨fs, hfs⟩ : ∃ fs, formS ⟨U, (N : Int), ⟨a0, a1, a2, a3, a4, a5, a6, a7, a8⟩⟩ = fs := ⟨_, rfl⟩
      have HFA : Hid (∀ W e w', FormA W ⟨U, (N : Int), ⟨a0, a1, a2, a3, a4, a5, a6, a7, a8⟩⟩ e w' → ∃ g, e = .returned (.slice (some ⟨g, 0, none⟩) 72 72) ∧ w'.heap[g]? = some (.cells (bv fs).toArray 5 (0, 0)) ∧ Frm [] W w' ∧ W.heap.size ≤ g) := hid (by rw [← hfs]; exact fun W e w' h => h)
      have HEV2 : Hid (ev = (decide (E = 0) && (M && decide (fs = bs)))) := hid (by rw [HEV.out, HSV2.out, hM, hfs])
      have hfl : fs.length = 72 := by rw [← hfs]; exact formS_len _
      have hfz : ∀ z ∈ fs, 0 ≤ z ∧ z < 256 := by rw [← hfs]; exact formS_byte _
      obtain ⟨D, hD⟩ : ∃ D, decide (fs = bs) = D := ⟨_, rfl⟩
      have HEQ : Hid (∀ W q, Rd W q fs → Frm [rb] wr W → Calls Try.prog 57 #[.slice q 72 72, .slice (some ⟨g, o, none⟩) 72 c] W fun e w' => e = .returned (.bool D) ∧ w' = W) := hid (fun W q h1 h2 => by rw [← hD]; exact equalB_any q (some ⟨g, o, none⟩) 72 72 72 c fs bs W h1 (HRWW.out W h2) hfl HBL.out hfz HBB.out)
      rw [hD] at HEV2
      have HEND : Hid (∀ b wz, ev = b → Frm [] w wz → PO (.returned (.tuple #[.agg #[.bool U, .int .i64 (N : Int), .int .i64 a0, .int .i64 a1, .int .i64 a2, .int .u64 a3, .int .i64 a4, .int .u64 a5, .int .u64 a6, .int .u64 a7, .int .u64 a8], .bool b])) wz) := hid (fun b wz h1 h2 => by
        have h := HP.out wz h2
        rw [HSV2.out, h1] at h
        exact h)
      clear hM hfs hfl hfz hD hrb1 HP HEV HRR HIN4 HVOK HCS HRW
      unfold Sl.arr Sl.row at HMB HFO
      simp only at HMB HFO
      by_cases hE : E = 0
      · subst hE
        go_upto_region 8 with fail
        cases M
        · have HEB : Hid (ev = false) := hid (by rw [HEV2.out]; simp)
          clear HFO HEQ
          refine wp_region_tail (S := fun W => (W.heap[sb]? = some (.cells (Sl.arr ⟨U, (N : Int), ⟨a0, a1, a2, a3, a4, a5, a6, a7, a8⟩⟩) 48 (0, 0)) ∧ Frm [rb] wr W ∧ ∃ s : Sl, W.heap[rb]? = some (.cells s.arr 48 (0, 0)))) 14 15 rfl (by kernel_rfl) (by kernel_rfl) ?_
          refine wpAnyHT_take (i := 0) (oi := _) (v := ?_) (by kernel_rfl) rfl (by kernel_rfl) (by kernel_rfl) (by kernel_rfl) (by kernel_rfl) (fun _ _ _ h => h) (Or.inl ⟨by rfl, ?_⟩) HS0.out ?_
          rotate_left 1
          · (intro W hSw; obtain ⟨h0, h1, h2, h3, h4, h5, h6, h7, h8, h9, h10⟩ := sl_cells hSw.1; simp only at h0 h1 h2 h3 h4 h5 h6 h7 h8 h9 h10; (try simp only [List.getElem_toArray, List.getElem_cons_zero]); go_simp; try with_reducible rfl)
          try simp only [List.getElem_toArray, List.getElem_cons_zero, Act.put, List.setIfInBounds_toArray, List.set_cons_zero, List.set_cons_succ]
          refine wpAnyHT_take (i := 1) (oi := _) (v := ?_) (by kernel_rfl) rfl (by kernel_rfl) (by kernel_rfl) (by kernel_rfl) (by kernel_rfl) (fun _ _ _ h => h) (Or.inl ⟨by rfl, ?_⟩) HS0.out ?_
          rotate_left 1
          · (intro W hSw; obtain ⟨h0, h1, h2, h3, h4, h5, h6, h7, h8, h9, h10⟩ := sl_cells hSw.1; simp only at h0 h1 h2 h3 h4 h5 h6 h7 h8 h9 h10; (try simp only [List.getElem_toArray, List.getElem_cons_succ, List.getElem_cons_zero]); go_simp; try with_reducible rfl)
          try simp only [List.getElem_toArray, List.getElem_cons_succ, List.getElem_cons_zero, Act.put, List.setIfInBounds_toArray, List.set_cons_zero, List.set_cons_succ]
          refine wpAnyHT_take (i := 2) (oi := _) (v := ?_) (by kernel_rfl) rfl (by kernel_rfl) (by kernel_rfl) (by kernel_rfl) (by kernel_rfl) (fun _ _ _ h => h) (Or.inl ⟨by rfl, ?_⟩) HS0.out ?_
          rotate_left 1
          · (intro W hSw; obtain ⟨h0, h1, h2, h3, h4, h5, h6, h7, h8, h9, h10⟩ := sl_cells hSw.1; simp only at h0 h1 h2 h3 h4 h5 h6 h7 h8 h9 h10; (try simp only [List.getElem_toArray, List.getElem_cons_succ, List.getElem_cons_zero]); go_simp; try with_reducible rfl)
          try simp only [List.getElem_toArray, List.getElem_cons_succ, List.getElem_cons_zero, Act.put, List.setIfInBounds_toArray, List.set_cons_zero, List.set_cons_succ]
          refine wpAnyHT_take (i := 3) (oi := _) (v := ?_) (by kernel_rfl) rfl (by kernel_rfl) (by kernel_rfl) (by kernel_rfl) (by kernel_rfl) (fun _ _ _ h => h) (Or.inl ⟨by rfl, ?_⟩) HS0.out ?_
          rotate_left 1
          · (intro W hSw; obtain ⟨h0, h1, h2, h3, h4, h5, h6, h7, h8, h9, h10⟩ := sl_cells hSw.1; simp only at h0 h1 h2 h3 h4 h5 h6 h7 h8 h9 h10; (try simp only [List.getElem_toArray, List.getElem_cons_succ, List.getElem_cons_zero]); go_simp; try with_reducible rfl)
          try simp only [List.getElem_toArray, List.getElem_cons_succ, List.getElem_cons_zero, Act.put, List.setIfInBounds_toArray, List.set_cons_zero, List.set_cons_succ]
          refine wpAnyHT_take (i := 4) (oi := _) (v := ?_) (by kernel_rfl) rfl (by kernel_rfl) (by kernel_rfl) (by kernel_rfl) (by kernel_rfl) (fun _ _ _ h => h) (Or.inl ⟨by rfl, ?_⟩) HS0.out ?_
          rotate_left 1
          · (intro W hSw; obtain ⟨h0, h1, h2, h3, h4, h5, h6, h7, h8, h9, h10⟩ := sl_cells hSw.1; simp only at h0 h1 h2 h3 h4 h5 h6 h7 h8 h9 h10; (try simp only [List.getElem_toArray, List.getElem_cons_succ, List.getElem_cons_zero]); go_simp; try with_reducible rfl)
          try simp only [List.getElem_toArray, List.getElem_cons_succ, List.getElem_cons_zero, Act.put, List.setIfInBounds_toArray, List.set_cons_zero, List.set_cons_succ]
          refine wpAnyHT_one (i := 5) rfl (by kernel_rfl) (by kernel_rfl) (fun K hK => ?_)
          try simp only [List.getElem_toArray, List.getElem_cons_succ, List.getElem_cons_zero]
          rw [if_pos (by rfl)]
          go_simp
          refine (HMB.out _).mono ?_
          rintro e w8 ⟨rfl, hf8⟩
          have HS1 : Hid (w8.heap[sb]? = some (.cells (Sl.arr ⟨U, (N : Int), ⟨a0, a1, a2, a3, a4, a5, a6, a7, a8⟩⟩) 48 (0, 0)) ∧ Frm [rb] wr w8 ∧ ∃ s : Sl, w8.heap[rb]? = some (.cells s.arr 48 (0, 0))) := hid ⟨hf8.heap HS0.out.1 (by simp), HS0.out.2.1.trans hf8 (by simp), HS0.out.2.2.imp (fun s h => hf8.heap h (by simp))⟩
          clear hf8
          refine hK _ _ HS1.out ?_
          clear hK K
          try simp only [List.getElem_toArray, List.getElem_cons_succ, List.getElem_cons_zero, Act.put, List.setIfInBounds_toArray, List.set_cons_zero, List.set_cons_succ]
          refine wpAnyHT_take (i := 6) (oi := _) (v := ?_) (by kernel_rfl) rfl (by kernel_rfl) (by kernel_rfl) (by kernel_rfl) (by kernel_rfl) (fun _ _ _ h => h) (Or.inl ⟨by rfl, ?_⟩) HS1.out ?_
          rotate_left 1
          · (intro W hSw; obtain ⟨h0, h1, h2, h3, h4, h5, h6, h7, h8, h9, h10⟩ := sl_cells hSw.1; simp only at h0 h1 h2 h3 h4 h5 h6 h7 h8 h9 h10; (try simp only [List.getElem_toArray, List.getElem_cons_succ, List.getElem_cons_zero]); go_simp; try with_reducible rfl)
          try simp only [List.getElem_toArray, List.getElem_cons_succ, List.getElem_cons_zero, Act.put, List.setIfInBounds_toArray, List.set_cons_zero, List.set_cons_succ]
          refine wpAnyHT_take (i := 7) (oi := _) (v := ?_) (by kernel_rfl) rfl (by kernel_rfl) (by kernel_rfl) (by kernel_rfl) (by kernel_rfl) (fun _ _ _ h => h) (Or.inl ⟨by rfl, ?_⟩) HS1.out ?_
          rotate_left 1
          · (intro W hSw; obtain ⟨h0, h1, h2, h3, h4, h5, h6, h7, h8, h9, h10⟩ := sl_cells hSw.1; simp only at h0 h1 h2 h3 h4 h5 h6 h7 h8 h9 h10; (try simp only [List.getElem_toArray, List.getElem_cons_succ, List.getElem_cons_zero]); go_simp; try with_reducible rfl)
          try simp only [List.getElem_toArray, List.getElem_cons_succ, List.getElem_cons_zero, Act.put, List.setIfInBounds_toArray, List.set_cons_zero, List.set_cons_succ]
          refine wpAnyHT_take (i := 8) (oi := _) (v := undef) (by kernel_rfl) rfl (by kernel_rfl) (by kernel_rfl) (by kernel_rfl) (by kernel_rfl) (fun _ _ _ h => h) (Or.inr ⟨by rfl, rfl⟩) HS1.out ?_
          try simp only [List.getElem_toArray, List.getElem_cons_succ, List.getElem_cons_zero, Act.put, List.setIfInBounds_toArray, List.set_cons_zero, List.set_cons_succ]
          refine wpAnyHT_take (i := 9) (oi := _) (v := undef) (by kernel_rfl) rfl (by kernel_rfl) (by kernel_rfl) (by kernel_rfl) (by kernel_rfl) (fun _ _ _ h => h) (Or.inr ⟨by rfl, rfl⟩) HS1.out ?_
          try simp only [List.getElem_toArray, List.getElem_cons_succ, List.getElem_cons_zero, Act.put, List.setIfInBounds_toArray, List.set_cons_zero, List.set_cons_succ]
          refine wpAnyHT_take (i := 10) (oi := _) (v := undef) (by kernel_rfl) rfl (by kernel_rfl) (by kernel_rfl) (by kernel_rfl) (by kernel_rfl) (fun _ _ _ h => h) (Or.inr ⟨by rfl, rfl⟩) HS1.out ?_
          try simp only [List.getElem_toArray, List.getElem_cons_succ, List.getElem_cons_zero, Act.put, List.setIfInBounds_toArray, List.set_cons_zero, List.set_cons_succ]
          refine wpAnyHT_take (i := 11) (oi := _) (v := undef) (by kernel_rfl) rfl (by kernel_rfl) (by kernel_rfl) (by kernel_rfl) (by kernel_rfl) (fun _ _ _ h => h) (Or.inr ⟨by rfl, rfl⟩) HS1.out ?_
          try simp only [List.getElem_toArray, List.getElem_cons_succ, List.getElem_cons_zero, Act.put, List.setIfInBounds_toArray, List.set_cons_zero, List.set_cons_succ]
          refine wpAnyHT_take (i := 12) (oi := _) (v := ?_) (by kernel_rfl) rfl (by kernel_rfl) (by kernel_rfl) (by kernel_rfl) (by kernel_rfl) (fun _ _ _ h => h) (Or.inl ⟨by rfl, ?_⟩) HS1.out ?_
          rotate_left 1
          · (intro W hSw; obtain ⟨h0, h1, h2, h3, h4, h5, h6, h7, h8, h9, h10⟩ := sl_cells hSw.1; simp only at h0 h1 h2 h3 h4 h5 h6 h7 h8 h9 h10; (try simp only [List.getElem_toArray, List.getElem_cons_succ, List.getElem_cons_zero]); go_simp; try with_reducible rfl)
          try simp only [List.getElem_toArray, List.getElem_cons_succ, List.getElem_cons_zero, Act.put, List.setIfInBounds_toArray, List.set_cons_zero, List.set_cons_succ]
          obtain ⟨s0, hsr⟩ := HS1.out.2.2
          obtain ⟨f0, f1, f2, f3, f4, f5, f6, f7, f8, f9, f10⟩ := sl_froz hsr
          obtain ⟨e0, e1, e2, e3, e4, e5, e6, e7, e8, e9, e10⟩ := sl_cells hsr
          have hst := st11_row ⟨U, (N : Int), ⟨a0, a1, a2, a3, a4, a5, a6, a7, a8⟩⟩ s0 hsr
          refine wpAnyHT_one (i := 13) rfl (by kernel_rfl) (by kernel_rfl) (fun K hK => ?_)
          try simp only [List.getElem_toArray, List.getElem_cons_succ, List.getElem_cons_zero]
          go_simp
          refine hK _ (st11 w8 rb ⟨U, (N : Int), ⟨a0, a1, a2, a3, a4, a5, a6, a7, a8⟩⟩) ⟨(hst.2.heap HS1.out.1 (by have := HNE.out; simpa using this)), HS1.out.2.1.trans hst.2 (by simp), _, hst.1⟩ ?_
          clear hK K
          have HST : Hid (Frm [] w (st11 w8 rb ⟨U, (N : Int), ⟨a0, a1, a2, a3, a4, a5, a6, a7, a8⟩⟩) ∧ (st11 w8 rb ⟨U, (N : Int), ⟨a0, a1, a2, a3, a4, a5, a6, a7, a8⟩⟩).heap[rb]? = some (.cells (Sl.arr ⟨U, (N : Int), ⟨a0, a1, a2, a3, a4, a5, a6, a7, a8⟩⟩) 48 (0, 0))) := hid ⟨HWR.out.trans (HS1.out.2.1.trans hst.2 (by simp)) (fun i hi hl => by rw [List.mem_singleton] at hi; have := HRB.out; omega), hst.1⟩
          clear hst hsr e0 e1 e2 e3 e4 e5 e6 e7 e8 e9 e10 f0 f1 f2 f3 f4 f5 f6 f7 f8 f9 f10
          generalize st11 w8 rb ⟨U, (N : Int), ⟨a0, a1, a2, a3, a4, a5, a6, a7, a8⟩⟩ = wz at *
          refine wpAnyHT_end (by kernel_rfl) ?_
          simp only [List.drop_succ_cons, List.drop_zero]
          obtain ⟨v0, v1, v2, v3, v4, v5, v6, v7, v8, v9, v10⟩ := sl_cells HST.out.2
          simp only at v0 v1 v2 v3 v4 v5 v6 v7 v8 v9 v10
          try simp only [List.getElem_toArray, List.getElem_cons_succ, List.getElem_cons_zero, Act.put, List.setIfInBounds_toArray, List.set_cons_zero, List.set_cons_succ]
          go_wp2_with fail
          exact bodyPost_ret (v := .tuple #[.agg #[.bool U, .int .i64 (N : Int), .int .i64 a0, .int .i64 a1, .int .i64 a2, .int .u64 a3, .int .i64 a4, .int .u64 a5, .int .u64 a6, .int .u64 a7, .int .u64 a8], .bool false]) (by simp [results, Try.results42, go_sem, v0, v1, v2, v3, v4, v5, v6, v7, v8, v9, v10]) rfl (HEND.out _ _ HEB.out HST.out.1)
        · have HEB : Hid (ev = D) := hid (by rw [HEV2.out]; simp)
          refine wp_region_tail (S := fun W => (W.heap[sb]? = some (.cells (Sl.arr ⟨U, (N : Int), ⟨a0, a1, a2, a3, a4, a5, a6, a7, a8⟩⟩) 48 (0, 0)) ∧ Frm [rb] wr W ∧ ∃ s : Sl, W.heap[rb]? = some (.cells s.arr 48 (0, 0)))) 14 15 rfl (by kernel_rfl) (by kernel_rfl) ?_
          refine wpAnyHT_take (i := 0) (oi := _) (v := ?_) (by kernel_rfl) rfl (by kernel_rfl) (by kernel_rfl) (by kernel_rfl) (by kernel_rfl) (fun _ _ _ h => h) (Or.inl ⟨by rfl, ?_⟩) HS0.out ?_
          rotate_left 1
          · (intro W hSw; obtain ⟨h0, h1, h2, h3, h4, h5, h6, h7, h8, h9, h10⟩ := sl_cells hSw.1; simp only at h0 h1 h2 h3 h4 h5 h6 h7 h8 h9 h10; (try simp only [List.getElem_toArray, List.getElem_cons_zero]); go_simp; try with_reducible rfl)
          try simp only [List.getElem_toArray, List.getElem_cons_zero, Act.put, List.setIfInBounds_toArray, List.set_cons_zero, List.set_cons_succ]
          refine wpAnyHT_take (i := 1) (oi := _) (v := ?_) (by kernel_rfl) rfl (by kernel_rfl) (by kernel_rfl) (by kernel_rfl) (by kernel_rfl) (fun _ _ _ h => h) (Or.inl ⟨by rfl, ?_⟩) HS0.out ?_
          rotate_left 1
          · (intro W hSw; obtain ⟨h0, h1, h2, h3, h4, h5, h6, h7, h8, h9, h10⟩ := sl_cells hSw.1; simp only at h0 h1 h2 h3 h4 h5 h6 h7 h8 h9 h10; (try simp only [List.getElem_toArray, List.getElem_cons_succ, List.getElem_cons_zero]); go_simp; try with_reducible rfl)
          try simp only [List.getElem_toArray, List.getElem_cons_succ, List.getElem_cons_zero, Act.put, List.setIfInBounds_toArray, List.set_cons_zero, List.set_cons_succ]
          refine wpAnyHT_take (i := 2) (oi := _) (v := ?_) (by kernel_rfl) rfl (by kernel_rfl) (by kernel_rfl) (by kernel_rfl) (by kernel_rfl) (fun _ _ _ h => h) (Or.inl ⟨by rfl, ?_⟩) HS0.out ?_
          rotate_left 1
          · (intro W hSw; obtain ⟨h0, h1, h2, h3, h4, h5, h6, h7, h8, h9, h10⟩ := sl_cells hSw.1; simp only at h0 h1 h2 h3 h4 h5 h6 h7 h8 h9 h10; (try simp only [List.getElem_toArray, List.getElem_cons_succ, List.getElem_cons_zero]); go_simp; try with_reducible rfl)
          try simp only [List.getElem_toArray, List.getElem_cons_succ, List.getElem_cons_zero, Act.put, List.setIfInBounds_toArray, List.set_cons_zero, List.set_cons_succ]
          refine wpAnyHT_take (i := 3) (oi := _) (v := ?_) (by kernel_rfl) rfl (by kernel_rfl) (by kernel_rfl) (by kernel_rfl) (by kernel_rfl) (fun _ _ _ h => h) (Or.inl ⟨by rfl, ?_⟩) HS0.out ?_
          rotate_left 1
          · (intro W hSw; obtain ⟨h0, h1, h2, h3, h4, h5, h6, h7, h8, h9, h10⟩ := sl_cells hSw.1; simp only at h0 h1 h2 h3 h4 h5 h6 h7 h8 h9 h10; (try simp only [List.getElem_toArray, List.getElem_cons_succ, List.getElem_cons_zero]); go_simp; try with_reducible rfl)
          try simp only [List.getElem_toArray, List.getElem_cons_succ, List.getElem_cons_zero, Act.put, List.setIfInBounds_toArray, List.set_cons_zero, List.set_cons_succ]
          refine wpAnyHT_take (i := 4) (oi := _) (v := ?_) (by kernel_rfl) rfl (by kernel_rfl) (by kernel_rfl) (by kernel_rfl) (by kernel_rfl) (fun _ _ _ h => h) (Or.inl ⟨by rfl, ?_⟩) HS0.out ?_
          rotate_left 1
          · (intro W hSw; obtain ⟨h0, h1, h2, h3, h4, h5, h6, h7, h8, h9, h10⟩ := sl_cells hSw.1; simp only at h0 h1 h2 h3 h4 h5 h6 h7 h8 h9 h10; (try simp only [List.getElem_toArray, List.getElem_cons_succ, List.getElem_cons_zero]); go_simp; try with_reducible rfl)
          try simp only [List.getElem_toArray, List.getElem_cons_succ, List.getElem_cons_zero, Act.put, List.setIfInBounds_toArray, List.set_cons_zero, List.set_cons_succ]
          refine wpAnyHT_one (i := 5) rfl (by kernel_rfl) (by kernel_rfl) (fun K hK => ?_)
          try simp only [List.getElem_toArray, List.getElem_cons_succ, List.getElem_cons_zero]
          rw [if_pos (by rfl)]
          go_simp
          refine (HMB.out _).mono ?_
          rintro e w8 ⟨rfl, hf8⟩
          have HS1 : Hid (w8.heap[sb]? = some (.cells (Sl.arr ⟨U, (N : Int), ⟨a0, a1, a2, a3, a4, a5, a6, a7, a8⟩⟩) 48 (0, 0)) ∧ Frm [rb] wr w8 ∧ ∃ s : Sl, w8.heap[rb]? = some (.cells s.arr 48 (0, 0))) := hid ⟨hf8.heap HS0.out.1 (by simp), HS0.out.2.1.trans hf8 (by simp), HS0.out.2.2.imp (fun s h => hf8.heap h (by simp))⟩
          clear hf8
          refine hK _ _ HS1.out ?_
          clear hK K
          try simp only [List.getElem_toArray, List.getElem_cons_succ, List.getElem_cons_zero, Act.put, List.setIfInBounds_toArray, List.set_cons_zero, List.set_cons_succ]
          refine wpAnyHT_take (i := 6) (oi := _) (v := ?_) (by kernel_rfl) rfl (by kernel_rfl) (by kernel_rfl) (by kernel_rfl) (by kernel_rfl) (fun _ _ _ h => h) (Or.inl ⟨by rfl, ?_⟩) HS1.out ?_
          rotate_left 1
          · (intro W hSw; obtain ⟨h0, h1, h2, h3, h4, h5, h6, h7, h8, h9, h10⟩ := sl_cells hSw.1; simp only at h0 h1 h2 h3 h4 h5 h6 h7 h8 h9 h10; (try simp only [List.getElem_toArray, List.getElem_cons_succ, List.getElem_cons_zero]); go_simp; try with_reducible rfl)
          try simp only [List.getElem_toArray, List.getElem_cons_succ, List.getElem_cons_zero, Act.put, List.setIfInBounds_toArray, List.set_cons_zero, List.set_cons_succ]
          refine wpAnyHT_take (i := 7) (oi := _) (v := ?_) (by kernel_rfl) rfl (by kernel_rfl) (by kernel_rfl) (by kernel_rfl) (by kernel_rfl) (fun _ _ _ h => h) (Or.inl ⟨by rfl, ?_⟩) HS1.out ?_
          rotate_left 1
          · (intro W hSw; obtain ⟨h0, h1, h2, h3, h4, h5, h6, h7, h8, h9, h10⟩ := sl_cells hSw.1; simp only at h0 h1 h2 h3 h4 h5 h6 h7 h8 h9 h10; (try simp only [List.getElem_toArray, List.getElem_cons_succ, List.getElem_cons_zero]); go_simp; try with_reducible rfl)
          try simp only [List.getElem_toArray, List.getElem_cons_succ, List.getElem_cons_zero, Act.put, List.setIfInBounds_toArray, List.set_cons_zero, List.set_cons_succ]
          refine wpAnyHT_take (i := 8) (oi := _) (v := ?_) (by kernel_rfl) rfl (by kernel_rfl) (by kernel_rfl) (by kernel_rfl) (by kernel_rfl) (fun _ _ _ h => h) (Or.inl ⟨by rfl, ?_⟩) HS1.out ?_
          rotate_left 1
          · (intro W hSw; obtain ⟨h0, h1, h2, h3, h4, h5, h6, h7, h8, h9, h10⟩ := sl_cells hSw.1; simp only at h0 h1 h2 h3 h4 h5 h6 h7 h8 h9 h10; (try simp only [List.getElem_toArray, List.getElem_cons_succ, List.getElem_cons_zero]); go_simp; try with_reducible rfl)
          try simp only [List.getElem_toArray, List.getElem_cons_succ, List.getElem_cons_zero, Act.put, List.setIfInBounds_toArray, List.set_cons_zero, List.set_cons_succ]
          refine wpAnyHT_take (i := 10) (oi := _) (v := ?_) (by kernel_rfl) rfl (by kernel_rfl) (by kernel_rfl) (by kernel_rfl) (by kernel_rfl) (fun _ _ _ h => h) (Or.inl ⟨by rfl, ?_⟩) HS1.out ?_
          rotate_left 1
          · (intro W hSw; obtain ⟨h0, h1, h2, h3, h4, h5, h6, h7, h8, h9, h10⟩ := sl_cells hSw.1; simp only at h0 h1 h2 h3 h4 h5 h6 h7 h8 h9 h10; (try simp only [List.getElem_toArray, List.getElem_cons_succ, List.getElem_cons_zero]); go_simp; try with_reducible rfl)
          try simp only [List.getElem_toArray, List.getElem_cons_succ, List.getElem_cons_zero, Act.put, List.setIfInBounds_toArray, List.set_cons_zero, List.set_cons_succ]
          refine wpAnyHT_one (i := 9) rfl (by kernel_rfl) (by kernel_rfl) (fun K hK => ?_)
          try simp only [List.getElem_toArray, List.getElem_cons_succ, List.getElem_cons_zero]
          rw [if_pos (by rfl)]
          go_simp
          refine (HFO.out (by trivial) (by trivial) _).mono ?_
          rintro e w9 hfa
          obtain ⟨gf, rfl, hgf, hf9, hlo⟩ := HFA.out _ _ _ hfa
          have HGF := hid hgf
          have HS2 : Hid (w9.heap[sb]? = some (.cells (Sl.arr ⟨U, (N : Int), ⟨a0, a1, a2, a3, a4, a5, a6, a7, a8⟩⟩) 48 (0, 0)) ∧ Frm [rb] wr w9 ∧ ∃ s : Sl, w9.heap[rb]? = some (.cells s.arr 48 (0, 0))) := hid ⟨hf9.heap HS1.out.1 (by simp), HS1.out.2.1.trans hf9 (by simp), HS1.out.2.2.imp (fun s h => hf9.heap h (by simp))⟩
          have HRF := hid (rd_blockT hgf)
          clear hfa hgf hf9 hlo
          refine hK _ _ HS2.out ?_
          clear hK K
          try simp only [List.getElem_toArray, List.getElem_cons_succ, List.getElem_cons_zero, Act.put, List.setIfInBounds_toArray, List.set_cons_zero, List.set_cons_succ]
          refine wpAnyHT_one (i := 11) rfl (by kernel_rfl) (by kernel_rfl) (fun K hK => ?_)
          try simp only [List.getElem_toArray, List.getElem_cons_succ, List.getElem_cons_zero]
          rw [if_pos (by rfl)]
          go_simp
          refine (HEQ.out w9 (some ⟨gf, 0, none⟩) HRF.out HS2.out.2.1).mono ?_
          rintro e w10 ⟨rfl, hw10⟩
          rw [hw10]
          clear hw10
          refine hK _ _ HS2.out ?_
          clear hK K
          try simp only [List.getElem_toArray, List.getElem_cons_succ, List.getElem_cons_zero, Act.put, List.setIfInBounds_toArray, List.set_cons_zero, List.set_cons_succ]
          refine wpAnyHT_take (i := 12) (oi := _) (v := ?_) (by kernel_rfl) rfl (by kernel_rfl) (by kernel_rfl) (by kernel_rfl) (by kernel_rfl) (fun _ _ _ h => h) (Or.inl ⟨by rfl, ?_⟩) HS2.out ?_
          rotate_left 1
          · (intro W hSw; obtain ⟨h0, h1, h2, h3, h4, h5, h6, h7, h8, h9, h10⟩ := sl_cells hSw.1; simp only at h0 h1 h2 h3 h4 h5 h6 h7 h8 h9 h10; (try simp only [List.getElem_toArray, List.getElem_cons_succ, List.getElem_cons_zero]); go_simp; try with_reducible rfl)
          try simp only [List.getElem_toArray, List.getElem_cons_succ, List.getElem_cons_zero, Act.put, List.setIfInBounds_toArray, List.set_cons_zero, List.set_cons_succ]
          obtain ⟨s0, hsr⟩ := HS2.out.2.2
          obtain ⟨f0, f1, f2, f3, f4, f5, f6, f7, f8, f9, f10⟩ := sl_froz hsr
          obtain ⟨e0, e1, e2, e3, e4, e5, e6, e7, e8, e9, e10⟩ := sl_cells hsr
          have hst := st11_row ⟨U, (N : Int), ⟨a0, a1, a2, a3, a4, a5, a6, a7, a8⟩⟩ s0 hsr
          refine wpAnyHT_one (i := 13) rfl (by kernel_rfl) (by kernel_rfl) (fun K hK => ?_)
          try simp only [List.getElem_toArray, List.getElem_cons_succ, List.getElem_cons_zero]
          go_simp
          refine hK _ (st11 w9 rb ⟨U, (N : Int), ⟨a0, a1, a2, a3, a4, a5, a6, a7, a8⟩⟩) ⟨(hst.2.heap HS2.out.1 (by have := HNE.out; simpa using this)), HS2.out.2.1.trans hst.2 (by simp), _, hst.1⟩ ?_
          clear hK K
          have HST : Hid (Frm [] w (st11 w9 rb ⟨U, (N : Int), ⟨a0, a1, a2, a3, a4, a5, a6, a7, a8⟩⟩) ∧ (st11 w9 rb ⟨U, (N : Int), ⟨a0, a1, a2, a3, a4, a5, a6, a7, a8⟩⟩).heap[rb]? = some (.cells (Sl.arr ⟨U, (N : Int), ⟨a0, a1, a2, a3, a4, a5, a6, a7, a8⟩⟩) 48 (0, 0))) := hid ⟨HWR.out.trans (HS2.out.2.1.trans hst.2 (by simp)) (fun i hi hl => by rw [List.mem_singleton] at hi; have := HRB.out; omega), hst.1⟩
          clear hst hsr e0 e1 e2 e3 e4 e5 e6 e7 e8 e9 e10 f0 f1 f2 f3 f4 f5 f6 f7 f8 f9 f10
          generalize st11 w9 rb ⟨U, (N : Int), ⟨a0, a1, a2, a3, a4, a5, a6, a7, a8⟩⟩ = wz at *
          refine wpAnyHT_end (by kernel_rfl) ?_
          simp only [List.drop_succ_cons, List.drop_zero]
          obtain ⟨v0, v1, v2, v3, v4, v5, v6, v7, v8, v9, v10⟩ := sl_cells HST.out.2
          simp only at v0 v1 v2 v3 v4 v5 v6 v7 v8 v9 v10
          try simp only [List.getElem_toArray, List.getElem_cons_succ, List.getElem_cons_zero, Act.put, List.setIfInBounds_toArray, List.set_cons_zero, List.set_cons_succ]
          go_wp2_with fail
          exact bodyPost_ret (v := .tuple #[.agg #[.bool U, .int .i64 (N : Int), .int .i64 a0, .int .i64 a1, .int .i64 a2, .int .u64 a3, .int .i64 a4, .int .u64 a5, .int .u64 a6, .int .u64 a7, .int .u64 a8], .bool D]) (by simp [results, Try.results42, go_sem, v0, v1, v2, v3, v4, v5, v6, v7, v8, v9, v10]) rfl (HEND.out _ _ HEB.out HST.out.1)
      · have hE0 : (E == 0) = false := by simpa using hE
        have HEB : Hid (ev = false) := hid (by rw [HEV2.out]; simp [hE])
        clear hE HFO HEQ HMB
        go_upto_region 8 with fail
        refine wp_region_tail (S := fun W => (W.heap[sb]? = some (.cells (Sl.arr ⟨U, (N : Int), ⟨a0, a1, a2, a3, a4, a5, a6, a7, a8⟩⟩) 48 (0, 0)) ∧ Frm [rb] wr W ∧ ∃ s : Sl, W.heap[rb]? = some (.cells s.arr 48 (0, 0)))) 14 15 rfl (by kernel_rfl) (by kernel_rfl) ?_
        refine wpAnyHT_take (i := 0) (oi := _) (v := ?_) (by kernel_rfl) rfl (by kernel_rfl) (by kernel_rfl) (by kernel_rfl) (by kernel_rfl) (fun _ _ _ h => h) (Or.inl ⟨by rfl, ?_⟩) HS0.out ?_
        rotate_left 1
        · (intro W hSw; obtain ⟨h0, h1, h2, h3, h4, h5, h6, h7, h8, h9, h10⟩ := sl_cells hSw.1; simp only at h0 h1 h2 h3 h4 h5 h6 h7 h8 h9 h10; (try simp only [List.getElem_toArray, List.getElem_cons_zero]); go_simp; try with_reducible rfl)
        try simp only [List.getElem_toArray, List.getElem_cons_zero, Act.put, List.setIfInBounds_toArray, List.set_cons_zero, List.set_cons_succ]
        refine wpAnyHT_take (i := 1) (oi := _) (v := ?_) (by kernel_rfl) rfl (by kernel_rfl) (by kernel_rfl) (by kernel_rfl) (by kernel_rfl) (fun _ _ _ h => h) (Or.inl ⟨by rfl, ?_⟩) HS0.out ?_
        rotate_left 1
        · (intro W hSw; obtain ⟨h0, h1, h2, h3, h4, h5, h6, h7, h8, h9, h10⟩ := sl_cells hSw.1; simp only at h0 h1 h2 h3 h4 h5 h6 h7 h8 h9 h10; (try simp only [List.getElem_toArray, List.getElem_cons_succ, List.getElem_cons_zero]); go_simp; try with_reducible rfl)
        try simp only [List.getElem_toArray, List.getElem_cons_succ, List.getElem_cons_zero, Act.put, List.setIfInBounds_toArray, List.set_cons_zero, List.set_cons_succ]
        refine wpAnyHT_take (i := 2) (oi := _) (v := ?_) (by kernel_rfl) rfl (by kernel_rfl) (by kernel_rfl) (by kernel_rfl) (by kernel_rfl) (fun _ _ _ h => h) (Or.inl ⟨by rfl, ?_⟩) HS0.out ?_
        rotate_left 1
        · (intro W hSw; obtain ⟨h0, h1, h2, h3, h4, h5, h6, h7, h8, h9, h10⟩ := sl_cells hSw.1; simp only at h0 h1 h2 h3 h4 h5 h6 h7 h8 h9 h10; (try simp only [List.getElem_toArray, List.getElem_cons_succ, List.getElem_cons_zero]); go_simp; try with_reducible rfl)
        try simp only [List.getElem_toArray, List.getElem_cons_succ, List.getElem_cons_zero, Act.put, List.setIfInBounds_toArray, List.set_cons_zero, List.set_cons_succ]
        refine wpAnyHT_take (i := 3) (oi := _) (v := ?_) (by kernel_rfl) rfl (by kernel_rfl) (by kernel_rfl) (by kernel_rfl) (by kernel_rfl) (fun _ _ _ h => h) (Or.inl ⟨by rfl, ?_⟩) HS0.out ?_
        rotate_left 1
        · (intro W hSw; obtain ⟨h0, h1, h2, h3, h4, h5, h6, h7, h8, h9, h10⟩ := sl_cells hSw.1; simp only at h0 h1 h2 h3 h4 h5 h6 h7 h8 h9 h10; (try simp only [List.getElem_toArray, List.getElem_cons_succ, List.getElem_cons_zero]); go_simp; try with_reducible rfl)
        try simp only [List.getElem_toArray, List.getElem_cons_succ, List.getElem_cons_zero, Act.put, List.setIfInBounds_toArray, List.set_cons_zero, List.set_cons_succ]
        refine wpAnyHT_take (i := 4) (oi := _) (v := undef) (by kernel_rfl) rfl (by kernel_rfl) (by kernel_rfl) (by kernel_rfl) (by kernel_rfl) (fun _ _ _ h => h) (Or.inr ⟨by rfl, rfl⟩) HS0.out ?_
        try simp only [List.getElem_toArray, List.getElem_cons_succ, List.getElem_cons_zero, Act.put, List.setIfInBounds_toArray, List.set_cons_zero, List.set_cons_succ]
        refine wpAnyHT_take (i := 5) (oi := _) (v := undef) (by kernel_rfl) rfl (by kernel_rfl) (by kernel_rfl) (by kernel_rfl) (by kernel_rfl) (fun _ _ _ h => h) (Or.inr ⟨by rfl, rfl⟩) HS0.out ?_
        try simp only [List.getElem_toArray, List.getElem_cons_succ, List.getElem_cons_zero, Act.put, List.setIfInBounds_toArray, List.set_cons_zero, List.set_cons_succ]
        refine wpAnyHT_take (i := 6) (oi := _) (v := ?_) (by kernel_rfl) rfl (by kernel_rfl) (by kernel_rfl) (by kernel_rfl) (by kernel_rfl) (fun _ _ _ h => h) (Or.inl ⟨by rfl, ?_⟩) HS0.out ?_
        rotate_left 1
        · (intro W hSw; obtain ⟨h0, h1, h2, h3, h4, h5, h6, h7, h8, h9, h10⟩ := sl_cells hSw.1; simp only at h0 h1 h2 h3 h4 h5 h6 h7 h8 h9 h10; (try simp only [List.getElem_toArray, List.getElem_cons_succ, List.getElem_cons_zero]); go_simp; try with_reducible rfl)
        try simp only [List.getElem_toArray, List.getElem_cons_succ, List.getElem_cons_zero, Act.put, List.setIfInBounds_toArray, List.set_cons_zero, List.set_cons_succ]
        refine wpAnyHT_take (i := 7) (oi := _) (v := ?_) (by kernel_rfl) rfl (by kernel_rfl) (by kernel_rfl) (by kernel_rfl) (by kernel_rfl) (fun _ _ _ h => h) (Or.inl ⟨by rfl, ?_⟩) HS0.out ?_
        rotate_left 1
        · (intro W hSw; obtain ⟨h0, h1, h2, h3, h4, h5, h6, h7, h8, h9, h10⟩ := sl_cells hSw.1; simp only at h0 h1 h2 h3 h4 h5 h6 h7 h8 h9 h10; (try simp only [List.getElem_toArray, List.getElem_cons_succ, List.getElem_cons_zero]); go_simp; try with_reducible rfl)
        try simp only [List.getElem_toArray, List.getElem_cons_succ, List.getElem_cons_zero, Act.put, List.setIfInBounds_toArray, List.set_cons_zero, List.set_cons_succ]
        refine wpAnyHT_take (i := 8) (oi := _) (v := undef) (by kernel_rfl) rfl (by kernel_rfl) (by kernel_rfl) (by kernel_rfl) (by kernel_rfl) (fun _ _ _ h => h) (Or.inr ⟨by rfl, rfl⟩) HS0.out ?_
        try simp only [List.getElem_toArray, List.getElem_cons_succ, List.getElem_cons_zero, Act.put, List.setIfInBounds_toArray, List.set_cons_zero, List.set_cons_succ]
        refine wpAnyHT_take (i := 9) (oi := _) (v := undef) (by kernel_rfl) rfl (by kernel_rfl) (by kernel_rfl) (by kernel_rfl) (by kernel_rfl) (fun _ _ _ h => h) (Or.inr ⟨by rfl, rfl⟩) HS0.out ?_
        try simp only [List.getElem_toArray, List.getElem_cons_succ, List.getElem_cons_zero, Act.put, List.setIfInBounds_toArray, List.set_cons_zero, List.set_cons_succ]
        refine wpAnyHT_take (i := 10) (oi := _) (v := undef) (by kernel_rfl) rfl (by kernel_rfl) (by kernel_rfl) (by kernel_rfl) (by kernel_rfl) (fun _ _ _ h => h) (Or.inr ⟨by rfl, rfl⟩) HS0.out ?_
        try simp only [List.getElem_toArray, List.getElem_cons_succ, List.getElem_cons_zero, Act.put, List.setIfInBounds_toArray, List.set_cons_zero, List.set_cons_succ]
        refine wpAnyHT_take (i := 11) (oi := _) (v := undef) (by kernel_rfl) rfl (by kernel_rfl) (by kernel_rfl) (by kernel_rfl) (by kernel_rfl) (fun _ _ _ h => h) (Or.inr ⟨by rfl, rfl⟩) HS0.out ?_
        try simp only [List.getElem_toArray, List.getElem_cons_succ, List.getElem_cons_zero, Act.put, List.setIfInBounds_toArray, List.set_cons_zero, List.set_cons_succ]
        refine wpAnyHT_take (i := 12) (oi := _) (v := ?_) (by kernel_rfl) rfl (by kernel_rfl) (by kernel_rfl) (by kernel_rfl) (by kernel_rfl) (fun _ _ _ h => h) (Or.inl ⟨by rfl, ?_⟩) HS0.out ?_
        rotate_left 1
        · (intro W hSw; obtain ⟨h0, h1, h2, h3, h4, h5, h6, h7, h8, h9, h10⟩ := sl_cells hSw.1; simp only at h0 h1 h2 h3 h4 h5 h6 h7 h8 h9 h10; (try simp only [List.getElem_toArray, List.getElem_cons_succ, List.getElem_cons_zero]); go_simp; try with_reducible rfl)
        try simp only [List.getElem_toArray, List.getElem_cons_succ, List.getElem_cons_zero, Act.put, List.setIfInBounds_toArray, List.set_cons_zero, List.set_cons_succ]
        generalize wr.drew = wd at *
        obtain ⟨s0, hsr⟩ := HS0.out.2.2
        obtain ⟨f0, f1, f2, f3, f4, f5, f6, f7, f8, f9, f10⟩ := sl_froz hsr
        obtain ⟨e0, e1, e2, e3, e4, e5, e6, e7, e8, e9, e10⟩ := sl_cells hsr
        have hst := st11_row ⟨U, (N : Int), ⟨a0, a1, a2, a3, a4, a5, a6, a7, a8⟩⟩ s0 hsr
        refine wpAnyHT_one (i := 13) rfl (by kernel_rfl) (by kernel_rfl) (fun K hK => ?_)
        try simp only [List.getElem_toArray, List.getElem_cons_succ, List.getElem_cons_zero]
        go_simp
        refine hK _ (st11 wd rb ⟨U, (N : Int), ⟨a0, a1, a2, a3, a4, a5, a6, a7, a8⟩⟩) ⟨(hst.2.heap HS0.out.1 (by have := HNE.out; simpa using this)), HS0.out.2.1.trans hst.2 (by simp), _, hst.1⟩ ?_
        clear hK K
        have HST : Hid (Frm [] w (st11 wd rb ⟨U, (N : Int), ⟨a0, a1, a2, a3, a4, a5, a6, a7, a8⟩⟩) ∧ (st11 wd rb ⟨U, (N : Int), ⟨a0, a1, a2, a3, a4, a5, a6, a7, a8⟩⟩).heap[rb]? = some (.cells (Sl.arr ⟨U, (N : Int), ⟨a0, a1, a2, a3, a4, a5, a6, a7, a8⟩⟩) 48 (0, 0))) := hid ⟨HWR.out.trans (HS0.out.2.1.trans hst.2 (by simp)) (fun i hi hl => by rw [List.mem_singleton] at hi; have := HRB.out; omega), hst.1⟩
        clear hst hsr e0 e1 e2 e3 e4 e5 e6 e7 e8 e9 e10 f0 f1 f2 f3 f4 f5 f6 f7 f8 f9 f10
        generalize st11 wd rb ⟨U, (N : Int), ⟨a0, a1, a2, a3, a4, a5, a6, a7, a8⟩⟩ = wz at *
        refine wpAnyHT_end (by kernel_rfl) ?_
        simp only [List.drop_succ_cons, List.drop_zero]
        obtain ⟨v0, v1, v2, v3, v4, v5, v6, v7, v8, v9, v10⟩ := sl_cells HST.out.2
        simp only at v0 v1 v2 v3 v4 v5 v6 v7 v8 v9 v10
        try simp only [List.getElem_toArray, List.getElem_cons_succ, List.getElem_cons_zero, Act.put, List.setIfInBounds_toArray, List.set_cons_zero, List.set_cons_succ]
        go_wp2_with fail
        exact bodyPost_ret (v := .tuple #[.agg #[.bool U, .int .i64 (N : Int), .int .i64 a0, .int .i64 a1, .int .i64 a2, .int .u64 a3, .int .i64 a4, .int .u64 a5, .int .u64 a6, .int .u64 a7, .int .u64 a8], .bool false]) (by simp [results, Try.results42, go_sem, v0, v1, v2, v3, v4, v5, v6, v7, v8, v9, v10]) rfl (HEND.out _ _ HEB.out HST.out.1)
end
end Go.Proofs.Ytkolbijhekbelaa
