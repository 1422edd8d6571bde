/- tree.mayBe, tree.form. tree.Table. Two operations may come up next, in either order. Speaks of no program. -/
import Derived.Test.YtkolbijhekbelaaQal
import Derived.Test.YtkolbijhekbelaaQad
import Derived.Test.YtkolbijhekbelaaQak
namespace Go.Proofs.Ytkolbijhekbelaa
section
open Go.RowKit Go.Lib
set_option maxRecDepth 100000

/-- May a slot be? -/
def mayS (s : Sl) : Bool := if s.used then decide (0 ≤ s.size) && decide (s.size ≤ 65536) && decide (checkP s.root = 0) else decide (s = sl0)
def Sl.arr (s : Sl) : Array Value := s.row.toArray
set_option maxHeartbeats 6400000 in
theorem maybe_any (s : Sl) (w : World) : Calls Try.prog 38 #[.agg s.arr] w fun e w' => e = .returned (.bool (mayS s)) ∧ Frm [] w w' := by
  obtain ⟨PO, hPO⟩ : ∃ PO : Ending → World → Prop, (fun e w' => e = .returned (.bool (mayS s)) ∧ Frm [] w w') = PO := ⟨_, rfl⟩
  rw [hPO]
  have HP : Hid (∀ b w', mayS s = b → Frm [] w w' → PO (.returned (.bool b)) w') := hid (fun b w' h1 h2 => by rw [← hPO]; exact ⟨by rw [h1], h2⟩)
  have HCK := hid (fun W => check9_any s.root W)
  have HFA := hid ((Frm.refl [] w).alloc (.cells s.arr 48))
  obtain ⟨C, hC⟩ : ∃ C, checkP s.root = C := ⟨_, rfl⟩
  rw [hC] at HCK
  obtain ⟨E, hE⟩ : ∃ E, decide (s = sl0) = E := ⟨_, rfl⟩
  have heq : ∀ W, (binOp .eql 48 (.agg s.row.toArray) (.agg sl0.row.toArray)).run Try.prog W = .ok (.bool E) W := fun W => by
    rw [run_eql_struct, show (10000 : Nat) = 9993 + 7 from rfl, eqSl, hE]; rfl
  have hbz : ∀ W, (Instr.build 48 #[]).run Try.prog W = .ok (.agg sl0.row.toArray) W := fun W => run_build W _ _ _ (by kernel_rfl)
  have HV : Hid (mayS s = if s.used then decide (0 ≤ s.size) && decide (s.size ≤ 65536) && decide (C = 0) else E) := hid (by unfold mayS; rw [hC, hE])
  obtain ⟨u, z, p⟩ := s
  obtain ⟨a0, a1, a2, a3, a4, a5, a6, a7, a8⟩ := p
  unfold P9.arr at HCK
  unfold Sl.arr Sl.row at HFA ⊢
  unfold sl0 Sl.row zero9 at hbz heq
  simp only at HCK HFA HV hbz heq ⊢
  clear hPO hC hE
  cases u
  · go_enter Try.func38, Try.ntmps38
    go_wp2_with fail
    first | go_returns | skip
    exact HP.out _ _ (by rw [HV.out]; rfl) (by first | exact HFA.out | exact Frm.refl _ _)
  · by_cases h0 : 0 ≤ z
    · by_cases h1 : z ≤ 65536
      · go_enter Try.func38, Try.ntmps38
        go_wp2_with fail
        refine (HCK.out _).mono ?_
        rintro e w2 ⟨rfl, hf2⟩
        have HF2 := hid hf2
        clear hf2
        go_wp2_with fail
        first | go_returns | skip
        refine HP.out _ _ (by rw [HV.out]; simp [h0, h1] <;> rfl) ?_
        first | exact HFA.out.trans HF2.out (by simp) | exact HF2.out
      · have h1' : 65536 < z := by omega
        clear h1
        go_enter Try.func38, Try.ntmps38
        go_wp2_with fail
        first | go_returns | skip
        exact HP.out _ _ (by rw [HV.out]; simp <;> omega) (by first | exact HFA.out | exact Frm.refl _ _)
    · have h0' : z < 0 := by omega
      clear h0
      go_enter Try.func38, Try.ntmps38
      go_wp2_with fail
      first | go_returns | skip
      exact HP.out _ _ (by rw [HV.out]; simp <;> omega) (by first | exact HFA.out | exact Frm.refl _ _)
theorem make_u8 (k : Nat) (hk : k ≤ 140737488355328) (W : World) : (Instr.makeSlice 22 (.int .i64 (k : Int)) (.int .i64 (k : Int))).run Try.prog W = .ok (.slice (some ⟨W.heap.size, 0, none⟩) k k) (W.alloc (.cells (bv (List.replicate k 0)).toArray 5)) := by
  obtain ⟨i, hi, hz, h1, h2⟩ := info_parts (infoU8)
  have h := run_make (P := Try.prog) W 22 5 i (.int .u8 0) Try.underlying22 hi hz .i64 .i64 (k : Int) (k : Int) (by omega) (Int.le_refl _) (by rw [h2]; omega) (by omega)
  rw [h, h1]
  have e : madeCells (Value.int .u8 0).cells ((k : Int).toNat * 1) = (bv (List.replicate k 0)).toArray := by
    apply Array.ext'
    rw [show (Value.int .u8 0).cells = #[Value.int .u8 0] from rfl, toList_madeCells_one]
    simp [bv]
  rw [e]
  simp
def szB (z : Int) : List Int := [z % 256, z / 256 % 256, z / 65536 % 256, z / 16777216 % 256]
def formS (s : Sl) : List Int := if s.used then [1, 0, 0, 0] ++ szB s.size ++ ptrB s.root else List.replicate 72 0
theorem formS_len (s : Sl) : (formS s).length = 72 := by
  unfold formS
  split
  · simp [szB, ptrB_length]
  · simp
def half (z : Int) (t : Nat) : List Int := [1, 0, 0, 0] ++ ((szB z).take t ++ List.replicate (68 - t) 0)
theorem szB_at (z : Int) (t : Nat) (ht : t < 4) : (szB z)[t]? = some (z / 2 ^ (8 * t) % 256) := by
  have h : t = 0 ∨ t = 1 ∨ t = 2 ∨ t = 3 := by omega
  rcases h with rfl | rfl | rfl | rfl <;> simp [szB]
theorem half_step (z : Int) (t : Nat) (ht : t < 4) : (half z t).set (4 + t) (z / 2 ^ (8 * t) % 256) = half z (t + 1) := by
  have h : t = 0 ∨ t = 1 ∨ t = 2 ∨ t = 3 := by omega
  rcases h with rfl | rfl | rfl | rfl <;> simp [half, szB, List.replicate]
theorem sl_cells {W : World} {b : Nat} {s : Sl} {T : TypeId} (h : W.heap[b]? = some (.cells s.arr T (0, 0))) : W.cell? ⟨b, 0, none⟩ = some (.bool s.used) ∧ W.cell? ⟨b, 1, none⟩ = some (.int .i64 s.size) ∧ W.cell? ⟨b, 2, none⟩ = some (.int .i64 s.root.top) ∧ W.cell? ⟨b, 3, none⟩ = some (.int .i64 s.root.at_) ∧ W.cell? ⟨b, 4, none⟩ = some (.int .i64 s.root.bytes) ∧ W.cell? ⟨b, 5, none⟩ = some (.int .u64 s.root.birth) ∧ W.cell? ⟨b, 6, none⟩ = some (.int .i64 s.root.kind) ∧ W.cell? ⟨b, 7, none⟩ = some (.int .u64 s.root.sa) ∧ W.cell? ⟨b, 8, none⟩ = some (.int .u64 s.root.sb) ∧ W.cell? ⟨b, 9, none⟩ = some (.int .u64 s.root.sc) ∧ W.cell? ⟨b, 10, none⟩ = some (.int .u64 s.root.sd) := by
  unfold Sl.arr Sl.row at h
  refine ⟨?_, ?_, ?_, ?_, ?_, ?_, ?_, ?_, ?_, ?_, ?_⟩ <;> (rw [cell_of_row W _ _ _ _ _ h]; rfl)
def FormA (w : World) (s : Sl) (e : Ending) (w' : World) : Prop := ∃ g, e = .returned (.slice (some ⟨g, 0, none⟩) 72 72) ∧ w'.heap[g]? = some (.cells (bv (formS s)).toArray 5 (0, 0)) ∧ Frm [] w w' ∧ w.heap.size ≤ g
set_option maxHeartbeats 6400000 in
theorem formSl_any (s : Sl) (hm : s.used = true → 0 ≤ s.size ∧ s.size ≤ 65536 ∧ checkP s.root = 0 ∧ s.root.ok) (w : World) : Calls Try.prog 39 #[.agg s.arr] w (FormA w s) := by
  obtain ⟨PO, hPO⟩ : ∃ PO : Ending → World → Prop, FormA w s = PO := ⟨_, rfl⟩
  rw [hPO]
  have HP : Hid (∀ g w', w'.heap[g]? = some (.cells (bv (formS s)).toArray 5 (0, 0)) → Frm [] w w' → w.heap.size ≤ g → PO (.returned (.slice (some ⟨g, 0, none⟩) 72 72)) w') := hid (fun g w' h1 h2 h3 => by rw [← hPO]; exact ⟨g, rfl, h1, h2, h3⟩)
  obtain ⟨w1, hw1⟩ : ∃ z, w.alloc (.cells s.arr 48) = z := ⟨_, rfl⟩
  have HF1 : Hid (Frm [] w w1) := hid (by rw [← hw1]; exact (Frm.refl _ _).alloc _)
  obtain ⟨CZ, hCZ⟩ : ∃ c, (bv (List.replicate 72 0)).toArray = c := ⟨_, rfl⟩
  have hmk : ∀ W, (Instr.makeSlice 22 (.int .i64 72) (.int .i64 72)).run Try.prog W = .ok (.slice (some ⟨W.heap.size, 0, none⟩) 72 72) (W.alloc (.cells CZ 5)) := fun W => by rw [← hCZ]; exact make_u8 72 (by omega) W
  have HCZ := hid hCZ
  obtain ⟨b0, hb0⟩ : ∃ b0, w.heap.size = b0 := ⟨_, rfl⟩
  have hrow : w1.heap[b0]? = some (.cells s.arr 48 (0, 0)) := by rw [← hw1]; exact heap_alloc_to _ _ hb0
  obtain ⟨w2, hw2⟩ : ∃ w2, w1.alloc (.cells CZ 5) = w2 := ⟨_, rfl⟩
  obtain ⟨g, hg⟩ : ∃ g, w1.heap.size = g := ⟨_, rfl⟩
  have HRG : Hid (w2.heap[g]? = some (.cells (bv (List.replicate 72 0)).toArray 5 (0, 0))) := hid (by rw [← hw2, hCZ]; exact heap_alloc_to _ _ hg)
  have HF2 : Hid (Frm [] w1 w2) := hid (by rw [← hw2]; exact (Frm.refl _ _).alloc _)
  have hmk1 : (Instr.makeSlice 22 (.int .i64 72) (.int .i64 72)).run Try.prog (w.alloc (.cells s.arr 48)) = .ok (.slice (some ⟨g, 0, none⟩) 72 72) w2 := by
    rw [hw1]
    have h := hmk w1
    rw [hg, hw2] at h
    exact h
  have hbg : b0 < g := by rw [← hg]; exact lt_of_heap hrow
  have HBG := hid hbg
  have HGS : Hid (w.heap.size ≤ g) := hid (by omega)
  have HB0 := hid hb0
  have HROW := hid (HF2.out.heap hrow (by simp))
  have hxs := sl_cells HROW.out
  have hz2 := frozen_of_row w2 g 0 _ _ HRG.out
  have hy0 : w2.cell? ⟨g, 0, none⟩ = some (.int .u8 0) := by rw [cell_of_row w2 _ _ _ _ _ HRG.out]; rfl
  clear hmk hCZ hw2 hg hbg hrow hb0 hPO
  cases hu : s.used
  · have HS : Hid (formS s = List.replicate 72 0) := hid (by unfold formS; rw [hu]; rfl)
    obtain ⟨u, z, p⟩ := s
    obtain ⟨a0, a1, a2, a3, a4, a5, a6, a7, a8⟩ := p
    unfold Sl.arr Sl.row at hmk1 ⊢
    simp only at hmk1 hu hxs ⊢
    obtain ⟨x0, x1, x2, x3, x4, x5, x6, x7, x8, x9, x10⟩ := hxs
    subst hu
    clear hm hw1
    go_enter Try.func39, Try.ntmps39
    go_upto_region 2 with fail
    rw [HB0.out]
    go_wp2_with fail
    first | go_returns | skip
    exact HP.out _ _ (by rw [HS.out]; exact HRG.out) (HF1.out.trans HF2.out (by simp)) HGS.out
  · obtain ⟨hz0, hz1, hck, hok⟩ := hm hu
    have HEN := hid (fun W => encode_any s.root hok W)
    rw [hck] at HEN
    have HS : Hid (formS s = [1, 0, 0, 0] ++ szB s.size ++ ptrB s.root) := hid (by unfold formS; rw [hu]; rfl)
    have HPL : Hid ((ptrB s.root).length = 64) := hid (ptrB_length _)
    obtain ⟨bs, hbs⟩ : ∃ bs, ptrB s.root = bs := ⟨_, rfl⟩
    rw [hbs] at HEN HS HPL
    obtain ⟨u, z, p⟩ := s
    obtain ⟨a0, a1, a2, a3, a4, a5, a6, a7, a8⟩ := p
    unfold P9.arr at HEN
    unfold Sl.arr Sl.row at hmk1 ⊢
    simp only at hmk1 hu hxs HEN HS hz0 hz1 ⊢
    obtain ⟨x0, x1, x2, x3, x4, x5, x6, x7, x8, x9, x10⟩ := hxs
    subst hu
    clear hm hw1 hck hok hbs
    go_enter Try.func39, Try.ntmps39
    go_upto_region 2 with fail
    rw [HB0.out]
    go_upto_region 5 with fail
    have HR3 : Hid ((w2.setCell ⟨g, 0, none⟩ (.int .u8 1)).heap[g]? = some (.cells (bv (half z 0)).toArray 5 (0, 0))) := hid (by
      rw [heap_setCell_same w2 g 0 _ _ (.int .u8 1) HRG.out]
      simp [bv, half, List.replicate])
    have HF3 : Hid (Frm [g] w2 (w2.setCell ⟨g, 0, none⟩ (.int .u8 1))) := hid ((Frm.refl _ _).setCell _ _ (by simp))
    generalize w2.setCell ⟨g, 0, none⟩ (.int .u8 1) = w3 at *
    go_wp2_with fail
    go_loopw [14] (fun i wr => ∃ (t : Nat), t ≤ 4 ∧ i = .int .i64 (t : Int) ∧ Hid (Frm [g] w2 wr ∧ wr.heap[g]? = some (.cells (bv (half z t)).toArray 5 (0, 0)))) (fun i _ => 4 - (intOf i).toNat)
    case atStart => exact ⟨0, Nat.zero_le _, rfl, hid ⟨HF3.out, HR3.out⟩⟩
    case round =>
      obtain ⟨t, ht, rfl, hin⟩ := hrel
      have HIN := hid hin.out
      clear hin
      have hn : ∀ k ∈ blk (some ⟨b0, 0, none⟩ : Option Addr), k ∉ [g] := by intro k hk; simp [blk] at hk; subst hk; simp; have := HBG.out; omega
      obtain ⟨x0, x1, x2, x3, x4, x5, x6, x7, x8, x9, x10⟩ := sl_cells (HIN.out.1.heap HROW.out (hn b0 (by simp [blk])))
      simp only at x0 x1 x2 x3 x4 x5 x6 x7 x8 x9 x10
      clear hn
      by_cases hlt : t < 4
      · have h4 : t = 0 ∨ t = 1 ∨ t = 2 ∨ t = 3 := by omega
        clear ht hlt
        rcases h4 with rfl | rfl | rfl | rfl
        · have hc4 : wr.cell? ⟨g, 4, none⟩ = some (.int .u8 0) := by rw [cell_of_row wr _ _ _ _ _ HIN.out.2]; simp [half, szB, bv, List.replicate]
          have hz4 := frozen_of_row wr g 4 _ _ HIN.out.2
          have HNX : Hid (∀ v : Int, v = z / 2 ^ (8 * 0) % 256 → Frm [g] w2 (wr.setCell ⟨g, 4, none⟩ (.int .u8 v)) ∧ (wr.setCell ⟨g, 4, none⟩ (.int .u8 v)).heap[g]? = some (.cells (bv (half z 1)).toArray 5 (0, 0))) := hid (fun v hv => by
            refine ⟨HIN.out.1.setCell _ _ (by simp), ?_⟩
            rw [heap_setCell_same wr g 4 _ _ (.int .u8 v) HIN.out.2, hv]
            have h := half_step z 0 (by omega)
            rw [← h]
            simp [bv])
          go_wp2_with fail
          go_roundw
          case rel => exact ⟨1, by omega, by go_num, hid (HNX.out _ (by omega))⟩
          case measure => first | (simp [intOf]; done) | (simp [intOf]; omega)
        · have hc4 : wr.cell? ⟨g, 5, none⟩ = some (.int .u8 0) := by rw [cell_of_row wr _ _ _ _ _ HIN.out.2]; simp [half, szB, bv, List.replicate]
          have hz4 := frozen_of_row wr g 5 _ _ HIN.out.2
          have HNX : Hid (∀ v : Int, v = z / 2 ^ (8 * 1) % 256 → Frm [g] w2 (wr.setCell ⟨g, 5, none⟩ (.int .u8 v)) ∧ (wr.setCell ⟨g, 5, none⟩ (.int .u8 v)).heap[g]? = some (.cells (bv (half z 2)).toArray 5 (0, 0))) := hid (fun v hv => by
            refine ⟨HIN.out.1.setCell _ _ (by simp), ?_⟩
            rw [heap_setCell_same wr g 5 _ _ (.int .u8 v) HIN.out.2, hv]
            have h := half_step z 1 (by omega)
            rw [← h]
            simp [bv])
          go_wp2_with fail
          go_roundw
          case rel => exact ⟨2, by omega, by go_num, hid (HNX.out _ (by omega))⟩
          case measure => first | (simp [intOf]; done) | (simp [intOf]; omega)
        · have hc4 : wr.cell? ⟨g, 6, none⟩ = some (.int .u8 0) := by rw [cell_of_row wr _ _ _ _ _ HIN.out.2]; simp [half, szB, bv, List.replicate]
          have hz4 := frozen_of_row wr g 6 _ _ HIN.out.2
          have HNX : Hid (∀ v : Int, v = z / 2 ^ (8 * 2) % 256 → Frm [g] w2 (wr.setCell ⟨g, 6, none⟩ (.int .u8 v)) ∧ (wr.setCell ⟨g, 6, none⟩ (.int .u8 v)).heap[g]? = some (.cells (bv (half z 3)).toArray 5 (0, 0))) := hid (fun v hv => by
            refine ⟨HIN.out.1.setCell _ _ (by simp), ?_⟩
            rw [heap_setCell_same wr g 6 _ _ (.int .u8 v) HIN.out.2, hv]
            have h := half_step z 2 (by omega)
            rw [← h]
            simp [bv])
          go_wp2_with fail
          go_roundw
          case rel => exact ⟨3, by omega, by go_num, hid (HNX.out _ (by omega))⟩
          case measure => first | (simp [intOf]; done) | (simp [intOf]; omega)
        · have hc4 : wr.cell? ⟨g, 7, none⟩ = some (.int .u8 0) := by rw [cell_of_row wr _ _ _ _ _ HIN.out.2]; simp [half, szB, bv, List.replicate]
          have hz4 := frozen_of_row wr g 7 _ _ HIN.out.2
          have HNX : Hid (∀ v : Int, v = z / 2 ^ (8 * 3) % 256 → Frm [g] w2 (wr.setCell ⟨g, 7, none⟩ (.int .u8 v)) ∧ (wr.setCell ⟨g, 7, none⟩ (.int .u8 v)).heap[g]? = some (.cells (bv (half z 4)).toArray 5 (0, 0))) := hid (fun v hv => by
            refine ⟨HIN.out.1.setCell _ _ (by simp), ?_⟩
            rw [heap_setCell_same wr g 7 _ _ (.int .u8 v) HIN.out.2, hv]
            have h := half_step z 3 (by omega)
            rw [← h]
            simp [bv])
          go_wp2_with fail
          go_roundw
          case rel => exact ⟨4, by omega, by go_num, hid (HNX.out _ (by omega))⟩
          case measure => first | (simp [intOf]; done) | (simp [intOf]; omega)
      · obtain rfl : t = 4 := by omega
        clear hlt ht hmk1
        go_wp2_with fail
        refine (HEN.out _).mono ?_
        intro e w5 hea
        rcases hea with ⟨hne, _, _⟩ | ⟨h0, ge, rfl, hrow5, hf5, hge⟩
        · exact absurd rfl hne
        obtain ⟨n64, hn64⟩ : ∃ n, bs.length = n := ⟨_, rfl⟩
        obtain rfl : n64 = 64 := by rw [← hn64]; exact HPL.out
        rw [hn64]
        have hgw : g < wr.heap.size := lt_of_heap HIN.out.2
        have hrg5 := hf5.heap HIN.out.2 (by simp)
        have HRV5 := hid (rv_block hrow5)
        have hnsl : (bv bs).toArray.toList.length = 64 * 1 := by simp [bv, HPL.out]
        obtain ⟨w6, hrun6, hg6, hf6⟩ := run_copyG (P := Try.prog) (w := w5) Try.underlying22 infoU8 3 (by decide) (some ⟨g, 8, none⟩) 64 64 g 8 (bv (half z 4)) 5 hrg5 (fun _ => rfl) (by simp [bv, half, szB]) (some ⟨ge, 0, none⟩) 64 64 64 _ (by omega) hnsl HRV5.out bv_one
        have HFN : Hid (w6.heap[g]? = some (.cells (bv (formS ⟨true, z, ⟨a0, a1, a2, a3, a4, a5, a6, a7, a8⟩⟩)).toArray 5 (0, 0))) := hid (by
          rw [hg6, HS.out]
          congr 3
          have hl : bs.length = 64 := HPL.out
          simp [bv, half, szB, List.replicate])
        have HFF : Hid (Frm [] w w6) := hid (by
          have h1 : Frm [g] w2 w6 := (HIN.out.1.trans hf5 (by simp)).trans hf6 (by simp)
          exact (HF1.out.trans HF2.out (by simp)).trans h1 (fun i hi hl => by rw [List.mem_singleton] at hi; have := HGS.out; omega))
        clear hrow5 hrg5 hnsl hg6 hf6 hf5 hn64 hgw hge HEN h0 x1 x2 x3 x4 x5 x6 x7 x8 x9 x10 x0
        go_wp2_with fail
        first | go_returns | skip
        exact HP.out _ _ HFN.out HFF.out HGS.out
end
section
open Go.RowKit Go.Lib
set_option maxRecDepth 100000

def rowsSl : List Sl → List Value
  | [] => []
  | s :: l => s.row ++ rowsSl l
theorem rowsSl_len : ∀ l : List Sl, (rowsSl l).length = l.length * 11
  | [] => rfl
  | s :: l => by simp only [rowsSl, List.length_append, rowsSl_len l, List.length_cons]; show 11 + _ = _; omega
theorem rowsSl_app : ∀ a b : List Sl, rowsSl (a ++ b) = rowsSl a ++ rowsSl b
  | [], b => rfl
  | p :: a, b => by simp [rowsSl, rowsSl_app a b]
theorem rowsSl_get : ∀ (l : List Sl) (i : Nat) (v : Sl), l[i]? = some v → ∀ (j : Nat) (u : Value), v.row[j]? = some u → (rowsSl l)[i * 11 + j]? = some u
  | [], i, v, h, _, _, _ => by simp at h
  | x :: l, 0, v, h, j, u, hu => by
    simp at h; subst h
    have hj : j < 11 := (List.getElem?_eq_some_iff.1 hu).1
    rw [rowsSl, List.getElem?_append_left (by show _ < 11; omega), Nat.zero_mul, Nat.zero_add]
    exact hu
  | x :: l, i + 1, v, h, j, u, hu => by
    simp only [List.getElem?_cons_succ] at h
    have h1 := rowsSl_get l i v h j u hu
    rw [rowsSl, List.getElem?_append_right (by show 11 ≤ _; omega)]
    show (rowsSl l)[(i + 1) * 11 + j - 11]? = some u
    rw [show (i + 1) * 11 + j - 11 = i * 11 + j by omega]
    exact h1
theorem rd_blockT {w : World} {g : Nat} {bs : List Int} {T : TypeId} (h : w.heap[g]? = some (.cells (bv bs).toArray T (0, 0))) : Rd w (some ⟨g, 0, none⟩) bs :=
  Or.inr ⟨g, 0, rfl, fun i hi => by
    rw [Nat.zero_add, cell_of_row w g i _ T (0, 0) h]
    simp only [List.getElem?_toArray]
    exact bv_get hi⟩
/-- What Table answers. -/
def tabE (l : List Sl) : Int := if 112 < l.length then 2 else if ∀ s ∈ l, mayS s = true then 0 else 120
def tabB (l : List Sl) : List Int := (l.map formS).flatten
theorem tabB_len (l : List Sl) : (tabB l).length = l.length * 72 := by
  induction l with
  | nil => rfl
  | cons s l ih =>
    unfold tabB at ih ⊢
    rw [List.map_cons, List.flatten_cons, List.length_append, ih, formS_len, List.length_cons]
    omega
theorem mayS_cond {s : Sl} (h : mayS s = true) (hok : s.root.ok) : s.used = true → 0 ≤ s.size ∧ s.size ≤ 65536 ∧ checkP s.root = 0 ∧ s.root.ok := by
  intro hu
  unfold mayS at h
  rw [if_pos hu] at h
  simp only [Bool.and_eq_true, decide_eq_true_eq] at h
  exact ⟨h.1.1, h.1.2, h.2, hok⟩
def TabA (w : World) (l : List Sl) (e : Ending) (w' : World) : Prop := Frm [] w w' ∧ ((tabE l ≠ 0 ∧ e = .returned (.tuple #[.slice none 0 0, .int .i64 (tabE l)])) ∨ (tabE l = 0 ∧ ∃ q m c, e = .returned (.tuple #[.slice q m c, .int .i64 0]) ∧ m = l.length * 72 ∧ Own w' 5 (.slice q m c) (tabB l) ∧ ∀ k ∈ blk q, w.heap.size ≤ k))
set_option maxHeartbeats 12800000 in
theorem table_any (p : Option Addr) (L c : Nat) (l : List Sl) (w : World) (hr : Rv w p (rowsSl l)) (hL : l.length = L) (hb : L ≤ 1954687338212) (hok : ∀ s ∈ l, s.root.ok) :
    Calls Try.prog 21 #[.slice p L c] w (TabA w l) := by
  obtain ⟨PO, hPO⟩ : ∃ PO : Ending → World → Prop, TabA w l = PO := ⟨_, rfl⟩
  rw [hPO]
  have HP1 : Hid (∀ E w', tabE l = E → E ≠ 0 → Frm [] w w' → PO (.returned (.tuple #[.slice none 0 0, .int .i64 E])) w') := hid (fun E w' h1 h2 h3 => by rw [← hPO]; exact ⟨h3, Or.inl ⟨by rw [h1]; exact h2, by rw [h1]⟩⟩)
  have HP2 : Hid (∀ q m c w', tabE l = 0 → m = l.length * 72 → Own w' 5 (.slice q m c) (tabB l) → (∀ k ∈ blk q, w.heap.size ≤ k) → Frm [] w w' → PO (.returned (.tuple #[.slice q m c, .int .i64 0])) w') := hid (fun q m c w' h1 h2 h3 h4 h5 => by rw [← hPO]; exact ⟨h5, Or.inr ⟨h1, q, m, c, rfl, h2, h3, h4⟩⟩)
  have HR := hid hr
  have HL := hid hL
  have HOK := hid hok
  clear hr hL hok hPO
  by_cases hbig : 112 < L
  · have HE : Hid (tabE l = 2) := hid (by unfold tabE; rw [if_pos (by rw [HL.out]; exact hbig)])
    go_enter Try.func21, Try.ntmps21
    go_wp2_with fail
    first | go_returns | skip
    exact HP1.out 2 _ HE.out (by omega) (Frm.refl _ _)
  · have hb2 : L ≤ 112 := by omega
    go_enter Try.func21, Try.ntmps21
    go_wp2_with fail
    go_loopw [12, 4] (fun i s4 wr => ∃ (t : Nat) (q : Option Addr) (cq : Nat), t ≤ L ∧ i = .int .i64 (t : Int) ∧ s4 = .slice q (t * 72) cq ∧ Hid (Frm [] w wr ∧ Own wr 5 (.slice q (t * 72) cq) (tabB (l.take t)) ∧ (∀ k ∈ blk q, w.heap.size ≤ k) ∧ ∀ s ∈ l.take t, mayS s = true)) (fun i _ _ => L - (intOf i).toNat)
    case atStart => exact ⟨0, none, 0, Nat.zero_le _, rfl, rfl, hid ⟨Frm.refl _ _, Own.nil _ _, by simp [blk], by simp⟩⟩
    case round =>
      obtain ⟨t, q, cq, ht, rfl, rfl, hin⟩ := hrel
      by_cases hlt : t < L
      · have t1 : (t : Int) < (L : Int) := by omega
        obtain ⟨v, hv⟩ : ∃ v, l[t]? = some v := ⟨_, List.getElem?_eq_getElem (by rw [HL.out]; exact hlt)⟩
        have hvm := List.mem_of_getElem? hv
        have HTK : Hid (l.take (t + 1) = l.take t ++ [v]) := hid (by rw [List.take_add_one, hv]; rfl)
        have hrr := HR.out
        rcases hrr with h0 | ⟨g, o, rfl, hcs⟩
        · exact absurd (rowsSl_get l t v hv 0 (.bool v.used) rfl) (by rw [h0]; simp)
        have hcell := fun i u hu => (hin.out.1.cell (World.block_lt_of_cell? w _ (hcs (t * 11 + i) u (rowsSl_get l t v hv i u hu))) (by simp)).trans (hcs (t * 11 + i) u (rowsSl_get l t v hv i u hu))
        have HMB := hid (fun W => maybe_any v W)
        have HFO := hid (fun (h : mayS v = true) W => formSl_any v (mayS_cond h (HOK.out v hvm)) W)
        have HLT : Hid (tabB (l.take (t + 1)) = tabB (l.take t) ++ formS v) := hid (by rw [HTK.out]; unfold tabB; simp)
        have HFL : Hid ((formS v).length = 72) := hid (formS_len v)
        have HTL : Hid ((tabB (l.take t)).length = t * 72) := hid (by rw [tabB_len, List.length_take, HL.out]; omega)
        obtain ⟨M, hM⟩ : ∃ M, mayS v = M := ⟨_, rfl⟩
        rw [hM] at HMB HFO
        have HM := hid hM
        have HVM := hid hvm
        obtain ⟨fs, hfs⟩ : ∃ fs, formS v = fs := ⟨_, rfl⟩
        have HFA : Hid (∀ W e w', FormA W v e w' → ∃ g, e = .returned (.slice (some ⟨g, 0, none⟩) 72 72) ∧ w'.heap[g]? = some (.cells (bv fs).toArray 5 (0, 0)) ∧ Frm [] W w' ∧ W.heap.size ≤ g) := hid (by rw [← hfs]; exact fun W e w' h => h)
        rw [hfs] at HLT HFL
        obtain ⟨u, z, a0, a1, a2, a3, a4, a5, a6, a7, a8⟩ := v
        unfold Sl.arr Sl.row at HMB HFO
        unfold Sl.row at hcell
        simp only at HMB HFO hcell
        have r0 : wr.cell? ⟨g, o + t * 11, none⟩ = some (.bool u) := by have := hcell 0 _ rfl; simpa [Nat.add_assoc] using this
        have r1 : wr.cell? ⟨g, o + t * 11 + 1, none⟩ = some (.int .i64 z) := by have := hcell 1 _ rfl; simpa [Nat.add_assoc] using this
        have r2 : wr.cell? ⟨g, o + t * 11 + 2, none⟩ = some (.int .i64 a0) := by have := hcell 2 _ rfl; simpa [Nat.add_assoc] using this
        have r3 : wr.cell? ⟨g, o + t * 11 + 3, none⟩ = some (.int .i64 a1) := by have := hcell 3 _ rfl; simpa [Nat.add_assoc] using this
        have r4 : wr.cell? ⟨g, o + t * 11 + 4, none⟩ = some (.int .i64 a2) := by have := hcell 4 _ rfl; simpa [Nat.add_assoc] using this
        have r5 : wr.cell? ⟨g, o + t * 11 + 5, none⟩ = some (.int .u64 a3) := by have := hcell 5 _ rfl; simpa [Nat.add_assoc] using this
        have r6 : wr.cell? ⟨g, o + t * 11 + 6, none⟩ = some (.int .i64 a4) := by have := hcell 6 _ rfl; simpa [Nat.add_assoc] using this
        have r7 : wr.cell? ⟨g, o + t * 11 + 7, none⟩ = some (.int .u64 a5) := by have := hcell 7 _ rfl; simpa [Nat.add_assoc] using this
        have r8 : wr.cell? ⟨g, o + t * 11 + 8, none⟩ = some (.int .u64 a6) := by have := hcell 8 _ rfl; simpa [Nat.add_assoc] using this
        have r9 : wr.cell? ⟨g, o + t * 11 + 9, none⟩ = some (.int .u64 a7) := by have := hcell 9 _ rfl; simpa [Nat.add_assoc] using this
        have r10 : wr.cell? ⟨g, o + t * 11 + 10, none⟩ = some (.int .u64 a8) := by have := hcell 10 _ rfl; simpa [Nat.add_assoc] using this
        have HIN := hid hin.out
        clear hcell hv hvm hM hin hcs hfs
        obtain ⟨w6, hw6⟩ : ∃ zz, wr.alloc (.cells #[.bool u, .int .i64 z, .int .i64 a0, .int .i64 a1, .int .i64 a2, .int .u64 a3, .int .i64 a4, .int .u64 a5, .int .u64 a6, .int .u64 a7, .int .u64 a8] 48) = zz := ⟨_, rfl⟩
        have HF6 : Hid (Frm [] wr w6) := hid (by rw [← hw6]; exact (Frm.refl _ _).alloc _)
        obtain ⟨bx, hbx⟩ : ∃ zz, wr.heap.size = zz := ⟨_, rfl⟩
        have hrow6 : w6.heap[bx]? = some (.cells (Sl.arr ⟨u, z, ⟨a0, a1, a2, a3, a4, a5, a6, a7, a8⟩⟩) 48 (0, 0)) := by rw [← hw6]; exact heap_alloc_to _ _ hbx
        have HROW := hid hrow6
        have HBG : Hid (wr.heap.size ≤ bx) := hid (by omega)
        obtain ⟨x0, x1, x2, x3, x4, x5, x6, x7, x8, x9, x10⟩ := sl_cells hrow6
        simp only at x0 x1 x2 x3 x4 x5 x6 x7 x8 x9 x10
        have HW6 := hid hw6
        have HBX := hid hbx
        clear hrow6 hw6 hbx
        go_upto_region 7 with fail
        rw [HBX.out, HW6.out]
        clear HW6 HBX r0 r1 r2 r3 r4 r5 r6 r7 r8 r9 r10
        go_wp2_with fail
        refine (HMB.out _).mono ?_
        rintro e w7 ⟨rfl, hf7⟩
        have HF7 := hid hf7
        obtain ⟨y0, y1, y2, y3, y4, y5, y6, y7, y8, y9, y10⟩ := sl_cells (hf7.heap HROW.out (by simp))
        simp only at y0 y1 y2 y3 y4 y5 y6 y7 y8 y9 y10
        clear hf7 HMB x0 x1 x2 x3 x4 x5 x6 x7 x8 x9 x10
        cases M
        · have HE : Hid (tabE l = 120) := hid (by unfold tabE; rw [if_neg (by rw [HL.out]; omega), if_neg (fun hall => by have h := hall _ HVM.out; rw [HM.out] at h; exact absurd h (by decide))])
          have HFF := hid ((HIN.out.1.trans HF6.out (by simp)).trans HF7.out (by simp))
          go_wp2_with fail
          first | go_returns | skip
          exact HP1.out 120 _ HE.out (by omega) HFF.out
        · go_wp2_with fail
          refine (HFO.out (by trivial) _).mono ?_
          intro e w8 hfa
          obtain ⟨gf, rfl, hgf, hf8, hlo⟩ := HFA.out _ _ _ hfa
          have HGF := hid hgf
          have HFB := hid ((HF6.out.trans HF7.out (by simp)).trans hf8 (by simp))
          have HOW := hid (HIN.out.2.1.kept HFB.out (by simp))
          have HRD := hid (rd_blockT HGF.out)
          clear hfa hgf hf8 hlo y0 y1 y2 y3 y4 y5 y6 y7 y8 y9 y10 HFO
          go_wp2_with (at_builtin; refine wpList_appB rfl _ _ 22 rfl 5 Try.underlying22 infoU8 q (t * 72) cq (tabB (l.take t)) rfl HTL.out.symm (by rw [HTL.out]; exact HOW.out) (some ⟨gf, 0, none⟩) 72 72 fs rfl HFL.out.symm (fun _ h => by cases h) HRD.out (by rw [HTL.out, HFL.out]; omega) ?_)
          intro xs p2 c2 w9 hxs ho9 hf9 hb9
          have hxl : xs.length = (t + 1) * 72 := by rw [hxs.out, List.length_append, HTL.out, HFL.out]; omega
          have HNX : Hid (Frm [] w w9 ∧ Own w9 5 (.slice p2 ((t + 1) * 72) c2) (tabB (l.take (t + 1))) ∧ (∀ k ∈ blk p2, w.heap.size ≤ k) ∧ ∀ s ∈ l.take (t + 1), mayS s = true) := hid (by
            obtain ⟨b1, b2, b3, b4⟩ := HIN.out
            have hz := (b1.trans HFB.out (by simp)).size
            refine ⟨(b1.trans HFB.out (by simp)).trans hf9.out (fun i hi hl => by have := b3 i hi; omega), ?_, fun i hi => ?_, fun y hy => ?_⟩
            · have h := ho9.out
              rw [hxl, hxs.out, ← HLT.out] at h
              exact h
            · rcases hb9.out i hi with h | h
              · exact b3 i h
              · omega
            · rw [HTK.out] at hy
              rcases List.mem_append.1 hy with hy | hy
              · exact b4 y hy
              · rw [List.mem_singleton] at hy; subst hy; exact HM.out)
          rw [hxl]
          clear ho9 hf9 hb9 hxs hxl HOW HRD
          go_wp2_with fail
          go_roundw
          case rel => exact ⟨t + 1, p2, c2, by omega, by go_num, rfl, HNX⟩
          case measure => first | (simp [intOf]; done) | (simp [intOf]; omega)
      · obtain rfl : t = L := by omega
        have HE : Hid (tabE l = 0) := hid (by unfold tabE; rw [if_neg (by rw [HL.out]; omega), if_pos (by have h := hin.out.2.2.2; rw [List.take_of_length_le (by rw [HL.out]; exact Nat.le_refl _)] at h; exact h)])
        have HIN := hid hin.out
        clear hin
        go_wp2_with fail
        first | go_returns | skip
        exact HP2.out q _ cq _ HE.out (by rw [HL.out]) (by have h := HIN.out.2.1; rw [List.take_of_length_le (by rw [HL.out]; exact Nat.le_refl _)] at h; exact h) HIN.out.2.2.1 HIN.out.1
end
section
section
variable {P : Program} {ops : Array Oper} {Q : Exit → Act → World → Prop} {md : Region.Mode} {S : World → Prop}
theorem wpAnyHT_two {n i j : Nat} {L : Array Bool → Act → World → Prop} {oi oj : Oper} {fuel : Nat} {listed : Array Bool} {a : Act} {w : World} (hi : ops[i]? = some oi) (hj : ops[j]? = some oj) (hr : Region.ready md ops listed = [i, j]) (hin : decide (i < n) = true) (hjn : decide (j < n) = true)
    (h1 : ∀ K' : Act → World → Prop, (∀ a w, S w → wpAnyHT P md ops Q S n L fuel (listed.setIfInBounds i true) a w → K' a w) → if Region.wanted oi (yielded ops a.tmps) = true then Oper.wp P oi a w K' Q else K' (a.put oi.dst undef) w)
    (h2 : ∀ K' : Act → World → Prop, (∀ a w, S w → wpAnyHT P md ops Q S n L fuel (listed.setIfInBounds j true) a w → K' a w) → if Region.wanted oj (yielded ops a.tmps) = true then Oper.wp P oj a w K' Q else K' (a.put oj.dst undef) w) :
    wpAnyHT P md ops Q S n L (fuel + 1) listed a w := by
  refine ⟨by rw [hr]; simp, fun k hk => ?_⟩
  rw [hr, List.mem_cons, List.mem_singleton] at hk
  rcases hk with rfl | rfl
  · exact ⟨of_decide_eq_true hin, wpOp_step hi (fun K' hK => h1 K' (fun a w hS hW => hK a w ⟨hS, hW⟩))⟩
  · exact ⟨of_decide_eq_true hjn, wpOp_step hj (fun K' hK => h2 K' (fun a w hS hW => hK a w ⟨hS, hW⟩))⟩
end
end
end Go.Proofs.Ytkolbijhekbelaa
