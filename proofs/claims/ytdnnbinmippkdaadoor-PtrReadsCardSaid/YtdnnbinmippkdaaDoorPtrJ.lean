/- Contracts of package ptr: what is laid down of a label. -/
import Derived.Test.YtdnnbinmippkdaaDoorPtrI
namespace Go.Proofs.YtdnnbinmippkdaaDoor
open Go.RowKit
set_option maxRecDepth 100000

/-- What a label's numbers must be to be laid down. -/
structure LabV.fits (l : LabV) : Prop where
  n : l.n ≤ 4
  top : 0 ≤ l.top ∧ l.top < 256
  place : 0 ≤ l.place ∧ l.place < 256
  each : ∀ j, j < l.n → (0 ≤ (l.ts.getD j default).kind ∧ (l.ts.getD j default).kind < 256) ∧ (0 ≤ (l.ts.getD j default).leaves ∧ (l.ts.getD j default).leaves < 256) ∧ (0 ≤ (l.ts.getD j default).sectors ∧ (l.ts.getD j default).sectors < 4294967296)
theorem checkL_ok {l : LabV} {w : World} (hl : l.ok w) (h : checkL l = 0) : l.fits := by
  unfold checkL at h
  split at h
  · cases h
  rename_i h1
  split at h
  · cases h
  rename_i h2
  split at h
  · cases h
  rename_i h3
  have hall : ∀ j, j < l.n → (l.ts.getD j default).may := fun j hj => by
    have h4 : l.ts.all (fun t => decide t.may) = true := by simpa using h2
    rw [List.all_eq_true] at h4
    have h5 := h4 (l.ts.getD j default) (by
      rw [List.getD_eq_getElem?_getD, List.getElem?_eq_getElem (by rw [hl.len]; exact hj)]
      exact List.getElem_mem _)
    exact of_decide_eq_true h5
  have hb : ∀ t : T3, t.may → (0 ≤ t.kind ∧ t.kind < 256) ∧ (0 ≤ t.leaves ∧ t.leaves < 256) ∧ (0 ≤ t.sectors ∧ t.sectors < 4294967296) := fun t ht => by
    unfold T3.may at ht
    omega
  have ht := hb _ (hall l.top.toNat (by omega))
  exact ⟨by omega, by omega, by omega, fun j hj => hb _ (hall j hj)⟩
/-- The bytes of so many tops. -/
def topsT (ts : List T3) : Nat → List Int
  | 0 => []
  | j + 1 => topsT ts j ++ (le (ts.getD j default).kind 1 ++ le (ts.getD j default).leaves 1 ++ le (ts.getD j default).sectors 4)
theorem topsT_length (ts : List T3) (j : Nat) : (topsT ts j).length = 6 * j := by
  induction j with
  | zero => rfl
  | succ j ih => simp only [topsT, List.length_append, ih, le_length]; omega
def headL (l : LabV) : List Int := [85, 67, 76, 66] ++ le l.pool 8 ++ le l.top 1 ++ le l.place 1 ++ le (l.n : Int) 1
theorem headL_length (l : LabV) : (headL l).length = 15 := by simp [headL, le_length]
def bodyL (l : LabV) : List Int := headL l ++ topsT l.ts l.n
theorem bodyL_length (l : LabV) : (bodyL l).length = 15 + 6 * l.n := by rw [bodyL, List.length_append, headL_length, topsT_length]
theorem lab_cells {W : World} {lb : Nat} {l : LabV} (h : W.heap[lb]? = some (.cells #[.int .u64 l.pool, .slice l.p l.n l.c, .int .i64 l.top, .int .i64 l.place] 37 (0, 0))) :
    W.cell? ⟨lb, 0, none⟩ = some (.int .u64 l.pool) ∧ W.cell? ⟨lb, 1, none⟩ = some (.slice l.p l.n l.c) ∧ W.cell? ⟨lb, 2, none⟩ = some (.int .i64 l.top) ∧ W.cell? ⟨lb, 3, none⟩ = some (.int .i64 l.place) := by
  refine ⟨?_, ?_, ?_, ?_⟩ <;> (rw [cell_of_row W _ _ _ _ _ h]; rfl)
set_option maxHeartbeats 3200000 in
theorem putLabel_any (w0 w : World) (b : Nat) (A : List Nat) (hw : FreshW w0 w b 96 ([], 0) A) (l : LabV) (hl : l.ok w0) (hf : l.fits) :
    Calls Tryd.prog 37 #[.pointer (some ⟨b, 0, none⟩), .agg l.arr] w fun e w' => e = .returned (.tuple #[]) ∧ FreshW w0 w' b 96 (bodyL l, 0) A ∧ Keeps A w w' := by
  have hal := hw.alloc (.cells #[.int .u64 l.pool, .slice l.p l.n l.c, .int .i64 l.top, .int .i64 l.place] 37)
  have hrow := heap_alloc_new w (.cells #[.int .u64 l.pool, .slice l.p l.n l.c, .int .i64 l.top, .int .i64 l.place] 37)
  have HL := hid hl
  have HF := hid hf
  have hn4 := hf.n
  have hn1 := hl.le
  have hn2 := hl.mx
  unfold LabV.arr
  obtain ⟨lb, hlb⟩ : ∃ lb, w.heap.size = lb := ⟨_, rfl⟩
  obtain ⟨wa, hwa⟩ : ∃ wa, w.alloc (.cells #[.int .u64 l.pool, .slice l.p l.n l.c, .int .i64 l.top, .int .i64 l.place] 37) = wa := ⟨_, rfl⟩
  rw [hlb, hwa] at hal hrow
  have HK0 := hid hal.2
  have hal2 := hal.1.alloc (.cells #[.int .u8 85, .int .u8 67, .int .u8 76, .int .u8 66] 5 (4, 5))
  have HW1 := hid hal2.1
  have hcv := conv_const wa #[.int .u8 85, .int .u8 67, .int .u8 76, .int .u8 66] 4 4
  have HRD := hid (rd_markP (w := wa) (zs := [85, 67, 76, 66]) (E := 5) (fr := (4, 5)))
  have HK1 := hid (hal2.2 lb (by simp) |>.trans hrow)
  have HK2 := hid hal2.2
  have e1 : IntKind.u64.wrap l.top = l.top := IntWalk.u64_in _ (by have := hf.top; omega)
  have e2 : IntKind.u64.wrap l.place = l.place := IntWalk.u64_in _ (by have := hf.place; omega)
  have e3 : IntKind.u64.wrap (l.n : Int) = (l.n : Int) := IntWalk.u64_in _ (by omega)
  clear hal hal2 hw hl hf hrow
  go_enter Tryd.func37, Tryd.ntmps37
  go_wp2_with fail
  obtain ⟨wb, hwb⟩ : ∃ wb, wa.alloc (.cells #[.int .u8 85, .int .u8 67, .int .u8 76, .int .u8 66] 5 (4, 5)) = wb := ⟨_, rfl⟩
  have hrd : Rd (wa.alloc (.cells #[.int .u8 85, .int .u8 67, .int .u8 76, .int .u8 66] 5 (4, 5))) (some ⟨wa.heap.size, 0, none⟩) [85, 67, 76, 66] := HRD.out
  rw [hwb] at HW1 HK1 HK2 hrd
  rw [hwb]
  clear hwb hwa hlb HRD hcv
  refine (bytes_fit w0 wb b 96 [] _ HW1.out (by omega) (some ⟨wa.heap.size, 0, none⟩) [85, 67, 76, 66] 4 (by simp) hrd (by simp)).mono ?_
  rintro e w1 ⟨rfl, hw1, hk1⟩
  have HW := hid (hw1.less (B := lb :: A) (fun k hk => List.mem_cons_of_mem _ hk))
  have hr1 := (hk1 lb (by simp)).trans HK1.out
  have HR1 := hid hr1
  have HKK := hid (HK2.out.trans (hk1.less (fun k hk => List.mem_cons_of_mem _ hk)))
  obtain ⟨q0, _⟩ := lab_cells hr1
  clear hw1 hr1 hk1 hrd HW1 HK1 HK2
  go_wp2_with fail
  refine (num_fit w0 w1 b 96 _ _ HW.out (by omega) l.pool 8 HL.out.pool.1 (by omega) (by omega) HL.out.pool.2 (by simp)).mono ?_
  rintro e w2 ⟨rfl, hw2, hk2⟩
  have HW2 := hid hw2
  have hr2 := (hk2 lb (by simp)).trans HR1.out
  have HR2 := hid hr2
  have HK2 := hid (HKK.out.trans hk2)
  obtain ⟨_, _, q1, _⟩ := lab_cells hr2
  clear hw2 hr2 hk2 HW HR1 HKK q0
  go_wp2_with fail
  refine (num_fit w0 w2 b 96 _ _ HW2.out (by omega) l.top 1 HF.out.top.1 (by omega) (by omega) HF.out.top.2 (by simp [le_length])).mono ?_
  rintro e w3 ⟨rfl, hw3, hk3⟩
  have HW3 := hid hw3
  have hr3 := (hk3 lb (by simp)).trans HR2.out
  have HR3 := hid hr3
  have HK3 := hid (HK2.out.trans hk3)
  obtain ⟨_, _, _, q2⟩ := lab_cells hr3
  clear hw3 hr3 hk3 HW2 HR2 HK2 q1
  go_wp2_with fail
  refine (num_fit w0 w3 b 96 _ _ HW3.out (by omega) l.place 1 HF.out.place.1 (by omega) (by omega) HF.out.place.2 (by simp [le_length])).mono ?_
  rintro e w4 ⟨rfl, hw4, hk4⟩
  have HW4 := hid hw4
  have hr4 := (hk4 lb (by simp)).trans HR3.out
  have HR4 := hid hr4
  have HK4 := hid (HK3.out.trans hk4)
  obtain ⟨_, q3, _, _⟩ := lab_cells hr4
  clear hw4 hr4 hk4 HW3 HR3 HK3 q2
  go_wp2_with fail
  refine (num_fit w0 w4 b 96 _ _ HW4.out (by omega) (l.n : Int) 1 (by omega) (by omega) (by omega) (by omega) (by simp [le_length])).mono ?_
  rintro e w5 ⟨rfl, hw5, hk5⟩
  have HW5 : Hid (FreshW w0 w5 b 96 (headL l ++ topsT l.ts 0, 0) (lb :: A)) := hid (by
    unfold headL topsT
    simpa only [List.append_nil, List.nil_append] using hw5)
  have hr5 := (hk5 lb (by simp)).trans HR4.out
  have HK5 : Hid (Keeps A w w5) := hid (HK0.out.trans ((HK4.out.trans hk5).less (fun k hk => List.mem_cons_of_mem _ hk)))
  obtain ⟨_, q4, _, _⟩ := lab_cells hr5
  clear hw5 hr5 hk5 HW4 HR4 HK4 q3
  go_wp2_with fail
  go_loopw [33] (fun i wr => ∃ j : Nat, j ≤ l.n ∧ i = .int .i64 j ∧ Hid (FreshW w0 wr b 96 (headL l ++ topsT l.ts j, 0) (lb :: A)) ∧ Hid (Keeps A w wr)) (fun i _ => l.n - (intOf i).toNat)
  case atStart => exact ⟨0, by omega, rfl, HW5, HK5⟩
  case round =>
    clear HW5 HK5 q4
    obtain ⟨j, hj, rfl, hw, hk⟩ := hrel
    by_cases hlt : j < l.n
    · have t1 : (j : Int) < (l.n : Int) := by omega
      obtain ⟨g, o, hp, k0, k1, k2⟩ : ∃ g o, l.p = some ⟨g, o, none⟩ ∧ wr.cell? ⟨g, o + j * 3, none⟩ = some (.int .i64 (l.ts.getD j default).kind) ∧ wr.cell? ⟨g, o + j * 3 + 1, none⟩ = some (.int .i64 (l.ts.getD j default).leaves) ∧ wr.cell? ⟨g, o + j * 3 + 2, none⟩ = some (.int .i64 (l.ts.getD j default).sectors) := by
        have hlen := HL.out.len
        rcases HL.out.rd.kept hw.out.frm (by simp) with h | ⟨g, o, e, h⟩
        · rw [h] at hlen; simp at hlen; omega
        · exact ⟨g, o, e, h j (by rw [hlen]; exact hlt)⟩
      have hfit := HF.out.each j hlt
      have hsu : topsT l.ts (j + 1) = topsT l.ts j ++ (le (l.ts.getD j default).kind 1 ++ le (l.ts.getD j default).leaves 1 ++ le (l.ts.getD j default).sectors 4) := rfl
      obtain ⟨t, ht⟩ : ∃ t, l.ts.getD j default = t := ⟨_, rfl⟩
      rw [ht] at k0 k1 k2 hfit hsu
      obtain ⟨kind, leaves, sectors⟩ := t
      simp only at k0 k1 k2 hfit hsu
      obtain ⟨⟨f0, f1⟩, ⟨f2, f3⟩, ⟨f4, f5⟩⟩ := hfit
      rw [hp]
      have HSU := hid hsu
      have hal := hw.out.alloc (.cells #[.int .i64 kind, .int .i64 leaves, .int .i64 sectors] 39)
      have hrow := heap_alloc_new wr (.cells #[.int .i64 kind, .int .i64 leaves, .int .i64 sectors] 39)
      have e4 : IntKind.u64.wrap kind = kind := IntWalk.u64_in _ (by omega)
      have e5 : IntKind.u64.wrap leaves = leaves := IntWalk.u64_in _ (by omega)
      have e6 : IntKind.u64.wrap sectors = sectors := IntWalk.u64_in _ (by omega)
      have hlb : ((headL l ++ topsT l.ts j).length : Int) + 6 ≤ 96 := by rw [List.length_append, headL_length, topsT_length]; omega
      obtain ⟨Z, hZ⟩ : ∃ Z, headL l ++ topsT l.ts j = Z := ⟨_, rfl⟩
      rw [hZ] at hal hlb
      have HZ := hid hZ
      obtain ⟨tb, htb⟩ : ∃ tb, wr.heap.size = tb := ⟨_, rfl⟩
      obtain ⟨wt, hwt⟩ : ∃ wt, wr.alloc (.cells #[.int .i64 kind, .int .i64 leaves, .int .i64 sectors] 39) = wt := ⟨_, rfl⟩
      rw [htb, hwt] at hal hrow
      have HWt := hid hal.1
      have HRt := hid hrow
      have HKt := hid (hk.out.trans (hal.2.less (fun k hk => List.mem_cons_of_mem _ hk)))
      have c0 : wt.cell? ⟨tb, 0, none⟩ = some (.int .i64 kind) := by rw [cell_of_row wt _ _ _ _ _ hrow]; rfl
      clear hal hrow hsu ht hZ hw hk
      go_wp2_with fail
      refine (num_fit w0 wt b 96 _ _ HWt.out (by omega) kind 1 f0 (by omega) (by omega) f1 (by omega)).mono ?_
      rintro e v1 ⟨rfl, hv1, hk1⟩
      have HV1 := hid hv1
      have hr1 := (hk1 tb (by simp)).trans HRt.out
      have HR1 := hid hr1
      have HK1 := hid (HKt.out.trans (hk1.less (fun k hk => List.mem_cons_of_mem _ (List.mem_cons_of_mem _ hk))))
      have c1 : v1.cell? ⟨tb, 1, none⟩ = some (.int .i64 leaves) := by rw [cell_of_row v1 _ _ _ _ _ hr1]; rfl
      clear hv1 hr1 hk1 c0 HWt HRt HKt k0 k1 k2 hwt htb
      go_wp2_with fail
      refine (num_fit w0 v1 b 96 _ _ HV1.out (by omega) leaves 1 f2 (by omega) (by omega) f3 (by simp only [List.length_append, le_length]; omega)).mono ?_
      rintro e v2 ⟨rfl, hv2, hk2⟩
      have HV2 := hid hv2
      have hr2 := (hk2 tb (by simp)).trans HR1.out
      have HK2 := hid (HK1.out.trans (hk2.less (fun k hk => List.mem_cons_of_mem _ (List.mem_cons_of_mem _ hk))))
      have c2 : v2.cell? ⟨tb, 2, none⟩ = some (.int .i64 sectors) := by rw [cell_of_row v2 _ _ _ _ _ hr2]; rfl
      clear hv2 hr2 hk2 c1 HV1 HR1 HK1
      go_wp2_with fail
      refine (num_fit w0 v2 b 96 _ _ HV2.out (by omega) sectors 4 f4 (by omega) (by omega) f5 (by simp only [List.length_append, le_length]; omega)).mono ?_
      rintro e v3 ⟨rfl, hv3, hk3⟩
      have HV3 : Hid (FreshW w0 v3 b 96 (headL l ++ topsT l.ts (j + 1), 0) (lb :: A)) := hid (by
        have h := hv3.less (B := lb :: A) (fun k hk => List.mem_cons_of_mem _ hk)
        rw [HSU.out, ← List.append_assoc, HZ.out]
        simpa only [List.append_assoc] using h)
      have HK3 := hid (HK2.out.trans (hk3.less (fun k hk => List.mem_cons_of_mem _ (List.mem_cons_of_mem _ hk))))
      clear hv3 hk3 c2 HV2 HK2
      go_wp2_with fail
      go_roundw
      case rel => exact ⟨j + 1, by omega, by go_num, HV3, HK3⟩
      case measure => simp [intOf]; omega
    · obtain rfl : j = l.n := by omega
      go_wp2_with fail
      go_returns
      exact ⟨rfl, hw.out.less (fun k hk => List.mem_cons_of_mem _ hk), hk.out⟩
end Go.Proofs.YtdnnbinmippkdaaDoor
