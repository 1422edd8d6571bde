/- Contracts of package ptr: open. -/
import Derived.Test.YtdnnbinmippkdaaDoorPtrO
import Derived.BigQuiet
namespace Go.Proofs.YtdnnbinmippkdaaDoor
open Go.RowKit
set_option maxRecDepth 100000

theorem valAt_drop (bs : List Int) (a q k : Nat) : valAt (bs.drop a) q k = valAt bs (a + q) k := by unfold valAt; rw [List.drop_drop]
theorem valAt_take (bs : List Int) (a q k : Nat) (h : q + k ≤ a) : valAt (bs.take a) q k = valAt bs q k := by
  unfold valAt
  rw [List.drop_take, List.take_take, Nat.min_eq_left (by omega)]
/-- The sum that stands at a place. -/
def sumAt (bs : List Int) (pos : Nat) : S4 := ⟨valAt bs pos 8, valAt bs (pos + 8) 8, valAt bs (pos + 16) 8, valAt bs (pos + 24) 8⟩
/-- Is the sum behind a body right? -/
def sumOk (bs : List Int) : Bool := decide ((fletch (bs.take 96)).a = (sumAt bs 96).a) && (decide ((fletch (bs.take 96)).b = (sumAt bs 96).b) && (decide ((fletch (bs.take 96)).c = (sumAt bs 96).c) && decide ((fletch (bs.take 96)).d = (sumAt bs 96).d)))
theorem sumOk_iff (bs : List Int) : sumOk bs = true ↔ fletch (bs.take 96) = sumAt bs 96 := by
  unfold sumOk
  constructor
  · intro h
    simp only [Bool.and_eq_true, decide_eq_true_eq] at h
    obtain ⟨h1, h2, h3, h4⟩ := h
    calc fletch (bs.take 96) = ⟨(fletch (bs.take 96)).a, (fletch (bs.take 96)).b, (fletch (bs.take 96)).c, (fletch (bs.take 96)).d⟩ := rfl
      _ = sumAt bs 96 := by rw [h1, h2, h3, h4]
  · intro h
    rw [h]
    simp
set_option maxHeartbeats 1600000 in
theorem open_any (b0 o0 c : Nat) (bs : List Int) (w : World) (hn : bs.length = 128) (hc : 128 ≤ c) (hrd : Rd w (some ⟨b0, o0, none⟩) bs) (hb : ∀ z ∈ bs, 0 ≤ z ∧ z < 256) :
    Calls Tryd.prog 48 #[.slice (some ⟨b0, o0, none⟩) 128 c] w fun e w' => e = .returned (.tuple #[.slice (some ⟨b0, o0, none⟩) 96 c, .bool (sumOk bs)]) ∧ Frm [] w w' := by
  have HRD := hid hrd
  have HB := hid hb
  have HN := hid hn
  have HRT := hid (hrd.take 96)
  have HRDR := hid (hrd.drop 96)
  have hgs := fun b g W (h : IsR W b g (bs.drop 96) 0 0) => getSum_any b g 0 (bs.drop 96) (fun z hz => hb z (List.mem_of_mem_drop hz)) W h (by rw [List.length_drop]; omega)
  have hnr := newReader_any (some ⟨b0, o0 + 96, none⟩) (c - 96) (bs.drop 96) w HRDR.out (by rw [List.length_drop]; omega)
  have hof := fun W (h : Rd W (some ⟨b0, o0, none⟩) (bs.take 96)) => of_fl (some ⟨b0, o0, none⟩) 96 c (bs.take 96) W (by rw [List.length_take]; omega) (by omega) (by omega) h (fun z hz => hb z (List.mem_of_mem_take hz))
  rw [show (bs.drop 96).length = 32 by rw [List.length_drop]; omega] at hnr
  rw [valAt_drop, valAt_drop, valAt_drop, valAt_drop] at hgs
  obtain ⟨R, hR⟩ : ∃ R, sumOk bs = R := ⟨_, rfl⟩
  obtain ⟨S, hS⟩ : ∃ S, fletch (bs.take 96) = S := ⟨_, rfl⟩
  obtain ⟨V, hV⟩ : ∃ V, sumAt bs 96 = V := ⟨_, rfl⟩
  have hR' : R = (decide (S.a = V.a) && (decide (S.b = V.b) && (decide (S.c = V.c) && decide (S.d = V.d)))) := by rw [← hR, ← hS, ← hV]; rfl
  have hva : valAt bs (96 + 0) 8 = V.a := by rw [← hV]; rfl
  have hvb : valAt bs (96 + (0 + 8)) 8 = V.b := by rw [← hV]; rfl
  have hvc : valAt bs (96 + (0 + 16)) 8 = V.c := by rw [← hV]; rfl
  have hvd : valAt bs (96 + (0 + 24)) 8 = V.d := by rw [← hV]; rfl
  rw [hva, hvb, hvc, hvd] at hgs
  rw [hS] at hof
  rw [hR]
  unfold S4.arr at hof
  have HGS := hid hgs
  have HOF := hid hof
  have HNR := hid hnr
  have HRR := hid hR'
  clear hrd hb hn hgs hnr hof hR hS hV hR' hva hvb hvc hvd
  go_enter Tryd.func48, Tryd.ntmps48
  go_wp2_with fail
  refine HNR.out.mono ?_
  rintro e w1 ⟨b, g, rfl, hr1, hf1, hb1, hg1⟩
  have HR1 := hid hr1
  have HF1 := hid hf1
  have HB1 := hid (And.intro hb1 hg1)
  clear hr1 hf1 hb1 hg1
  go_wp2_with fail
  refine (HGS.out b g w1 HR1.out).mono ?_
  rintro e w2 ⟨rfl, _, hf2⟩
  have HF2 := hid (HF1.out.trans hf2 (fun i hi hl => by simp at hi; have := HB1.out.1; omega))
  clear hf2
  go_wp2_with fail
  have hfa : Frm [] w2 (w2.alloc (.cells #[.int .u64 V.a, .int .u64 V.b, .int .u64 V.c, .int .u64 V.d] 24)) := (Frm.refl _ _).alloc _
  have h3 := heap_alloc_new w2 (.cells #[.int .u64 V.a, .int .u64 V.b, .int .u64 V.c, .int .u64 V.d] 24)
  obtain ⟨vb, hvb⟩ : ∃ vb, w2.heap.size = vb := ⟨_, rfl⟩
  obtain ⟨w3, hw3⟩ : ∃ w3, w2.alloc (.cells #[.int .u64 V.a, .int .u64 V.b, .int .u64 V.c, .int .u64 V.d] 24) = w3 := ⟨_, rfl⟩
  rw [hw3] at hfa
  rw [hw3, hvb] at h3
  rw [hw3, hvb]
  have HF3 := hid (HF2.out.trans hfa (by simp))
  have H3 := hid h3
  clear hfa h3 hw3 hvb
  refine (HOF.out w3 (HRT.out.kept HF3.out (by simp))).mono ?_
  rintro e w4 ⟨rfl, hf4⟩
  have H4 := hid (hf4.heap H3.out (by simp))
  have HF4 := hid (HF3.out.trans hf4 (by simp))
  clear hf4 H3 HOF
  go_wp2_with fail
  have hfa : Frm [] w4 (w4.alloc (.cells #[.int .u64 S.a, .int .u64 S.b, .int .u64 S.c, .int .u64 S.d] 24)) := (Frm.refl _ _).alloc _
  have h5 := heap_alloc_new w4 (.cells #[.int .u64 S.a, .int .u64 S.b, .int .u64 S.c, .int .u64 S.d] 24)
  obtain ⟨sb, hsb⟩ : ∃ sb, w4.heap.size = sb := ⟨_, rfl⟩
  obtain ⟨w5, hw5⟩ : ∃ w5, w4.alloc (.cells #[.int .u64 S.a, .int .u64 S.b, .int .u64 S.c, .int .u64 S.d] 24) = w5 := ⟨_, rfl⟩
  rw [hw5] at hfa
  rw [hw5, hsb] at h5
  rw [hw5, hsb]
  have h6 := hfa.heap H4.out (by simp)
  have HF5 := hid (HF4.out.trans hfa (by simp))
  clear hfa hw5 hsb
  have e0 : w5.cell? ⟨vb, 0, none⟩ = some (.int .u64 V.a) := by rw [cell_of_row w5 _ _ _ _ _ h6]; rfl
  have e1 : w5.cell? ⟨vb, 1, none⟩ = some (.int .u64 V.b) := by rw [cell_of_row w5 _ _ _ _ _ h6]; rfl
  have e2 : w5.cell? ⟨vb, 2, none⟩ = some (.int .u64 V.c) := by rw [cell_of_row w5 _ _ _ _ _ h6]; rfl
  have e3 : w5.cell? ⟨vb, 3, none⟩ = some (.int .u64 V.d) := by rw [cell_of_row w5 _ _ _ _ _ h6]; rfl
  have s0 : w5.cell? ⟨sb, 0, none⟩ = some (.int .u64 S.a) := by rw [cell_of_row w5 _ _ _ _ _ h5]; rfl
  have s1 : w5.cell? ⟨sb, 1, none⟩ = some (.int .u64 S.b) := by rw [cell_of_row w5 _ _ _ _ _ h5]; rfl
  have s2 : w5.cell? ⟨sb, 2, none⟩ = some (.int .u64 S.c) := by rw [cell_of_row w5 _ _ _ _ _ h5]; rfl
  have s3 : w5.cell? ⟨sb, 3, none⟩ = some (.int .u64 S.d) := by rw [cell_of_row w5 _ _ _ _ _ h5]; rfl
  clear h5 h6
  have t0 : w5.drew.cell? ⟨vb, 0, none⟩ = some (.int .u64 V.a) := e0
  have t1 : w5.drew.cell? ⟨vb, 1, none⟩ = some (.int .u64 V.b) := e1
  have t2 : w5.drew.cell? ⟨vb, 2, none⟩ = some (.int .u64 V.c) := e2
  have t3 : w5.drew.cell? ⟨vb, 3, none⟩ = some (.int .u64 V.d) := e3
  have r0 : w5.drew.cell? ⟨sb, 0, none⟩ = some (.int .u64 S.a) := s0
  have r1 : w5.drew.cell? ⟨sb, 1, none⟩ = some (.int .u64 S.b) := s1
  have r2 : w5.drew.cell? ⟨sb, 2, none⟩ = some (.int .u64 S.c) := s2
  have r3 : w5.drew.cell? ⟨sb, 3, none⟩ = some (.int .u64 S.d) := s3
  have hsl : ∀ W : World, (Instr.slice 28 (.slice (some ⟨b0, o0, none⟩) 128 c) none (some (.int .i64 96)) none).run Tryd.prog W = .ok (.slice (some ⟨b0, o0, none⟩) 96 c) W := fun W => by
    rw [run_slice_h W 28 _ _ _ (elem_of Tryd.underlying28) .i64 _ (by omega) (by omega), show Tryd.prog.elem 28 = 5 by simp [Program.elem, Tryd.underlying28]]
    obtain ⟨i, hi', hz, h1, h2⟩ := info_parts (infoB)
    have hs : (sizeOf 5).run Tryd.prog W = .ok 1 W := by simp [sizeOf, typeInfo, hi', h1, Result.andThen]
    rw [hs]
    simp only [Result.andThen, sliced]
    rw [if_neg (by omega)]
    simp [Addr.add]
  have hsa : ∀ W : World, (Instr.sliceAt 28 (.slice (some ⟨b0, o0, none⟩) 128 c) none (some (.int .i64 96)) none).run Tryd.prog W = .ok (.slice (some ⟨b0, o0, none⟩) 96 c) W := fun W => by
    rw [run_sliceAt_slice (h := elem_of Tryd.underlying28)]
    exact hsl W
  by_cases d0 : S.a = V.a
  case neg =>
    have q0 : decide (S.a = V.a) = false := decide_eq_false d0
    have p0 : (S.a == V.a) = false := by simpa using d0
    have HV : Hid (R = false) := hid (by rw [HRR.out]; simp [d0])
    go_quiet (fail)
    go_wp2_with fail
    go_returns
    exact ⟨by rw [HV.out]; rfl, HF5.out.drewN _⟩
  have q0 : decide (S.a = V.a) = true := decide_eq_true d0
  have p0 : (S.a == V.a) = true := by simpa using d0
  by_cases d1 : S.b = V.b
  case neg =>
    have q1 : decide (S.b = V.b) = false := decide_eq_false d1
    have p1 : (S.b == V.b) = false := by simpa using d1
    have HV : Hid (R = false) := hid (by rw [HRR.out]; simp [d0, d1])
    go_quiet (fail)
    go_wp2_with fail
    go_returns
    exact ⟨by rw [HV.out]; rfl, HF5.out.drewN _⟩
  have q1 : decide (S.b = V.b) = true := decide_eq_true d1
  have p1 : (S.b == V.b) = true := by simpa using d1
  by_cases d2 : S.c = V.c
  case neg =>
    have q2 : decide (S.c = V.c) = false := decide_eq_false d2
    have p2 : (S.c == V.c) = false := by simpa using d2
    have HV : Hid (R = false) := hid (by rw [HRR.out]; simp [d0, d1, d2])
    go_quiet (fail)
    go_wp2_with fail
    go_returns
    exact ⟨by rw [HV.out]; rfl, HF5.out.drewN _⟩
  have q2 : decide (S.c = V.c) = true := decide_eq_true d2
  have p2 : (S.c == V.c) = true := by simpa using d2
  by_cases d3 : S.d = V.d
  case neg =>
    have q3 : decide (S.d = V.d) = false := decide_eq_false d3
    have p3 : (S.d == V.d) = false := by simpa using d3
    have HV : Hid (R = false) := hid (by rw [HRR.out]; simp [d0, d1, d2, d3])
    go_quiet (fail)
    go_wp2_with fail
    go_returns
    exact ⟨by rw [HV.out]; rfl, HF5.out.drewN _⟩
  have q3 : decide (S.d = V.d) = true := decide_eq_true d3
  have p3 : (S.d == V.d) = true := by simpa using d3
  have HV : Hid (R = true) := hid (by rw [HRR.out]; simp [d0, d1, d2, d3])
  go_quiet (fail)
  go_wp2_with fail
  go_returns
  exact ⟨by rw [HV.out]; rfl, HF5.out.drewN _⟩
end Go.Proofs.YtdnnbinmippkdaaDoor
