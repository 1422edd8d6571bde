/- Contracts of package ptr: an uberblock: Check, what is laid down. -/
import Derived.Test.YtdnnbinmippkdaaDoorPtrE
import Derived.Lib.SlBytesConst
namespace Go.Proofs.YtdnnbinmippkdaaDoor
open Go.RowKit
set_option maxRecDepth 100000

/-- An uberblock's numbers. -/
structure U12 where
  pool : Int
  txg : Int
  note : Int
  root : P9
def U12.arr (u : U12) : Array Value := #[.int .u64 u.pool, .int .u64 u.txg, .int .u64 u.note, .int .i64 u.root.top, .int .i64 u.root.at_, .int .i64 u.root.bytes, .int .u64 u.root.birth, .int .i64 u.root.kind, .int .u64 u.root.sa, .int .u64 u.root.sb, .int .u64 u.root.sc, .int .u64 u.root.sd]
structure U12.ok (u : U12) : Prop where
  pool : 0 ≤ u.pool ∧ u.pool < 18446744073709551616
  txg : 0 ≤ u.txg ∧ u.txg < 18446744073709551616
  note : 0 ≤ u.note ∧ u.note < 18446744073709551616
  root : u.root.ok
/-- What CheckUber answers. -/
def checkU (u : U12) : Int := if 1 ≤ u.txg ∧ u.txg ≤ 281474976710656 ∧ checkP u.root = 0 ∧ u.root.birth ≤ u.txg then 0 else 44
theorem uber_cells {W : World} {pb : Nat} {u : U12} (h : W.heap[pb]? = some (.cells #[.int .u64 u.pool, .int .u64 u.txg, .int .u64 u.note, .int .i64 u.root.top, .int .i64 u.root.at_, .int .i64 u.root.bytes, .int .u64 u.root.birth, .int .i64 u.root.kind, .int .u64 u.root.sa, .int .u64 u.root.sb, .int .u64 u.root.sc, .int .u64 u.root.sd] 45 (0, 0))) :
    W.cell? ⟨pb, 0, none⟩ = some (.int .u64 u.pool) ∧ W.cell? ⟨pb, 1, none⟩ = some (.int .u64 u.txg) ∧ W.cell? ⟨pb, 2, none⟩ = some (.int .u64 u.note) ∧ W.cell? ⟨pb, 3, none⟩ = some (.int .i64 u.root.top) ∧ W.cell? ⟨pb, 4, none⟩ = some (.int .i64 u.root.at_) ∧ W.cell? ⟨pb, 5, none⟩ = some (.int .i64 u.root.bytes) ∧ W.cell? ⟨pb, 6, none⟩ = some (.int .u64 u.root.birth) ∧ W.cell? ⟨pb, 7, none⟩ = some (.int .i64 u.root.kind) ∧ W.cell? ⟨pb, 8, none⟩ = some (.int .u64 u.root.sa) ∧ W.cell? ⟨pb, 9, none⟩ = some (.int .u64 u.root.sb) ∧ W.cell? ⟨pb, 10, none⟩ = some (.int .u64 u.root.sc) ∧ W.cell? ⟨pb, 11, none⟩ = some (.int .u64 u.root.sd) := by
  refine ⟨?_, ?_, ?_, ?_, ?_, ?_, ?_, ?_, ?_, ?_, ?_, ?_⟩ <;> (rw [cell_of_row W _ _ _ _ _ h]; rfl)
set_option maxHeartbeats 1600000 in
theorem checkU_any (u : U12) (w : World) :
    Calls Tryd.prog 22 #[.agg u.arr] w fun e w' => e = .returned (.int .i64 (checkU u)) ∧ Frm [] w w' := by
  have HCK := hid (fun W => check9_any u.root W)
  obtain ⟨C, hC⟩ : ∃ C, checkP u.root = C := ⟨_, rfl⟩
  obtain ⟨R, hR⟩ : ∃ R, checkU u = R := ⟨_, rfl⟩
  have HR : Hid ((1 ≤ u.txg ∧ u.txg ≤ 281474976710656 ∧ C = 0 ∧ u.root.birth ≤ u.txg ∧ R = 0) ∨ (¬ (1 ≤ u.txg ∧ u.txg ≤ 281474976710656 ∧ C = 0 ∧ u.root.birth ≤ u.txg) ∧ R = 44)) := hid (by
    rw [← hR, ← hC]
    unfold checkU
    by_cases h : 1 ≤ u.txg ∧ u.txg ≤ 281474976710656 ∧ checkP u.root = 0 ∧ u.root.birth ≤ u.txg
    · rw [if_pos h]; exact Or.inl ⟨h.1, h.2.1, h.2.2.1, h.2.2.2, rfl⟩
    · rw [if_neg h]; exact Or.inr ⟨h, rfl⟩)
  rw [hC] at HCK
  rw [hR]
  have HROW := hid (heap_alloc_new w (.cells #[.int .u64 u.pool, .int .u64 u.txg, .int .u64 u.note, .int .i64 u.root.top, .int .i64 u.root.at_, .int .i64 u.root.bytes, .int .u64 u.root.birth, .int .i64 u.root.kind, .int .u64 u.root.sa, .int .u64 u.root.sb, .int .u64 u.root.sc, .int .u64 u.root.sd] 45))
  have HFA : Hid (Frm [] w (w.alloc (.cells #[.int .u64 u.pool, .int .u64 u.txg, .int .u64 u.note, .int .i64 u.root.top, .int .i64 u.root.at_, .int .i64 u.root.bytes, .int .u64 u.root.birth, .int .i64 u.root.kind, .int .u64 u.root.sa, .int .u64 u.root.sb, .int .u64 u.root.sc, .int .u64 u.root.sd] 45))) := hid ((Frm.refl _ _).alloc _)
  unfold P9.arr at HCK
  unfold U12.arr
  clear hC hR
  go_enter Tryd.func22, Tryd.ntmps22
  by_cases h1 : u.txg < 1
  · go_wp2_with fail
    go_returns
    exact ⟨by have h := HR.out; rw [show R = 44 by omega]; rfl, HFA.out⟩
  by_cases h2 : u.txg ≤ 281474976710656
  case neg =>
    have h2' : 281474976710656 < u.txg := by omega
    go_wp2_with fail
    go_returns
    exact ⟨by have h := HR.out; rw [show R = 44 by omega]; rfl, HFA.out⟩
  go_wp2_with fail
  refine (HCK.out _).mono ?_
  rintro e w1 ⟨rfl, hf1⟩
  have hr1 := hf1.heap HROW.out (by simp)
  obtain ⟨q0, q1, q2, q3, q4, q5, q6, q7, q8, q9, q10, q11⟩ := uber_cells hr1
  have HF1 := hid (HFA.out.trans hf1 (by simp))
  clear hr1 hf1 HCK HROW
  by_cases h3 : C = 0
  case neg =>
    have hb : (C != 0) = true := by simpa using h3
    go_wp2_with fail
    go_returns
    exact ⟨by have h := HR.out; rw [show R = 44 by omega]; rfl, HF1.out⟩
  subst h3
  by_cases h4 : u.txg < u.root.birth
  · go_wp2_with fail
    go_returns
    exact ⟨by have h := HR.out; rw [show R = 44 by omega]; rfl, HF1.out⟩
  · go_wp2_with fail
    go_returns
    have hR0 : R = 0 := by
      rcases HR.out with h | h
      · exact h.2.2.2.2
      · exact absurd (by refine ⟨by omega, by omega, ?_, by omega⟩; first | rfl | trivial | assumption) h.1
    exact ⟨by rw [hR0]; rfl, HF1.out⟩
theorem bytes_fit (w0 w : World) (b : Nat) (room : Int) (zs : List Int) (A : List Nat) (hw : FreshW w0 w b room (zs, 0) A) (hr1 : room ≤ 2147483647) (p : Option Addr) (ns : List Int) (c : Nat) (hc : ns = [] → p = none → c = 0) (hrd : Rd w p ns) (hz : (zs.length : Int) + ns.length ≤ room) :
    Calls Tryd.prog 61 #[.pointer (some ⟨b, 0, none⟩), .slice p ns.length c] w fun e w' => e = .returned (.tuple #[]) ∧ FreshW w0 w' b room (zs ++ ns, 0) A ∧ Keeps A w w' := by
  have h := bytesF_any w0 w b room (zs, 0) A hw (by omega) hr1 (by simp only; omega) p ns c (by omega) hc hrd
  have e : stepW room (zs, 0) (ns, 0) = (zs ++ ns, 0) := by
    unfold stepW
    simp only [ne_eq, not_true, if_false]
    rw [if_neg (by omega)]
  rw [e] at h
  exact h
theorem conv_const (W : World) (C : Array Value) (n c : Nat) : (convert 28 28 (.slice (some ⟨W.heap.size, 0, none⟩) n c)).run Tryd.prog (W.alloc (.cells C 5)) = .ok (.slice (some ⟨W.heap.size, 0, none⟩) n c) (W.alloc (.cells C 5 (C.size, C.size + 1))) :=
  Lib.run_convert_bytes_const (P := Tryd.prog) W 28 5 C n c Tryd.underlying28 Tryd.underlying5
theorem rd_markP {w : World} {zs : List Int} {E : TypeId} {fr : Nat × Nat} : Rd (w.alloc (.cells (bv zs).toArray E fr)) (some ⟨w.heap.size, 0, none⟩) zs := by
  refine Or.inr ⟨w.heap.size, 0, rfl, fun i hi => ?_⟩
  rw [Nat.zero_add, World.cell?_alloc_mark]
  simpa using bv_get hi
/-- An uberblock's 76 bytes. -/
def bodyU (u : U12) : List Int := [85, 67, 85, 66] ++ le u.pool 8 ++ le u.txg 8 ++ le u.note 8 ++ bodyP u.root
theorem bodyU_length (u : U12) : (bodyU u).length = 76 := by simp [bodyU, le_length, bodyP_length]
set_option maxHeartbeats 1600000 in
theorem putUber_any (w0 w : World) (b : Nat) (A : List Nat) (hw : FreshW w0 w b 96 ([], 0) A) (u : U12) (hu : u.ok) (hf : u.root.fits) :
    Calls Tryd.prog 42 #[.pointer (some ⟨b, 0, none⟩), .agg u.arr] w fun e w' => e = .returned (.tuple #[]) ∧ FreshW w0 w' b 96 (bodyU u, 0) A ∧ Keeps A w w' := by
  have hal := hw.alloc (.cells #[.int .u64 u.pool, .int .u64 u.txg, .int .u64 u.note, .int .i64 u.root.top, .int .i64 u.root.at_, .int .i64 u.root.bytes, .int .u64 u.root.birth, .int .i64 u.root.kind, .int .u64 u.root.sa, .int .u64 u.root.sb, .int .u64 u.root.sc, .int .u64 u.root.sd] 45)
  have hrow := heap_alloc_new w (.cells #[.int .u64 u.pool, .int .u64 u.txg, .int .u64 u.note, .int .i64 u.root.top, .int .i64 u.root.at_, .int .i64 u.root.bytes, .int .u64 u.root.birth, .int .i64 u.root.kind, .int .u64 u.root.sa, .int .u64 u.root.sb, .int .u64 u.root.sc, .int .u64 u.root.sd] 45)
  have HPB := hid (show w.heap.size < (w.alloc (.cells #[.int .u64 u.pool, .int .u64 u.txg, .int .u64 u.note, .int .i64 u.root.top, .int .i64 u.root.at_, .int .i64 u.root.bytes, .int .u64 u.root.birth, .int .i64 u.root.kind, .int .u64 u.root.sa, .int .u64 u.root.sb, .int .u64 u.root.sc, .int .u64 u.root.sd] 45)).heap.size by simp)
  have HU := hid hu
  have HFT := hid hf
  unfold U12.arr
  obtain ⟨pb, hpb⟩ : ∃ pb, w.heap.size = pb := ⟨_, rfl⟩
  obtain ⟨wa, hwa⟩ : ∃ wa, w.alloc (.cells #[.int .u64 u.pool, .int .u64 u.txg, .int .u64 u.note, .int .i64 u.root.top, .int .i64 u.root.at_, .int .i64 u.root.bytes, .int .u64 u.root.birth, .int .i64 u.root.kind, .int .u64 u.root.sa, .int .u64 u.root.sb, .int .u64 u.root.sc, .int .u64 u.root.sd] 45) = wa := ⟨_, rfl⟩
  rw [hpb, hwa] at hal hrow HPB
  have HK0 := hid hal.2
  have hal2 := hal.1.alloc (.cells #[.int .u8 85, .int .u8 67, .int .u8 85, .int .u8 66] 5 (4, 5))
  have HW1 := hid hal2.1
  have hcv := conv_const wa #[.int .u8 85, .int .u8 67, .int .u8 85, .int .u8 66] 4 4
  have HRD := hid (rd_markP (w := wa) (zs := [85, 67, 85, 66]) (E := 5) (fr := (4, 5)))
  have HK1 := hid (hal2.2 pb (by simp) |>.trans hrow)
  have HK2 := hid hal2.2
  clear hal hal2 hw hu hf hrow
  go_enter Tryd.func42, Tryd.ntmps42
  go_wp2_with fail
  obtain ⟨wb, hwb⟩ : ∃ wb, wa.alloc (.cells #[.int .u8 85, .int .u8 67, .int .u8 85, .int .u8 66] 5 (4, 5)) = wb := ⟨_, rfl⟩
  have hrd : Rd (wa.alloc (.cells #[.int .u8 85, .int .u8 67, .int .u8 85, .int .u8 66] 5 (4, 5))) (some ⟨wa.heap.size, 0, none⟩) [85, 67, 85, 66] := HRD.out
  rw [hwb] at HW1 HK1 HK2 hrd
  rw [hwb]
  clear hwb hwa HRD hcv
  refine (bytes_fit w0 wb b 96 [] _ HW1.out (by omega) (some ⟨wa.heap.size, 0, none⟩) [85, 67, 85, 66] 4 (by simp) hrd (by simp)).mono ?_
  rintro e w1 ⟨rfl, hw1, hk1⟩
  have HW := hid hw1
  have hr1 := (hk1 pb (by simp)).trans HK1.out
  have HR1 := hid hr1
  have HKK := hid (HK2.out.trans (hk1.less (fun k hk => List.mem_cons_of_mem _ hk)))
  obtain ⟨q0, _⟩ := uber_cells hr1
  clear hw1 hr1 hk1 hrd HW1 HK1 HK2
  go_wp2_with fail
  refine (num_fit w0 w1 b 96 _ _ HW.out (by omega) u.pool 8 HU.out.pool.1 (by omega) (by omega) HU.out.pool.2 (by simp)).mono ?_
  rintro e w2 ⟨rfl, hw2, hk2⟩
  have HW2 := hid hw2
  have hr2 := (hk2 pb (by simp)).trans HR1.out
  have HR2 := hid hr2
  have HK2 := hid (HKK.out.trans (hk2.less (fun k hk => List.mem_cons_of_mem _ hk)))
  obtain ⟨_, q1, _⟩ := uber_cells hr2
  clear hw2 hr2 hk2 HW HR1 HKK q0
  go_wp2_with fail
  refine (num_fit w0 w2 b 96 _ _ HW2.out (by omega) u.txg 8 HU.out.txg.1 (by omega) (by omega) HU.out.txg.2 (by simp [le_length])).mono ?_
  rintro e w3 ⟨rfl, hw3, hk3⟩
  have HW3 := hid hw3
  have hr3 := (hk3 pb (by simp)).trans HR2.out
  have HR3 := hid hr3
  have HK3 := hid (HK2.out.trans (hk3.less (fun k hk => List.mem_cons_of_mem _ hk)))
  obtain ⟨_, _, q2, _⟩ := uber_cells hr3
  clear hw3 hr3 hk3 HW2 HR2 HK2 q1
  go_wp2_with fail
  refine (num_fit w0 w3 b 96 _ _ HW3.out (by omega) u.note 8 HU.out.note.1 (by omega) (by omega) HU.out.note.2 (by simp [le_length])).mono ?_
  rintro e w4 ⟨rfl, hw4, hk4⟩
  have HW4 := hid hw4
  have hr4 := (hk4 pb (by simp)).trans HR3.out
  have HK4 := hid (HK3.out.trans (hk4.less (fun k hk => List.mem_cons_of_mem _ hk)))
  obtain ⟨_, _, _, q3, q4, q5, q6, q7, q8, q9, q10, q11⟩ := uber_cells hr4
  have HPT := hid (putPtr_any w0 w4 b 96 _ _ HW4.out (by omega) u.root HFT.out (by simp [le_length]))
  unfold P9.arr at HPT
  clear hw4 hr4 hk4 HW3 HR3 HK3 q2
  go_wp2_with fail
  refine HPT.out.mono ?_
  rintro e w5 ⟨rfl, hw5, hk5⟩
  have HW5 : Hid (FreshW w0 w5 b 96 (bodyU u, 0) A) := hid (by
    have h := hw5.less (B := A) (fun k hk => List.mem_cons_of_mem _ (List.mem_cons_of_mem _ hk))
    unfold bodyU
    simpa only [List.append_assoc, List.nil_append] using h)
  have HK5 : Hid (Keeps A w w5) := hid (HK0.out.trans ((HK4.out.trans (hk5.less (fun k hk => List.mem_cons_of_mem _ hk))).less (fun k hk => List.mem_cons_of_mem _ hk)))
  clear hw5 hk5 HPT HW4 q3 q4 q5 q6 q7 q8 q9 q10 q11
  go_wp2_with fail
  go_returns
  exact ⟨rfl, HW5.out, HK5.out⟩
end Go.Proofs.YtdnnbinmippkdaaDoor
