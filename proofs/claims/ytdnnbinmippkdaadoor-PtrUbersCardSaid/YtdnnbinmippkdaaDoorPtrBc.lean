/- The law PtrUbers. -/
import Derived.Test.YtdnnbinmippkdaaDoorPtrBa
import Derived.Test.YtdnnbinmippkdaaDoorPtrAd
namespace Go.Proofs.YtdnnbinmippkdaaDoor
open Go.RowKit
set_option maxRecDepth 100000

theorem sealU_length (u : U12) : (sealB (uberB u)).length = 128 := by rw [sealB_length, uberB_length]
set_option maxHeartbeats 3200000 in
theorem ptrubers_any (u : U12) (hu : u.ok) (w : World) :
    Calls Tryd.prog 5 #[.agg u.arr] w fun e w' => e = .returned (.bool true) ∧ Frm [] w w' := by
  have HAW := hid awake4_any
  have HEN := hid (fun W => (encodeU_any u hu W).mono (fun e w' h => enc_mine h (by rw [sealU_length]; omega)))
  have HED := hid (fun W => (refEncodeU_any u hu W).mono (fun e w' h => encD_mine h))
  have HC1 := hid (fun W => checkU_any u W)
  have HC2 := hid (fun W => refCheckU_any u W)
  obtain ⟨C, hC⟩ : ∃ C, checkU u = C := ⟨_, rfl⟩
  rw [hC] at HEN HED HC1 HC2
  obtain ⟨Z, hZ⟩ : ∃ Z, (if C = 0 then sealB (uberB u) else []) = Z := ⟨_, rfl⟩
  have hZl : Z.length ≤ 128 := by rw [← hZ]; split <;> simp [sealU_length]
  rw [hZ] at HEN HED
  have HZL := hid hZl
  have HROW := hid (heap_alloc_new w (.cells u.arr 45))
  have HFA : Hid (Frm [] w (w.alloc (.cells u.arr 45))) := hid ((Frm.refl _ _).alloc _)
  clear hu hC hZ hZl
  unfold U12.arr at HEN HED HC1 HC2 HROW HFA ⊢
  obtain ⟨pb, hpb⟩ : ∃ pb, w.heap.size = pb := ⟨_, rfl⟩
  obtain ⟨wa, hwa⟩ : ∃ wa, w.alloc (.cells #[.int .u64 u.pool, .int .u64 u.txg, .int .u64 u.note, .int .i64 u.root.top, .int .i64 u.root.at_, .int .i64 u.root.bytes, .int .u64 u.root.birth, .int .i64 u.root.kind, .int .u64 u.root.sa, .int .u64 u.root.sb, .int .u64 u.root.sc, .int .u64 u.root.sd] 45) = wa := ⟨_, rfl⟩
  rw [hwa] at HFA
  rw [hwa, hpb] at HROW
  have HPB := hid hpb
  go_enter Tryd.func5, Tryd.ntmps5
  go_wp2_with fail
  clear hpb hwa
  refine (HAW.out wa).mono ?_
  rintro e w1 ⟨rfl, hf⟩
  have HR1 := hid (hf.heap HROW.out (by simp))
  have HF1 := hid (HFA.out.trans hf (by simp))
  clear hf HROW HFA
  obtain ⟨q0, q1, q2, q3, q4, q5, q6, q7, q8, q9, q10, q11⟩ := uber_cells HR1.out
  go_wp2_with fail
  clear q0 q1 q2 q3 q4 q5 q6 q7 q8 q9 q10 q11
  refine (HEN.out w1).mono ?_
  rintro e w2 ⟨b1, n1, c1, rfl, ⟨ml1, mo1, mb1⟩, hf⟩
  have HR2 := hid (hf.heap HR1.out (by simp))
  have HF2 := hid (HF1.out.trans hf (by simp))
  have HM1 := hid (And.intro ml1 (And.intro mo1 mb1))
  have HS1 := hid (And.intro (lt_of_heap HR1.out) HF1.out.size)
  clear hf HR1 HF1 ml1 mo1 mb1
  obtain ⟨q0, q1, q2, q3, q4, q5, q6, q7, q8, q9, q10, q11⟩ := uber_cells HR2.out
  go_wp2_with fail
  clear q0 q1 q2 q3 q4 q5 q6 q7 q8 q9 q10 q11
  refine (HED.out w2).mono ?_
  rintro e w3 ⟨b2, n2, c2, rfl, ⟨ml2, mo2, mb2⟩, hf⟩
  have HR3 := hid (hf.heap HR2.out (by simp))
  have HF3 := hid (HF2.out.trans hf (by simp))
  have HM2 := hid (And.intro ml2 (And.intro mo2 mb2))
  have HO1 := hid (HM1.out.2.1.kept hf (by simp))
  have hn12 : n2 = n1 := by have := HM1.out.1; omega
  subst hn12
  clear hf HR2 HF2 ml2 mo2 mb2
  go_wp2_with fail
  refine (own_any b1 b2 n2 c1 c2 Z HM2.out.1 (by have := HZL.out; have := HM2.out.1; omega) w3 HO1.out HM2.out.2.1.rd).mono ?_
  rintro e w4 ⟨rfl, hf⟩
  have HNP : Hid (∀ i ∈ blk b1, w.heap.size ≤ i ∧ pb < i) := hid (fun i hi => by have h1 := HM1.out.2.2 i hi; have h2 := HS1.out.2; have h3 := HS1.out.1; exact ⟨by omega, by omega⟩)
  have HR6 := hid (hf.heap HR3.out (fun h => by have := (HNP.out _ h).2; omega))
  have HF6 := hid (HF3.out.trans hf (fun i hi hl => by have := (HNP.out i hi).1; omega))
  clear hf HR3 HF3 HO1 HM1 HM2 HS1 HNP HEN HED HAW
  obtain ⟨q0, q1, q2, q3, q4, q5, q6, q7, q8, q9, q10, q11⟩ := uber_cells HR6.out
  have HKS : Hid (∀ W W' : World, (W.cell? ⟨pb, 0, none⟩ = some (.int .u64 u.pool) ∧ W.cell? ⟨pb, 1, none⟩ = some (.int .u64 u.txg) ∧ W.cell? ⟨pb, 2, none⟩ = some (.int .u64 u.note) ∧ W.cell? ⟨pb, 3, none⟩ = some (.int .i64 u.root.top) ∧ W.cell? ⟨pb, 4, none⟩ = some (.int .i64 u.root.at_) ∧ W.cell? ⟨pb, 5, none⟩ = some (.int .i64 u.root.bytes) ∧ W.cell? ⟨pb, 6, none⟩ = some (.int .u64 u.root.birth) ∧ W.cell? ⟨pb, 7, none⟩ = some (.int .i64 u.root.kind) ∧ W.cell? ⟨pb, 8, none⟩ = some (.int .u64 u.root.sa) ∧ W.cell? ⟨pb, 9, none⟩ = some (.int .u64 u.root.sb) ∧ W.cell? ⟨pb, 10, none⟩ = some (.int .u64 u.root.sc) ∧ W.cell? ⟨pb, 11, none⟩ = some (.int .u64 u.root.sd) ∧ Frm [] w W) → Frm [] W W' → (W'.cell? ⟨pb, 0, none⟩ = some (.int .u64 u.pool) ∧ W'.cell? ⟨pb, 1, none⟩ = some (.int .u64 u.txg) ∧ W'.cell? ⟨pb, 2, none⟩ = some (.int .u64 u.note) ∧ W'.cell? ⟨pb, 3, none⟩ = some (.int .i64 u.root.top) ∧ W'.cell? ⟨pb, 4, none⟩ = some (.int .i64 u.root.at_) ∧ W'.cell? ⟨pb, 5, none⟩ = some (.int .i64 u.root.bytes) ∧ W'.cell? ⟨pb, 6, none⟩ = some (.int .u64 u.root.birth) ∧ W'.cell? ⟨pb, 7, none⟩ = some (.int .i64 u.root.kind) ∧ W'.cell? ⟨pb, 8, none⟩ = some (.int .u64 u.root.sa) ∧ W'.cell? ⟨pb, 9, none⟩ = some (.int .u64 u.root.sb) ∧ W'.cell? ⟨pb, 10, none⟩ = some (.int .u64 u.root.sc) ∧ W'.cell? ⟨pb, 11, none⟩ = some (.int .u64 u.root.sd) ∧ Frm [] w W')) := hid (fun W W' h hf => ⟨(hf.cell (p := ⟨pb, 0, none⟩) (World.block_lt_of_cell? W _ h.1) (by simp)).trans h.1, (hf.cell (p := ⟨pb, 1, none⟩) (World.block_lt_of_cell? W _ h.2.1) (by simp)).trans h.2.1, (hf.cell (p := ⟨pb, 2, none⟩) (World.block_lt_of_cell? W _ h.2.2.1) (by simp)).trans h.2.2.1, (hf.cell (p := ⟨pb, 3, none⟩) (World.block_lt_of_cell? W _ h.2.2.2.1) (by simp)).trans h.2.2.2.1, (hf.cell (p := ⟨pb, 4, none⟩) (World.block_lt_of_cell? W _ h.2.2.2.2.1) (by simp)).trans h.2.2.2.2.1, (hf.cell (p := ⟨pb, 5, none⟩) (World.block_lt_of_cell? W _ h.2.2.2.2.2.1) (by simp)).trans h.2.2.2.2.2.1, (hf.cell (p := ⟨pb, 6, none⟩) (World.block_lt_of_cell? W _ h.2.2.2.2.2.2.1) (by simp)).trans h.2.2.2.2.2.2.1, (hf.cell (p := ⟨pb, 7, none⟩) (World.block_lt_of_cell? W _ h.2.2.2.2.2.2.2.1) (by simp)).trans h.2.2.2.2.2.2.2.1, (hf.cell (p := ⟨pb, 8, none⟩) (World.block_lt_of_cell? W _ h.2.2.2.2.2.2.2.2.1) (by simp)).trans h.2.2.2.2.2.2.2.2.1, (hf.cell (p := ⟨pb, 9, none⟩) (World.block_lt_of_cell? W _ h.2.2.2.2.2.2.2.2.2.1) (by simp)).trans h.2.2.2.2.2.2.2.2.2.1, (hf.cell (p := ⟨pb, 10, none⟩) (World.block_lt_of_cell? W _ h.2.2.2.2.2.2.2.2.2.2.1) (by simp)).trans h.2.2.2.2.2.2.2.2.2.2.1, (hf.cell (p := ⟨pb, 11, none⟩) (World.block_lt_of_cell? W _ h.2.2.2.2.2.2.2.2.2.2.2.1) (by simp)).trans h.2.2.2.2.2.2.2.2.2.2.2.1, h.2.2.2.2.2.2.2.2.2.2.2.2.trans hf (by simp)⟩)
  have hcc : (C == C) = true := by simp
  go_wp2_with fail
  go_region_held3 (fun w' => w'.cell? ⟨pb, 0, none⟩ = some (.int .u64 u.pool) ∧ w'.cell? ⟨pb, 1, none⟩ = some (.int .u64 u.txg) ∧ w'.cell? ⟨pb, 2, none⟩ = some (.int .u64 u.note) ∧ w'.cell? ⟨pb, 3, none⟩ = some (.int .i64 u.root.top) ∧ w'.cell? ⟨pb, 4, none⟩ = some (.int .i64 u.root.at_) ∧ w'.cell? ⟨pb, 5, none⟩ = some (.int .i64 u.root.bytes) ∧ w'.cell? ⟨pb, 6, none⟩ = some (.int .u64 u.root.birth) ∧ w'.cell? ⟨pb, 7, none⟩ = some (.int .i64 u.root.kind) ∧ w'.cell? ⟨pb, 8, none⟩ = some (.int .u64 u.root.sa) ∧ w'.cell? ⟨pb, 9, none⟩ = some (.int .u64 u.root.sb) ∧ w'.cell? ⟨pb, 10, none⟩ = some (.int .u64 u.root.sc) ∧ w'.cell? ⟨pb, 11, none⟩ = some (.int .u64 u.root.sd) ∧ Frm [] w w') (first | (exact ⟨q0, q1, q2, q3, q4, q5, q6, q7, q8, q9, q10, q11, HF6.out.drew⟩) | (exact HKS.out _ _ (by assumption) (by assumption))) (first | ((with_reducible refine (HC1.out _).mono ?_); rintro e w7 ⟨rfl, hf7⟩) | ((with_reducible refine (HC2.out _).mono ?_); rintro e w7 ⟨rfl, hf7⟩))
  have hh : w7.cell? ⟨pb, 0, none⟩ = some (.int .u64 u.pool) ∧ w7.cell? ⟨pb, 1, none⟩ = some (.int .u64 u.txg) ∧ w7.cell? ⟨pb, 2, none⟩ = some (.int .u64 u.note) ∧ w7.cell? ⟨pb, 3, none⟩ = some (.int .i64 u.root.top) ∧ w7.cell? ⟨pb, 4, none⟩ = some (.int .i64 u.root.at_) ∧ w7.cell? ⟨pb, 5, none⟩ = some (.int .i64 u.root.bytes) ∧ w7.cell? ⟨pb, 6, none⟩ = some (.int .u64 u.root.birth) ∧ w7.cell? ⟨pb, 7, none⟩ = some (.int .i64 u.root.kind) ∧ w7.cell? ⟨pb, 8, none⟩ = some (.int .u64 u.root.sa) ∧ w7.cell? ⟨pb, 9, none⟩ = some (.int .u64 u.root.sb) ∧ w7.cell? ⟨pb, 10, none⟩ = some (.int .u64 u.root.sc) ∧ w7.cell? ⟨pb, 11, none⟩ = some (.int .u64 u.root.sd) ∧ Frm [] w w7 := by assumption
  have HFR := hid hh.2.2.2.2.2.2.2.2.2.2.2.2
  clear hh q0 q1 q2 q3 q4 q5 q6 q7 q8 q9 q10 q11
  go_wp2_with fail
  go_returns
  exact ⟨rfl, HFR.out⟩
end Go.Proofs.YtdnnbinmippkdaaDoor
