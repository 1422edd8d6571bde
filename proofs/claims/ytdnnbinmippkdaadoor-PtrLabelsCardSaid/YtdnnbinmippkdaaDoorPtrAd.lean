/- The law PtrWrites. -/
import Derived.Test.YtdnnbinmippkdaaDoorPtrAc
namespace Go.Proofs.YtdnnbinmippkdaaDoor
open Go.RowKit
set_option maxRecDepth 100000

/-- A slice that is one's own, and what stands there. -/
def Mine (w0 w : World) (p : Option Addr) (n c : Nat) (zs : List Int) : Prop := zs.length = n ∧ Own w 5 (.slice p n c) zs ∧ ∀ i ∈ blk p, w0.heap.size ≤ i
/-- Encoding, in one shape for both answers. -/
theorem enc_mine {w w' : World} {zs : List Int} {err : Int} {e : Ending} (h : EncA w zs err e w') (hl : zs.length ≤ 1000) : ∃ p n c, e = .returned (.tuple #[.slice p n c, .int .i64 err]) ∧ Mine w w' p n c (if err = 0 then zs else []) ∧ Frm [] w w' := by
  rcases h with ⟨h1, rfl, hf⟩ | ⟨h1, g, rfl, hg, hf, hs⟩
  · rw [if_neg h1]
    exact ⟨none, 0, 0, rfl, ⟨rfl, Own.nil _ _, by simp [blk]⟩, hf⟩
  · subst h1
    rw [if_pos rfl]
    exact ⟨some ⟨g, 0, none⟩, zs.length, zs.length, rfl, ⟨rfl, own_of_block hg (by unfold maxLen; omega), by simpa [blk] using hs⟩, hf⟩
theorem encD_mine {w w' : World} {zs : List Int} {err : Int} {e : Ending} (h : EncD w zs err e w') : ∃ p n c, e = .returned (.tuple #[.slice p n c, .int .i64 err]) ∧ Mine w w' p n c (if err = 0 then zs else []) ∧ Frm [] w w' := by
  rcases h with ⟨h1, rfl, hf⟩ | ⟨h1, q, n, c, rfl, hn, ho, hf, hs⟩
  · rw [if_neg h1]
    exact ⟨none, 0, 0, rfl, ⟨rfl, Own.nil _ _, by simp [blk]⟩, hf⟩
  · subst h1
    rw [if_pos rfl]
    exact ⟨q, n, c, rfl, ⟨hn.symm, ho, hs⟩, hf⟩
set_option maxHeartbeats 3200000 in
theorem ptrwrites_any (p : P9) (hp : p.ok) (w : World) :
    Calls Tryd.prog 3 #[.agg p.arr] w fun e w' => e = .returned (.bool true) ∧ Frm [] w w' := by
  have HAW := hid awake4_any
  have HEN := hid (fun W => (encode_any p hp W).mono (fun e w' h => enc_mine h (by rw [ptrB_length]; omega)))
  have HED := hid (fun W => (refEncode_any p hp W).mono (fun e w' h => encD_mine h))
  have HC1 := hid (fun W => check9_any p W)
  have HC2 := hid (fun W => refCheck9_any p W)
  obtain ⟨C, hC⟩ : ∃ C, checkP p = C := ⟨_, rfl⟩
  rw [hC] at HEN HED HC1 HC2
  obtain ⟨Z, hZ⟩ : ∃ Z, (if C = 0 then ptrB p else []) = Z := ⟨_, rfl⟩
  have hZl : Z.length ≤ 64 := by rw [← hZ]; split <;> simp [ptrB_length]
  rw [hZ] at HEN HED
  have HZL := hid hZl
  have HROW := hid (heap_alloc_new w (.cells p.arr 26))
  have HFA : Hid (Frm [] w (w.alloc (.cells p.arr 26))) := hid ((Frm.refl _ _).alloc _)
  clear hp hC hZ hZl
  unfold P9.arr at HEN HED HC1 HC2 HROW HFA ⊢
  obtain ⟨pb, hpb⟩ : ∃ pb, w.heap.size = pb := ⟨_, rfl⟩
  obtain ⟨wa, hwa⟩ : ∃ wa, w.alloc (.cells #[.int .i64 p.top, .int .i64 p.at_, .int .i64 p.bytes, .int .u64 p.birth, .int .i64 p.kind, .int .u64 p.sa, .int .u64 p.sb, .int .u64 p.sc, .int .u64 p.sd] 26) = wa := ⟨_, rfl⟩
  rw [hwa] at HFA
  rw [hwa, hpb] at HROW
  have HPB := hid hpb
  go_enter Tryd.func3, Tryd.ntmps3
  go_wp2_with fail
  clear hpb hwa
  refine (HAW.out wa).mono ?_
  rintro e w1 ⟨rfl, hf⟩
  have HR1 := hid (hf.heap HROW.out (by simp))
  have HF1 := hid (HFA.out.trans hf (by simp))
  clear hf HROW HFA
  obtain ⟨q0, q1, q2, q3, q4, q5, q6, q7, q8⟩ := ptr_cells HR1.out
  go_wp2_with fail
  clear q0 q1 q2 q3 q4 q5 q6 q7 q8
  refine (HEN.out w1).mono ?_
  rintro e w2 ⟨b1, n1, c1, rfl, ⟨ml1, mo1, mb1⟩, hf⟩
  have HR2 := hid (hf.heap HR1.out (by simp))
  have HF2 := hid (HF1.out.trans hf (by simp))
  have HM1 := hid (And.intro ml1 (And.intro mo1 mb1))
  have HS1 := hid (And.intro (lt_of_heap HR1.out) HF1.out.size)
  clear hf HR1 HF1 ml1 mo1 mb1
  obtain ⟨q0, q1, q2, q3, q4, q5, q6, q7, q8⟩ := ptr_cells HR2.out
  go_wp2_with fail
  clear q0 q1 q2 q3 q4 q5 q6 q7 q8
  refine (HED.out w2).mono ?_
  rintro e w3 ⟨b2, n2, c2, rfl, ⟨ml2, mo2, mb2⟩, hf⟩
  have HR3 := hid (hf.heap HR2.out (by simp))
  have HF3 := hid (HF2.out.trans hf (by simp))
  have HM2 := hid (And.intro ml2 (And.intro mo2 mb2))
  have HO1 := hid (HM1.out.2.1.kept hf (by simp))
  have HL1 := hid HM1.out.2.1.lows
  have hn12 : n2 = n1 := by have := HM1.out.1; omega
  subst hn12
  clear hf HR2 HF2 ml2 mo2 mb2
  go_wp2_with fail
  refine (own_any b1 b2 n2 c1 c2 Z HM2.out.1 (by have := HZL.out; have := HM2.out.1; omega) w3 HO1.out HM2.out.2.1.rd).mono ?_
  rintro e w4 ⟨rfl, hf⟩
  have HNP : Hid (∀ i ∈ blk b1, w.heap.size ≤ i ∧ pb < i) := hid (fun i hi => by have h1 := HM1.out.2.2 i hi; have h2 := HS1.out.2; have h3 := HS1.out.1; exact ⟨by omega, by omega⟩)
  have HR4 := hid (hf.heap HR3.out (fun h => by have := (HNP.out _ h).2; omega))
  have HF4 := hid (HF3.out.trans hf (fun i hi hl => by have := (HNP.out i hi).1; omega))
  have HO2 := hid (HM2.out.2.1.kept hf (fun k hk hm => by rw [own_blk] at hk; have h1 := HM2.out.2.2 k hk; have h2 := HL1.out k hm; omega))
  have HZ2 := hid HM2.out.1
  clear hf HR3 HF3 HO1 HM1 HM2 HL1 HS1 HNP
  obtain ⟨q0, q1, q2, q3, q4, q5, q6, q7, q8⟩ := ptr_cells HR4.out
  go_wp2_with fail
  clear q0 q1 q2 q3 q4 q5 q6 q7 q8
  have HS4 := hid (lt_of_heap HR4.out)
  refine (HEN.out w4).mono ?_
  rintro e w5 ⟨b3, n3, c3, rfl, ⟨ml3, mo3, mb3⟩, hf⟩
  have HR5 := hid (hf.heap HR4.out (by simp))
  have HF5 := hid (HF4.out.trans hf (by simp))
  have HO5 := hid (HO2.out.kept hf (by simp))
  have HM3 := hid (And.intro ml3 (And.intro mo3 mb3))
  have HNP : Hid (∀ i ∈ blk b3, w.heap.size ≤ i ∧ pb < i) := hid (fun i hi => by have h1 := mb3 i hi; have h2 := HF4.out.size; have h3 := HS4.out; exact ⟨by omega, by omega⟩)
  have hn32 : n3 = n2 := by have := HZ2.out; omega
  subst hn32
  clear hf HR4 HF4 HO2 ml3 mo3 mb3 HS4
  go_wp2_with fail
  refine (own_any b3 b2 n3 c3 c2 Z HZ2.out (by have := HZL.out; have := HZ2.out; omega) w5 HM3.out.2.1 HO5.out.rd).mono ?_
  rintro e w6 ⟨rfl, hf⟩
  have HR6 := hid (hf.heap HR5.out (fun h => by have := (HNP.out _ h).2; omega))
  have HF6 := hid (HF5.out.trans hf (fun i hi hl => by have := (HNP.out i hi).1; omega))
  clear hf HR5 HF5 HO5 HM3 HNP HEN HED HAW
  obtain ⟨q0, q1, q2, q3, q4, q5, q6, q7, q8⟩ := ptr_cells HR6.out
  have HKS : Hid (∀ W W' : World, (W.cell? ⟨pb, 0, none⟩ = some (.int .i64 p.top) ∧ W.cell? ⟨pb, 1, none⟩ = some (.int .i64 p.at_) ∧ W.cell? ⟨pb, 2, none⟩ = some (.int .i64 p.bytes) ∧ W.cell? ⟨pb, 3, none⟩ = some (.int .u64 p.birth) ∧ W.cell? ⟨pb, 4, none⟩ = some (.int .i64 p.kind) ∧ W.cell? ⟨pb, 5, none⟩ = some (.int .u64 p.sa) ∧ W.cell? ⟨pb, 6, none⟩ = some (.int .u64 p.sb) ∧ W.cell? ⟨pb, 7, none⟩ = some (.int .u64 p.sc) ∧ W.cell? ⟨pb, 8, none⟩ = some (.int .u64 p.sd) ∧ Frm [] w W) → Frm [] W W' → (W'.cell? ⟨pb, 0, none⟩ = some (.int .i64 p.top) ∧ W'.cell? ⟨pb, 1, none⟩ = some (.int .i64 p.at_) ∧ W'.cell? ⟨pb, 2, none⟩ = some (.int .i64 p.bytes) ∧ W'.cell? ⟨pb, 3, none⟩ = some (.int .u64 p.birth) ∧ W'.cell? ⟨pb, 4, none⟩ = some (.int .i64 p.kind) ∧ W'.cell? ⟨pb, 5, none⟩ = some (.int .u64 p.sa) ∧ W'.cell? ⟨pb, 6, none⟩ = some (.int .u64 p.sb) ∧ W'.cell? ⟨pb, 7, none⟩ = some (.int .u64 p.sc) ∧ W'.cell? ⟨pb, 8, none⟩ = some (.int .u64 p.sd) ∧ Frm [] w W')) := hid (fun W W' h hf => ⟨(hf.cell (p := ⟨pb, 0, none⟩) (World.block_lt_of_cell? W _ h.1) (by simp)).trans h.1, (hf.cell (p := ⟨pb, 1, none⟩) (World.block_lt_of_cell? W _ h.2.1) (by simp)).trans h.2.1, (hf.cell (p := ⟨pb, 2, none⟩) (World.block_lt_of_cell? W _ h.2.2.1) (by simp)).trans h.2.2.1, (hf.cell (p := ⟨pb, 3, none⟩) (World.block_lt_of_cell? W _ h.2.2.2.1) (by simp)).trans h.2.2.2.1, (hf.cell (p := ⟨pb, 4, none⟩) (World.block_lt_of_cell? W _ h.2.2.2.2.1) (by simp)).trans h.2.2.2.2.1, (hf.cell (p := ⟨pb, 5, none⟩) (World.block_lt_of_cell? W _ h.2.2.2.2.2.1) (by simp)).trans h.2.2.2.2.2.1, (hf.cell (p := ⟨pb, 6, none⟩) (World.block_lt_of_cell? W _ h.2.2.2.2.2.2.1) (by simp)).trans h.2.2.2.2.2.2.1, (hf.cell (p := ⟨pb, 7, none⟩) (World.block_lt_of_cell? W _ h.2.2.2.2.2.2.2.1) (by simp)).trans h.2.2.2.2.2.2.2.1, (hf.cell (p := ⟨pb, 8, none⟩) (World.block_lt_of_cell? W _ h.2.2.2.2.2.2.2.2.1) (by simp)).trans h.2.2.2.2.2.2.2.2.1, h.2.2.2.2.2.2.2.2.2.trans hf (by simp)⟩)
  have hcc : (C == C) = true := by simp
  go_wp2_with fail
  go_region_held3 (fun w' => w'.cell? ⟨pb, 0, none⟩ = some (.int .i64 p.top) ∧ w'.cell? ⟨pb, 1, none⟩ = some (.int .i64 p.at_) ∧ w'.cell? ⟨pb, 2, none⟩ = some (.int .i64 p.bytes) ∧ w'.cell? ⟨pb, 3, none⟩ = some (.int .u64 p.birth) ∧ w'.cell? ⟨pb, 4, none⟩ = some (.int .i64 p.kind) ∧ w'.cell? ⟨pb, 5, none⟩ = some (.int .u64 p.sa) ∧ w'.cell? ⟨pb, 6, none⟩ = some (.int .u64 p.sb) ∧ w'.cell? ⟨pb, 7, none⟩ = some (.int .u64 p.sc) ∧ w'.cell? ⟨pb, 8, none⟩ = some (.int .u64 p.sd) ∧ Frm [] w w') (first | (exact ⟨q0, q1, q2, q3, q4, q5, q6, q7, q8, HF6.out.drew⟩) | (exact HKS.out _ _ (by assumption) (by assumption))) (first | ((with_reducible refine (HC1.out _).mono ?_); rintro e w7 ⟨rfl, hf7⟩) | ((with_reducible refine (HC2.out _).mono ?_); rintro e w7 ⟨rfl, hf7⟩))
  have hh : w7.cell? ⟨pb, 0, none⟩ = some (.int .i64 p.top) ∧ w7.cell? ⟨pb, 1, none⟩ = some (.int .i64 p.at_) ∧ w7.cell? ⟨pb, 2, none⟩ = some (.int .i64 p.bytes) ∧ w7.cell? ⟨pb, 3, none⟩ = some (.int .u64 p.birth) ∧ w7.cell? ⟨pb, 4, none⟩ = some (.int .i64 p.kind) ∧ w7.cell? ⟨pb, 5, none⟩ = some (.int .u64 p.sa) ∧ w7.cell? ⟨pb, 6, none⟩ = some (.int .u64 p.sb) ∧ w7.cell? ⟨pb, 7, none⟩ = some (.int .u64 p.sc) ∧ w7.cell? ⟨pb, 8, none⟩ = some (.int .u64 p.sd) ∧ Frm [] w w7 := by assumption
  have HFR := hid hh.2.2.2.2.2.2.2.2.2
  clear hh q0 q1 q2 q3 q4 q5 q6 q7 q8
  go_wp2_with fail
  go_returns
  exact ⟨rfl, HFR.out⟩
end Go.Proofs.YtdnnbinmippkdaaDoor
