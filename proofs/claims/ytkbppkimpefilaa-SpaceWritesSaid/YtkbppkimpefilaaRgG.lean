/- The program's sets: some ranges in the place of others. -/
import Derived.Test.YtkbppkimpefilaaRgE
namespace Go.Proofs.Ytkbppkimpefilaa
open Go.RowKit Go.Lib
set_option maxRecDepth 100000

theorem RSet.put {w w' : World} {sb : Nat} {p p' : Option Addr} {c c' : Nat} {l l' : List Sp} (h : RSet w sb p c l) {n : Nat} (hn : n = l'.length) (ho : OwnS w' p' n c' l') (hf : Frm (blk p) w w') (hb : ∀ k ∈ blk p', k ∈ blk p ∨ w.heap.size ≤ k) : RSet (w'.setCell ⟨sb, 0, none⟩ (.slice p' n c')) sb p' c' l' ∧ Frm (sb :: blk p) w (w'.setCell ⟨sb, 0, none⟩ (.slice p' n c')) := by
  subst hn
  have hrow := hf.heap h.row h.ap
  have hap : sb ∉ blk p' := fun hm => (hb sb hm).elim h.ap (fun h1 => by have := lt_of_heap h.row; omega)
  have hf2 : Frm [sb] w' (w'.setCell ⟨sb, 0, none⟩ (.slice p' l'.length c')) := (Frm.refl _ _).setCell _ _ (by simp)
  exact ⟨⟨by rw [heap_setCell_same _ _ 0 _ _ _ hrow]; rfl, ho.kept hf2 (fun k hk hm => hap (by simp at hm; subst hm; exact hk)), hap⟩, (hf.mono (fun k hk _ => List.mem_cons_of_mem _ hk)).trans hf2 (fun k hk _ => by simp at hk; simp [hk])⟩
set_option maxHeartbeats 6400000 in
theorem swap_any (sb : Nat) (p : Option Addr) (c : Nat) (l : List Sp) (i many : Nat) (vp : Option Addr) (m vc : Nat) (ys : List Sp) (w : World) (h : RSet w sb p c l) (hi : i + many ≤ l.length) (hv : OwnS w vp m vc ys) (hne : ∀ k ∈ blk vp, k ∉ blk p) (hsv : sb ∉ blk vp) (hb : l.length + m ≤ 1000000) :
    Calls Try.prog 90 #[.pointer (some ⟨sb, 0, none⟩), .int .i64 (i : Int), .int .i64 (many : Int), .slice vp m vc] w fun e w' => e = .returned (.tuple #[]) ∧ ∃ p' c', RSet w' sb p' c' (l.take i ++ ys ++ l.drop (i + many)) ∧ Frm (sb :: blk p) w w' ∧ ∀ k ∈ blk p', k ∈ blk p ∨ w.heap.size ≤ k := by
  obtain ⟨hnc, hcm⟩ := h.own.cap
  have hu : Try.prog.underlying 43 = some (.slice 39) := Try.underlying43
  have he : Try.prog.underlying (Try.prog.elem 43) = Try.prog.underlying 39 := by simp [Program.elem, hu]
  have x0 := h.cell
  obtain ⟨n, hn⟩ : ∃ q, l.length = q := ⟨_, rfl⟩
  have HR := hid h
  have HLN := hid hn
  have HV := hid hv
  have HD := hid (del_any p n c i (i + many) l w.drew (by rw [← hn]; exact h.own.kept (Frm.refl [] w).drew (by simp)) (by omega) (by omega))
  rw [show i + many - i = many by omega, show ((i + many : Nat) : Int) = IntKind.i64.wrap ((i : Int) + (many : Int)) by rw [IntKind.wrap_i64]; unfold maxLen at hcm; omega] at HD
  rw [hn] at x0 hnc hi hb
  have hs1 : ∀ (K : Nat) (W : World), K ≤ c → (Instr.sliceAt 43 (.slice p K c) none (some (.int .i64 (K : Int))) (some (.int .i64 (c : Int)))).run Try.prog W = .ok (.slice p K c) W := fun K W hK => by
    rw [run_sliceAt_slice (h := by rw [show Try.prog.elem 43 = 39 by simp [Program.elem, hu]]; exact hu)]
    exact sl_hm hu infoSp p K c K c hK (Nat.le_refl _) W
  have hs2 : ∀ W, (Instr.sliceAt 43 (.slice p n c) none (some (.int .i64 (n : Int))) (some (.int .i64 (c : Int)))).run Try.prog W = .ok (.slice p n c) W := fun W => hs1 n W hnc
  have HS1 := hid hs1
  have HNE := hid hne
  have HSV := hid hsv
  clear h hn hv hne hsv hs1 he
  go_enter Try.func90, Try.ntmps90
  have HS0 : Hid (w.drew.cell? ⟨sb, 0, none⟩ = some (.slice p n c)) := hid x0
  go_upto_region 1 with fail
  refine wp_region_tail (S := fun W => (W.cell? ⟨sb, 0, none⟩ = some (.slice p n c))) 17 20 rfl (by kernel_rfl) (by kernel_rfl) ?_
  refine wpAnyHT_take (i := 0) (oi := _) (v := ?_) (by kernel_rfl) rfl (by kernel_rfl) (by kernel_rfl) (by kernel_rfl) (by kernel_rfl) (fun _ _ _ h => h) (Or.inl ⟨by rfl, ?_⟩) HS0.out ?_
  rotate_left 1
  · (intro W hSw; obtain s0 := hSw; (try simp only [List.getElem_toArray, List.getElem_cons_zero]); go_simp; try with_reducible rfl)
  try simp only [List.getElem_toArray, List.getElem_cons_zero, Act.put, List.setIfInBounds_toArray, List.set_cons_zero, List.set_cons_succ]
  refine wpAnyHT_take (i := 1) (oi := _) (v := ?_) (by kernel_rfl) rfl (by kernel_rfl) (by kernel_rfl) (by kernel_rfl) (by kernel_rfl) (fun _ _ _ h => h) (Or.inl ⟨by rfl, ?_⟩) HS0.out ?_
  rotate_left 1
  · (intro W hSw; obtain s0 := hSw; (try simp only [List.getElem_toArray, List.getElem_cons_succ, List.getElem_cons_zero]); go_simp; try with_reducible rfl)
  try simp only [List.getElem_toArray, List.getElem_cons_succ, List.getElem_cons_zero, Act.put, List.setIfInBounds_toArray, List.set_cons_zero, List.set_cons_succ]
  refine wpAnyHT_take (i := 2) (oi := _) (v := ?_) (by kernel_rfl) rfl (by kernel_rfl) (by kernel_rfl) (by kernel_rfl) (by kernel_rfl) (fun _ _ _ h => h) (Or.inl ⟨by rfl, ?_⟩) HS0.out ?_
  rotate_left 1
  · (intro W hSw; obtain s0 := hSw; (try simp only [List.getElem_toArray, List.getElem_cons_succ, List.getElem_cons_zero]); go_simp; try with_reducible rfl)
  try simp only [List.getElem_toArray, List.getElem_cons_succ, List.getElem_cons_zero, Act.put, List.setIfInBounds_toArray, List.set_cons_zero, List.set_cons_succ]
  refine wpAnyHT_take (i := 3) (oi := _) (v := ?_) (by kernel_rfl) rfl (by kernel_rfl) (by kernel_rfl) (by kernel_rfl) (by kernel_rfl) (fun _ _ _ h => h) (Or.inl ⟨by rfl, ?_⟩) HS0.out ?_
  rotate_left 1
  · (intro W hSw; obtain s0 := hSw; (try simp only [List.getElem_toArray, List.getElem_cons_succ, List.getElem_cons_zero]); go_simp; try with_reducible rfl)
  try simp only [List.getElem_toArray, List.getElem_cons_succ, List.getElem_cons_zero, Act.put, List.setIfInBounds_toArray, List.set_cons_zero, List.set_cons_succ]
  refine wpAnyHT_take (i := 4) (oi := _) (v := ?_) (by kernel_rfl) rfl (by kernel_rfl) (by kernel_rfl) (by kernel_rfl) (by kernel_rfl) (fun _ _ _ h => h) (Or.inl ⟨by rfl, ?_⟩) HS0.out ?_
  rotate_left 1
  · (intro W hSw; obtain s0 := hSw; (try simp only [List.getElem_toArray, List.getElem_cons_succ, List.getElem_cons_zero]); go_simp; try with_reducible rfl)
  try simp only [List.getElem_toArray, List.getElem_cons_succ, List.getElem_cons_zero, Act.put, List.setIfInBounds_toArray, List.set_cons_zero, List.set_cons_succ]
  refine wpAnyHT_take (i := 5) (oi := _) (v := ?_) (by kernel_rfl) rfl (by kernel_rfl) (by kernel_rfl) (by kernel_rfl) (by kernel_rfl) (fun _ _ _ h => h) (Or.inl ⟨by rfl, ?_⟩) HS0.out ?_
  rotate_left 1
  · (intro W hSw; obtain s0 := hSw; (try simp only [List.getElem_toArray, List.getElem_cons_succ, List.getElem_cons_zero]); go_simp; try with_reducible rfl)
  try simp only [List.getElem_toArray, List.getElem_cons_succ, List.getElem_cons_zero, Act.put, List.setIfInBounds_toArray, List.set_cons_zero, List.set_cons_succ]
  refine wpAnyHT_take (i := 6) (oi := _) (v := ?_) (by kernel_rfl) rfl (by kernel_rfl) (by kernel_rfl) (by kernel_rfl) (by kernel_rfl) (fun _ _ _ h => h) (Or.inl ⟨by rfl, ?_⟩) HS0.out ?_
  rotate_left 1
  · (intro W hSw; obtain s0 := hSw; (try simp only [List.getElem_toArray, List.getElem_cons_succ, List.getElem_cons_zero]); go_simp; try with_reducible rfl)
  try simp only [List.getElem_toArray, List.getElem_cons_succ, List.getElem_cons_zero, Act.put, List.setIfInBounds_toArray, List.set_cons_zero, List.set_cons_succ]
  refine wpAnyHT_take (i := 7) (oi := _) (v := ?_) (by kernel_rfl) rfl (by kernel_rfl) (by kernel_rfl) (by kernel_rfl) (by kernel_rfl) (fun _ _ _ h => h) (Or.inl ⟨by rfl, ?_⟩) HS0.out ?_
  rotate_left 1
  · (intro W hSw; obtain s0 := hSw; (try simp only [List.getElem_toArray, List.getElem_cons_succ, List.getElem_cons_zero]); go_simp; try with_reducible rfl)
  try simp only [List.getElem_toArray, List.getElem_cons_succ, List.getElem_cons_zero, Act.put, List.setIfInBounds_toArray, List.set_cons_zero, List.set_cons_succ]
  refine wpAnyHT_take (i := 8) (oi := _) (v := ?_) (by kernel_rfl) rfl (by kernel_rfl) (by kernel_rfl) (by kernel_rfl) (by kernel_rfl) (fun _ _ _ h => h) (Or.inl ⟨by rfl, ?_⟩) HS0.out ?_
  rotate_left 1
  · (intro W hSw; obtain s0 := hSw; (try simp only [List.getElem_toArray, List.getElem_cons_succ, List.getElem_cons_zero]); go_simp; try with_reducible rfl)
  try simp only [List.getElem_toArray, List.getElem_cons_succ, List.getElem_cons_zero, Act.put, List.setIfInBounds_toArray, List.set_cons_zero, List.set_cons_succ]
  refine wpAnyHT_take (i := 9) (oi := _) (v := ?_) (by kernel_rfl) rfl (by kernel_rfl) (by kernel_rfl) (by kernel_rfl) (by kernel_rfl) (fun _ _ _ h => h) (Or.inl ⟨by rfl, ?_⟩) HS0.out ?_
  rotate_left 1
  · (intro W hSw; obtain s0 := hSw; (try simp only [List.getElem_toArray, List.getElem_cons_succ, List.getElem_cons_zero]); go_simp; try with_reducible rfl)
  try simp only [List.getElem_toArray, List.getElem_cons_succ, List.getElem_cons_zero, Act.put, List.setIfInBounds_toArray, List.set_cons_zero, List.set_cons_succ]
  refine wpAnyHT_take (i := 10) (oi := _) (v := ?_) (by kernel_rfl) rfl (by kernel_rfl) (by kernel_rfl) (by kernel_rfl) (by kernel_rfl) (fun _ _ _ h => h) (Or.inl ⟨by rfl, ?_⟩) HS0.out ?_
  rotate_left 1
  · (intro W hSw; obtain s0 := hSw; (try simp only [List.getElem_toArray, List.getElem_cons_succ, List.getElem_cons_zero]); go_simp; try with_reducible rfl)
  try simp only [List.getElem_toArray, List.getElem_cons_succ, List.getElem_cons_zero, Act.put, List.setIfInBounds_toArray, List.set_cons_zero, List.set_cons_succ]
  refine wpAnyHT_take (i := 11) (oi := _) (v := ?_) (by kernel_rfl) rfl (by kernel_rfl) (by kernel_rfl) (by kernel_rfl) (by kernel_rfl) (fun _ _ _ h => h) (Or.inl ⟨by rfl, ?_⟩) HS0.out ?_
  rotate_left 1
  · (intro W hSw; obtain s0 := hSw; (try simp only [List.getElem_toArray, List.getElem_cons_succ, List.getElem_cons_zero]); go_simp; try with_reducible rfl)
  try simp only [List.getElem_toArray, List.getElem_cons_succ, List.getElem_cons_zero, Act.put, List.setIfInBounds_toArray, List.set_cons_zero, List.set_cons_succ]
  refine wpAnyHT_take (i := 12) (oi := _) (v := ?_) (by kernel_rfl) rfl (by kernel_rfl) (by kernel_rfl) (by kernel_rfl) (by kernel_rfl) (fun _ _ _ h => h) (Or.inl ⟨by rfl, ?_⟩) HS0.out ?_
  rotate_left 1
  · (intro W hSw; obtain s0 := hSw; (try simp only [List.getElem_toArray, List.getElem_cons_succ, List.getElem_cons_zero]); go_simp; try with_reducible rfl)
  try simp only [List.getElem_toArray, List.getElem_cons_succ, List.getElem_cons_zero, Act.put, List.setIfInBounds_toArray, List.set_cons_zero, List.set_cons_succ]
  refine wpAnyHT_take (i := 13) (oi := _) (v := ?_) (by kernel_rfl) rfl (by kernel_rfl) (by kernel_rfl) (by kernel_rfl) (by kernel_rfl) (fun _ _ _ h => h) (Or.inl ⟨by rfl, ?_⟩) HS0.out ?_
  rotate_left 1
  · (intro W hSw; obtain s0 := hSw; (try simp only [List.getElem_toArray, List.getElem_cons_succ, List.getElem_cons_zero]); go_simp; try with_reducible rfl)
  try simp only [List.getElem_toArray, List.getElem_cons_succ, List.getElem_cons_zero, Act.put, List.setIfInBounds_toArray, List.set_cons_zero, List.set_cons_succ]
  refine wpAnyHT_take (i := 14) (oi := _) (v := ?_) (by kernel_rfl) rfl (by kernel_rfl) (by kernel_rfl) (by kernel_rfl) (by kernel_rfl) (fun _ _ _ h => h) (Or.inl ⟨by rfl, ?_⟩) HS0.out ?_
  rotate_left 1
  · (intro W hSw; obtain s0 := hSw; (try simp only [List.getElem_toArray, List.getElem_cons_succ, List.getElem_cons_zero]); go_simp; try with_reducible rfl)
  try simp only [List.getElem_toArray, List.getElem_cons_succ, List.getElem_cons_zero, Act.put, List.setIfInBounds_toArray, List.set_cons_zero, List.set_cons_succ]
  refine wpAnyHT_take (i := 15) (oi := _) (v := ?_) (by kernel_rfl) rfl (by kernel_rfl) (by kernel_rfl) (by kernel_rfl) (by kernel_rfl) (fun _ _ _ h => h) (Or.inl ⟨by rfl, ?_⟩) HS0.out ?_
  rotate_left 1
  · (intro W hSw; obtain s0 := hSw; (try simp only [List.getElem_toArray, List.getElem_cons_succ, List.getElem_cons_zero]); go_simp; try with_reducible rfl)
  try simp only [List.getElem_toArray, List.getElem_cons_succ, List.getElem_cons_zero, Act.put, List.setIfInBounds_toArray, List.set_cons_zero, List.set_cons_succ]
  refine wpAnyHT_one (i := 16) rfl (by kernel_rfl) (by kernel_rfl) (fun K hK => ?_)
  try simp only [List.getElem_toArray, List.getElem_cons_succ, List.getElem_cons_zero]
  go_simp
  refine HD.out.mono ?_
  rintro e w1 ⟨rfl, ho1, hf1⟩
  refine hK _ _ (by exact (hf1.cell (p := ⟨sb, 0, none⟩) (World.block_lt_of_cell? w.drew _ HS0.out) HR.out.ap).trans HS0.out) ?_
  clear hK K
  try simp only [List.getElem_toArray, List.getElem_cons_succ, List.getElem_cons_zero, Act.put, List.setIfInBounds_toArray, List.set_cons_zero, List.set_cons_succ]
  refine wpAnyHT_end (by kernel_rfl) ?_
  simp only [List.drop_succ_cons, List.drop_zero]
  have hf1' : Frm (blk p) w w1 := (Frm.refl (blk p) w).drew.trans hf1 (fun k hk _ => hk)
  obtain ⟨n1, hn1⟩ : ∃ q, n - many = q := ⟨_, rfl⟩
  rw [hn1] at ho1 ⊢
  have hn1l : n1 = (l.take i ++ l.drop (i + many)).length := by rw [← ho1.2]
  obtain ⟨q1, q2⟩ := HR.out.put hn1l ho1 hf1' (fun k hk => Or.inl hk)
  have hrow1 := hf1'.heap HR.out.row HR.out.ap
  have f1 : w1.frozen? ⟨sb, 0, none⟩ = false := frozen_of_row w1 _ 0 _ _ hrow1
  have c1 : w1.cell? ⟨sb, 0, none⟩ = some (.slice p l.length c) := by rw [cell_of_row _ _ _ _ _ _ hrow1]; rfl
  obtain ⟨w2, hw2⟩ : ∃ q, w1.setCell ⟨sb, 0, none⟩ (.slice p n1 c) = q := ⟨_, rfl⟩
  rw [hw2] at q1 q2
  have HW2 := hid hw2
  have HR1 := hid q1
  have HF1 := hid q2
  have HN1 := hid hn1l
  have x2 := q1.cell
  rw [← hn1l] at x2
  have hc1 : n1 ≤ c := by omega
  have hs3 : ∀ W, (Instr.sliceAt 43 (.slice p n1 c) none (some (.int .i64 (n1 : Int))) (some (.int .i64 (c : Int)))).run Try.prog W = .ok (.slice p n1 c) W := fun W => HS1.out n1 W hc1
  have HI := hid (ins_any p n1 c i (l.take i ++ l.drop (i + many)) vp m vc ys w2.drew (by rw [hn1l]; exact q1.own.kept (Frm.refl [] w2).drew (by simp)) (by omega) (HV.out.kept (q2.trans (Frm.refl [] w2).drew (T := []) (by simp)) (fun k hk hm => by
    rcases List.mem_cons.1 hm with rfl | h1
    · exact HSV.out hk
    · exact HNE.out k hk h1)) HNE.out (by omega))
  clear ho1 hf1 hf1' hn1l q1 q2 hrow1 hw2 hn1 x0 HS0 HD
  go_upto_region 2 with fail
  rw [HW2.out]
  have HS2 : Hid (w2.drew.cell? ⟨sb, 0, none⟩ = some (.slice p n1 c)) := hid x2
  go_upto_region 3 with fail
  refine wp_region_tail (S := fun W => (W.cell? ⟨sb, 0, none⟩ = some (.slice p n1 c))) 15 18 rfl (by kernel_rfl) (by kernel_rfl) ?_
  refine wpAnyHT_take (i := 0) (oi := _) (v := ?_) (by kernel_rfl) rfl (by kernel_rfl) (by kernel_rfl) (by kernel_rfl) (by kernel_rfl) (fun _ _ _ h => h) (Or.inl ⟨by rfl, ?_⟩) HS2.out ?_
  rotate_left 1
  · (intro W hSw; obtain s0 := hSw; (try simp only [List.getElem_toArray, List.getElem_cons_zero]); go_simp; try with_reducible rfl)
  try simp only [List.getElem_toArray, List.getElem_cons_zero, Act.put, List.setIfInBounds_toArray, List.set_cons_zero, List.set_cons_succ]
  refine wpAnyHT_take (i := 1) (oi := _) (v := ?_) (by kernel_rfl) rfl (by kernel_rfl) (by kernel_rfl) (by kernel_rfl) (by kernel_rfl) (fun _ _ _ h => h) (Or.inl ⟨by rfl, ?_⟩) HS2.out ?_
  rotate_left 1
  · (intro W hSw; obtain s0 := hSw; (try simp only [List.getElem_toArray, List.getElem_cons_succ, List.getElem_cons_zero]); go_simp; try with_reducible rfl)
  try simp only [List.getElem_toArray, List.getElem_cons_succ, List.getElem_cons_zero, Act.put, List.setIfInBounds_toArray, List.set_cons_zero, List.set_cons_succ]
  refine wpAnyHT_take (i := 2) (oi := _) (v := ?_) (by kernel_rfl) rfl (by kernel_rfl) (by kernel_rfl) (by kernel_rfl) (by kernel_rfl) (fun _ _ _ h => h) (Or.inl ⟨by rfl, ?_⟩) HS2.out ?_
  rotate_left 1
  · (intro W hSw; obtain s0 := hSw; (try simp only [List.getElem_toArray, List.getElem_cons_succ, List.getElem_cons_zero]); go_simp; try with_reducible rfl)
  try simp only [List.getElem_toArray, List.getElem_cons_succ, List.getElem_cons_zero, Act.put, List.setIfInBounds_toArray, List.set_cons_zero, List.set_cons_succ]
  refine wpAnyHT_take (i := 3) (oi := _) (v := ?_) (by kernel_rfl) rfl (by kernel_rfl) (by kernel_rfl) (by kernel_rfl) (by kernel_rfl) (fun _ _ _ h => h) (Or.inl ⟨by rfl, ?_⟩) HS2.out ?_
  rotate_left 1
  · (intro W hSw; obtain s0 := hSw; (try simp only [List.getElem_toArray, List.getElem_cons_succ, List.getElem_cons_zero]); go_simp; try with_reducible rfl)
  try simp only [List.getElem_toArray, List.getElem_cons_succ, List.getElem_cons_zero, Act.put, List.setIfInBounds_toArray, List.set_cons_zero, List.set_cons_succ]
  refine wpAnyHT_take (i := 4) (oi := _) (v := ?_) (by kernel_rfl) rfl (by kernel_rfl) (by kernel_rfl) (by kernel_rfl) (by kernel_rfl) (fun _ _ _ h => h) (Or.inl ⟨by rfl, ?_⟩) HS2.out ?_
  rotate_left 1
  · (intro W hSw; obtain s0 := hSw; (try simp only [List.getElem_toArray, List.getElem_cons_succ, List.getElem_cons_zero]); go_simp; try with_reducible rfl)
  try simp only [List.getElem_toArray, List.getElem_cons_succ, List.getElem_cons_zero, Act.put, List.setIfInBounds_toArray, List.set_cons_zero, List.set_cons_succ]
  refine wpAnyHT_take (i := 5) (oi := _) (v := ?_) (by kernel_rfl) rfl (by kernel_rfl) (by kernel_rfl) (by kernel_rfl) (by kernel_rfl) (fun _ _ _ h => h) (Or.inl ⟨by rfl, ?_⟩) HS2.out ?_
  rotate_left 1
  · (intro W hSw; obtain s0 := hSw; (try simp only [List.getElem_toArray, List.getElem_cons_succ, List.getElem_cons_zero]); go_simp; try with_reducible rfl)
  try simp only [List.getElem_toArray, List.getElem_cons_succ, List.getElem_cons_zero, Act.put, List.setIfInBounds_toArray, List.set_cons_zero, List.set_cons_succ]
  refine wpAnyHT_take (i := 6) (oi := _) (v := ?_) (by kernel_rfl) rfl (by kernel_rfl) (by kernel_rfl) (by kernel_rfl) (by kernel_rfl) (fun _ _ _ h => h) (Or.inl ⟨by rfl, ?_⟩) HS2.out ?_
  rotate_left 1
  · (intro W hSw; obtain s0 := hSw; (try simp only [List.getElem_toArray, List.getElem_cons_succ, List.getElem_cons_zero]); go_simp; try with_reducible rfl)
  try simp only [List.getElem_toArray, List.getElem_cons_succ, List.getElem_cons_zero, Act.put, List.setIfInBounds_toArray, List.set_cons_zero, List.set_cons_succ]
  refine wpAnyHT_take (i := 7) (oi := _) (v := ?_) (by kernel_rfl) rfl (by kernel_rfl) (by kernel_rfl) (by kernel_rfl) (by kernel_rfl) (fun _ _ _ h => h) (Or.inl ⟨by rfl, ?_⟩) HS2.out ?_
  rotate_left 1
  · (intro W hSw; obtain s0 := hSw; (try simp only [List.getElem_toArray, List.getElem_cons_succ, List.getElem_cons_zero]); go_simp; try with_reducible rfl)
  try simp only [List.getElem_toArray, List.getElem_cons_succ, List.getElem_cons_zero, Act.put, List.setIfInBounds_toArray, List.set_cons_zero, List.set_cons_succ]
  refine wpAnyHT_take (i := 8) (oi := _) (v := ?_) (by kernel_rfl) rfl (by kernel_rfl) (by kernel_rfl) (by kernel_rfl) (by kernel_rfl) (fun _ _ _ h => h) (Or.inl ⟨by rfl, ?_⟩) HS2.out ?_
  rotate_left 1
  · (intro W hSw; obtain s0 := hSw; (try simp only [List.getElem_toArray, List.getElem_cons_succ, List.getElem_cons_zero]); go_simp; try with_reducible rfl)
  try simp only [List.getElem_toArray, List.getElem_cons_succ, List.getElem_cons_zero, Act.put, List.setIfInBounds_toArray, List.set_cons_zero, List.set_cons_succ]
  refine wpAnyHT_take (i := 9) (oi := _) (v := ?_) (by kernel_rfl) rfl (by kernel_rfl) (by kernel_rfl) (by kernel_rfl) (by kernel_rfl) (fun _ _ _ h => h) (Or.inl ⟨by rfl, ?_⟩) HS2.out ?_
  rotate_left 1
  · (intro W hSw; obtain s0 := hSw; (try simp only [List.getElem_toArray, List.getElem_cons_succ, List.getElem_cons_zero]); go_simp; try with_reducible rfl)
  try simp only [List.getElem_toArray, List.getElem_cons_succ, List.getElem_cons_zero, Act.put, List.setIfInBounds_toArray, List.set_cons_zero, List.set_cons_succ]
  refine wpAnyHT_take (i := 10) (oi := _) (v := ?_) (by kernel_rfl) rfl (by kernel_rfl) (by kernel_rfl) (by kernel_rfl) (by kernel_rfl) (fun _ _ _ h => h) (Or.inl ⟨by rfl, ?_⟩) HS2.out ?_
  rotate_left 1
  · (intro W hSw; obtain s0 := hSw; (try simp only [List.getElem_toArray, List.getElem_cons_succ, List.getElem_cons_zero]); go_simp; try with_reducible rfl)
  try simp only [List.getElem_toArray, List.getElem_cons_succ, List.getElem_cons_zero, Act.put, List.setIfInBounds_toArray, List.set_cons_zero, List.set_cons_succ]
  refine wpAnyHT_take (i := 11) (oi := _) (v := ?_) (by kernel_rfl) rfl (by kernel_rfl) (by kernel_rfl) (by kernel_rfl) (by kernel_rfl) (fun _ _ _ h => h) (Or.inl ⟨by rfl, ?_⟩) HS2.out ?_
  rotate_left 1
  · (intro W hSw; obtain s0 := hSw; (try simp only [List.getElem_toArray, List.getElem_cons_succ, List.getElem_cons_zero]); go_simp; try with_reducible rfl)
  try simp only [List.getElem_toArray, List.getElem_cons_succ, List.getElem_cons_zero, Act.put, List.setIfInBounds_toArray, List.set_cons_zero, List.set_cons_succ]
  refine wpAnyHT_take (i := 12) (oi := _) (v := ?_) (by kernel_rfl) rfl (by kernel_rfl) (by kernel_rfl) (by kernel_rfl) (by kernel_rfl) (fun _ _ _ h => h) (Or.inl ⟨by rfl, ?_⟩) HS2.out ?_
  rotate_left 1
  · (intro W hSw; obtain s0 := hSw; (try simp only [List.getElem_toArray, List.getElem_cons_succ, List.getElem_cons_zero]); go_simp; try with_reducible rfl)
  try simp only [List.getElem_toArray, List.getElem_cons_succ, List.getElem_cons_zero, Act.put, List.setIfInBounds_toArray, List.set_cons_zero, List.set_cons_succ]
  refine wpAnyHT_take (i := 13) (oi := _) (v := ?_) (by kernel_rfl) rfl (by kernel_rfl) (by kernel_rfl) (by kernel_rfl) (by kernel_rfl) (fun _ _ _ h => h) (Or.inl ⟨by rfl, ?_⟩) HS2.out ?_
  rotate_left 1
  · (intro W hSw; obtain s0 := hSw; (try simp only [List.getElem_toArray, List.getElem_cons_succ, List.getElem_cons_zero]); go_simp; try with_reducible rfl)
  try simp only [List.getElem_toArray, List.getElem_cons_succ, List.getElem_cons_zero, Act.put, List.setIfInBounds_toArray, List.set_cons_zero, List.set_cons_succ]
  refine wpAnyHT_one (i := 14) rfl (by kernel_rfl) (by kernel_rfl) (fun K hK => ?_)
  try simp only [List.getElem_toArray, List.getElem_cons_succ, List.getElem_cons_zero]
  go_simp
  refine HI.out.mono ?_
  rintro e w3 ⟨p3, c3, rfl, ho3, hf3, hb3⟩
  refine hK _ _ (by exact (hf3.cell (p := ⟨sb, 0, none⟩) (World.block_lt_of_cell? w2.drew _ HS2.out) HR1.out.ap).trans HS2.out) ?_
  clear hK K
  try simp only [List.getElem_toArray, List.getElem_cons_succ, List.getElem_cons_zero, Act.put, List.setIfInBounds_toArray, List.set_cons_zero, List.set_cons_succ]
  refine wpAnyHT_end (by kernel_rfl) ?_
  simp only [List.drop_succ_cons, List.drop_zero]
  have hf3' : Frm (blk p) w2 w3 := (Frm.refl (blk p) w2).drew.trans hf3 (fun k hk _ => hk)
  have hn3 : n1 + m = ((l.take i ++ l.drop (i + many)).take i ++ ys ++ (l.take i ++ l.drop (i + many)).drop i).length := by rw [← ho3.2]
  obtain ⟨q1, q2⟩ := HR1.out.put hn3 ho3 hf3' hb3
  have hrow3 := hf3'.heap HR1.out.row HR1.out.ap
  have f3 : w3.frozen? ⟨sb, 0, none⟩ = false := frozen_of_row w3 _ 0 _ _ hrow3
  have c3' : w3.cell? ⟨sb, 0, none⟩ = some (.slice p (l.take i ++ l.drop (i + many)).length c) := by rw [cell_of_row _ _ _ _ _ _ hrow3]; rfl
  have hli : (l.take i).length = i := by rw [List.length_take, HLN.out]; omega
  have hlists : (l.take i ++ l.drop (i + many)).take i ++ ys ++ (l.take i ++ l.drop (i + many)).drop i = l.take i ++ ys ++ l.drop (i + many) := by
    rw [show (l.take i ++ l.drop (i + many)).take i = l.take i by rw [List.take_append_of_le_length (by omega), List.take_of_length_le (by omega)], show (l.take i ++ l.drop (i + many)).drop i = l.drop (i + many) by rw [List.drop_append_of_le_length (by omega), List.drop_eq_nil_of_le (by omega), List.nil_append]]
  rw [hlists] at q1
  have HFIN : Hid (∃ p' c', RSet (w3.setCell ⟨sb, 0, none⟩ (.slice p3 (n1 + m) c3)) sb p' c' (l.take i ++ ys ++ l.drop (i + many)) ∧ Frm (sb :: blk p) w (w3.setCell ⟨sb, 0, none⟩ (.slice p3 (n1 + m) c3)) ∧ ∀ k ∈ blk p', k ∈ blk p ∨ w.heap.size ≤ k) := hid ⟨p3, c3, q1, HF1.out.trans q2 (fun k hk _ => hk), fun k hk => (hb3 k hk).imp id (fun h => by have := HF1.out.size; have h2 : w2.heap.size ≤ k := h; omega)⟩
  clear ho3 hf3 hf3' hb3 hn3 q1 q2 hrow3 hli hlists
  go_wp2_with fail
  first | go_returns | skip
  exact ⟨rfl, HFIN.out⟩
end Go.Proofs.Ytkbppkimpefilaa
