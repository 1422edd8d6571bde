/- Disks and their power: what waits is lost: forget, Fail, Replace. -/
import Derived.Test.YtfclamndjnoopaaDskI
namespace Go.Proofs.Ytfclamndjnoopaa
open Go.RowKit Go.Lib
set_option maxRecDepth 100000

/-- clear of a whole block of bytes. -/
theorem run_clearB (w : World) (g n : Nat) (cur : List Int) (hg : w.heap[g]? = some (.cells (bv cur).toArray 5 (0, 0))) (hl : cur.length = n) (hn : 0 < n) :
    ∃ w', (∀ ty, (Builtin.clear_ #[22] ty #[.slice (some ⟨g, 0, none⟩) n n]).run Try.prog w = .ok (.tuple #[]) w') ∧ w'.heap[g]? = some (.cells (bv (List.replicate n 0)).toArray 5 (0, 0)) ∧ Frm [g] w w' := by
  have hu : Try.prog.underlying 22 = some (.slice 5) := Try.underlying22
  obtain ⟨i, hi, hz, h1, h2⟩ := info_parts infoB
  have hv : ∀ W : World, (zeroValue 5).run Try.prog W = .ok (.int .u8 0) W := fun W => by simp [zeroValue, typeInfo, hi, hz, Result.andThen]
  have hzc : (Builtin.zeroCells (Value.int .u8 0).cells n).toList = bv (List.replicate n 0) := by
    simp [Builtin.zeroCells, Value.cells, bv]
    apply List.ext_getElem
    · simp
    · intro i h1 h2
      simp [Nat.mod_one]
  have hst := run_storeCells_at Try.prog g 0 5 (bv (List.replicate n 0)) 0 (bv cur).toArray w hg (by simp [bv, hl]) bv_one
  simp only [Nat.add_zero, List.take_zero, List.nil_append, Nat.zero_add] at hst
  have e0 : (bv cur).toArray.toList.drop (bv (List.replicate n 0)).length = [] := List.drop_eq_nil_of_le (by simp [bv, hl])
  rw [e0, List.append_nil] at hst
  refine ⟨_, fun ty => ?_, setRow_heap w g _ (bv (List.replicate n 0)).toArray _ _ hg, frm_setRow w g _⟩
  obtain ⟨m, rfl⟩ : ∃ m, n = m + 1 := ⟨n - 1, by omega⟩
  simp [Builtin.clear_, run_underlying hu, hv, hzc, hst]
/-- A disk that forgot what waits. -/
def DSt.forget (D : DSt) : DSt := { D with seen := D.plat }
set_option maxHeartbeats 1600000 in
theorem forget_any (pb : Nat) (S : PSt) (q : Option Addr) (c : Nat) (Ds : List DSt) (i : Nat) (D : DSt) (w : World) (h : IsRack w pb S q c Ds) (hi : Ds[i]? = some D) :
    Calls Try.prog 33 #[.pointer (some ⟨D.db, 0, none⟩)] w fun e w' => e = .returned (.tuple #[]) ∧ IsPow w' pb (S.rest D.db) q c ∧ IsDisk w' pb D.forget ∧ Frm ([pb, D.gp, D.gs] ++ blk q) w w' := by
  have hd := h.dsk i D hi
  have hap := h.apP i D hi
  have haq := h.apQ i D hi
  simp only [DSt.blks, List.mem_cons, List.not_mem_nil, or_false, not_or] at hap
  have HAP := hid hap
  have HAQ : Hid (D.gs ∉ blk q) := hid (fun e => haq _ e (by simp [DSt.blks]))
  obtain ⟨d0, d1, d2, d3, d4⟩ := hd.cells
  have HDR := hid (drop_any pb S q c Ds i D false 45 #[] w h hi (fun v W => callableD Try.func45 (by kernel_rfl) (by kernel_rfl) _ W) (fun W gq k x P hx hxd hq hf hd hr => by
    refine (forget1_any _ W).mono ?_
    rintro e w' ⟨rfl, rfl⟩
    exact ⟨rfl, hd, Frm.refl _ _⟩))
  clear h hap haq hd d1 d2 d3 d4
  go_enter Try.func33, Try.ntmps33
  go_wp2_with fail
  refine HDR.out.mono ?_
  rintro e w2 ⟨rfl, hp2, hd2, hf2⟩
  have hd2' : IsDisk w2 pb D := hd2
  clear hd2
  obtain ⟨d0, d1, d2, d3, d4⟩ := hd2'.cells
  have HD2 := hid hd2'
  have HP2 := hid hp2
  have HF2 := hid hf2
  clear hd2' hp2 hf2 HDR
  go_wp2_with fail
  go_still_tail 8, (by kernel_rfl)
  change wpList _ _ _ _ _ w2.drew
  obtain ⟨w3, hw3⟩ : ∃ W, w2.drew = W := ⟨_, rfl⟩
  have hf3 : Frm [] w2 w3 := by rw [← hw3]; exact (Frm.refl _ _).drew
  rw [hw3]
  have HF3 := hid hf3
  have HD3 := hid (HD2.out.kept hf3 (by simp) (by simp) (by simp))
  have HP3 := hid (HP2.out.kept hf3 (by simp) (by simp))
  have HR3 := hid (rd_blockD HD3.out.pl)
  have HLN : Hid (D.n * 128 = D.plat.length) := hid HD3.out.pn.symm
  have HLS : Hid ((bv D.seen).toArray.size = D.n * 128) := hid (by have := HD3.out.sn; simp [bv, this])
  clear hw3 hf3 d0 d1 d2 d3 d4
  go_wp2_with (refine wpList_copyB rfl _ _ 22 rfl 5 Try.underlying22 infoB D.gs (D.n * 128) (D.n * 128) (bv D.seen).toArray rfl HD3.out.se HLS.out (some ⟨D.gp, 0, none⟩) (D.n * 128) (D.n * 128) D.plat rfl HLN.out HR3.out (by have := HLN.out; omega) ?_)
  intro w4 hg4 hf4
  have HG4 := hid hg4
  have HF4 := hid hf4
  clear hg4 hf4
  go_wp2_with fail
  go_returns
  have hd3 := HD3.out
  have hg := HG4.out
  rw [HLN.out, List.take_length] at hg
  refine ⟨rfl, HP3.out.kept HF4.out (by simp; exact HAP.out.2.2) (fun k hk hm => by simp at hm; subst hm; exact HAQ.out hk), ⟨HF4.out.heap hd3.row (by simp; exact hd3.a3), HF4.out.heap hd3.pl (by simp; exact hd3.a1), hg, hd3.pn, hd3.pn, hd3.pz, hd3.pz, hd3.n1, hd3.n2, hd3.a1, hd3.a2, hd3.a3⟩, ((HF2.out.mono (fun k hk _ => by simp at hk ⊢; rcases hk with h | h | h <;> simp [h])).trans HF3.out (by simp)).trans HF4.out (fun k hk _ => by simp at hk; simp [hk])⟩
/-- A disk that failed. -/
def DSt.fail (D : DSt) : DSt := { D with seen := D.plat, failed := true }
set_option maxHeartbeats 1600000 in
theorem fail_any (pb : Nat) (S : PSt) (q : Option Addr) (c : Nat) (Ds : List DSt) (i : Nat) (D : DSt) (w : World) (h : IsRack w pb S q c Ds) (hi : Ds[i]? = some D) :
    Calls Try.prog 19 #[.pointer (some ⟨D.db, 0, none⟩)] w fun e w' => e = .returned (.tuple #[]) ∧ IsPow w' pb (S.rest D.db) q c ∧ IsDisk w' pb D.fail ∧ Frm ([pb] ++ D.blks ++ blk q) w w' := by
  have hap := h.apP i D hi
  have haq := h.apQ i D hi
  simp only [DSt.blks, List.mem_cons, List.not_mem_nil, or_false, not_or] at hap
  have HAP := hid hap
  have HAQ : Hid (D.db ∉ blk q) := hid (fun e => haq _ e (by simp [DSt.blks]))
  have HFG := hid (forget_any pb S q c Ds i D w h hi)
  clear h hap haq
  go_enter Try.func19, Try.ntmps19
  go_wp2_with fail
  refine HFG.out.mono ?_
  rintro e w2 ⟨rfl, hp2, hd2, hf2⟩
  have HD2 := hid hd2
  have HP2 := hid hp2
  have HF2 := hid hf2
  have f2 : w2.frozen? ⟨D.db, 2, none⟩ = false := frozen_of_row w2 D.db 2 _ _ hd2.row
  have c2 : w2.cell? ⟨D.db, 2, none⟩ = some (.bool D.failed) := hd2.cells.2.2.1
  clear hd2 hp2 hf2 HFG
  go_wp2_with fail
  go_returns
  have hF : Frm [D.db] w2 (w2.setCell ⟨D.db, 2, none⟩ (.bool true)) := (Frm.refl _ _).setCell _ _ (by simp)
  have hd := HD2.out
  have hr := heap_setCell_same w2 D.db 2 _ _ (Value.bool true) hd.row
  refine ⟨rfl, HP2.out.kept hF (by simp; exact HAP.out.1) (fun k hk hm => by simp at hm; subst hm; exact HAQ.out hk), ⟨hr, hF.heap hd.pl (by simp; exact hd.a2.symm), hF.heap hd.se (by simp; exact hd.a3.symm), hd.pn, hd.sn, hd.pz, hd.sz, hd.n1, hd.n2, hd.a1, hd.a2, hd.a3⟩, (HF2.out.mono (fun k hk _ => by simp [DSt.blks] at hk ⊢; rcases hk with h | h | h | h <;> simp [h])).trans hF (fun k hk _ => by simp at hk; simp [DSt.blks, hk])⟩
/-- A disk that was replaced. -/
def DSt.fresh (D : DSt) : DSt := { D with plat := List.replicate (D.n * 128) 0, seen := List.replicate (D.n * 128) 0, failed := false }
set_option maxHeartbeats 1600000 in
theorem replace_any (pb : Nat) (S : PSt) (q : Option Addr) (c : Nat) (Ds : List DSt) (i : Nat) (D : DSt) (w : World) (h : IsRack w pb S q c Ds) (hi : Ds[i]? = some D) :
    Calls Try.prog 20 #[.pointer (some ⟨D.db, 0, none⟩)] w fun e w' => e = .returned (.tuple #[]) ∧ IsPow w' pb (S.rest D.db) q c ∧ IsDisk w' pb D.fresh ∧ Frm ([pb] ++ D.blks ++ blk q) w w' := by
  have hap := h.apP i D hi
  have haq := h.apQ i D hi
  simp only [DSt.blks, List.mem_cons, List.not_mem_nil, or_false, not_or] at hap
  have HAP := hid hap
  have HAQ : Hid (D.db ∉ blk q ∧ D.gp ∉ blk q ∧ D.gs ∉ blk q) := hid ⟨fun e => haq _ e (by simp [DSt.blks]), fun e => haq _ e (by simp [DSt.blks]), fun e => haq _ e (by simp [DSt.blks])⟩
  have HFG := hid (forget_any pb S q c Ds i D w h hi)
  clear h hap haq
  go_enter Try.func20, Try.ntmps20
  go_wp2_with fail
  refine HFG.out.mono ?_
  rintro e w2 ⟨rfl, hp2, hd2, hf2⟩
  have HP2 := hid hp2
  have HF2 := hid hf2
  have hpos : 0 < D.n * 128 := by have h1 : 1 ≤ D.n := hd2.n1; omega
  obtain ⟨w3, hcl, hg3, hf3⟩ := run_clearB w2 D.gp (D.n * 128) D.plat hd2.pl hd2.pn hpos
  obtain ⟨w4, hcl4, hg4, hf4⟩ := run_clearB w3 D.gs (D.n * 128) D.plat (hf3.heap hd2.se (by simp; exact fun e => hd2.a1 e.symm)) hd2.pn hpos
  have hr3 : w3.heap[D.db]? = some (.cells #[.pointer (some ⟨pb, 0, none⟩), .int .i64 (D.n : Int), .bool D.failed, .slice (some ⟨D.gp, 0, none⟩) (D.n * 128) (D.n * 128), .slice (some ⟨D.gs, 0, none⟩) (D.n * 128) (D.n * 128)] 61 (0, 0)) := hf3.heap hd2.row (by simp; exact hd2.a2)
  have hr4 : w4.heap[D.db]? = some (.cells #[.pointer (some ⟨pb, 0, none⟩), .int .i64 (D.n : Int), .bool D.failed, .slice (some ⟨D.gp, 0, none⟩) (D.n * 128) (D.n * 128), .slice (some ⟨D.gs, 0, none⟩) (D.n * 128) (D.n * 128)] 61 (0, 0)) := hf4.heap hr3 (by simp; exact hd2.a3)
  have HR4 := hid hr4
  have HGP := hid (hf4.heap hg3 (by simp; exact hd2.a1))
  have HGS := hid hg4
  have HF4 : Hid (Frm [D.gp, D.gs] w2 w4) := hid ((hf3.mono (by simp)).trans hf4 (by simp))
  have c3 : w2.cell? ⟨D.db, 3, none⟩ = some (.slice (some ⟨D.gp, 0, none⟩) (D.n * 128) (D.n * 128)) := hd2.cells.2.2.2.1
  have c4 : w3.cell? ⟨D.db, 4, none⟩ = some (.slice (some ⟨D.gs, 0, none⟩) (D.n * 128) (D.n * 128)) := by rw [cell_of_row _ _ _ _ _ _ hr3]; rfl
  have c2 : w4.cell? ⟨D.db, 2, none⟩ = some (.bool D.failed) := by rw [cell_of_row _ _ _ _ _ _ hr4]; rfl
  have f2 : w4.frozen? ⟨D.db, 2, none⟩ = false := frozen_of_row w4 D.db 2 _ _ hr4
  have HD2 := hid hd2
  clear hd2 hp2 hf2 hg3 hf3 hg4 hf4 hr3 hr4 HFG hpos
  go_wp2_with fail
  go_returns
  have hF : Frm [D.db] w4 (w4.setCell ⟨D.db, 2, none⟩ (.bool false)) := (Frm.refl _ _).setCell _ _ (by simp)
  have hd := HD2.out
  have hr := heap_setCell_same w4 D.db 2 _ _ (Value.bool false) HR4.out
  refine ⟨rfl, (HP2.out.kept HF4.out (by simp; exact ⟨HAP.out.2.1, HAP.out.2.2⟩) (fun k hk hm => by simp at hm; rcases hm with rfl | rfl; exact HAQ.out.2.1 hk; exact HAQ.out.2.2 hk)).kept hF (by simp; exact HAP.out.1) (fun k hk hm => by simp at hm; subst hm; exact HAQ.out.1 hk), ⟨hr, hF.heap HGP.out (by simp; exact hd.a2.symm), hF.heap HGS.out (by simp; exact hd.a3.symm), by simp [DSt.fresh], by simp [DSt.fresh], rep_bd _, rep_bd _, hd.n1, hd.n2, hd.a1, hd.a2, hd.a3⟩, ((HF2.out.mono (fun k hk _ => by simp [DSt.blks] at hk ⊢; rcases hk with h | h | h | h <;> simp [h])).trans HF4.out (fun k hk _ => by simp at hk; rcases hk with h | h <;> simp [DSt.blks, h])).trans hF (fun k hk _ => by simp at hk; simp [DSt.blks, hk])⟩
end Go.Proofs.Ytfclamndjnoopaa
