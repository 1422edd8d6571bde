/- The document's table of sessions: Look. -/
import Derived.Test.YtbgochkmplacaaaSsT
namespace Go.Proofs.Ytbgochkmplacaaa
open Go.RowKit Go.Lib
set_option maxRecDepth 100000

section
variable {w : World} {d : Nat} {p : Option Addr} {c : Nat} {ls : List Rp} {f a r : Int}
theorem RT.cells (h : RT w d p c ls f a r) : w.cell? ⟨d, 0, none⟩ = some (.slice p ls.length c) ∧ w.cell? ⟨d, 1, none⟩ = some (.int .i64 f) ∧ w.cell? ⟨d, 2, none⟩ = some (.int .i64 a) ∧ w.cell? ⟨d, 3, none⟩ = some (.int .i64 r) ∧ ∀ j, w.frozen? ⟨d, j, none⟩ = false := by
  have hs := h.st
  refine ⟨?_, ?_, ?_, ?_, fun j => frozen_of_row _ _ _ _ _ hs⟩ <;> (rw [cell_of_row _ _ _ _ _ _ hs]; rfl)
theorem RT.set {j : Nat} {x : Value} {f' a' r' : Int} (h : RT w d p c ls f a r) (hj : (#[Value.slice p ls.length c, .int .i64 f, .int .i64 a, .int .i64 r] : Array Value).setIfInBounds j x = #[.slice p ls.length c, .int .i64 f', .int .i64 a', .int .i64 r']) : RT (w.setCell ⟨d, j, none⟩ x) d p c ls f' a' r' ∧ Frm [d] w (w.setCell ⟨d, j, none⟩ x) := by
  have hf : Frm [d] w (w.setCell ⟨d, j, none⟩ x) := (Frm.refl _ _).setCell _ _ (by simp)
  exact ⟨⟨by rw [heap_setCell_same _ _ _ _ _ _ h.st, hj], h.own.kept hf (fun k hk hm => by rw [List.mem_singleton] at hm; exact h.ap (hm ▸ hk)), fun v hv => (h.ok v hv).keptN hf (fun k hk hm => by rw [List.mem_singleton] at hm; exact h.bn v hv k hk (by simp [footR, hm])), h.ap, h.bn⟩, hf⟩
theorem RT.fresh (h : RT w d p c ls f a r) (f' : Int) : RT (w.setCell ⟨d, 1, none⟩ (.int .i64 f')) d p c ls f' a r ∧ Frm [d] w (w.setCell ⟨d, 1, none⟩ (.int .i64 f')) := h.set rfl
theorem RT.again (h : RT w d p c ls f a r) (a' : Int) : RT (w.setCell ⟨d, 2, none⟩ (.int .i64 a')) d p c ls f a' r ∧ Frm [d] w (w.setCell ⟨d, 2, none⟩ (.int .i64 a')) := h.set rfl
theorem RT.refused (h : RT w d p c ls f a r) (r' : Int) : RT (w.setCell ⟨d, 3, none⟩ (.int .i64 r')) d p c ls f a r' ∧ Frm [d] w (w.setCell ⟨d, 3, none⟩ (.int .i64 r')) := h.set rfl
end
theorem wrap_i64 (x : Int) : IntKind.i64.wrap x = wrap64 x := by
  rw [IntKind.wrap_i64]; unfold wrap64; omega
/-- What the document's Look tells. -/
def lookR (ls : List Rp) (s id : Int) : Rp × Bool × Int := if is24 s id = false then (rp0, false, 240) else if id < (of24 ls s).x.id then (rp0, false, 241) else if id = (of24 ls s).x.id then (of24 ls s, true, 0) else (rp0, false, 0)
def LookR (w : World) (d : Nat) (p : Option Addr) (c : Nat) (ls : List Rp) (f a r s id : Int) (e : Ending) (w' : World) : Prop :=
  e = .returned (.tuple #[(lookR ls s id).1.agg, .bool (lookR ls s id).2.1, .int .i64 (lookR ls s id).2.2]) ∧ RT w' d p c ls f (if (lookR ls s id).2.1 then IntKind.i64.wrap (a + 1) else a) (if (lookR ls s id).2.2 ≠ 0 then IntKind.i64.wrap (r + 1) else r) ∧ Frm [d] w w'
set_option maxHeartbeats 12800000 in
theorem rlook_any (d : Nat) (p : Option Addr) (c : Nat) (ls : List Rp) (f a r s0 i0 : Int) (w : World) (h : RT w d p c ls f a r) (hb : ls.length ≤ 4611686018427387904) :
    Calls Try.prog 57 #[.pointer (some ⟨d, 0, none⟩), .int .i64 s0, .int .i64 i0] w (LookR w d p c ls f a r s0 i0) := by
  obtain ⟨PO, hPO⟩ : ∃ PO : Ending → World → Prop, LookR w d p c ls f a r s0 i0 = PO := ⟨_, rfl⟩
  rw [hPO]
  have HP : Hid (∀ (v : Rp) is E a' r' w', lookR ls s0 i0 = (v, is, E) → a' = (if is then IntKind.i64.wrap (a + 1) else a) → r' = (if E ≠ 0 then IntKind.i64.wrap (r + 1) else r) → RT w' d p c ls f a' r' → Frm [d] w w' → PO (.returned (.tuple #[v.agg, .bool is, .int .i64 E])) w') := hid (fun v is E a' r' w' h1 h2 h3 h4 h5 => by
    rw [← hPO]
    refine ⟨by rw [h1], ?_, h5⟩
    rw [h1, ← h2, ← h3]; exact h4)
  have HBL := hid (fun v hv => (h.ok v hv).lowN)
  have HPL := hid (ownsRow_low h.own.1)
  have hdl : d < w.heap.size := lt_of_heap h.st
  have HDL := hid hdl
  obtain ⟨rb, hrb⟩ : ∃ q, w.heap.size = q := ⟨_, rfl⟩
  obtain ⟨w0, hw0⟩ : ∃ q, w.alloc (.cells #[.int .i64 0, .int .i64 0, .int .i64 0, .int .i64 0, .string { data := #[] }, .slice none 0 0, .slice none 0 0] 61) = q := ⟨_, rfl⟩
  have hf0 : Frm [] w w0 := by rw [← hw0]; exact (Frm.refl _ _).alloc _
  have HR0 : Hid (w0.heap[rb]? = some (.cells #[.int .i64 0, .int .i64 0, .int .i64 0, .int .i64 0, .string { data := #[] }, .slice none 0 0, .slice none 0 0] 61 (0, 0))) := hid (by rw [← hw0]; exact heap_alloc_to _ _ hrb)
  have HOF := hid (of24_any d p c ls f a r s0 w0 (h.k0 hf0) hb)
  have HT0 := hid (h.k0 hf0)
  have HF0 := hid hf0
  have HRB := hid hrb
  have HW0 := hid hw0
  obtain ⟨v, hv⟩ : ∃ q, of24 ls s0 = q := ⟨_, rfl⟩
  have HV := hid hv
  rw [hv] at HOF
  obtain ⟨B, hB⟩ : ∃ q, is24 s0 i0 = q := ⟨_, rfl⟩
  have HB := hid hB
  have HIS := hid (is24_any s0 i0 w0)
  rw [hB] at HIS
  clear h hPO hrb hw0 hf0 hdl hv hB
  obtain ⟨⟨s, id, er, nu, tx, ss, ds⟩, lp, lc, dp, dc⟩ := v
  unfold Rp.agg at HOF
  simp only at HOF
  go_enter Try.func57, Try.ntmps57
  go_upto_region 1 with fail
  rw [HRB.out, HW0.out]
  clear HW0
  go_wp2_with fail
  refine HIS.out.mono ?_
  rintro e w' ⟨rfl, rfl⟩
  go_wp2_with fail
  refine HOF.out.mono ?_
  rintro e w1 ⟨rfl, hf1⟩
  have HF1 := hid hf1
  clear hf1
  obtain ⟨bx, hbx⟩ : ∃ q, w1.heap.size = q := ⟨_, rfl⟩
  obtain ⟨w2, hw2⟩ : ∃ q, w1.alloc (.cells #[.int .i64 s, .int .i64 id, .int .i64 er, .int .i64 nu, .string tx, .slice lp ss.length lc, .slice dp ds.length dc] 61) = q := ⟨_, rfl⟩
  have h2 : Frm [] w1 w2 := by rw [← hw2]; exact (Frm.refl _ _).alloc _
  have hx2 : w2.heap[bx]? = some (.cells #[.int .i64 s, .int .i64 id, .int .i64 er, .int .i64 nu, .string tx, .slice lp ss.length lc, .slice dp ds.length dc] 61 (0, 0)) := by rw [← hw2]; exact heap_alloc_to _ _ hbx
  have x0 : w2.cell? ⟨bx, 0, none⟩ = some (.int .i64 s) := by rw [cell_of_row _ _ _ _ _ _ hx2]; rfl
  have x1 : w2.cell? ⟨bx, 1, none⟩ = some (.int .i64 id) := by rw [cell_of_row _ _ _ _ _ _ hx2]; rfl
  have x2 : w2.cell? ⟨bx, 2, none⟩ = some (.int .i64 er) := by rw [cell_of_row _ _ _ _ _ _ hx2]; rfl
  have x3 : w2.cell? ⟨bx, 3, none⟩ = some (.int .i64 nu) := by rw [cell_of_row _ _ _ _ _ _ hx2]; rfl
  have x4 : w2.cell? ⟨bx, 4, none⟩ = some (.string tx) := by rw [cell_of_row _ _ _ _ _ _ hx2]; rfl
  have x5 : w2.cell? ⟨bx, 5, none⟩ = some (.slice lp ss.length lc) := by rw [cell_of_row _ _ _ _ _ _ hx2]; rfl
  have x6 : w2.cell? ⟨bx, 6, none⟩ = some (.slice dp ds.length dc) := by rw [cell_of_row _ _ _ _ _ _ hx2]; rfl
  have HX2 := hid hx2
  have HF02 := hid ((HF0.out.trans HF1.out (by simp)).trans h2 (by simp))
  have HT2 := hid ((HT0.out.k0 HF1.out).k0 h2)
  have HR2 := hid (h2.heap (HF1.out.heap HR0.out (by simp)) (by simp))
  have HBX := hid hbx
  have HNE : Hid (bx ≠ d ∧ rb ≠ d ∧ bx ≠ rb) := hid (by
    have h1 := HDL.out; have h2 := HRB.out; have h3 := HF0.out.size; have h4 := HF1.out.size; have h5 := lt_of_heap HR0.out
    omega)
  have HNB : Hid (∀ k ∈ footR d p, k ≠ rb) := hid (fun k hk e => by
    simp [footR] at hk
    rcases hk with rfl | hk
    · exact HNE.out.2.1 e.symm
    · have := HPL.out k hk; have := HRB.out; omega)
  have HNV : Hid (∀ v ∈ ls, ∀ k ∈ v.Bn, k ≠ rb) := hid (fun v hv k hk e => by have := HBL.out v hv k hk; have := HRB.out; omega)
  have HW2 := hid hw2
  clear hw2 hbx h2 hx2 HOF
  go_upto_region 3 with fail
  rw [HBX.out, HW2.out]
  clear HW2
  obtain ⟨c0, c1, c2, c3, cz⟩ := HT2.out.cells
  have z2 := cz 2
  have z3 := cz 3
  clear c0 cz
  by_cases hB0 : B = true
  · subst hB0
    by_cases h1 : i0 < id
    · obtain ⟨t3, f3⟩ := HT2.out.refused (wrap64 (r + 1))
      obtain ⟨w3, hw3⟩ : ∃ q, w2.setCell ⟨d, 3, none⟩ (.int .i64 (wrap64 (r + 1))) = q := ⟨_, rfl⟩
      rw [hw3] at t3 f3
      have HT3 := hid t3
      have HF3 := hid f3
      have HR3 := hid (f3.heap HR2.out (fun hm => HNE.out.2.1 (by rw [List.mem_singleton] at hm; exact hm)))
      have HX3 := hid (f3.heap HX2.out (fun hm => HNE.out.1 (by rw [List.mem_singleton] at hm; exact hm)))
      have HW3 := hid hw3
      clear t3 f3 hw3
      go_upto_region 8 with fail
      rw [HW3.out]
      clear HW3 x0 x1 x2 x3 x4 x5 x6 c1 c2 c3 z2 z3
      have x0 : w3.cell? ⟨bx, 0, none⟩ = some (.int .i64 s) := by rw [cell_of_row _ _ _ _ _ _ HX3.out]; rfl
      have x1 : w3.cell? ⟨bx, 1, none⟩ = some (.int .i64 id) := by rw [cell_of_row _ _ _ _ _ _ HX3.out]; rfl
      have x2 : w3.cell? ⟨bx, 2, none⟩ = some (.int .i64 er) := by rw [cell_of_row _ _ _ _ _ _ HX3.out]; rfl
      have x3 : w3.cell? ⟨bx, 3, none⟩ = some (.int .i64 nu) := by rw [cell_of_row _ _ _ _ _ _ HX3.out]; rfl
      have x4 : w3.cell? ⟨bx, 4, none⟩ = some (.string tx) := by rw [cell_of_row _ _ _ _ _ _ HX3.out]; rfl
      have x5 : w3.cell? ⟨bx, 5, none⟩ = some (.slice lp ss.length lc) := by rw [cell_of_row _ _ _ _ _ _ HX3.out]; rfl
      have x6 : w3.cell? ⟨bx, 6, none⟩ = some (.slice dp ds.length dc) := by rw [cell_of_row _ _ _ _ _ _ HX3.out]; rfl
      have yy0 : w3.cell? ⟨rb, 0, none⟩ = some (.int .i64 0) := by rw [cell_of_row _ _ _ _ _ _ HR3.out]; rfl
      have zz0 := frozen_of_row w3 rb 0 _ _ HR3.out
      have yy1 : w3.cell? ⟨rb, 1, none⟩ = some (.int .i64 0) := by rw [cell_of_row _ _ _ _ _ _ HR3.out]; rfl
      have zz1 := frozen_of_row w3 rb 1 _ _ HR3.out
      have yy2 : w3.cell? ⟨rb, 2, none⟩ = some (.int .i64 0) := by rw [cell_of_row _ _ _ _ _ _ HR3.out]; rfl
      have zz2 := frozen_of_row w3 rb 2 _ _ HR3.out
      have yy3 : w3.cell? ⟨rb, 3, none⟩ = some (.int .i64 0) := by rw [cell_of_row _ _ _ _ _ _ HR3.out]; rfl
      have zz3 := frozen_of_row w3 rb 3 _ _ HR3.out
      have yy4 : w3.cell? ⟨rb, 4, none⟩ = some (.string { data := #[] }) := by rw [cell_of_row _ _ _ _ _ _ HR3.out]; rfl
      have zz4 := frozen_of_row w3 rb 4 _ _ HR3.out
      have yy5 : w3.cell? ⟨rb, 5, none⟩ = some (.slice none 0 0) := by rw [cell_of_row _ _ _ _ _ _ HR3.out]; rfl
      have zz5 := frozen_of_row w3 rb 5 _ _ HR3.out
      have yy6 : w3.cell? ⟨rb, 6, none⟩ = some (.slice none 0 0) := by rw [cell_of_row _ _ _ _ _ _ HR3.out]; rfl
      have zz6 := frozen_of_row w3 rb 6 _ _ HR3.out
      go_wp2_with fail
      obtain ⟨h4, f4⟩ := sets_row rb 61 [(0, .int .i64 0), (1, .int .i64 0), (2, .int .i64 0), (3, .int .i64 0), (4, .string { data := #[] }), (5, .slice none 0 0), (6, .slice none 0 0)] w3 _ HR3.out
      simp only [List.foldl, List.setIfInBounds_toArray, List.set_cons_zero, List.set_cons_succ] at h4
      obtain ⟨wz, hwz⟩ : ∃ wz, sets w3 rb [(0, .int .i64 0), (1, .int .i64 0), (2, .int .i64 0), (3, .int .i64 0), (4, .string { data := #[] }), (5, .slice none 0 0), (6, .slice none 0 0)] = wz := ⟨_, rfl⟩
      rw [hwz] at h4 f4
      have hwz' : (((((((w3.setCell ⟨rb, 0, none⟩ (.int .i64 0)).setCell ⟨rb, 1, none⟩ (.int .i64 0)).setCell ⟨rb, 2, none⟩ (.int .i64 0)).setCell ⟨rb, 3, none⟩ (.int .i64 0)).setCell ⟨rb, 4, none⟩ (.string { data := #[] })).setCell ⟨rb, 5, none⟩ (.slice none 0 0)).setCell ⟨rb, 6, none⟩ (.slice none 0 0)) = wz := hwz
      rw [hwz']
      have gg0 : wz.cell? ⟨rb, 0, none⟩ = some (.int .i64 0) := by rw [cell_of_row wz _ _ _ _ _ h4]; rfl
      have gg1 : wz.cell? ⟨rb, 1, none⟩ = some (.int .i64 0) := by rw [cell_of_row wz _ _ _ _ _ h4]; rfl
      have gg2 : wz.cell? ⟨rb, 2, none⟩ = some (.int .i64 0) := by rw [cell_of_row wz _ _ _ _ _ h4]; rfl
      have gg3 : wz.cell? ⟨rb, 3, none⟩ = some (.int .i64 0) := by rw [cell_of_row wz _ _ _ _ _ h4]; rfl
      have gg4 : wz.cell? ⟨rb, 4, none⟩ = some (.string { data := #[] }) := by rw [cell_of_row wz _ _ _ _ _ h4]; rfl
      have gg5 : wz.cell? ⟨rb, 5, none⟩ = some (.slice none 0 0) := by rw [cell_of_row wz _ _ _ _ _ h4]; rfl
      have gg6 : wz.cell? ⟨rb, 6, none⟩ = some (.slice none 0 0) := by rw [cell_of_row wz _ _ _ _ _ h4]; rfl
      have hTZ := HT3.out.kept f4 (fun k hk hm => by rw [List.mem_singleton] at hm; exact HNB.out k hk hm) (fun v hv k hk hm => by rw [List.mem_singleton] at hm; exact HNV.out v hv k hk hm)
      have hFZ : Frm [d] w wz := ((HF02.out.mono (by simp)).trans HF3.out (fun k hk _ => hk)).trans f4 (fun k hk hkl => by rw [List.mem_singleton] at hk; have := HRB.out; omega)
      exact bodyPost_ret (v := .tuple #[.agg #[.int .i64 0, .int .i64 0, .int .i64 0, .int .i64 0, .string { data := #[] }, .slice none 0 0, .slice none 0 0], .bool false, .int .i64 241]) (by simp [results, Try.results57, go_sem, gg0, gg1, gg2, gg3, gg4, gg5, gg6]) rfl (HP.out (rp0) false 241 a (wrap64 (r + 1)) wz (by unfold lookR; rw [HB.out, HV.out, if_neg (by simp), if_pos h1]) (by first | (simp; done) | simp [wrap_i64]) (by first | (simp; done) | simp [wrap_i64]) hTZ hFZ)
    · by_cases h2 : i0 = id
      · subst h2
        obtain ⟨t3, f3⟩ := HT2.out.again (wrap64 (a + 1))
        obtain ⟨w3, hw3⟩ : ∃ q, w2.setCell ⟨d, 2, none⟩ (.int .i64 (wrap64 (a + 1))) = q := ⟨_, rfl⟩
        rw [hw3] at t3 f3
        have HT3 := hid t3
        have HF3 := hid f3
        have HR3 := hid (f3.heap HR2.out (fun hm => HNE.out.2.1 (by rw [List.mem_singleton] at hm; exact hm)))
        have HX3 := hid (f3.heap HX2.out (fun hm => HNE.out.1 (by rw [List.mem_singleton] at hm; exact hm)))
        have HW3 := hid hw3
        clear t3 f3 hw3
        go_upto_region 11 with fail
        rw [HW3.out]
        clear HW3 x0 x1 x2 x3 x4 x5 x6 c1 c2 c3 z2 z3
        have x0 : w3.cell? ⟨bx, 0, none⟩ = some (.int .i64 s) := by rw [cell_of_row _ _ _ _ _ _ HX3.out]; rfl
        have x1 : w3.cell? ⟨bx, 1, none⟩ = some (.int .i64 i0) := by rw [cell_of_row _ _ _ _ _ _ HX3.out]; rfl
        have x2 : w3.cell? ⟨bx, 2, none⟩ = some (.int .i64 er) := by rw [cell_of_row _ _ _ _ _ _ HX3.out]; rfl
        have x3 : w3.cell? ⟨bx, 3, none⟩ = some (.int .i64 nu) := by rw [cell_of_row _ _ _ _ _ _ HX3.out]; rfl
        have x4 : w3.cell? ⟨bx, 4, none⟩ = some (.string tx) := by rw [cell_of_row _ _ _ _ _ _ HX3.out]; rfl
        have x5 : w3.cell? ⟨bx, 5, none⟩ = some (.slice lp ss.length lc) := by rw [cell_of_row _ _ _ _ _ _ HX3.out]; rfl
        have x6 : w3.cell? ⟨bx, 6, none⟩ = some (.slice dp ds.length dc) := by rw [cell_of_row _ _ _ _ _ _ HX3.out]; rfl
        have yy0 : w3.cell? ⟨rb, 0, none⟩ = some (.int .i64 0) := by rw [cell_of_row _ _ _ _ _ _ HR3.out]; rfl
        have zz0 := frozen_of_row w3 rb 0 _ _ HR3.out
        have yy1 : w3.cell? ⟨rb, 1, none⟩ = some (.int .i64 0) := by rw [cell_of_row _ _ _ _ _ _ HR3.out]; rfl
        have zz1 := frozen_of_row w3 rb 1 _ _ HR3.out
        have yy2 : w3.cell? ⟨rb, 2, none⟩ = some (.int .i64 0) := by rw [cell_of_row _ _ _ _ _ _ HR3.out]; rfl
        have zz2 := frozen_of_row w3 rb 2 _ _ HR3.out
        have yy3 : w3.cell? ⟨rb, 3, none⟩ = some (.int .i64 0) := by rw [cell_of_row _ _ _ _ _ _ HR3.out]; rfl
        have zz3 := frozen_of_row w3 rb 3 _ _ HR3.out
        have yy4 : w3.cell? ⟨rb, 4, none⟩ = some (.string { data := #[] }) := by rw [cell_of_row _ _ _ _ _ _ HR3.out]; rfl
        have zz4 := frozen_of_row w3 rb 4 _ _ HR3.out
        have yy5 : w3.cell? ⟨rb, 5, none⟩ = some (.slice none 0 0) := by rw [cell_of_row _ _ _ _ _ _ HR3.out]; rfl
        have zz5 := frozen_of_row w3 rb 5 _ _ HR3.out
        have yy6 : w3.cell? ⟨rb, 6, none⟩ = some (.slice none 0 0) := by rw [cell_of_row _ _ _ _ _ _ HR3.out]; rfl
        have zz6 := frozen_of_row w3 rb 6 _ _ HR3.out
        go_wp2_with fail
        obtain ⟨h4, f4⟩ := sets_row rb 61 [(0, .int .i64 s), (1, .int .i64 i0), (2, .int .i64 er), (3, .int .i64 nu), (4, .string tx), (5, .slice lp ss.length lc), (6, .slice dp ds.length dc)] w3 _ HR3.out
        simp only [List.foldl, List.setIfInBounds_toArray, List.set_cons_zero, List.set_cons_succ] at h4
        obtain ⟨wz, hwz⟩ : ∃ wz, sets w3 rb [(0, .int .i64 s), (1, .int .i64 i0), (2, .int .i64 er), (3, .int .i64 nu), (4, .string tx), (5, .slice lp ss.length lc), (6, .slice dp ds.length dc)] = wz := ⟨_, rfl⟩
        rw [hwz] at h4 f4
        have hwz' : (((((((w3.setCell ⟨rb, 0, none⟩ (.int .i64 s)).setCell ⟨rb, 1, none⟩ (.int .i64 i0)).setCell ⟨rb, 2, none⟩ (.int .i64 er)).setCell ⟨rb, 3, none⟩ (.int .i64 nu)).setCell ⟨rb, 4, none⟩ (.string tx)).setCell ⟨rb, 5, none⟩ (.slice lp ss.length lc)).setCell ⟨rb, 6, none⟩ (.slice dp ds.length dc)) = wz := hwz
        rw [hwz']
        have gg0 : wz.cell? ⟨rb, 0, none⟩ = some (.int .i64 s) := by rw [cell_of_row wz _ _ _ _ _ h4]; rfl
        have gg1 : wz.cell? ⟨rb, 1, none⟩ = some (.int .i64 i0) := by rw [cell_of_row wz _ _ _ _ _ h4]; rfl
        have gg2 : wz.cell? ⟨rb, 2, none⟩ = some (.int .i64 er) := by rw [cell_of_row wz _ _ _ _ _ h4]; rfl
        have gg3 : wz.cell? ⟨rb, 3, none⟩ = some (.int .i64 nu) := by rw [cell_of_row wz _ _ _ _ _ h4]; rfl
        have gg4 : wz.cell? ⟨rb, 4, none⟩ = some (.string tx) := by rw [cell_of_row wz _ _ _ _ _ h4]; rfl
        have gg5 : wz.cell? ⟨rb, 5, none⟩ = some (.slice lp ss.length lc) := by rw [cell_of_row wz _ _ _ _ _ h4]; rfl
        have gg6 : wz.cell? ⟨rb, 6, none⟩ = some (.slice dp ds.length dc) := by rw [cell_of_row wz _ _ _ _ _ h4]; rfl
        have hTZ := HT3.out.kept f4 (fun k hk hm => by rw [List.mem_singleton] at hm; exact HNB.out k hk hm) (fun v hv k hk hm => by rw [List.mem_singleton] at hm; exact HNV.out v hv k hk hm)
        have hFZ : Frm [d] w wz := ((HF02.out.mono (by simp)).trans HF3.out (fun k hk _ => hk)).trans f4 (fun k hk hkl => by rw [List.mem_singleton] at hk; have := HRB.out; omega)
        exact bodyPost_ret (v := .tuple #[.agg #[.int .i64 s, .int .i64 i0, .int .i64 er, .int .i64 nu, .string tx, .slice lp ss.length lc, .slice dp ds.length dc], .bool true, .int .i64 0]) (by simp [results, Try.results57, go_sem, gg0, gg1, gg2, gg3, gg4, gg5, gg6]) rfl (HP.out (⟨⟨s, i0, er, nu, tx, ss, ds⟩, lp, lc, dp, dc⟩) true 0 (wrap64 (a + 1)) r wz (by unfold lookR; rw [HB.out, HV.out, if_neg (by simp), if_neg (show ¬ i0 < i0 by omega), if_pos rfl]) (by first | (simp; done) | simp [wrap_i64]) (by first | (simp; done) | simp [wrap_i64]) hTZ hFZ)
      · go_upto_region 12 with fail
        have yy0 : w2.cell? ⟨rb, 0, none⟩ = some (.int .i64 0) := by rw [cell_of_row _ _ _ _ _ _ HR2.out]; rfl
        have zz0 := frozen_of_row w2 rb 0 _ _ HR2.out
        have yy1 : w2.cell? ⟨rb, 1, none⟩ = some (.int .i64 0) := by rw [cell_of_row _ _ _ _ _ _ HR2.out]; rfl
        have zz1 := frozen_of_row w2 rb 1 _ _ HR2.out
        have yy2 : w2.cell? ⟨rb, 2, none⟩ = some (.int .i64 0) := by rw [cell_of_row _ _ _ _ _ _ HR2.out]; rfl
        have zz2 := frozen_of_row w2 rb 2 _ _ HR2.out
        have yy3 : w2.cell? ⟨rb, 3, none⟩ = some (.int .i64 0) := by rw [cell_of_row _ _ _ _ _ _ HR2.out]; rfl
        have zz3 := frozen_of_row w2 rb 3 _ _ HR2.out
        have yy4 : w2.cell? ⟨rb, 4, none⟩ = some (.string { data := #[] }) := by rw [cell_of_row _ _ _ _ _ _ HR2.out]; rfl
        have zz4 := frozen_of_row w2 rb 4 _ _ HR2.out
        have yy5 : w2.cell? ⟨rb, 5, none⟩ = some (.slice none 0 0) := by rw [cell_of_row _ _ _ _ _ _ HR2.out]; rfl
        have zz5 := frozen_of_row w2 rb 5 _ _ HR2.out
        have yy6 : w2.cell? ⟨rb, 6, none⟩ = some (.slice none 0 0) := by rw [cell_of_row _ _ _ _ _ _ HR2.out]; rfl
        have zz6 := frozen_of_row w2 rb 6 _ _ HR2.out
        go_wp2_with fail
        obtain ⟨h4, f4⟩ := sets_row rb 61 [(0, .int .i64 0), (1, .int .i64 0), (2, .int .i64 0), (3, .int .i64 0), (4, .string { data := #[] }), (5, .slice none 0 0), (6, .slice none 0 0)] w2 _ HR2.out
        simp only [List.foldl, List.setIfInBounds_toArray, List.set_cons_zero, List.set_cons_succ] at h4
        obtain ⟨wz, hwz⟩ : ∃ wz, sets w2 rb [(0, .int .i64 0), (1, .int .i64 0), (2, .int .i64 0), (3, .int .i64 0), (4, .string { data := #[] }), (5, .slice none 0 0), (6, .slice none 0 0)] = wz := ⟨_, rfl⟩
        rw [hwz] at h4 f4
        have hwz' : (((((((w2.setCell ⟨rb, 0, none⟩ (.int .i64 0)).setCell ⟨rb, 1, none⟩ (.int .i64 0)).setCell ⟨rb, 2, none⟩ (.int .i64 0)).setCell ⟨rb, 3, none⟩ (.int .i64 0)).setCell ⟨rb, 4, none⟩ (.string { data := #[] })).setCell ⟨rb, 5, none⟩ (.slice none 0 0)).setCell ⟨rb, 6, none⟩ (.slice none 0 0)) = wz := hwz
        rw [hwz']
        have gg0 : wz.cell? ⟨rb, 0, none⟩ = some (.int .i64 0) := by rw [cell_of_row wz _ _ _ _ _ h4]; rfl
        have gg1 : wz.cell? ⟨rb, 1, none⟩ = some (.int .i64 0) := by rw [cell_of_row wz _ _ _ _ _ h4]; rfl
        have gg2 : wz.cell? ⟨rb, 2, none⟩ = some (.int .i64 0) := by rw [cell_of_row wz _ _ _ _ _ h4]; rfl
        have gg3 : wz.cell? ⟨rb, 3, none⟩ = some (.int .i64 0) := by rw [cell_of_row wz _ _ _ _ _ h4]; rfl
        have gg4 : wz.cell? ⟨rb, 4, none⟩ = some (.string { data := #[] }) := by rw [cell_of_row wz _ _ _ _ _ h4]; rfl
        have gg5 : wz.cell? ⟨rb, 5, none⟩ = some (.slice none 0 0) := by rw [cell_of_row wz _ _ _ _ _ h4]; rfl
        have gg6 : wz.cell? ⟨rb, 6, none⟩ = some (.slice none 0 0) := by rw [cell_of_row wz _ _ _ _ _ h4]; rfl
        have hTZ := HT2.out.kept f4 (fun k hk hm => by rw [List.mem_singleton] at hm; exact HNB.out k hk hm) (fun v hv k hk hm => by rw [List.mem_singleton] at hm; exact HNV.out v hv k hk hm)
        have hFZ : Frm [d] w wz := (HF02.out.mono (by simp)).trans f4 (fun k hk hkl => by rw [List.mem_singleton] at hk; have := HRB.out; omega)
        exact bodyPost_ret (v := .tuple #[.agg #[.int .i64 0, .int .i64 0, .int .i64 0, .int .i64 0, .string { data := #[] }, .slice none 0 0, .slice none 0 0], .bool false, .int .i64 0]) (by simp [results, Try.results57, go_sem, gg0, gg1, gg2, gg3, gg4, gg5, gg6]) rfl (HP.out (rp0) false 0 a r wz (by unfold lookR; rw [HB.out, HV.out, if_neg (by simp), if_neg (show ¬ i0 < id by omega), if_neg h2]) (by first | (simp; done) | simp [wrap_i64]) (by first | (simp; done) | simp [wrap_i64]) hTZ hFZ)
  · have hB1 : B = false := by simpa using hB0
    subst hB1
    obtain ⟨t3, f3⟩ := HT2.out.refused (wrap64 (r + 1))
    obtain ⟨w3, hw3⟩ : ∃ q, w2.setCell ⟨d, 3, none⟩ (.int .i64 (wrap64 (r + 1))) = q := ⟨_, rfl⟩
    rw [hw3] at t3 f3
    have HT3 := hid t3
    have HF3 := hid f3
    have HR3 := hid (f3.heap HR2.out (fun hm => HNE.out.2.1 (by rw [List.mem_singleton] at hm; exact hm)))
    have HX3 := hid (f3.heap HX2.out (fun hm => HNE.out.1 (by rw [List.mem_singleton] at hm; exact hm)))
    have HW3 := hid hw3
    clear t3 f3 hw3
    go_upto_region 5 with fail
    rw [HW3.out]
    clear HW3 x0 x1 x2 x3 x4 x5 x6 c1 c2 c3 z2 z3
    have x0 : w3.cell? ⟨bx, 0, none⟩ = some (.int .i64 s) := by rw [cell_of_row _ _ _ _ _ _ HX3.out]; rfl
    have x1 : w3.cell? ⟨bx, 1, none⟩ = some (.int .i64 id) := by rw [cell_of_row _ _ _ _ _ _ HX3.out]; rfl
    have x2 : w3.cell? ⟨bx, 2, none⟩ = some (.int .i64 er) := by rw [cell_of_row _ _ _ _ _ _ HX3.out]; rfl
    have x3 : w3.cell? ⟨bx, 3, none⟩ = some (.int .i64 nu) := by rw [cell_of_row _ _ _ _ _ _ HX3.out]; rfl
    have x4 : w3.cell? ⟨bx, 4, none⟩ = some (.string tx) := by rw [cell_of_row _ _ _ _ _ _ HX3.out]; rfl
    have x5 : w3.cell? ⟨bx, 5, none⟩ = some (.slice lp ss.length lc) := by rw [cell_of_row _ _ _ _ _ _ HX3.out]; rfl
    have x6 : w3.cell? ⟨bx, 6, none⟩ = some (.slice dp ds.length dc) := by rw [cell_of_row _ _ _ _ _ _ HX3.out]; rfl
    have yy0 : w3.cell? ⟨rb, 0, none⟩ = some (.int .i64 0) := by rw [cell_of_row _ _ _ _ _ _ HR3.out]; rfl
    have zz0 := frozen_of_row w3 rb 0 _ _ HR3.out
    have yy1 : w3.cell? ⟨rb, 1, none⟩ = some (.int .i64 0) := by rw [cell_of_row _ _ _ _ _ _ HR3.out]; rfl
    have zz1 := frozen_of_row w3 rb 1 _ _ HR3.out
    have yy2 : w3.cell? ⟨rb, 2, none⟩ = some (.int .i64 0) := by rw [cell_of_row _ _ _ _ _ _ HR3.out]; rfl
    have zz2 := frozen_of_row w3 rb 2 _ _ HR3.out
    have yy3 : w3.cell? ⟨rb, 3, none⟩ = some (.int .i64 0) := by rw [cell_of_row _ _ _ _ _ _ HR3.out]; rfl
    have zz3 := frozen_of_row w3 rb 3 _ _ HR3.out
    have yy4 : w3.cell? ⟨rb, 4, none⟩ = some (.string { data := #[] }) := by rw [cell_of_row _ _ _ _ _ _ HR3.out]; rfl
    have zz4 := frozen_of_row w3 rb 4 _ _ HR3.out
    have yy5 : w3.cell? ⟨rb, 5, none⟩ = some (.slice none 0 0) := by rw [cell_of_row _ _ _ _ _ _ HR3.out]; rfl
    have zz5 := frozen_of_row w3 rb 5 _ _ HR3.out
    have yy6 : w3.cell? ⟨rb, 6, none⟩ = some (.slice none 0 0) := by rw [cell_of_row _ _ _ _ _ _ HR3.out]; rfl
    have zz6 := frozen_of_row w3 rb 6 _ _ HR3.out
    go_wp2_with fail
    obtain ⟨h4, f4⟩ := sets_row rb 61 [(0, .int .i64 0), (1, .int .i64 0), (2, .int .i64 0), (3, .int .i64 0), (4, .string { data := #[] }), (5, .slice none 0 0), (6, .slice none 0 0)] w3 _ HR3.out
    simp only [List.foldl, List.setIfInBounds_toArray, List.set_cons_zero, List.set_cons_succ] at h4
    obtain ⟨wz, hwz⟩ : ∃ wz, sets w3 rb [(0, .int .i64 0), (1, .int .i64 0), (2, .int .i64 0), (3, .int .i64 0), (4, .string { data := #[] }), (5, .slice none 0 0), (6, .slice none 0 0)] = wz := ⟨_, rfl⟩
    rw [hwz] at h4 f4
    have hwz' : (((((((w3.setCell ⟨rb, 0, none⟩ (.int .i64 0)).setCell ⟨rb, 1, none⟩ (.int .i64 0)).setCell ⟨rb, 2, none⟩ (.int .i64 0)).setCell ⟨rb, 3, none⟩ (.int .i64 0)).setCell ⟨rb, 4, none⟩ (.string { data := #[] })).setCell ⟨rb, 5, none⟩ (.slice none 0 0)).setCell ⟨rb, 6, none⟩ (.slice none 0 0)) = wz := hwz
    rw [hwz']
    have gg0 : wz.cell? ⟨rb, 0, none⟩ = some (.int .i64 0) := by rw [cell_of_row wz _ _ _ _ _ h4]; rfl
    have gg1 : wz.cell? ⟨rb, 1, none⟩ = some (.int .i64 0) := by rw [cell_of_row wz _ _ _ _ _ h4]; rfl
    have gg2 : wz.cell? ⟨rb, 2, none⟩ = some (.int .i64 0) := by rw [cell_of_row wz _ _ _ _ _ h4]; rfl
    have gg3 : wz.cell? ⟨rb, 3, none⟩ = some (.int .i64 0) := by rw [cell_of_row wz _ _ _ _ _ h4]; rfl
    have gg4 : wz.cell? ⟨rb, 4, none⟩ = some (.string { data := #[] }) := by rw [cell_of_row wz _ _ _ _ _ h4]; rfl
    have gg5 : wz.cell? ⟨rb, 5, none⟩ = some (.slice none 0 0) := by rw [cell_of_row wz _ _ _ _ _ h4]; rfl
    have gg6 : wz.cell? ⟨rb, 6, none⟩ = some (.slice none 0 0) := by rw [cell_of_row wz _ _ _ _ _ h4]; rfl
    have hTZ := HT3.out.kept f4 (fun k hk hm => by rw [List.mem_singleton] at hm; exact HNB.out k hk hm) (fun v hv k hk hm => by rw [List.mem_singleton] at hm; exact HNV.out v hv k hk hm)
    have hFZ : Frm [d] w wz := ((HF02.out.mono (by simp)).trans HF3.out (fun k hk _ => hk)).trans f4 (fun k hk hkl => by rw [List.mem_singleton] at hk; have := HRB.out; omega)
    exact bodyPost_ret (v := .tuple #[.agg #[.int .i64 0, .int .i64 0, .int .i64 0, .int .i64 0, .string { data := #[] }, .slice none 0 0, .slice none 0 0], .bool false, .int .i64 240]) (by simp [results, Try.results57, go_sem, gg0, gg1, gg2, gg3, gg4, gg5, gg6]) rfl (HP.out (rp0) false 240 a (wrap64 (r + 1)) wz (by unfold lookR; rw [HB.out, if_pos rfl]) (by first | (simp; done) | simp [wrap_i64]) (by first | (simp; done) | simp [wrap_i64]) hTZ hFZ)
end Go.Proofs.Ytbgochkmplacaaa
