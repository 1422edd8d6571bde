/- The document's helper Copied, of any cells. -/
import Derived.Test.YthifchkeapbfdaaVolBb
namespace Go.Proofs.Ythifchkeapbfdaa
open Go.RowKit
set_option maxRecDepth 100000

def gsay (x : GCell) : Int × Int × Int × List Int := (x.a, x.k, x.b, x.zs)
/-- Cells of one's own, all of them from a block on, the data apart from the row. -/
structure GOwn (lo : Nat) (w : World) (pp : Option Addr) (pc : Nat) (ys : List GCell) : Prop where
  row : w.ownsRow 0 57 4 (.slice pp ys.length pc) ys.length (gRows ys)
  dat : OwnG w ys
  lop : ∀ k ∈ blk pp, lo ≤ k
  lox : ∀ y ∈ ys, ∀ k ∈ blk y.p, lo ≤ k
theorem GOwn.kept {S : List Nat} {lo : Nat} {w w' : World} {pp : Option Addr} {pc : Nat} {ys : List GCell} (h : GOwn lo w pp pc ys) (hf : Frm S w w') (hS : ∀ k ∈ S, k < lo ∨ w.heap.size ≤ k) : GOwn lo w' pp pc ys :=
  ⟨ownsRow_kept h.row hf (fun k hk hs => by have a := h.lop k hk; have b := ownsRow_low h.row k hk; have c := hS k hs; omega),
   fun y hy => (h.dat y hy).kept hf (by rw [own_blk]; intro k hk hs; have a := h.lox y hy k hk; have b := (h.dat y hy).lows k hk; have c := hS k hs; omega), h.lop, h.lox⟩
theorem GOwn.nil (lo : Nat) (w : World) : GOwn lo w none 0 [] := ⟨World.ownsRow_nil w 0 _ 4, fun y hy => absurd hy (by simp), by simp [blk], by simp⟩
theorem GOwn.snoc {lo : Nat} {w w2 : World} {pp p2 : Option Addr} {pc c2 : Nat} {ys : List GCell} {y : GCell} (h : GOwn lo w pp pc ys) (hlo : lo ≤ w.heap.size) (hy : Own w 5 (.slice y.p y.zs.length y.c) y.zs) (hyl : ∀ k ∈ blk y.p, lo ≤ k)
    (ho : w2.ownsRow 0 57 4 (.slice p2 (ys.length + 1) c2) (ys.length + 1) (gRows ys ++ gRow y)) (hf : Frm (blk pp) w w2) (hk : ∀ k ∈ blk p2, k ∈ blk pp ∨ w.heap.size ≤ k) : GOwn lo w2 p2 c2 (ys ++ [y]) := by
  have apart : ∀ x : GCell, Own w 5 (.slice x.p x.zs.length x.c) x.zs → ∀ k ∈ blk x.p, k ∉ blk pp := by
    intro x hx k hk1 hk2
    obtain ⟨p', c', he, _, _, hh, _⟩ := hx.shape
    simp only [Value.slice.injEq] at he
    obtain ⟨he1, _, he3⟩ := he
    cases hp : x.p with
    | none => rw [hp] at hk1; simp [blk] at hk1
    | some a =>
      obtain ⟨h1, h2, _⟩ := hh a (by rw [← he1, hp])
      obtain ⟨ab, ao, as_⟩ := a
      simp only at h1 h2
      subst h1 h2
      rw [hp] at hk1 hx
      simp [blk] at hk1
      subst hk1
      cases hq : pp with
      | none => rw [hq] at hk2; simp [blk] at hk2
      | some q =>
        have hrow := h.row
        rw [hq] at hrow hk2
        simp [blk] at hk2
        rcases hrow.2 with ⟨h0, _⟩ | ⟨g, c, cur, h0, _⟩
        · simp at h0
        · simp only [Value.slice.injEq, Option.some.injEq] at h0
          obtain ⟨rfl, _, _⟩ := h0
          simp at hk2
          exact own_ne hrow hx (by decide) hk2.symm
  refine ⟨by rw [gRows_snoc, List.length_append, List.length_singleton]; exact ho, fun x hx => ?_, fun k hk2 => ?_, fun x hx => ?_⟩
  · rcases List.mem_append.1 hx with hx | hx
    · exact (h.dat x hx).kept hf (by rw [own_blk]; exact apart x (h.dat x hx))
    · simp only [List.mem_singleton] at hx
      subst hx
      exact hy.kept hf (by rw [own_blk]; exact apart x hy)
  · rcases hk k hk2 with h3 | h3
    · exact h.lop k h3
    · omega
  · rcases List.mem_append.1 hx with hx | hx
    · exact h.lox x hx
    · simp only [List.mem_singleton] at hx
      subst hx
      exact hyl
set_option maxHeartbeats 3200000 in
theorem copied_any (W0 w : World) (pp : Option Addr) (n pc : Nat) (xs : List GCell) (hc : CameG W0 pp n pc xs) (hW : Frm [] W0 w) :
    Calls Try.prog 9 #[.slice pp n pc] w fun e w' => ∃ qq m qc ys, e = .returned (.slice qq m qc) ∧ Hid (m = ys.length) ∧ ys.map gsay = xs.map gsay ∧ GOwn w.heap.size w' qq qc ys ∧ Frm [] w w' := by
  obtain ⟨hxl, hnc, hcb, hnb, hat, hok⟩ := hc
  have HXL := hid hxl
  have HAT := hid hat
  have HOK := hid hok
  have HW := hid hW
  clear hxl hat hok hW
  go_enter Try.func9, Try.ntmps9
  go_wp2_with fail
  go_loopw [3, 4] (fun v i wr => ∃ (t : Nat) (qq : Option Addr) (qc : Nat) (ys : List GCell), t ≤ n ∧ i = .int .i64 t ∧ v = .slice qq t qc ∧ Hid (ys.length = t) ∧ Hid (ys.map gsay = (xs.take t).map gsay) ∧ Hid (GOwn w.heap.size wr qq qc ys) ∧ Hid (Frm [] w wr)) (fun _ i _ => n - (intOf i).toNat)
  case atStart => exact ⟨0, none, 0, [], Nat.zero_le _, rfl, rfl, hid rfl, hid (by simp), hid (GOwn.nil _ _), hid (Frm.refl _ _)⟩
  case round =>
    obtain ⟨t, qq, qc, ys, ht, rfl, rfl, hyl, hys, hg, hf⟩ := hrel
    by_cases hlt : t < n
    · obtain ⟨g, o, rfl, hall⟩ : ∃ g o, pp = some ⟨g, o, none⟩ ∧ ∀ i (h : i < xs.length), GAt W0 g (o + i * 4) xs[i] := by
        rcases HAT.out with h | h
        · omega
        · exact h
      have hxt : t < xs.length := by rw [HXL.out]; exact hlt
      have hat := (hall t hxt).kept (HW.out.trans hf.out (by simp))
      obtain ⟨_, _, _, hr, hb, hpc, hzl⟩ := HOK.out xs[t] (List.getElem_mem hxt)
      obtain ⟨x, hx⟩ : ∃ x, xs[t] = x := ⟨_, rfl⟩
      rw [hx] at hat hr hb hpc hzl
      have HX := hid hx
      obtain ⟨k0, k1, k2, k3⟩ := hat
      obtain ⟨nz, hnz⟩ : ∃ nz, x.zs.length = nz := ⟨_, rfl⟩
      rw [hnz] at k3 hzl
      have HNZ := hid hnz
      have HR := hid hr
      have HPC := hid hpc
      have t0 : (0 : Int) ≤ (t : Int) := by omega
      have t1 : (t : Int) < (n : Int) := by omega
      have hfa : Frm [] wr (wr.alloc (.cells #[.int .i64 x.a, .int .i64 x.k, .int .i64 x.b, .slice x.p nz x.c] 57)) := (Frm.refl _ _).alloc _
      have HRA := hid ((hr.kept (HW.out.trans hf.out (by simp)) (by simp)).kept hfa (by simp))
      clear hall hx hnz hr hb hpc
      go_wp2_with (at_builtin; refine wpList_appB rfl _ _ 44 rfl 5 Try.underlying44 infoB none 0 0 [] rfl rfl (Own.nil _ _) x.p nz x.c x.zs rfl HNZ.out.symm HPC.out HRA.out (by rw [HNZ.out]; simp; omega) ?_)
      intro zs p2 c2 w2 hzs ho2 hf2 hk2
      have hz : zs = x.zs := by rw [hzs.out]
      subst hz
      rw [HNZ.out] at ho2 ⊢
      have hf2' : Frm [] (wr.alloc (.cells #[.int .i64 x.a, .int .i64 x.k, .int .i64 x.b, .slice x.p nz x.c] 57)) w2 := hf2.out
      have hh : w2.heap[wr.heap.size]? = some (.cells #[.int .i64 x.a, .int .i64 x.k, .int .i64 x.b, .slice x.p nz x.c] 57 (0, 0)) := hf2'.heap (heap_alloc_new _ _) (by simp)
      obtain ⟨bx, hbx⟩ : ∃ bx, wr.heap.size = bx := ⟨_, rfl⟩
      have hp2 : ∀ k ∈ blk p2, bx < k := fun k hk => by
        rcases hk2.out k hk with h | h
        · simp [blk] at h
        · omega
      rw [hbx] at hh ⊢
      have d0 : w2.cell? ⟨bx, 0, none⟩ = some (.int .i64 x.a) := by rw [cell_of_row _ _ _ _ _ _ hh]; rfl
      have d1 : w2.cell? ⟨bx, 1, none⟩ = some (.int .i64 x.k) := by rw [cell_of_row _ _ _ _ _ _ hh]; rfl
      have d2 : w2.cell? ⟨bx, 2, none⟩ = some (.int .i64 x.b) := by rw [cell_of_row _ _ _ _ _ _ hh]; rfl
      have d3 : w2.cell? ⟨bx, 3, none⟩ = some (.slice x.p nz x.c) := by rw [cell_of_row _ _ _ _ _ _ hh]; rfl
      have f3 := frozen_of_row w2 bx 3 _ _ hh
      have hfs : Frm [bx] w2 ((w2.setCell ⟨bx, 3, none⟩ (.slice p2 nz c2)).alloc (.cells #[.int .i64 x.a, .int .i64 x.k, .int .i64 x.b, .slice p2 nz c2] 57)) := ((Frm.refl [bx] w2).setCell _ _ (by simp)).alloc _
      have hfw : Frm [bx] wr ((w2.setCell ⟨bx, 3, none⟩ (.slice p2 nz c2)).alloc (.cells #[.int .i64 x.a, .int .i64 x.k, .int .i64 x.b, .slice p2 nz c2] 57)) := ((hfa.trans hf2' (by simp)).mono (by simp)).trans hfs (fun i hi _ => hi)
      have HG4 := hid (hg.out.kept hfw (fun k hk => by simp at hk; omega))
      have HF4 := hid (hf.out.trans hfw (fun i hi hlt => by simp at hi; have := hf.out.size; omega))
      have HO4 := hid (ho2.out.kept hfs (by rw [own_blk]; intro k hk h; simp at h; have := hp2 k hk; omega))
      have hss : (w2.setCell ⟨bx, 3, none⟩ (.slice p2 nz c2)).heap.size = w2.heap.size := by simp [World.setCell]
      have hrv := rv_block (heap_alloc_new (w2.setCell ⟨bx, 3, none⟩ (.slice p2 nz c2)) (.cells #[.int .i64 x.a, .int .i64 x.k, .int .i64 x.b, .slice p2 nz c2] 57))
      rw [hss] at hrv
      have HRV := hid hrv
      have hs2 : wr.heap.size + 1 ≤ w2.heap.size := by have := hf2'.size; simp at this; omega
      have HLO : Hid (w.heap.size ≤ bx) := hid (by have := hf.out.size; omega)
      have HP2 := hid hp2
      have HSZ : Hid (w.heap.size ≤ ((w2.setCell ⟨bx, 3, none⟩ (.slice p2 nz c2)).alloc (.cells #[.int .i64 x.a, .int .i64 x.k, .int .i64 x.b, .slice p2 nz c2] 57)).heap.size) := hid (by have := hf.out.size; simp; omega)
      have HYL := hid hyl.out
      clear hss hrv hs2 hh hbx hp2 hfs hfw hfa hf2' hzs ho2 hf2 hk2 k0 k1 k2 k3
      have hrw := HG4.out.row
      rw [hyl.out] at hrw
      have HRW := hid hrw
      clear hrw
      go_wp2_with (at_builtin; refine wpList_appV rfl _ _ 36 rfl 57 4 48 _ Try.underlying36 infoCell rfl (by decide) qq t qc (gRows ys) rfl HRW.out (some ⟨w2.heap.size, 0, none⟩) 1 1 [.int .i64 x.a, .int .i64 x.k, .int .i64 x.b, .slice p2 nz c2] rfl rfl (by simp) HRV.out (by intro u hu; simp at hu; rcases hu with rfl | rfl | rfl | rfl <;> rfl) (by unfold maxLen; omega) (by omega) ?_)
      intro p6 c6 w6 ho6 hf6 hk6
      have hsn := HG4.out.snoc (y := ⟨x.a, x.k, x.b, p2, c2, x.zs⟩) HSZ.out (by show Own _ _ (.slice p2 x.zs.length c2) x.zs; rw [HNZ.out]; exact HO4.out) (fun k hk => by have := HP2.out k hk; have := HLO.out; omega) (by rw [show gRow ⟨x.a, x.k, x.b, p2, c2, x.zs⟩ = [.int .i64 x.a, .int .i64 x.k, .int .i64 x.b, .slice p2 nz c2] by simp [gRow, HNZ.out], hyl.out]; exact ho6.out) hf6.out (fun k hk => by have := hk6.out k hk; simpa using this)
      have HG6 := hid hsn
      have HF6 : Hid (Frm [] w w6) := hid (HF4.out.trans hf6.out (fun i hi hlt => by have := HG4.out.lop i hi; omega))
      have HY6 : Hid ((ys ++ [(⟨x.a, x.k, x.b, p2, c2, x.zs⟩ : GCell)]).map gsay = (xs.take (t + 1)).map gsay) := hid (by
        rw [List.take_succ_eq_append_getElem hxt, List.map_append, List.map_append, hys.out, HX.out]
        rfl)
      have HL6 : Hid ((ys ++ [(⟨x.a, x.k, x.b, p2, c2, x.zs⟩ : GCell)]).length = t + 1) := hid (by rw [List.length_append, hyl.out]; rfl)
      clear hsn ho6 hf6 hk6 d0 d1 d2 d3 f3
      go_wp2_with fail
      go_roundw
      case rel => exact ⟨t + 1, p6, c6, _, by omega, by go_num, rfl, HL6, HY6, HG6, HF6⟩
      case measure => simp [intOf]; omega
    · obtain rfl : t = n := by omega
      have HYS : Hid (ys.map gsay = xs.map gsay) := hid (by have h := hys.out; rwa [List.take_of_length_le (by rw [HXL.out]; omega)] at h)
      clear hlt
      go_wp2_with fail
      go_returns
      exact ⟨qq, t, qc, ys, rfl, hid hyl.out.symm, HYS.out, hg.out, hf.out⟩
end Go.Proofs.Ythifchkeapbfdaa
