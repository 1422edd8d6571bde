/- TreeSince, for any arguments. Opening the arguments of the statements: numbers, bytes. A slice that came in is no longer than what a row may hold. Opening the arguments of layer 12's statements: lists of pointers, lists of slots. -/
import Derived.Test.YtkolbijhekbelaaQal
import Derived.Test.YtkolbijhekbelaaQao
import Derived.Test.YtkolbijhekbelaaRows
import Derived.Test.YtkolbijhekbelaaQaa
import Derived.ProofKit
import Derived.OpenShut
import Derived.ChangeOld
import Derived.Deep.Slices
import Derived.SizedLaws
import Derived.Test.YtkolbijhekbelaaQam
import Derived.Lib.SmallJoins
namespace Go.Proofs.Ytkolbijhekbelaa
section
open Go.RowKit Go.Lib
set_option maxRecDepth 100000

theorem addS_len12 (acc : List Sp) (a m : Int) : (addS acc a m).length ≤ acc.length + 1 := by
  rcases List.eq_nil_or_concat acc with rfl | ⟨acc', y, rfl⟩
  · unfold addS; simp
  · rw [List.concat_eq_append, addS_last]; split <;> simp
theorem sinceR_len12 (size txg : Int) : ∀ (l : List P9) (i : Nat) (acc : List Sp), (sinceR size txg i l acc).length ≤ acc.length + l.length
  | [], i, acc => by unfold sinceR; simp
  | p :: l, i, acc => by
    unfold sinceR
    split
    · simp
    · split
      · have := sinceR_len12 size txg l (i + 1) acc; simp only [List.length_cons]; omega
      · have := sinceR_len12 size txg l (i + 1) (addS acc (1024 * (i : Int)) (manyI size i)); have := addS_len12 acc (1024 * (i : Int)) (manyI size i); simp only [List.length_cons]; omega
theorem rowS_set12 : ∀ (l : List Sp) (i : Nat) (z : Sp), i < l.length → ((rowS l).set (i * 2) (.int .i64 z.a)).set (i * 2 + 1) (.int .i64 z.m) = rowS (l.set i z)
  | [], i, z, h => by simp at h
  | y :: l, 0, z, _ => by simp [rowS]
  | y :: l, i + 1, z, h => by
    have ih := rowS_set12 l i z (by simpa using h)
    rw [show (i + 1) * 2 = i * 2 + 2 by omega]
    simp [rowS] at ih ⊢
    exact ih
/-- One element of a list of one's own, another. -/
theorem OwnS.elem12 {w : World} {g n c : Nat} {l : List Sp} (h : OwnS w (some ⟨g, 0, none⟩) n c l) {i : Nat} (hi : i < n) (z : Sp) : OwnS ((w.setCell ⟨g, i * 2, none⟩ (.int .i64 z.a)).setCell ⟨g, i * 2 + 1, none⟩ (.int .i64 z.m)) (some ⟨g, 0, none⟩) n c (l.set i z) := by
  obtain ⟨g', C, hgg, hg, hc, hm, hl, ht⟩ := h.block (by omega)
  cases hgg
  have h1 := heap_setCell_same w g (i * 2) _ _ (.int .i64 z.a) hg
  have h2 := heap_setCell_same _ g (i * 2 + 1) _ _ (.int .i64 z.m) h1
  refine OwnS.of (C := (C.set (i * 2) (.int .i64 z.a)).set (i * 2 + 1) (.int .i64 z.m)) (by rw [h2]; simp) hc hm (by simp [hl]) ?_ (by simp [h.2])
  rw [← rowS_set12 l i z (by rw [h.2]; exact hi), ← ht, List.take_set, List.take_set]
set_option maxHeartbeats 3200000 in
theorem same12_any (p q : Option Addr) (c c' : Nat) (l : List Sp) (n : Nat) (w : World) (h : OwnS w p n c l) (h2 : OwnS w q n c' l) (hl : n ≤ 1954687338212) :
    Calls Try.prog 27 #[.slice p n c, .slice q n c'] w fun e w' => e = .returned (.bool true) ∧ Frm [] w w' := by
  have H1 := hid h
  have H2 := hid h2
  clear h h2
  go_enter Try.func27, Try.ntmps27
  go_wp2_with fail
  go_loopw [5, 4] (fun i s4 wr => ∃ t : Nat, t ≤ n ∧ i = .int .i64 (t : Int) ∧ Hid (Frm [] w wr)) (fun i _ _ => n - (intOf i).toNat)
  case atStart => exact ⟨0, Nat.zero_le _, rfl, hid (Frm.refl _ _)⟩
  case round =>
    obtain ⟨t, ht, rfl, hin⟩ := hrel
    by_cases hlt : t < n
    · have t1 : (t : Int) < (n : Int) := by omega
      obtain ⟨y, hy⟩ : ∃ y, l[t]? = some y := ⟨_, List.getElem?_eq_getElem (by have := H1.out.2; omega)⟩
      obtain ⟨g, hg, y0, y1⟩ := (H1.out.kept hin.out (by simp)).at hy
      obtain ⟨g', hg', z0, z1⟩ := (H2.out.kept hin.out (by simp)).at hy
      subst hg hg'
      clear hy
      go_upto_region 6 with fail
      go_quiet (fail)
      go_wp2_with fail
      go_roundw
      case rel => exact ⟨t + 1, by omega, by go_num, hid (hin.out.drewN _)⟩
      case measure => simp [intOf]; omega
    · obtain rfl : n = t := by omega
      go_wp2_with fail
      first | go_returns | skip
      exact ⟨rfl, hin.out⟩
set_option maxHeartbeats 6400000 in
theorem treesince_any (size txg : Int) (p : Option Addr) (L c : Nat) (l : List P9) (w : World) (hr : Rv w p (rowsP l)) (hL : l.length = L) (hb : L ≤ 1954687338212) (hsz : -9223372036854775808 ≤ size ∧ size ≤ 9223372036854775807) :
    Calls Try.prog 6 #[.int .i64 size, .slice p L c, .int .u64 txg] w fun e w' => e = .returned (.bool true) ∧ Frm [] w w' := by
  obtain ⟨PO, hPO⟩ : ∃ PO : Ending → World → Prop, (fun e w' => e = .returned (.bool true) ∧ Frm [] w w') = PO := ⟨_, rfl⟩
  rw [hPO]
  have HP : Hid (∀ w', Frm [] w w' → PO (.returned (.bool true)) w') := hid (fun w' h => by rw [← hPO]; exact ⟨rfl, h⟩)
  have HR := hid hr
  have HL := hid hL
  have HSZ := hid hsz
  have HAW := hid (awakeT_any w)
  have HSI := hid (fun W (hf : Frm [] w W) => since_any size txg p L c l W (hr.kept hf (by simp)) hL hb hsz)
  have HSR := hid (fun W (hf : Frm [] w W) => refSince_any size txg p L c l W (hr.kept hf (by simp)) hL hb hsz)
  obtain ⟨sl, hsl⟩ : ∃ sl, sinceL size txg l = sl := ⟨_, rfl⟩
  have HLE : Hid (sl.length ≤ L) := hid (by rw [← hsl]; have h2 := sinceR_len12 size txg l 0 []; unfold sinceL; simp only [List.length_nil] at h2; omega)
  have HSL := hid hsl
  clear hr hL hPO hsz hsl
  go_enter Try.func6, Try.ntmps6
  go_wp2_with fail
  refine HAW.out.mono ?_
  rintro e w1 ⟨rfl, hf1⟩
  have HF1 := hid hf1
  clear hf1 HAW
  go_wp2_with fail
  refine (HSI.out _ HF1.out).mono ?_
  rintro e w2 ⟨qa, na, ca, rfl, hoa, hfa, hba⟩
  rw [HSL.out] at hoa
  have HOA := hid hoa
  have HF2 := hid (HF1.out.trans hfa (by simp))
  have HBA : Hid (∀ k ∈ blk qa, w.heap.size ≤ k ∧ k < w2.heap.size) := hid (fun k hk => ⟨Nat.le_trans HF1.out.size (hba k hk), ownsRow_low hoa.1 k hk⟩)
  clear hoa hfa hba
  go_wp2_with fail
  refine (HSR.out _ HF2.out).mono ?_
  rintro e w3 ⟨qb, nb, cb, rfl, hob, hfb, hbb⟩
  rw [HSL.out] at hob
  have HOB := hid hob
  have HF3 := hid (HF2.out.trans hfb (by simp))
  have HOA3 := hid (HOA.out.kept hfb (by simp))
  have HBB := hid hbb
  obtain rfl : nb = na := by rw [← hob.2, HOA.out.2]
  clear hob hfb hbb HSR HOA
  have hnb : nb ≤ L := by rw [← HOB.out.2]; exact HLE.out
  have HSM := hid (same12_any qa qb ca cb sl nb w3 HOA3.out HOB.out (by omega))
  go_wp2_with fail
  refine HSM.out.mono ?_
  rintro e w4 ⟨rfl, hf4⟩
  have HF4 := hid (HF3.out.trans hf4 (by simp))
  have HOA4 := hid (HOA3.out.kept hf4 (by simp))
  have HOB4 := hid (HOB.out.kept hf4 (by simp))
  clear hf4 HSM HOA3 HOB
  go_wp2_with fail
  go_loopw [11] (fun i wr => ∃ (t : Nat) (ks : List Sp), t ≤ nb ∧ i = .int .i64 (t : Int) ∧ Hid (OwnS wr qa nb ca ks ∧ Frm (blk qa) w4 wr)) (fun i _ => nb - (intOf i).toNat)
  case atStart => exact ⟨0, sl, Nat.zero_le _, rfl, hid ⟨HOA4.out, Frm.refl _ _⟩⟩
  case round =>
    obtain ⟨t, ks, ht, rfl, hin⟩ := hrel
    by_cases hlt : t < nb
    · have t1 : (t : Int) < (nb : Int) := by omega
      obtain ⟨y, hy⟩ : ∃ y, ks[t]? = some y := ⟨_, List.getElem?_eq_getElem (by rw [hin.out.1.2]; exact hlt)⟩
      obtain ⟨g, hp2, y0, y1⟩ := hin.out.1.at hy
      subst hp2
      obtain ⟨g', C, hgg, hg, hc, hm, hcl, htk⟩ := hin.out.1.block (by omega)
      cases hgg
      have gs := heap_setCell_same wr g (t * 2) _ _ (.int .i64 (-1)) hg
      have z0 : wr.frozen? ⟨g, t * 2, none⟩ = false := frozen_of_row _ _ _ _ _ hg
      have z1 : wr.frozen? ⟨g, t * 2 + 1, none⟩ = false := frozen_of_row _ _ _ _ _ hg
      have z2 : (wr.setCell ⟨g, t * 2, none⟩ (.int .i64 (-1))).frozen? ⟨g, t * 2 + 1, none⟩ = false := frozen_of_row _ _ _ _ _ gs
      have z3 : (wr.setCell ⟨g, t * 2, none⟩ (.int .i64 (-1))).cell? ⟨g, t * 2 + 1, none⟩ = some (.int .i64 y.m) := by
        rw [cell_of_row _ _ _ _ _ _ hg] at y1
        rw [cell_of_row _ _ _ _ _ _ gs]
        simpa using y1
      have HNX : Hid (OwnS ((wr.setCell ⟨g, t * 2, none⟩ (.int .i64 (-1))).setCell ⟨g, t * 2 + 1, none⟩ (.int .i64 0)) (some ⟨g, 0, none⟩) nb ca (ks.set t ⟨-1, 0⟩) ∧ Frm (blk (some ⟨g, 0, none⟩)) w4 ((wr.setCell ⟨g, t * 2, none⟩ (.int .i64 (-1))).setCell ⟨g, t * 2 + 1, none⟩ (.int .i64 0))) := hid ⟨hin.out.1.elem12 hlt ⟨-1, 0⟩, (hin.out.2.setCell _ _ (by simp [blk])).setCell _ _ (by simp [blk])⟩
      clear hg gs hcl htk hy
      go_wp2_with fail
      go_roundw
      case rel => exact ⟨t + 1, ks.set t ⟨-1, 0⟩, by omega, by go_num, HNX⟩
      case measure => first | (simp [intOf]; done) | (simp [intOf]; omega)
    · obtain rfl : t = nb := by omega
      have HFR : Hid (Frm [] w wr) := hid (HF4.out.trans hin.out.2 (fun k hk hkl => by have := HBA.out k hk; omega))
      have HOBR : Hid (OwnS wr qb t cb sl) := hid (HOB4.out.kept hin.out.2 (fun k hk hk2 => by have := HBA.out k hk2; have := HBB.out k hk; omega))
      clear hin
      go_wp2_with fail
      refine (HSI.out _ HFR.out).mono ?_
      rintro e w6 ⟨qd, nd, cd, rfl, hod, hfd, hbd⟩
      rw [HSL.out] at hod
      obtain rfl : nd = t := by rw [← hod.2, HOBR.out.2]
      have HF6 := hid (HFR.out.trans hfd (by simp))
      have HSM2 := hid (same12_any qd qb cd cb sl nd w6 hod (HOBR.out.kept hfd (by simp)) (by omega))
      clear hod hfd hbd
      go_wp2_with fail
      refine HSM2.out.mono ?_
      rintro e w7 ⟨rfl, hf7⟩
      have HF7 := hid (HF6.out.trans hf7 (by simp))
      clear hf7
      go_wp2_with fail
      first | go_returns | skip
      exact HP.out _ HF7.out
end
section
section
set_option maxRecDepth 100000
open Go.ChangeShapes Go.WideShapes Go.ChangeAt Go.RowKit Go.Deep

theorem own : ownKnob Try.prog.godebug = none := by kernel_rfl
theorem laidOut : laidOutB Try.prog = true := by kernel_rfl
theorem u64_bd {x : Int} (h : (Lit.int .u64 x).wf = true) : 0 ≤ x ∧ x < 18446744073709551616 := by
  simp [Lit.wf, IntKind.min, IntKind.max, IntKind.signed, IntKind.bits] at h; omega
theorem i64_bd {x : Int} (h : (Lit.int .i64 x).wf = true) : -9223372036854775808 ≤ x ∧ x ≤ 9223372036854775807 := by
  simp [Lit.wf, IntKind.min, IntKind.max, IntKind.signed, IntKind.bits] at h; omega
theorem u8_bd {x : Int} (h : (Lit.int .u8 x).wf = true) : 0 ≤ x ∧ x < 256 := by
  simp [Lit.wf, IntKind.min, IntKind.max, IntKind.signed, IntKind.bits] at h; omega
/-- A slice of bytes that came in: the bytes that it shows. -/
def Came (w : World) (p : Option Addr) (len cap : Nat) : Prop := ∃ ns : List Int, ns.length = len ∧ Rd w p ns ∧ (∀ z ∈ ns, 0 ≤ z ∧ z < 256) ∧ (ns = [] → p = none → cap = 0) ∧ len ≤ cap ∧ cap ≤ 9223372036854775807
theorem spot_of_cell {w : World} {x : Addr} {v : Value} (h : w.cell? x = some v) : x.spot = none := by
  unfold World.cell? at h
  split at h
  · by_cases hs : x.spot.isSome = true
    · simp [hs] at h
    · simpa using hs
  · cases h
theorem came_of {w : World} {x : Addr} {len cap : Nat} {zs : List Int} (hl : len ≤ cap) (hm : cap ≤ maxLen) (hz : zs.length = cap) (hcell : ∀ i, i < zs.length → w.cell? (x.add i) = some (.int .u8 (zs.getD i 0))) (hwf : ∀ n ∈ zs, (Lit.int .u8 n).wf = true) : Came w (some x) len cap := by
  refine ⟨zs.take len, by simp; omega, ?_, fun z hz => u8_bd (hwf z (List.mem_of_mem_take hz)), by simp, hl, by unfold maxLen at hm; omega⟩
  by_cases h0 : len = 0
  · exact Or.inl (by simp [h0])
  · have hs : x.spot = none := spot_of_cell (by have := hcell 0 (by omega); simpa [Addr.add] using this)
    obtain ⟨g, o, sp⟩ := x
    simp only at hs
    subst hs
    refine Or.inr ⟨g, o, rfl, fun i hi => ?_⟩
    simp at hi
    have h := hcell i (by omega)
    rw [show (⟨g, o, none⟩ : Addr).add i = ⟨g, o + i, none⟩ by unfold Addr.add; split <;> simp_all] at h
    have h2 : i < zs.length := by omega
    rw [h]; simp [List.getD, hi, h2]
section
variable {H : Type} {enc : TypeId × Value → H} {W : World}
/-- A slice of bytes, wherever it stands. -/
theorem came_cells {fuel : Nat} {cs : List Value} {x : DataW H × List MemPlace} (h : DataW.trod enc Try.prog W 0 (fun _ => true) true fuel 22 cs = some x) :
    ∃ p len cap, cs = [.slice p len cap] ∧ Came W p len cap := by
  rcases open_ints Try.underlying22 Try.underlying5 (by kernel_rfl) h with ⟨hcs, _⟩ | ⟨x, l, c, zs, hcs, _, hl, hm, hz, _, hcell, hwz⟩
  · exact ⟨none, 0, 0, hcs, [], rfl, Or.inl rfl, by simp, fun _ _ => rfl, by omega, by omega⟩
  · exact ⟨some x, l, c, hcs, came_of hl hm (by simpa using hz) hcell hwz⟩
theorem cellsI : Try.prog.cellsOf 3 = 1 := by kernel_rfl
theorem cellsB : Try.prog.cellsOf 22 = 1 := by kernel_rfl
theorem cellsS : Try.prog.cellsOf 9 = 1 := by kernel_rfl
theorem add_of {x : Addr} (hs : x.spot = none) (i : Nat) : x.add i = ⟨x.block, x.off + i, none⟩ := by
  obtain ⟨g, o, sp⟩ := x
  simp only at hs
  subst hs
  unfold Addr.add; split <;> simp_all
end
theorem Came.kept {w w' : World} {p : Option Addr} {len cap : Nat} (h : Came w p len cap) (hf : Frm [] w w') : Came w' p len cap := by
  obtain ⟨ns, h1, h2, h3⟩ := h
  exact ⟨ns, h1, h2.kept hf (by simp), h3⟩
end
section
set_option maxRecDepth 100000
open Go.ChangeShapes Go.WideShapes Go.ChangeAt Go.RowKit Go.Deep

theorem bytesU : Try.prog.bytesOf 5 = 1 := by kernel_rfl
section
variable {H : Type} {enc : TypeId × Value → H} {W : World} {P : Program}
theorem slice_room {t E : TypeId} (ht : P.underlying t = some (.slice E)) {fuel : Nat} {cs : List Value} {x : DataW H × List MemPlace} (h : DataW.trod enc P W 0 (fun _ => true) true fuel t cs = some x) (hw : ∀ n ∈ x.1.weights P t, n ≤ reachBytes) (p : Option Addr) (len cap : Nat) (he : cs = [.slice p len cap]) : len * P.bytesOf E ≤ 140737488351232 := by
  rcases open_slice ht h with ⟨hcs, _⟩ | ⟨a, l, c, m, n, D, Pl, rfl, hb, hl, hm, hmm, rfl, hx⟩
  · rw [hcs] at he
    simp only [List.cons.injEq, Value.slice.injEq, and_true] at he
    obtain ⟨_, rfl, _⟩ := he
    simp
  · simp only [List.cons.injEq, Value.slice.injEq, and_true] at he
    obtain ⟨rfl, rfl, rfl⟩ := he
    have := hw _ (by
      simp only [DataW.weights, ht]
      exact List.mem_cons_self)
    simp only [List.length_map, List.length_range, reachBytes] at this
    refine Nat.le_trans (Nat.mul_le_mul_right _ (Nat.le_add_right l (m - l))) this
theorem mem_all {P : Program} {e : TypeId} {l : List (DataW H)} {d : DataW H} (hd : d ∈ l) {n : Nat} (hn : n ∈ d.weights P e) : n ∈ DataW.weightsAll P e l := by
  induction l with
  | nil => cases hd
  | cons a l ih =>
    simp only [DataW.weightsAll, List.mem_append]
    rcases List.mem_cons.1 hd with rfl | h
    · exact Or.inl hn
    · exact Or.inr (ih h)
theorem came_len {fuel : Nat} {cs : List Value} {x : DataW H × List MemPlace} (h : DataW.trod enc Try.prog W 0 (fun _ => true) true fuel 22 cs = some x) (hw : ∀ n ∈ x.1.weights Try.prog 22, n ≤ reachBytes) (p : Option Addr) (len cap : Nat) (he : cs = [.slice p len cap]) : len ≤ 140737488351232 := by
  rcases open_ints Try.underlying22 Try.underlying5 (by kernel_rfl) h with ⟨hcs, _⟩ | ⟨a, l, c, zs, hcs, _, hl, hm, hz, hxx, _, _⟩
  · rw [hcs] at he
    simp at he
    omega
  · rw [hcs] at he
    simp only [List.cons.injEq, Value.slice.injEq, and_true] at he
    obtain ⟨_, rfl, _⟩ := he
    have := hw ((zs.take l).length + (zs.drop l).length) (by
      rw [hxx]
      simp [DataW.weights, Try.underlying22, bytesU, lits])
    simp only [List.length_take, List.length_drop, reachBytes] at this
    simp only [if_true] at hz
    omega
end
end
end
section
set_option maxRecDepth 100000
open Go.ChangeShapes Go.WideShapes Go.ChangeAt Go.RowKit Go.Joins Go.Deep
section
variable {H : Type} {enc : TypeId × Value → H} {W : World}
theorem cellsPt : Try.prog.cellsOf 40 = 9 := by kernel_rfl
theorem cellsSm : Try.prog.cellsOf 38 = 4 := by kernel_rfl
theorem cellsU8 : Try.prog.cellsOf 36 = 1 := by kernel_rfl
theorem cellsBo : Try.prog.cellsOf 4 = 1 := by kernel_rfl
theorem cellsSlt : Try.prog.cellsOf 48 = 11 := by kernel_rfl
theorem pt_cells {fuel : Nat} {cs : List Value} {x : DataW H × List MemPlace} (h : DataW.trod enc Try.prog W 0 (fun _ => true) true fuel 40 cs = some x) (hlen : cs.length = 9) :
    ∃ p : P9, cs = p.arr.toList ∧ p.ok := by
  obtain ⟨xs, n, _, _, _, hx6, hF⟩ := DataW.trod_struct Try.underlying40 h
  match cs, hlen with
  | [c0, c1, c2, c3, c4, c5, c6, c7, c8], _ =>
    have g0 := hF 0 _ rfl
    have g1 := hF 1 _ rfl
    have g2 := hF 2 _ rfl
    have g3 := hF 3 _ rfl
    have g4 := hF 4 _ rfl
    have g5 := hF 5 _ rfl
    match xs, hx6 with
    | [x0, x1, x2, x3, x4, x5], _ =>
      simp [cellsI, cellsU8, cellsSm] at g0 g1 g2 g3 g4 g5
      obtain ⟨ys, m, _, _, _, hy4, hG⟩ := DataW.trod_struct Try.underlying38 g5
      have k0 := hG 0 _ rfl
      have k1 := hG 1 _ rfl
      have k2 := hG 2 _ rfl
      have k3 := hG 3 _ rfl
      match ys, hy4 with
      | [y0, y1, y2, y3], _ =>
        simp [cellsU8] at k0 k1 k2 k3
        obtain ⟨z0, e0, _, f0⟩ := DataW.trod_int Try.underlying3 g0
        obtain ⟨z1, e1, _, f1⟩ := DataW.trod_int Try.underlying3 g1
        obtain ⟨z2, e2, _, f2⟩ := DataW.trod_int Try.underlying3 g2
        obtain ⟨z3, e3, _, f3⟩ := DataW.trod_int Try.underlying36 g3
        obtain ⟨z4, e4, _, f4⟩ := DataW.trod_int Try.underlying3 g4
        obtain ⟨z5, e5, _, f5⟩ := DataW.trod_int Try.underlying36 k0
        obtain ⟨z6, e6, _, f6⟩ := DataW.trod_int Try.underlying36 k1
        obtain ⟨z7, e7, _, f7⟩ := DataW.trod_int Try.underlying36 k2
        obtain ⟨z8, e8, _, f8⟩ := DataW.trod_int Try.underlying36 k3
        simp only [List.cons.injEq, and_true] at e0 e1 e2 e3 e4 e5 e6 e7 e8
        subst e0 e1 e2 e3 e4 e5 e6 e7 e8
        exact ⟨⟨z0, z1, z2, z3, z4, z5, z6, z7, z8⟩, rfl, u64_bd f3, u64_bd f5, u64_bd f6, u64_bd f7, u64_bd f8⟩
theorem slt_cells {fuel : Nat} {cs : List Value} {x : DataW H × List MemPlace} (h : DataW.trod enc Try.prog W 0 (fun _ => true) true fuel 48 cs = some x) (hlen : cs.length = 11) :
    ∃ s : Sl, cs = s.row ∧ s.root.ok ∧ -9223372036854775808 ≤ s.size ∧ s.size ≤ 9223372036854775807 := by
  obtain ⟨xs, n, _, _, _, hx3, hF⟩ := DataW.trod_struct Try.underlying48 h
  match cs, hlen with
  | [b0, b1, c0, c1, c2, c3, c4, c5, c6, c7, c8], _ =>
    have g0 := hF 0 _ rfl
    have g1 := hF 1 _ rfl
    have g2 := hF 2 _ rfl
    match xs, hx3 with
    | [x0, x1, x2], _ =>
      simp [cellsI, cellsBo, cellsPt] at g0 g1 g2
      obtain ⟨bo, e0, _⟩ := DataW.trod_bool Try.underlying4 g0
      obtain ⟨z1, e1, _, f1⟩ := DataW.trod_int Try.underlying3 g1
      obtain ⟨p, e2, hp⟩ := pt_cells g2 rfl
      obtain ⟨a0, a1, a2, a3, a4, a5, a6, a7, a8⟩ := p
      simp only [P9.arr, List.cons.injEq, and_true] at e0 e1 e2
      obtain ⟨r0, r1, r2, r3, r4, r5, r6, r7, r8⟩ := e2
      subst e0 e1 r0 r1 r2 r3 r4 r5 r6 r7 r8
      exact ⟨⟨bo, z1, ⟨a0, a1, a2, a3, a4, a5, a6, a7, a8⟩⟩, rfl, hp, i64_bd f1⟩
/-- A list of pointers that came in. -/
def CameP9 (w : World) (p : Option Addr) (len cap : Nat) (l : List P9) : Prop :=
  l.length = len ∧ len ≤ cap ∧ cap ≤ 9223372036854775807 ∧ len * 72 ≤ 140737488351232 ∧ (p = none → cap = 0) ∧ Rv w p (rowsP l) ∧ ∀ x ∈ l, x.ok
/-- A list of slots that came in. -/
def CameSl (w : World) (p : Option Addr) (len cap : Nat) (l : List Sl) : Prop :=
  l.length = len ∧ len ≤ cap ∧ cap ≤ 9223372036854775807 ∧ len * 88 ≤ 140737488351232 ∧ (p = none → cap = 0) ∧ Rv w p (rowsSl l) ∧ ∀ x ∈ l, x.root.ok ∧ -9223372036854775808 ≤ x.size ∧ x.size ≤ 9223372036854775807
/-- Rows of one width, laid one behind the other. -/
theorem rows_laid {α : Type} [Inhabited α] (n : Nat) (hn : 0 < n) (row : α → List Value) (rows : List α → List Value) (hrow : ∀ x, (row x).length = n) (hlen : ∀ l, (rows l).length = l.length * n) (hget : ∀ (l : List α) (i : Nat) (v : α), l[i]? = some v → ∀ (j : Nat) (u : Value), (row v)[j]? = some u → (rows l)[i * n + j]? = some u) (ok : α → Prop) (a : Addr) (len : Nat) (each : ∀ i, i < len → ∃ v : α, (∀ j u, (row v)[j]? = some u → W.cell? ((a.add (i * n)).add j) = some u) ∧ ok v) :
    ∃ l : List α, l.length = len ∧ Rv W (some a) (rows l) ∧ ∀ x ∈ l, ok x := by
  obtain ⟨V, hV⟩ := choose_lt (α := α) (p := fun i v => (∀ j u, (row v)[j]? = some u → W.cell? ((a.add (i * n)).add j) = some u) ∧ ok v) each
  refine ⟨(List.range len).map V, by simp, ?_, fun v hv => ?_⟩
  · by_cases h0 : len = 0
    · subst h0; exact Or.inl (by have := hlen []; simpa using this)
    · obtain ⟨u0, hu0⟩ : ∃ u, (row (V 0))[0]? = some u := ⟨_, List.getElem?_eq_getElem (by rw [hrow]; exact hn)⟩
      have hs : a.spot = none := spot_of_cell (by have := (hV 0 (by omega)).1 0 _ hu0; simpa [Addr.add] using this)
      refine Or.inr ⟨a.block, a.off, by obtain ⟨g, o, sp⟩ := a; simp only at hs; subst hs; rfl, fun i u hu => ?_⟩
      have hi := (List.getElem?_eq_some_iff.1 hu).1
      rw [hlen] at hi
      simp only [List.length_map, List.length_range] at hi
      have hq : i / n < len := Nat.div_lt_of_lt_mul (by rw [Nat.mul_comm]; exact hi)
      have hj : i % n < n := Nat.mod_lt _ hn
      have hdm : i / n * n + i % n = i := by rw [Nat.mul_comm]; exact Nat.div_add_mod i n
      obtain ⟨u', hu'⟩ : ∃ u', (row (V (i / n)))[i % n]? = some u' := ⟨_, List.getElem?_eq_getElem (by rw [hrow]; exact hj)⟩
      have h1 := hget ((List.range len).map V) (i / n) (V (i / n)) (by simp [hq]) (i % n) u' hu'
      rw [hdm, hu] at h1
      have h2 := (hV (i / n) hq).1 (i % n) u' hu'
      rw [add_of hs, add_of rfl] at h2
      simp only [Nat.add_assoc] at h2
      rw [hdm] at h2
      rw [h2, h1]
  · obtain ⟨i, hi, rfl⟩ := List.mem_map.1 hv
    exact (hV i (List.mem_range.1 hi)).2
instance : Inhabited P9 := ⟨zero9⟩
instance : Inhabited Sl := ⟨sl0⟩
theorem cameP9_cells {fuel : Nat} {cs : List Value} {x : DataW H × List MemPlace} (h : DataW.trod enc Try.prog W 0 (fun _ => true) true fuel 30 cs = some x) (hw : ∀ n ∈ x.1.weights Try.prog 30, n ≤ reachBytes) :
    ∃ p len cap, cs = [.slice p len cap] ∧ ∃ l, CameP9 W p len cap l := by
  have h' := h
  rcases open_slice Try.underlying30 h with ⟨hcs, _⟩ | ⟨a, len, cap, m, n, D, Pl, rfl, hb0, hl, hm, hmm, hxe, hx⟩
  · exact ⟨none, 0, 0, hcs, [], rfl, by omega, by omega, by omega, fun _ => rfl, Or.inl rfl, by simp⟩
  · simp only [if_true] at hmm
    have hroom := slice_room Try.underlying30 h' hw (some a) len cap rfl
    rw [show Try.prog.bytesOf 40 = 72 by kernel_rfl] at hroom
    obtain ⟨l, h1, h2, h3⟩ := rows_laid (W := W) 9 (by omega) (fun p : P9 => p.arr.toList) rowsP (fun _ => rfl) rowsP_len rowsP_get P9.ok a len (fun i hi => by
      obtain ⟨cs', h1, h2⟩ := hx i (by omega)
      rw [cellsPt] at h1
      obtain ⟨_, hlen, hcell⟩ := World.cells?_some h1
      obtain ⟨y, rfl, hok⟩ := pt_cells h2 hlen
      refine ⟨y, fun k v hv => ?_, hok⟩
      have hk : k < 9 := by have := (List.getElem?_eq_some_iff.1 hv).1; simpa [P9.arr] using this
      rw [hcell k hk]
      exact hv)
    exact ⟨some a, len, cap, rfl, l, h1, hl, by unfold maxLen at hm; omega, hroom, by simp, h2, h3⟩
theorem cameSl_cells {fuel : Nat} {cs : List Value} {x : DataW H × List MemPlace} (h : DataW.trod enc Try.prog W 0 (fun _ => true) true fuel 42 cs = some x) (hw : ∀ n ∈ x.1.weights Try.prog 42, n ≤ reachBytes) :
    ∃ p len cap, cs = [.slice p len cap] ∧ ∃ l, CameSl W p len cap l := by
  have h' := h
  rcases open_slice Try.underlying42 h with ⟨hcs, _⟩ | ⟨a, len, cap, m, n, D, Pl, rfl, hb0, hl, hm, hmm, hxe, hx⟩
  · exact ⟨none, 0, 0, hcs, [], rfl, by omega, by omega, by omega, fun _ => rfl, Or.inl rfl, by simp⟩
  · simp only [if_true] at hmm
    have hroom := slice_room Try.underlying42 h' hw (some a) len cap rfl
    rw [show Try.prog.bytesOf 48 = 88 by kernel_rfl] at hroom
    obtain ⟨l, h1, h2, h3⟩ := rows_laid (W := W) 11 (by omega) Sl.row rowsSl (fun _ => rfl) rowsSl_len rowsSl_get (fun x => x.root.ok ∧ -9223372036854775808 ≤ x.size ∧ x.size ≤ 9223372036854775807) a len (fun i hi => by
      obtain ⟨cs', h1, h2⟩ := hx i (by omega)
      rw [cellsSlt] at h1
      obtain ⟨_, hlen, hcell⟩ := World.cells?_some h1
      obtain ⟨y, rfl, hok⟩ := slt_cells h2 hlen
      refine ⟨y, fun k v hv => ?_, hok⟩
      have hk : k < 11 := by have := (List.getElem?_eq_some_iff.1 hv).1; simpa [Sl.row] using this
      rw [hcell k hk]
      exact hv)
    exact ⟨some a, len, cap, rfl, l, h1, hl, by unfold maxLen at hm; omega, hroom, by simp, h2, h3⟩
end
end
end Go.Proofs.Ytkolbijhekbelaa
