/- The document's Decode of a label. The law PtrReads. -/
import Derived.Test.YtdnnbinmippkdaaDoorPtrBu
import Derived.Test.YtdnnbinmippkdaaDoorPtrBo
import Derived.Test.YtdnnbinmippkdaaDoorPtrW
import Derived.Test.YtdnnbinmippkdaaDoorHeldT
import Derived.Test.YtdnnbinmippkdaaDoorPtrAc
import Derived.Test.YtdnnbinmippkdaaDoorPtrY
import Derived.Deep.DeepCutAuto
namespace Go.Proofs.YtdnnbinmippkdaaDoor
section
open Go.RowKit
set_option maxRecDepth 100000

theorem step_appE {P : Program} {w : World} {ops : Array Oper} {o : Oper} {a : Act} {K : Act → World → Prop} {Q : Exit → Act → World → Prop} {Zz : Prop} (hgd : o.guard = none) (s x : Operand) (t : TypeId)
    (ho : o.op = .call { callee := .builtin .append, args := #[s, x], argTypes := #[t, t] })
    (E : TypeId) (sz bytes : Nat) (z : Value) (ht : P.underlying t = some (.slice E)) (hI : (P.info? E).map (fun i => (i.zero, i.size, i.bytes)) = some (some z, sz, bytes)) (hzs : z.cells.size = sz) (hsz : 0 < sz)
    (p0 : Option Addr) (n c0 : Nat) (xs : List Value) (hs : a.eval s = .slice p0 n c0) (hown : w.ownsRow 0 E sz (.slice p0 n c0) n xs)
    (p : Option Addr) (m c : Nat) (ns : List Value) (hx : a.eval x = .slice p m c) (hnl : ns.length = m * sz) (hp : m = 0 → p = none → c = 0) (hrd : Rv w p ns) (h1 : ∀ u ∈ ns, u.oneCell' = true)
    (hmax : n + m ≤ maxLen) (hb : (n + m) * bytes ≤ 140737488355328)
    (h : ∀ p2 c2 w', Hid (w'.ownsRow 0 E sz (.slice p2 (n + m) c2) (n + m) (xs ++ ns)) → Hid (Frm (blk p0) w w') → Hid (∀ k ∈ blk p2, k ∈ blk p0 ∨ w.heap.size ≤ k) → K (a.put o.dst (.slice p2 (n + m) c2)) w') :
    if Region.wanted o (yielded ops a.tmps) = true then Oper.wp P o a w K Q else Zz := by
  have hw : Region.wanted o (yielded ops a.tmps) = true := by simp [Region.wanted, hgd]
  rw [if_pos hw]
  obtain ⟨v', w', hrun, h2, h3, h4⟩ := run_appV (P := P) (w := w) t o.type E sz bytes z ht hI hzs hsz _ n xs hown p m c ns hnl hp hrd h1 hmax hb
  obtain ⟨p2, c2, rfl⟩ := ownsRow_shape h2
  rw [own_blk] at h4
  rw [own_blk] at h3 h4
  unfold Oper.wp
  simp [execOp, ho, resolve, invoke, builtin, hs, hx, hrun, Result.andThen]
  exact h p2 c2 w' h2 h3 h4
theorem lab_take (bs : List Int) (h : manyL bs ≤ 4) : manyL (bs.take 96) = manyL bs ∧ lettersL (bs.take 96) = lettersL bs ∧ labAt (bs.take 96) none 0 = labAt bs none 0 := by
  have e1 : manyL (bs.take 96) = manyL bs := by unfold manyL; rw [valAt_take bs 96 14 1 (by omega)]
  have e2 : lettersL (bs.take 96) = lettersL bs := by unfold lettersL; rw [List.take_take]; rfl
  have e3 : topsAt (bs.take 96) (manyL bs) = topsAt bs (manyL bs) := by
    unfold topsAt
    apply List.map_congr_left
    intro i hi
    rw [List.mem_range] at hi
    unfold rdTop
    rw [valAt_take bs 96 _ 1 (by omega), valAt_take bs 96 _ 1 (by omega), valAt_take bs 96 _ 4 (by omega)]
  refine ⟨e1, e2, ?_⟩
  unfold labAt
  rw [e1, e3, valAt_take bs 96 4 8 (by omega), valAt_take bs 96 12 1 (by omega), valAt_take bs 96 13 1 (by omega)]
theorem decL_ref {bs : List Int} (h128 : bs.length = 128) : (¬ (manyL bs ≤ 4 ∧ formedB bs [85, 67, 76, 66] (15 + 6 * manyL bs) = true) → decL bs = (zeroL, 43)) ∧ (manyL bs ≤ 4 → formedB bs [85, 67, 76, 66] (15 + 6 * manyL bs) = true → (checkL (labAt bs none 0) = 0 → decL bs = (labAt bs none 0, 0)) ∧ (checkL (labAt bs none 0) ≠ 0 → decL bs = (zeroL, checkL (labAt bs none 0)))) := by
  have hall : manyL bs ≤ 4 → ((bs.take 96).drop (15 + 6 * manyL bs)).all (· == 0) = noughtB bs (15 + 6 * manyL bs) 96 := fun h => take_noughts bs _ 96 (by omega)
  have e1 : manyL (bs.take 96) = manyL bs := by unfold manyL; rw [valAt_take bs 96 14 1 (by omega)]
  have e2 : lettersL (bs.take 96) = lettersL bs := by unfold lettersL; rw [List.take_take]; rfl
  have ef : formedB bs [85, 67, 76, 66] (15 + 6 * manyL bs) = (lettersL bs && (noughtB bs (15 + 6 * manyL bs) 96 && sumOk bs)) := by unfold formedB; rw [decide_eq_true h128]; rfl
  have ed : decL bs = if sumOk bs = false then (zeroL, 43) else decBL (bs.take 96) := by unfold decL; rw [if_neg (by omega)]
  rw [ef, ed]
  constructor
  · intro h
    by_cases h1 : sumOk bs = false
    · rw [if_pos h1]
    · rw [if_neg h1]
      have h1' : sumOk bs = true := by simpa using h1
      unfold decBL okL
      rw [e1, e2]
      by_cases h2 : (lettersL bs && decide (manyL bs ≤ 4)) = false
      · rw [if_pos h2]
      · rw [if_neg h2]
        have h2' : lettersL bs = true ∧ manyL bs ≤ 4 := by simpa using h2
        rw [hall h2'.2]
        by_cases h3 : noughtB bs (15 + 6 * manyL bs) 96 = false
        · rw [if_pos h3]
        · exact absurd ⟨h2'.2, by rw [h2'.1, h1']; simpa using h3⟩ h
  · intro h h'
    simp only [Bool.and_eq_true] at h'
    obtain ⟨h1, h2, h3⟩ := h'
    obtain ⟨_, _, e3⟩ := lab_take bs h
    rw [if_neg (by rw [h3]; simp)]
    unfold decBL okL
    rw [e1, e2, h1, decide_eq_true h, hall h, h2, e3, if_neg (by simp), if_neg (by simp)]
    exact ⟨fun hc => by rw [if_pos hc], fun hc => by rw [if_neg hc]⟩
/-- In the midst of the tops. -/
structure RL (w1 W : World) (bs : List Int) (lb : Nat) (pool top place : Int) (p : Option Addr) (c t : Nat) : Prop where
  vr : W.heap[lb]? = some (.cells #[.int .u64 pool, .slice p t c, .int .i64 top, .int .i64 place] 37 (0, 0))
  own : W.ownsRow 0 39 3 (.slice p t c) t (spT (topsAt bs t))
  new : ∀ k ∈ blk p, lb < k
  fr : Frm [] w1 W
  hl : w1.heap.size ≤ lb
set_option maxHeartbeats 6400000 in
theorem refDecodeL_any (p : Option Addr) (n c : Nat) (bs : List Int) (w : World) (hn : bs.length = n) (hc : n ≤ c) (hrd : Rd w p bs) (hb : ∀ z ∈ bs, 0 ≤ z ∧ z < 256) (hmx : n ≤ 140737488355328) :
    Calls Tryd.prog 27 #[.slice p n c] w (DecA w (decL bs)) := by
  have hrow := heap_alloc_new w (.cells #[.int .u64 0, .slice none 0 0, .int .i64 0, .int .i64 0] 37)
  have hfa : Frm [] w (w.alloc (.cells #[.int .u64 0, .slice none 0 0, .int .i64 0, .int .i64 0] 37)) := (Frm.refl _ _).alloc _
  obtain ⟨rb, hrb⟩ : ∃ rb, w.heap.size = rb := ⟨_, rfl⟩
  obtain ⟨wa, hwa⟩ : ∃ wa, w.alloc (.cells #[.int .u64 0, .slice none 0 0, .int .i64 0, .int .i64 0] 37) = wa := ⟨_, rfl⟩
  rw [hwa] at hfa
  rw [hwa, hrb] at hrow
  have HRB := hid hrb
  have HROW := hid hrow
  have HFA := hid hfa
  have hrda := hrd.kept hfa (by simp)
  clear hrow hfa hrd
  obtain ⟨R, hR⟩ : ∃ R, decL bs = R := ⟨_, rfl⟩
  have HD := decL_ref (bs := bs)
  have hd128 : bs.length ≠ 128 → decL bs = (zeroL, 43) := fun h => by unfold decL; rw [if_pos h]
  rw [hR] at HD hd128 ⊢
  obtain ⟨PO, hPO⟩ : ∃ PO, DecA w R = PO := ⟨_, rfl⟩
  rw [hPO]
  have HPO := hid hPO
  clear hR hPO
  by_cases h128 : n = 128
  case neg =>
    have hne : ((n : Int) != 128) = true := by simp; omega
    have HR := hid (hd128 (by omega))
    clear HD hd128 hrda hb hn
    go_enter Tryd.func27, Tryd.ntmps27
    obtain ⟨y0, y1, y2, y3⟩ := lb_row (l := zeroL) HROW.out
    obtain ⟨z0, z1, z2, z3⟩ := lb_froz (l := zeroL) HROW.out
    go_wp2_with fail
    show bodyPost _ _ _ _ _ (st4 wa rb zeroL)
    obtain ⟨h9, f9⟩ := st4_row zeroL zeroL HROW.out
    obtain ⟨wz, hwz⟩ : ∃ wz, st4 wa rb zeroL = wz := ⟨_, rfl⟩
    rw [hwz] at h9 f9 ⊢
    obtain ⟨g0, g1, g2, g3⟩ := lb_row (l := zeroL) h9
    unfold zeroL at g0 g1 g2 g3
    clear hwz
    have hfz : Frm [] w wz := (HFA.out).trans f9 (fun i hi hl => by simp at hi; have := HRB.out; omega)
    exact bodyPost_ret (v := .tuple #[.agg #[.int .u64 0, .slice none 0 0, .int .i64 0, .int .i64 0], .int .i64 43]) (by simp [results, Tryd.results27, go_sem, g0, g1, g2, g3]) rfl (by rw [← HPO.out]; rw [HR.out]; exact ⟨zeroL, rfl, zeroL_ok wz, ⟨rfl, rfl, rfl, rfl, rfl⟩, by simp [zeroL, blk], hfz⟩)
  subst h128
  obtain ⟨hd0, hd1⟩ := HD hn
  rcases hrda with rfl | ⟨b0, o0, rfl, hcell⟩
  · simp at hn
  have hrda : Rd wa (some ⟨b0, o0, none⟩) bs := Or.inr ⟨b0, o0, rfl, hcell⟩
  have HRDA := hid hrda
  have HCE := hid hcell
  have c12 := hcell 12 (by omega)
  have c13 := hcell 13 (by omega)
  have c14 := hcell 14 (by omega)
  rw [← valAt_one bs 12 (by omega)] at c12
  rw [← valAt_one bs 13 (by omega)] at c13
  rw [← valAt_one bs 14 (by omega)] at c14
  obtain ⟨a0, b0'⟩ := valAt_bd hb 4 8 (by omega)
  obtain ⟨a1, b1'⟩ := valAt_bd hb 12 1 (by omega)
  obtain ⟨a2, b2'⟩ := valAt_bd hb 13 1 (by omega)
  obtain ⟨a3, b3'⟩ := valAt_bd hb 14 1 (by omega)
  simp only [Nat.reduceMul, Int.reducePow] at b0' b1' b2' b3'
  have hm14 : valAt bs 14 1 = (manyL bs : Int) := by unfold manyL; omega
  have HFO := hid (fun h => refFormed_any (some ⟨b0, o0, none⟩) 128 c bs wa hn hc hrda hb ⟨#[85, 67, 76, 66]⟩ [85, 67, 76, 66] (by decide) (by kernel_rfl) (15 + 6 * manyL bs) h hmx)
  rw [show ((15 + 6 * manyL bs : Nat) : Int) = 15 + 6 * (manyL bs : Int) by omega] at HFO
  have H1' := fun W (hW : Frm [] wa W) => refAt_any (some ⟨b0, o0, none⟩) 128 c bs W hn (hrda.kept hW (by simp)) hb 4 8 (by omega) (by omega) hmx
  simp only [Int.cast_ofNat_Int] at H1'
  have hLA : ∀ p c, labAt bs p c = ⟨valAt bs 4 8, p, manyL bs, c, valAt bs 12 1, valAt bs 13 1, topsAt bs (manyL bs)⟩ := fun _ _ => rfl
  have hCL : ∀ p c, checkL (labAt bs p c) = checkL (labAt bs none 0) := fun _ _ => rfl
  have hSM : ∀ p c, (labAt bs p c).same (labAt bs none 0) := fun _ _ => ⟨rfl, rfl, rfl, rfl, rfl⟩
  obtain ⟨v0, e0⟩ : ∃ v, valAt bs 4 8 = v := ⟨_, rfl⟩
  obtain ⟨v1, e1⟩ : ∃ v, valAt bs 12 1 = v := ⟨_, rfl⟩
  obtain ⟨v2, e2⟩ : ∃ v, valAt bs 13 1 = v := ⟨_, rfl⟩
  obtain ⟨m, em⟩ : ∃ m, manyL bs = m := ⟨_, rfl⟩
  obtain ⟨O, hO⟩ : ∃ O, formedB bs [85, 67, 76, 66] (15 + 6 * m) = O := ⟨_, rfl⟩
  obtain ⟨L0, hL0⟩ : ∃ L, labAt bs none 0 = L := ⟨_, rfl⟩
  obtain ⟨C, hC⟩ : ∃ C, checkL L0 = C := ⟨_, rfl⟩
  rw [hm14] at c14 a3 b3'
  rw [em] at c14 a3 b3' HFO hd0 hd1
  simp only [em, e0, e1, e2] at hLA
  rw [hO] at HFO hd0 hd1
  rw [e0] at H1' a0 b0'
  rw [e1] at c12 a1 b1'
  rw [e2] at c13 a2 b2'
  rw [hL0] at hd1
  simp only [hL0] at hCL hSM
  rw [hC] at hd1
  simp only [hC] at hCL
  have HLA := hid hLA
  have HCL := hid hCL
  have HSM := hid hSM
  have H1 := hid H1'
  have HD0 := hid hd0
  have HD1 := hid hd1
  have HB := hid hb
  have HN := hid hn
  have hm256 : (m : Int) < 256 := b3'
  clear hd0 hd1 H1' hcell hrda e0 e1 e2 em hO hL0 hC hm14 a3 b3' HD hd128 hLA hCL hSM hb hn
  by_cases hm4 : m ≤ 4
  case neg =>
    have g4 : ¬ (m : Int) ≤ 4 := by omega
    have HR := hid (HD0.out (fun h => hm4 h.1))
    clear HD0 HD1 hm4
    go_enter Tryd.func27, Tryd.ntmps27
    obtain ⟨y0, y1, y2, y3⟩ := lb_row (l := zeroL) HROW.out
    obtain ⟨z0, z1, z2, z3⟩ := lb_froz (l := zeroL) HROW.out
    go_wp2_with fail
    show bodyPost _ _ _ _ _ (st4 wa rb zeroL)
    obtain ⟨h9, f9⟩ := st4_row zeroL zeroL HROW.out
    obtain ⟨wz, hwz⟩ : ∃ wz, st4 wa rb zeroL = wz := ⟨_, rfl⟩
    rw [hwz] at h9 f9 ⊢
    obtain ⟨g0, g1, g2, g3⟩ := lb_row (l := zeroL) h9
    unfold zeroL at g0 g1 g2 g3
    clear hwz
    have hfz : Frm [] w wz := (HFA.out).trans f9 (fun i hi hl => by simp at hi; have := HRB.out; omega)
    exact bodyPost_ret (v := .tuple #[.agg #[.int .u64 0, .slice none 0 0, .int .i64 0, .int .i64 0], .int .i64 43]) (by simp [results, Tryd.results27, go_sem, g0, g1, g2, g3]) rfl (by rw [← HPO.out]; rw [HR.out]; exact ⟨zeroL, rfl, zeroL_ok wz, ⟨rfl, rfl, rfl, rfl, rfl⟩, by simp [zeroL, blk], hfz⟩)
  have g4 : (m : Int) ≤ 4 := by omega
  have HFO2 := hid (HFO.out (by omega))
  clear HFO
  go_enter Tryd.func27, Tryd.ntmps27
  go_wp2_with fail
  refine HFO2.out.mono ?_
  rintro e w1 ⟨rfl, hf⟩
  have HR1 := hid (hf.heap HROW.out (by simp))
  have HW1 := hid hf
  have q12 := (hf.cell (p := ⟨b0, o0 + 12, none⟩) (World.block_lt_of_cell? wa _ c12) (by simp)).trans c12
  have q13 := (hf.cell (p := ⟨b0, o0 + 13, none⟩) (World.block_lt_of_cell? wa _ c13) (by simp)).trans c13
  clear hf hwa hrb HROW HFO2 c12 c13 c14
  cases O
  case false =>
    have HR := hid (HD0.out (fun h => Bool.noConfusion h.2))
    have HF1 := hid (HFA.out.trans HW1.out (by simp))
    clear HD0 HD1
    obtain ⟨y0, y1, y2, y3⟩ := lb_row (l := zeroL) HR1.out
    obtain ⟨z0, z1, z2, z3⟩ := lb_froz (l := zeroL) HR1.out
    go_wp2_with fail
    show bodyPost _ _ _ _ _ (st4 w1 rb zeroL)
    obtain ⟨h9, f9⟩ := st4_row zeroL zeroL HR1.out
    obtain ⟨wz, hwz⟩ : ∃ wz, st4 w1 rb zeroL = wz := ⟨_, rfl⟩
    rw [hwz] at h9 f9 ⊢
    obtain ⟨g0, g1, g2, g3⟩ := lb_row (l := zeroL) h9
    unfold zeroL at g0 g1 g2 g3
    clear hwz
    have hfz : Frm [] w wz := (HF1.out).trans f9 (fun i hi hl => by simp at hi; have := HRB.out; omega)
    exact bodyPost_ret (v := .tuple #[.agg #[.int .u64 0, .slice none 0 0, .int .i64 0, .int .i64 0], .int .i64 43]) (by simp [results, Tryd.results27, go_sem, g0, g1, g2, g3]) rfl (by rw [← HPO.out]; rw [HR.out]; exact ⟨zeroL, rfl, zeroL_ok wz, ⟨rfl, rfl, rfl, rfl, rfl⟩, by simp [zeroL, blk], hfz⟩)
  have HD2 := hid (HD1.out hm4 rfl)
  clear HD0 HD1
  have HKS : Hid (∀ W W' : World, (W.cell? ⟨b0, o0 + 12, none⟩ = some (.int .u8 v1) ∧ W.cell? ⟨b0, o0 + 13, none⟩ = some (.int .u8 v2) ∧ Frm [] w1 W) → Frm [] W W' → (W'.cell? ⟨b0, o0 + 12, none⟩ = some (.int .u8 v1) ∧ W'.cell? ⟨b0, o0 + 13, none⟩ = some (.int .u8 v2) ∧ Frm [] w1 W')) := hid (fun W W' h hf => ⟨(hf.cell (p := ⟨b0, o0 + 12, none⟩) (World.block_lt_of_cell? W _ h.1) (by simp)).trans h.1, (hf.cell (p := ⟨b0, o0 + 13, none⟩) (World.block_lt_of_cell? W _ h.2.1) (by simp)).trans h.2.1, h.2.2.trans hf (by simp)⟩)
  have HSW : Hid (∀ W : World, (W.cell? ⟨b0, o0 + 12, none⟩ = some (.int .u8 v1) ∧ W.cell? ⟨b0, o0 + 13, none⟩ = some (.int .u8 v2) ∧ Frm [] w1 W) → Frm [] wa W) := hid (fun W h => HW1.out.trans h.2.2 (by simp))
  have HFD : Hid (Frm [] w1 w1.drew) := hid (Frm.refl _ _).drew
  have HS0 : Hid ((w1.drew.cell? ⟨b0, o0 + 12, none⟩ = some (.int .u8 v1) ∧ w1.drew.cell? ⟨b0, o0 + 13, none⟩ = some (.int .u8 v2) ∧ Frm [] w1 w1.drew)) := hid ⟨q12, q13, HFD.out⟩
  have HFZ : Hid (Frm [] w1.drew (w1.alloc (.cells #[.int .u64 0, .slice none 0 0, .int .i64 0, .int .i64 0] 37)).drew) := hid (((Frm.refl [] w1.drew).alloc (.cells #[.int .u64 0, .slice none 0 0, .int .i64 0, .int .i64 0] 37)) : Frm [] w1.drew (w1.drew.alloc (.cells #[.int .u64 0, .slice none 0 0, .int .i64 0, .int .i64 0] 37)))
  have HSZ := hid (HKS.out _ _ HS0.out HFZ.out)
  have HLT : Hid (rb < w1.heap.size) := hid (lt_of_heap HR1.out)
  have hv1 : IntKind.i64.wrap v1 = v1 := IntWalk.i64_in v1 (by omega)
  have hv2 : IntKind.i64.wrap v2 = v2 := IntWalk.i64_in v2 (by omega)
  have HV12 := hid (And.intro hv1 hv2)
  clear hv1 hv2
  go_upto_region 7 with fail
  go_cut [6] (fun s wx => ∃ lb, s = .pointer (some ⟨lb, 0, none⟩) ∧ Hid (RL w1 wx bs lb v0 v1 v2 none 0 0) ∧ Hid (rb < lb))
  case first =>
    go_region_held3 (fun w' => (w'.cell? ⟨b0, o0 + 12, none⟩ = some (.int .u8 v1) ∧ w'.cell? ⟨b0, o0 + 13, none⟩ = some (.int .u8 v2) ∧ Frm [] w1 w')) (first | (with_reducible exact HS0.out) | (with_reducible exact HSZ.out) | (exact HKS.out _ _ HS0.out (((Frm.refl [] w1.drew).alloc _) : Frm [] w1.drew (w1.drew.alloc _)))) (first | ((with_reducible refine (H1.out _ (HSW.out _ (by assumption))).mono ?_); rintro e w9 ⟨rfl, rfl⟩))
    all_goals (
      go_wp2_with fail
      go_meet
      case rel => exact ⟨w1.heap.size, rfl, hid ⟨(by have h := heap_alloc_new w1 (.cells #[.int .u64 v0, .slice none 0 0, .int .i64 (IntKind.i64.wrap v1), .int .i64 (IntKind.i64.wrap v2)] 37); rw [HV12.out.1, HV12.out.2] at h ⊢; exact h), ⟨by simp [spT, topsAt], Or.inl ⟨rfl, rfl⟩⟩, by simp [blk], HFD.out.trans (((Frm.refl [] w1.drew).alloc _) : Frm [] w1.drew (w1.drew.alloc _)) (by simp), Nat.le_refl _⟩, HLT⟩)
  obtain ⟨lb, rfl, HRL0, hlt⟩ := hcut
  obtain ⟨w4, hw4⟩ : ∃ W, wc = W := ⟨_, rfl⟩
  subst hw4
  have hrb1 := hlt.out
  have HBV := hid (And.intro (And.intro a0 b0') (And.intro a1 b1'))
  clear a0 b0' a1 b1' a2 b2'
  have HB0 : Hid (b0 < w1.heap.size) := hid (World.block_lt_of_cell? w1 _ q12)
  clear hlt HKS HSW HFD HS0 HFZ HSZ HLT H1 HV12 q12 q13
  go_wp2_with fail
  go_loopw [7, 8] (fun i kk wr => ∃ (t : Nat) (p : Option Addr) (d : Nat), t ≤ m ∧ i = .int .i64 t ∧ Hid (RL w1 wr bs lb v0 v1 v2 p d t)) (fun i _ _ => m - (intOf i).toNat)
  case atStart => exact ⟨0, none, 0, by omega, rfl, HRL0⟩
  case round =>
    clear HRL0
    obtain ⟨t, p, d, ht, rfl, hrl⟩ := hrel
    by_cases hlt : t < m
    · have t1 : (t : Int) < (m : Int) := by omega
      have hfr := HW1.out.trans hrl.out.fr (by simp)
      have hq : 15 + 6 * t + 6 ≤ 128 := by omega
      have ce0 := HCE.out (15 + 6 * t) (by have := HN.out; omega)
      have ce1 := HCE.out (15 + 6 * t + 1) (by have := HN.out; omega)
      have k0 := (hfr.cell (p := ⟨b0, o0 + (15 + 6 * t), none⟩) (World.block_lt_of_cell? wa _ ce0) (by simp)).trans ce0
      have k1 := (hfr.cell (p := ⟨b0, o0 + (15 + 6 * t + 1), none⟩) (World.block_lt_of_cell? wa _ ce1) (by simp)).trans ce1
      rw [← valAt_one bs _ (by have := HN.out; omega)] at k0 k1
      have HA := hid (fun W (hW : Frm [] wr W) => refAt_any (some ⟨b0, o0, none⟩) 128 c bs W HN.out (HRDA.out.kept (hfr.trans hW (by simp)) (by simp)) HB.out (15 + 6 * t + 2) 4 (by omega) (by omega) hmx)
      have hsp := spT_succ bs t
      obtain ⟨x0, e0⟩ : ∃ v, valAt bs (15 + 6 * t) 1 = v := ⟨_, rfl⟩
      obtain ⟨x1, e1⟩ : ∃ v, valAt bs (15 + 6 * t + 1) 1 = v := ⟨_, rfl⟩
      obtain ⟨x2, e2⟩ : ∃ v, valAt bs (15 + 6 * t + 2) 4 = v := ⟨_, rfl⟩
      obtain ⟨la0, ub0⟩ := valAt_bd HB.out (15 + 6 * t) 1 (by have := HN.out; omega)
      obtain ⟨la1, ub1⟩ := valAt_bd HB.out (15 + 6 * t + 1) 1 (by have := HN.out; omega)
      obtain ⟨la2, ub2⟩ := valAt_bd HB.out (15 + 6 * t + 2) 4 (by have := HN.out; omega)
      rw [show rdTop bs t = ⟨valAt bs (15 + 6 * t) 1, valAt bs (15 + 6 * t + 1) 1, valAt bs (15 + 6 * t + 2) 4⟩ from rfl, e0, e1, e2] at hsp
      rw [e0] at la0 ub0 k0
      rw [e1] at la1 ub1 k1
      rw [e2] at la2 ub2 HA
      simp only [Nat.reduceMul, Int.reducePow] at ub0 ub1 ub2
      simp only [Int.cast_ofNat_Int] at HA
      rw [show ((15 + 6 * t + 2 : Nat) : Int) = 15 + 6 * (t : Int) + 2 by omega] at HA
      have HSP := hid hsp
      have HWR := hid (And.intro (IntWalk.i64_in x0 (by omega)) (And.intro (IntWalk.i64_in x1 (by omega)) (IntWalk.i64_in x2 (by omega))))
      have c1 : wr.cell? ⟨lb, 1, none⟩ = some (.slice p t d) := by rw [cell_of_row wr _ _ _ _ _ hrl.out.vr]; rfl
      obtain ⟨q, hqq⟩ : ∃ q, 15 + 6 * t = q := ⟨_, rfl⟩
      rw [hqq] at k0 k1
      rw [show 15 + 6 * (t : Int) + 2 = (q : Int) + 2 by omega] at HA
      have hq1 : IntKind.i64.wrap ((q : Int) + 1) = (q : Int) + 1 := IntWalk.i64_in _ (by omega)
      have hq2 : IntKind.i64.wrap ((q : Int) + 2) = (q : Int) + 2 := IntWalk.i64_in _ (by omega)
      have hb0 : (0 : Int) ≤ (q : Int) := by omega
      have hb1 : (q : Int) < 128 := by omega
      have hb2 : (0 : Int) ≤ (q : Int) + 1 := by omega
      have hb3 : (q : Int) + 1 < 128 := by omega
      have hqi : 15 + 6 * (t : Int) = (q : Int) := by omega
      have HQI := hid hqi
      have HFW : Hid (Frm [] wr wr.drew) := hid (Frm.refl _ _).drew
      have c2 : (wr.alloc (.cells #[.int .i64 (IntKind.i64.wrap x0), .int .i64 (IntKind.i64.wrap x1), .int .i64 (IntKind.i64.wrap x2)] 39)).cell? ⟨lb, 1, none⟩ = some (.slice p t d) := by rw [cell_of_row _ _ _ _ _ _ (((Frm.refl [] wr).alloc _).heap hrl.out.vr (by simp))]; rfl
      have HNP : Hid (lb ∉ blk p) := hid (fun h => by have := hrl.out.new _ h; omega)
      have HRL := hid hrl.out
      clear e0 e1 e2 hsp ce0 ce1 la0 la1 la2 ub0 ub1 ub2 hqi hfr hrl
      go_wp2_with fail
      rw [HQI.out]
      have HSD : Hid ((wr.drew.cell? ⟨lb, 1, none⟩ = some (.slice p t d) ∧ wr.drew.cell? ⟨b0, o0 + q, none⟩ = some (.int .u8 x0) ∧ wr.drew.cell? ⟨b0, o0 + (q + 1), none⟩ = some (.int .u8 x1))) := hid ⟨c1, k0, k1⟩
      have HSB : Hid (((wr.alloc (.cells #[.int .i64 (IntKind.i64.wrap x0), .int .i64 (IntKind.i64.wrap x1), .int .i64 (IntKind.i64.wrap x2)] 39)).drew.cell? ⟨lb, 1, none⟩ = some (.slice p t d) ∧ (wr.alloc (.cells #[.int .i64 (IntKind.i64.wrap x0), .int .i64 (IntKind.i64.wrap x1), .int .i64 (IntKind.i64.wrap x2)] 39)).drew.cell? ⟨b0, o0 + q, none⟩ = some (.int .u8 x0) ∧ (wr.alloc (.cells #[.int .i64 (IntKind.i64.wrap x0), .int .i64 (IntKind.i64.wrap x1), .int .i64 (IntKind.i64.wrap x2)] 39)).drew.cell? ⟨b0, o0 + (q + 1), none⟩ = some (.int .u8 x1))) := hid ⟨c2, (show (wr.alloc (.cells #[.int .i64 (IntKind.i64.wrap x0), .int .i64 (IntKind.i64.wrap x1), .int .i64 (IntKind.i64.wrap x2)] 39)).cell? _ = _ from (World.cell?_alloc_past _ _ _ (World.block_lt_of_cell? wr _ k0)).trans k0), (show (wr.alloc (.cells #[.int .i64 (IntKind.i64.wrap x0), .int .i64 (IntKind.i64.wrap x1), .int .i64 (IntKind.i64.wrap x2)] 39)).cell? _ = _ from (World.cell?_alloc_past _ _ _ (World.block_lt_of_cell? wr _ k1)).trans k1)⟩
      refine wp_region_tail (S := fun W => (W.cell? ⟨lb, 1, none⟩ = some (.slice p t d) ∧ W.cell? ⟨b0, o0 + q, none⟩ = some (.int .u8 x0) ∧ W.cell? ⟨b0, o0 + (q + 1), none⟩ = some (.int .u8 x1))) 20 23 rfl (by kernel_rfl) (by kernel_rfl) ?_
      refine wpAnyHT_take (i := 0) (oi := _) (v := ?_) (by kernel_rfl) rfl (by kernel_rfl) (by kernel_rfl) (by kernel_rfl) (by kernel_rfl) (fun _ _ _ h => h) (Or.inl ⟨by rfl, ?_⟩) HSD.out ?_
      rotate_left 1
      · (intro W hSw; obtain ⟨s0, s1, s2⟩ := hSw; (try simp only [List.getElem_toArray, List.getElem_cons_zero]); go_simp; try with_reducible rfl)
      try simp only [List.getElem_toArray, List.getElem_cons_zero, Act.put, List.setIfInBounds_toArray, List.set_cons_zero, List.set_cons_succ]
      refine wpAnyHT_take (i := 1) (oi := _) (v := ?_) (by kernel_rfl) rfl (by kernel_rfl) (by kernel_rfl) (by kernel_rfl) (by kernel_rfl) (fun _ _ _ h => h) (Or.inl ⟨by rfl, ?_⟩) HSD.out ?_
      rotate_left 1
      · (intro W hSw; obtain ⟨s0, s1, s2⟩ := hSw; (try simp only [List.getElem_toArray, List.getElem_cons_succ, List.getElem_cons_zero]); go_simp; try with_reducible rfl)
      try simp only [List.getElem_toArray, List.getElem_cons_succ, List.getElem_cons_zero, Act.put, List.setIfInBounds_toArray, List.set_cons_zero, List.set_cons_succ]
      refine wpAnyHT_take (i := 2) (oi := _) (v := ?_) (by kernel_rfl) rfl (by kernel_rfl) (by kernel_rfl) (by kernel_rfl) (by kernel_rfl) (fun _ _ _ h => h) (Or.inl ⟨by rfl, ?_⟩) HSD.out ?_
      rotate_left 1
      · (intro W hSw; obtain ⟨s0, s1, s2⟩ := hSw; (try simp only [List.getElem_toArray, List.getElem_cons_succ, List.getElem_cons_zero]); go_simp; try with_reducible rfl)
      try simp only [List.getElem_toArray, List.getElem_cons_succ, List.getElem_cons_zero, Act.put, List.setIfInBounds_toArray, List.set_cons_zero, List.set_cons_succ]
      refine wpAnyHT_take (i := 3) (oi := _) (v := ?_) (by kernel_rfl) rfl (by kernel_rfl) (by kernel_rfl) (by kernel_rfl) (by kernel_rfl) (fun _ _ _ h => h) (Or.inl ⟨by rfl, ?_⟩) HSD.out ?_
      rotate_left 1
      · (intro W hSw; obtain ⟨s0, s1, s2⟩ := hSw; (try simp only [List.getElem_toArray, List.getElem_cons_succ, List.getElem_cons_zero]); go_simp; try with_reducible rfl)
      try simp only [List.getElem_toArray, List.getElem_cons_succ, List.getElem_cons_zero, Act.put, List.setIfInBounds_toArray, List.set_cons_zero, List.set_cons_succ]
      refine wpAnyHT_take (i := 4) (oi := _) (v := ?_) (by kernel_rfl) rfl (by kernel_rfl) (by kernel_rfl) (by kernel_rfl) (by kernel_rfl) (fun _ _ _ h => h) (Or.inl ⟨by rfl, ?_⟩) HSD.out ?_
      rotate_left 1
      · (intro W hSw; obtain ⟨s0, s1, s2⟩ := hSw; (try simp only [List.getElem_toArray, List.getElem_cons_succ, List.getElem_cons_zero]); go_simp; try with_reducible rfl)
      try simp only [List.getElem_toArray, List.getElem_cons_succ, List.getElem_cons_zero, Act.put, List.setIfInBounds_toArray, List.set_cons_zero, List.set_cons_succ]
      refine wpAnyHT_take (i := 5) (oi := _) (v := ?_) (by kernel_rfl) rfl (by kernel_rfl) (by kernel_rfl) (by kernel_rfl) (by kernel_rfl) (fun _ _ _ h => h) (Or.inl ⟨by rfl, ?_⟩) HSD.out ?_
      rotate_left 1
      · (intro W hSw; obtain ⟨s0, s1, s2⟩ := hSw; (try simp only [List.getElem_toArray, List.getElem_cons_succ, List.getElem_cons_zero]); go_simp; try with_reducible rfl)
      try simp only [List.getElem_toArray, List.getElem_cons_succ, List.getElem_cons_zero, Act.put, List.setIfInBounds_toArray, List.set_cons_zero, List.set_cons_succ]
      refine wpAnyHT_take (i := 6) (oi := _) (v := ?_) (by kernel_rfl) rfl (by kernel_rfl) (by kernel_rfl) (by kernel_rfl) (by kernel_rfl) (fun _ _ _ h => h) (Or.inl ⟨by rfl, ?_⟩) HSD.out ?_
      rotate_left 1
      · (intro W hSw; obtain ⟨s0, s1, s2⟩ := hSw; (try simp only [List.getElem_toArray, List.getElem_cons_succ, List.getElem_cons_zero]); go_simp; try with_reducible rfl)
      try simp only [List.getElem_toArray, List.getElem_cons_succ, List.getElem_cons_zero, Act.put, List.setIfInBounds_toArray, List.set_cons_zero, List.set_cons_succ]
      refine wpAnyHT_take (i := 7) (oi := _) (v := ?_) (by kernel_rfl) rfl (by kernel_rfl) (by kernel_rfl) (by kernel_rfl) (by kernel_rfl) (fun _ _ _ h => h) (Or.inl ⟨by rfl, ?_⟩) HSD.out ?_
      rotate_left 1
      · (intro W hSw; obtain ⟨s0, s1, s2⟩ := hSw; (try simp only [List.getElem_toArray, List.getElem_cons_succ, List.getElem_cons_zero]); go_simp; try with_reducible rfl)
      try simp only [List.getElem_toArray, List.getElem_cons_succ, List.getElem_cons_zero, Act.put, List.setIfInBounds_toArray, List.set_cons_zero, List.set_cons_succ]
      refine wpAnyHT_take (i := 8) (oi := _) (v := ?_) (by kernel_rfl) rfl (by kernel_rfl) (by kernel_rfl) (by kernel_rfl) (by kernel_rfl) (fun _ _ _ h => h) (Or.inl ⟨by rfl, ?_⟩) HSD.out ?_
      rotate_left 1
      · (intro W hSw; obtain ⟨s0, s1, s2⟩ := hSw; (try simp only [List.getElem_toArray, List.getElem_cons_succ, List.getElem_cons_zero]); go_simp; try with_reducible rfl)
      try simp only [List.getElem_toArray, List.getElem_cons_succ, List.getElem_cons_zero, Act.put, List.setIfInBounds_toArray, List.set_cons_zero, List.set_cons_succ]
      refine wpAnyHT_take (i := 9) (oi := _) (v := ?_) (by kernel_rfl) rfl (by kernel_rfl) (by kernel_rfl) (by kernel_rfl) (by kernel_rfl) (fun _ _ _ h => h) (Or.inl ⟨by rfl, ?_⟩) HSD.out ?_
      rotate_left 1
      · (intro W hSw; obtain ⟨s0, s1, s2⟩ := hSw; (try simp only [List.getElem_toArray, List.getElem_cons_succ, List.getElem_cons_zero]); go_simp; try with_reducible rfl)
      try simp only [List.getElem_toArray, List.getElem_cons_succ, List.getElem_cons_zero, Act.put, List.setIfInBounds_toArray, List.set_cons_zero, List.set_cons_succ]
      refine wpAnyHT_take (i := 10) (oi := _) (v := ?_) (by kernel_rfl) rfl (by kernel_rfl) (by kernel_rfl) (by kernel_rfl) (by kernel_rfl) (fun _ _ _ h => h) (Or.inl ⟨by rfl, ?_⟩) HSD.out ?_
      rotate_left 1
      · (intro W hSw; obtain ⟨s0, s1, s2⟩ := hSw; (try simp only [List.getElem_toArray, List.getElem_cons_succ, List.getElem_cons_zero]); go_simp; try with_reducible rfl)
      try simp only [List.getElem_toArray, List.getElem_cons_succ, List.getElem_cons_zero, Act.put, List.setIfInBounds_toArray, List.set_cons_zero, List.set_cons_succ]
      refine wpAnyHT_take (i := 11) (oi := _) (v := ?_) (by kernel_rfl) rfl (by kernel_rfl) (by kernel_rfl) (by kernel_rfl) (by kernel_rfl) (fun _ _ _ h => h) (Or.inl ⟨by rfl, ?_⟩) HSD.out ?_
      rotate_left 1
      · (intro W hSw; obtain ⟨s0, s1, s2⟩ := hSw; (try simp only [List.getElem_toArray, List.getElem_cons_succ, List.getElem_cons_zero]); go_simp; try with_reducible rfl)
      try simp only [List.getElem_toArray, List.getElem_cons_succ, List.getElem_cons_zero, Act.put, List.setIfInBounds_toArray, List.set_cons_zero, List.set_cons_succ]
      refine wpAnyHT_take (i := 12) (oi := _) (v := ?_) (by kernel_rfl) rfl (by kernel_rfl) (by kernel_rfl) (by kernel_rfl) (by kernel_rfl) (fun _ _ _ h => h) (Or.inl ⟨by rfl, ?_⟩) HSD.out ?_
      rotate_left 1
      · (intro W hSw; obtain ⟨s0, s1, s2⟩ := hSw; (try simp only [List.getElem_toArray, List.getElem_cons_succ, List.getElem_cons_zero]); go_simp; try with_reducible rfl)
      try simp only [List.getElem_toArray, List.getElem_cons_succ, List.getElem_cons_zero, Act.put, List.setIfInBounds_toArray, List.set_cons_zero, List.set_cons_succ]
      refine wpAnyHT_take (i := 13) (oi := _) (v := ?_) (by kernel_rfl) rfl (by kernel_rfl) (by kernel_rfl) (by kernel_rfl) (by kernel_rfl) (fun _ _ _ h => h) (Or.inl ⟨by rfl, ?_⟩) HSD.out ?_
      rotate_left 1
      · (intro W hSw; obtain ⟨s0, s1, s2⟩ := hSw; (try simp only [List.getElem_toArray, List.getElem_cons_succ, List.getElem_cons_zero]); go_simp; try with_reducible rfl)
      try simp only [List.getElem_toArray, List.getElem_cons_succ, List.getElem_cons_zero, Act.put, List.setIfInBounds_toArray, List.set_cons_zero, List.set_cons_succ]
      refine wpAnyHT_take (i := 14) (oi := _) (v := ?_) (by kernel_rfl) rfl (by kernel_rfl) (by kernel_rfl) (by kernel_rfl) (by kernel_rfl) (fun _ _ _ h => h) (Or.inl ⟨by rfl, ?_⟩) HSD.out ?_
      rotate_left 1
      · (intro W hSw; obtain ⟨s0, s1, s2⟩ := hSw; (try simp only [List.getElem_toArray, List.getElem_cons_succ, List.getElem_cons_zero]); go_simp; try with_reducible rfl)
      try simp only [List.getElem_toArray, List.getElem_cons_succ, List.getElem_cons_zero, Act.put, List.setIfInBounds_toArray, List.set_cons_zero, List.set_cons_succ]
      refine wpAnyHT_take (i := 15) (oi := _) (v := ?_) (by kernel_rfl) rfl (by kernel_rfl) (by kernel_rfl) (by kernel_rfl) (by kernel_rfl) (fun _ _ _ h => h) (Or.inl ⟨by rfl, ?_⟩) HSD.out ?_
      rotate_left 1
      · (intro W hSw; obtain ⟨s0, s1, s2⟩ := hSw; (try simp only [List.getElem_toArray, List.getElem_cons_succ, List.getElem_cons_zero]); go_simp; try with_reducible rfl)
      try simp only [List.getElem_toArray, List.getElem_cons_succ, List.getElem_cons_zero, Act.put, List.setIfInBounds_toArray, List.set_cons_zero, List.set_cons_succ]
      refine wpAnyHT_one (i := 16) rfl (by kernel_rfl) (by kernel_rfl) (fun K hK => ?_)
      try simp only [List.getElem_toArray, List.getElem_cons_succ, List.getElem_cons_zero]
      go_simp
      refine (HA.out _ HFW.out).mono ?_
      rintro e w9 ⟨rfl, rfl⟩
      refine hK _ _ HSD.out ?_
      clear hK K
      try simp only [List.getElem_toArray, List.getElem_cons_succ, List.getElem_cons_zero, Act.put, List.setIfInBounds_toArray, List.set_cons_zero, List.set_cons_succ]
      refine wpAnyHT_take (i := 17) (oi := _) (v := ?_) (by kernel_rfl) rfl (by kernel_rfl) (by kernel_rfl) (by kernel_rfl) (by kernel_rfl) (fun _ _ _ h => h) (Or.inl ⟨by rfl, ?_⟩) HSD.out ?_
      rotate_left 1
      · (intro W hSw; obtain ⟨s0, s1, s2⟩ := hSw; (try simp only [List.getElem_toArray, List.getElem_cons_succ, List.getElem_cons_zero]); go_simp; try with_reducible rfl)
      try simp only [List.getElem_toArray, List.getElem_cons_succ, List.getElem_cons_zero, Act.put, List.setIfInBounds_toArray, List.set_cons_zero, List.set_cons_succ]
      refine wpAnyHT_take (i := 18) (oi := _) (v := ?_) (by kernel_rfl) rfl (by kernel_rfl) (by kernel_rfl) (by kernel_rfl) (by kernel_rfl) (fun _ _ _ h => h) (Or.inl ⟨by rfl, ?_⟩) HSD.out ?_
      rotate_left 1
      · (intro W hSw; obtain ⟨s0, s1, s2⟩ := hSw; (try simp only [List.getElem_toArray, List.getElem_cons_succ, List.getElem_cons_zero]); go_simp; try with_reducible rfl)
      try simp only [List.getElem_toArray, List.getElem_cons_succ, List.getElem_cons_zero, Act.put, List.setIfInBounds_toArray, List.set_cons_zero, List.set_cons_succ]
      refine wpAnyHT_one (i := 19) rfl (by kernel_rfl) (by kernel_rfl) (fun K hK => ?_)
      try simp only [List.getElem_toArray, List.getElem_cons_succ, List.getElem_cons_zero]
      go_simp
      refine hK _ _ HSB.out ?_
      clear hK K
      try simp only [List.getElem_toArray, List.getElem_cons_succ, List.getElem_cons_zero, Act.put, List.setIfInBounds_toArray, List.set_cons_zero, List.set_cons_succ]
      refine wpAnyHT_end (by kernel_rfl) ?_
      simp only [List.drop_succ_cons, List.drop_zero]
      obtain ⟨w4, hw4⟩ : ∃ W, (wr.alloc (.cells #[.int .i64 (IntKind.i64.wrap x0), .int .i64 (IntKind.i64.wrap x1), .int .i64 (IntKind.i64.wrap x2)] 39)).drew = W := ⟨_, rfl⟩
      obtain ⟨gb, hgb⟩ : ∃ b, wr.heap.size = b := ⟨_, rfl⟩
      have hfa : Frm [] wr w4 := by rw [← hw4]; exact (((Frm.refl [] wr).alloc (.cells #[.int .i64 (IntKind.i64.wrap x0), .int .i64 (IntKind.i64.wrap x1), .int .i64 (IntKind.i64.wrap x2)] 39)) : Frm [] wr (wr.alloc (.cells #[.int .i64 (IntKind.i64.wrap x0), .int .i64 (IntKind.i64.wrap x1), .int .i64 (IntKind.i64.wrap x2)] 39))).drew
      have hnew : w4.heap[gb]? = some (.cells #[.int .i64 (IntKind.i64.wrap x0), .int .i64 (IntKind.i64.wrap x1), .int .i64 (IntKind.i64.wrap x2)] 39 (0, 0)) := by rw [← hw4, ← hgb]; exact heap_alloc_new wr _
      rw [hw4, hgb]
      have HRL4 : Hid (RL w1 w4 bs lb v0 v1 v2 p d t) := hid ⟨hfa.heap HRL.out.vr (by simp), ownsRow_kept HRL.out.own hfa (by simp), HRL.out.new, HRL.out.fr.trans hfa (by simp), HRL.out.hl⟩
      have HRV : Hid (Rv w4 (some ⟨gb, 0, none⟩) [.int .i64 (IntKind.i64.wrap x0), .int .i64 (IntKind.i64.wrap x1), .int .i64 (IntKind.i64.wrap x2)]) := hid (rv_block (cs := #[.int .i64 (IntKind.i64.wrap x0), .int .i64 (IntKind.i64.wrap x1), .int .i64 (IntKind.i64.wrap x2)]) hnew)
      have HSZ : Hid (lb < w4.heap.size) := hid (lt_of_heap HRL4.out.vr)
      clear hw4 hgb hfa hnew c1 c2 k0 k1 HRL HFW HA HSD HSB
      go_wp2_with (at_builtin; refine wpList_appV rfl _ _ 35 rfl 39 3 24 _ Tryd.underlying35 infoTop rfl (by decide) p t d (spT (topsAt bs t)) rfl HRL4.out.own (some ⟨gb, 0, none⟩) 1 1 [.int .i64 (IntKind.i64.wrap x0), .int .i64 (IntKind.i64.wrap x1), .int .i64 (IntKind.i64.wrap x2)] rfl rfl (by simp) HRV.out (by intro u hu; simp at hu; rcases hu with rfl | rfl | rfl <;> rfl) (by unfold maxLen; omega) (by omega) ?_)
      intro p7 d7 w7 ho7 hf7 hfr7
      have hvr := hf7.out.heap HRL4.out.vr HNP.out
      have hnw : ∀ k ∈ blk p7, lb < k := fun k hk => by
        rcases hfr7.out k hk with h | h
        · exact HRL4.out.new k h
        · have h1 := HSZ.out
          omega
      have hfs : Frm [lb] w7 (w7.setCell ⟨lb, 1, none⟩ (.slice p7 (t + 1) d7)) := (Frm.refl _ _).setCell _ _ (by simp)
      have HG8 : Hid (RL w1 (w7.setCell ⟨lb, 1, none⟩ (.slice p7 (t + 1) d7)) bs lb v0 v1 v2 p7 d7 (t + 1)) := hid (by
        refine ⟨by rw [heap_setCell_same _ _ 1 _ _ _ hvr]; rfl, ?_, hnw, (HRL4.out.fr.trans hf7.out (fun i hi hl => by have h1 := HRL4.out.new _ hi; have h2 := HRL4.out.hl; omega)).trans hfs (fun i hi hl => by simp at hi; subst hi; have h2 := HRL4.out.hl; omega), HRL4.out.hl⟩
        have h := ownsRow_kept ho7.out hfs (fun k hk hm => by simp at hm; have := hnw k hk; omega)
        rw [HWR.out.1, HWR.out.2.1, HWR.out.2.2] at h
        rw [HSP.out]
        exact h)
      have s4 : w7.cell? ⟨lb, 1, none⟩ = some (.slice p t d) := by rw [cell_of_row w7 _ _ _ _ _ hvr]; rfl
      have z4 := frozen_of_row w7 lb 1 _ _ hvr
      clear ho7 hf7 hfr7 hvr hfs hnw HRV HRL4 HSP
      go_wp2_with fail
      go_roundw
      case rel => exact ⟨t + 1, p7, d7, by omega, by go_num, HG8⟩
      case measure => simp [intOf]; omega
    · obtain rfl : t = m := by omega
      obtain ⟨l, hl⟩ : ∃ l, labAt bs p d = l := ⟨_, rfl⟩
      have hlp : l.pool = v0 ∧ l.p = p ∧ l.n = t ∧ l.c = d ∧ l.top = v1 ∧ l.place = v2 ∧ l.ts = topsAt bs t := by rw [← hl, HLA.out]; exact ⟨rfl, rfl, rfl, rfl, rfl, rfl, rfl⟩
      have hcl : checkL l = C := by rw [← hl]; exact HCL.out p d
      have hsm : l.same L0 := by rw [← hl]; exact HSM.out p d
      obtain ⟨f1, f2, f3, f4, f5, f6, f7⟩ := hlp
      have hrl' := hrl.out
      rw [← f1, ← f2, ← f3, ← f4, ← f5, ← f6] at hrl'
      have hvr : wr.heap[lb]? = some (.cells l.arr 37 (0, 0)) := hrl'.vr
      have hown : wr.ownsRow 0 39 3 (.slice l.p l.n l.c) l.n (spT l.ts) := by have h := hrl'.own; rw [f7, f3]; rw [f3] at h; exact h
      have hlen : l.ts.length = l.n := by rw [f7, topsAt_length, f3]
      have hlo : l.ok wr := by
        obtain ⟨hrt, hm1, hm2⟩ := rdT_of_own hown hlen
        exact ⟨hlen, hrt, hm1, by unfold maxLen at hm2; omega, by rw [f1]; exact HBV.out.1, by rw [f5]; have := HBV.out.2; omega⟩
      have HCK := hid (refCheckL_any l wr hlo)
      rw [hcl] at HCK
      unfold LabV.arr at HCK
      have HLO := hid hlo
      have HVR := hid hvr
      have HSL := hid hsm
      have HNW : Hid (∀ k ∈ blk l.p, w.heap.size ≤ k ∧ rb < k) := hid (fun k hk => by rw [f2] at hk; have h1 := hrl'.new k (by rw [f2]; exact hk); have h3 := HRB.out; exact ⟨by omega, by omega⟩)
      have HR4 := hid (hrl'.fr.heap HR1.out (by simp))
      have HF4 := hid ((HFA.out.trans HW1.out (by simp)).trans hrl'.fr (by simp))
      obtain ⟨q0, q1, q2, q3⟩ := lb_row (l := l) hvr
      have HF3 := hid f3
      clear hl hcl hsm hrl hrl' hvr hown hlen hlo f1 f2 f3 f4 f5 f6 f7 HLA HCL HSM HR1 HRDA HCE hlt
      go_wp2_with fail
      refine HCK.out.mono ?_
      rintro e w6 ⟨rfl, hf⟩
      have HV6 := hid (hf.heap HVR.out (by simp))
      have HR6 := hid (hf.heap HR4.out (by simp))
      have HF6 := hid (HF4.out.trans hf (by simp))
      have HL6 := hid (HLO.out.kept hf)
      clear hf HVR HR4 HF4 HLO HCK q0 q1 q2 q3
      by_cases hC0 : C = 0
      · have HV := hid (HD2.out.1 hC0)
        subst hC0
        obtain ⟨q0, q1, q2, q3⟩ := lb_row (l := l) HV6.out
        obtain ⟨y0, y1, y2, y3⟩ := lb_row (l := zeroL) HR6.out
        obtain ⟨z0, z1, z2, z3⟩ := lb_froz (l := zeroL) HR6.out
        go_wp2_with fail
        show bodyPost _ _ _ _ _ (st4 w6 rb l)
        obtain ⟨h9, f9⟩ := st4_row l zeroL HR6.out
        obtain ⟨wz, hwz⟩ : ∃ wz, st4 w6 rb l = wz := ⟨_, rfl⟩
        rw [hwz] at h9 f9 ⊢
        obtain ⟨g0, g1, g2, g3⟩ := lb_row (l := l) h9
        clear hwz
        have hfz : Frm [] w wz := (HF6.out).trans f9 (fun i hi hl => by simp at hi; have := HRB.out; omega)
        exact bodyPost_ret (v := .tuple #[.agg #[.int .u64 l.pool, .slice l.p l.n l.c, .int .i64 l.top, .int .i64 l.place], .int .i64 0]) (by simp [results, Tryd.results27, go_sem, g0, g1, g2, g3]) rfl (by rw [← HPO.out]; rw [HV.out]; exact ⟨l, rfl, ⟨HL6.out.len, HL6.out.rd.kept f9 (fun k hk hm => by simp at hm; have := (HNW.out k hk).2; omega), HL6.out.le, HL6.out.mx, HL6.out.pool, HL6.out.top⟩, HSL.out, fun k hk => (HNW.out k hk).1, hfz⟩)
      · have HV := hid (HD2.out.2 hC0)
        have hb : (C != 0) = true := by simpa using hC0
        clear hC0
        obtain ⟨y0, y1, y2, y3⟩ := lb_row (l := zeroL) HR6.out
        obtain ⟨z0, z1, z2, z3⟩ := lb_froz (l := zeroL) HR6.out
        go_wp2_with fail
        show bodyPost _ _ _ _ _ (st4 w6 rb zeroL)
        obtain ⟨h9, f9⟩ := st4_row zeroL zeroL HR6.out
        obtain ⟨wz, hwz⟩ : ∃ wz, st4 w6 rb zeroL = wz := ⟨_, rfl⟩
        rw [hwz] at h9 f9 ⊢
        obtain ⟨g0, g1, g2, g3⟩ := lb_row (l := zeroL) h9
        unfold zeroL at g0 g1 g2 g3
        clear hwz
        have hfz : Frm [] w wz := (HF6.out).trans f9 (fun i hi hl => by simp at hi; have := HRB.out; omega)
        exact bodyPost_ret (v := .tuple #[.agg #[.int .u64 0, .slice none 0 0, .int .i64 0, .int .i64 0], .int .i64 C]) (by simp [results, Tryd.results27, go_sem, g0, g1, g2, g3]) rfl (by rw [← HPO.out]; rw [HV.out]; exact ⟨zeroL, rfl, zeroL_ok wz, ⟨rfl, rfl, rfl, rfl, rfl⟩, by simp [zeroL, blk], hfz⟩)
end
section
open Go.RowKit
set_option maxRecDepth 100000

theorem LabV.sameR {a b c : LabV} (h : a.same c) (k : b.same c) : a.same b := ⟨h.1.trans k.1.symm, h.2.1.trans k.2.1.symm, h.2.2.1.trans k.2.2.1.symm, h.2.2.2.1.trans k.2.2.2.1.symm, h.2.2.2.2.trans k.2.2.2.2.symm⟩
set_option maxHeartbeats 6400000 in
theorem ptrreads_any (bp : Option Addr) (bn bc : Nat) (bs : List Int) (hbl : bs.length = bn) (hbn : bn ≤ 140737488351232) (hbc : bn ≤ bc) (hbb : ∀ z ∈ bs, 0 ≤ z ∧ z < 256) (hnc : bs = [] → bp = none → bc = 0) (w : World) (hrd : Rd w bp bs) :
    Calls Tryd.prog 6 #[.slice bp bn bc] w fun e w' => e = .returned (.bool true) ∧ Frm [] w w' := by
  have HAW := hid awake4_any
  have HDP := hid (fun ad n c W (h1 : bs.length = n) (h2 : n ≤ 140737488355328) (h3 : Rd W ad bs) => decode_any ad n c bs W h1 h2 h3 hbb)
  have HDL := hid (fun ad n c W (h1 : bs.length = n) (h2 : n ≤ c) (h3 : Rd W ad bs) => decodeL_any ad n c bs W h1 h2 h3 hbb)
  have HDU := hid (fun ad n c W (h1 : bs.length = n) (h2 : n ≤ c) (h3 : Rd W ad bs) => decodeU_any ad n c bs W h1 h2 h3 hbb)
  have HRP := hid (fun ad n c W (h1 : bs.length = n) (h2 : n ≤ 140737488355328) (h3 : Rd W ad bs) => refDecode_any ad n c bs W h1 h3 hbb h2)
  have HRL := hid (fun ad n c W (h1 : bs.length = n) (h2 : n ≤ c) (h4 : n ≤ 140737488355328) (h3 : Rd W ad bs) => refDecodeL_any ad n c bs W h1 h2 h3 hbb h4)
  have HRU := hid (fun ad n c W (h1 : bs.length = n) (h2 : n ≤ c) (h4 : n ≤ 140737488355328) (h3 : Rd W ad bs) => refDecodeU_any ad n c bs W h1 h2 h3 hbb h4)
  obtain ⟨RP, hRP⟩ : ∃ R, decP bs = R := ⟨_, rfl⟩
  obtain ⟨RL, hRL⟩ : ∃ R, decL bs = R := ⟨_, rfl⟩
  obtain ⟨RU, hRU⟩ : ∃ R, decU bs = R := ⟨_, rfl⟩
  rw [hRP] at HDP HRP
  rw [hRL] at HDL HRL
  rw [hRU] at HDU HRU
  clear hRP hRL hRU hbb
  obtain ⟨q, F⟩ := RP
  obtain ⟨l0, G⟩ := RL
  obtain ⟨v, H⟩ := RU
  unfold P9.arr at HDP HRP
  unfold U12.arr at HDU HRU
  dsimp only at HDP HRP HDU HRU
  have HBL := hid hbl
  have HNC := hid (fun (h : bn = 0) => hnc (List.eq_nil_of_length_eq_zero (by rw [hbl]; exact h)))
  have HRD0 := hid hrd
  clear hrd hbl hnc
  go_enter Tryd.func6, Tryd.ntmps6
  go_wp2_with fail
  refine (HAW.out w).mono ?_
  clear HAW
  rintro e w0 ⟨rfl, hf⟩
  have HF0 := hid hf
  have HRDb := hid (HRD0.out.kept hf (by simp))
  clear hf HRD0
  go_wp2_with (at_builtin; refine wpList_appB rfl _ _ 28 rfl 5 Tryd.underlying28 infoB none 0 0 [] rfl rfl (Own.nil _ _) bp bn bc bs rfl HBL.out.symm (fun h => HNC.out (by rw [← HBL.out, h]; rfl)) HRDb.out (by have := HBL.out; show 0 + bs.length ≤ _; omega) ?_)
  intro xs kp kc w1 hxs ho hfk hfr
  have hxe : xs = bs := hxs.out
  rw [hxe] at ho ⊢
  have hbl2 : bs.length = bn := HBL.out
  rw [hbl2] at ho ⊢
  have HKO := hid ho.out
  have hfk2 : Frm [] w0 w1 := hfk.out.mono (by simp [blk])
  have HF1 := hid (HF0.out.trans hfk2 (by simp))
  have HRD1 := hid (HRDb.out.kept hfk2 (by simp))
  clear ho hfk hfr hxs hxe hbl2 hfk2 HF0 HRDb
  have hcap := (own_capF HKO.out).2.1
  have HCAP := hid hcap
  clear hcap
  go_wp2_with fail
  refine (HDP.out kp bn kc w1 HBL.out (by omega) HKO.out.rd).mono ?_
  rintro e w2 ⟨rfl, hf⟩
  have HKs1 := hid (HKO.out.kept hf (by simp))
  have HFs1 := hid (HF1.out.trans hf (by simp))
  have HRDs1 := hid (HRD1.out.kept hf (by simp))
  clear hf HKO HF1 HRD1 
  go_wp2_with fail
  have hfa : Frm [] w2 (w2.alloc (.cells #[.int .i64 q.top, .int .i64 q.at_, .int .i64 q.bytes, .int .u64 q.birth, .int .i64 q.kind, .int .u64 q.sa, .int .u64 q.sb, .int .u64 q.sc, .int .u64 q.sd] 26)) := (Frm.refl _ _).alloc _
  have hra := heap_alloc_new w2 (.cells #[.int .i64 q.top, .int .i64 q.at_, .int .i64 q.bytes, .int .u64 q.birth, .int .i64 q.kind, .int .u64 q.sa, .int .u64 q.sb, .int .u64 q.sc, .int .u64 q.sd] 26)
  obtain ⟨Hpb, hHpb⟩ : ∃ b, w2.heap.size = b := ⟨_, rfl⟩
  obtain ⟨w3, hw3⟩ : ∃ W, w2.alloc (.cells #[.int .i64 q.top, .int .i64 q.at_, .int .i64 q.bytes, .int .u64 q.birth, .int .i64 q.kind, .int .u64 q.sa, .int .u64 q.sb, .int .u64 q.sc, .int .u64 q.sd] 26) = W := ⟨_, rfl⟩
  rw [hw3] at hfa
  rw [hw3, hHpb] at hra
  rw [hw3, hHpb]
  clear hw3 hHpb
  have HKs2 := hid (HKs1.out.kept hfa (by simp))
  have HFs2 := hid (HFs1.out.trans hfa (by simp))
  have HRDs2 := hid (HRDs1.out.kept hfa (by simp))
  clear hfa HKs1 HFs1 HRDs1 
  have Hpz := hid hra
  clear hra
  go_wp2_with fail
  refine (HRP.out bp bn bc w3 HBL.out (by omega) HRDs2.out).mono ?_
  rintro e w4 ⟨rfl, hf⟩
  have Hps3 := hid (hf.heap Hpz.out (by simp))
  have HKs3 := hid (HKs2.out.kept hf (by simp))
  have HFs3 := hid (HFs2.out.trans hf (by simp))
  have HRDs3 := hid (HRDs2.out.kept hf (by simp))
  clear hf Hpz HKs2 HFs2 HRDs2 
  go_wp2_with fail
  have hfa : Frm [] w4 (w4.alloc (.cells #[.int .i64 q.top, .int .i64 q.at_, .int .i64 q.bytes, .int .u64 q.birth, .int .i64 q.kind, .int .u64 q.sa, .int .u64 q.sb, .int .u64 q.sc, .int .u64 q.sd] 26)) := (Frm.refl _ _).alloc _
  have hra := heap_alloc_new w4 (.cells #[.int .i64 q.top, .int .i64 q.at_, .int .i64 q.bytes, .int .u64 q.birth, .int .i64 q.kind, .int .u64 q.sa, .int .u64 q.sb, .int .u64 q.sc, .int .u64 q.sd] 26)
  obtain ⟨Hqb, hHqb⟩ : ∃ b, w4.heap.size = b := ⟨_, rfl⟩
  obtain ⟨w5, hw5⟩ : ∃ W, w4.alloc (.cells #[.int .i64 q.top, .int .i64 q.at_, .int .i64 q.bytes, .int .u64 q.birth, .int .i64 q.kind, .int .u64 q.sa, .int .u64 q.sb, .int .u64 q.sc, .int .u64 q.sd] 26) = W := ⟨_, rfl⟩
  rw [hw5] at hfa
  rw [hw5, hHqb] at hra
  rw [hw5, hHqb]
  clear hw5 hHqb
  have Hps4 := hid (hfa.heap Hps3.out (by simp))
  have HKs4 := hid (HKs3.out.kept hfa (by simp))
  have HFs4 := hid (HFs3.out.trans hfa (by simp))
  have HRDs4 := hid (HRDs3.out.kept hfa (by simp))
  clear hfa Hps3 HKs3 HFs3 HRDs3 
  have Hqz := hid hra
  clear hra
  go_wp2_with fail
  refine (HDL.out kp bn kc w5 HBL.out HCAP.out HKs4.out.rd).mono ?_
  rintro e w6 ⟨l, rfl, hmo, hms, _, hf⟩
  have Hps5 := hid (hf.heap Hps4.out (by simp))
  have Hqs5 := hid (hf.heap Hqz.out (by simp))
  have HKs5 := hid (HKs4.out.kept hf (by simp))
  have HFs5 := hid (HFs4.out.trans hf (by simp))
  have HRDs5 := hid (HRDs4.out.kept hf (by simp))
  clear hf Hps4 Hqz HKs4 HFs4 HRDs4 
  have HOlz := hid hmo
  have HSl := hid hms
  clear hmo hms
  unfold LabV.arr
  dsimp only
  go_wp2_with fail
  have hfa : Frm [] w6 (w6.alloc (.cells #[.int .u64 l.pool, .slice l.p l.n l.c, .int .i64 l.top, .int .i64 l.place] 37)) := (Frm.refl _ _).alloc _
  have hra := heap_alloc_new w6 (.cells #[.int .u64 l.pool, .slice l.p l.n l.c, .int .i64 l.top, .int .i64 l.place] 37)
  obtain ⟨Hlb, hHlb⟩ : ∃ b, w6.heap.size = b := ⟨_, rfl⟩
  obtain ⟨w7, hw7⟩ : ∃ W, w6.alloc (.cells #[.int .u64 l.pool, .slice l.p l.n l.c, .int .i64 l.top, .int .i64 l.place] 37) = W := ⟨_, rfl⟩
  rw [hw7] at hfa
  rw [hw7, hHlb] at hra
  rw [hw7, hHlb]
  clear hw7 hHlb
  have Hps6 := hid (hfa.heap Hps5.out (by simp))
  have Hqs6 := hid (hfa.heap Hqs5.out (by simp))
  have HKs6 := hid (HKs5.out.kept hfa (by simp))
  have HOls6 := hid (HOlz.out.kept hfa)
  have HFs6 := hid (HFs5.out.trans hfa (by simp))
  have HRDs6 := hid (HRDs5.out.kept hfa (by simp))
  clear hfa Hps5 Hqs5 HKs5 HOlz HFs5 HRDs5 
  have Hlz := hid hra
  clear hra
  go_wp2_with fail
  refine (HRL.out bp bn bc w7 HBL.out hbc (by omega) HRDs6.out).mono ?_
  rintro e w8 ⟨m, rfl, hmo, hms, _, hf⟩
  have Hps7 := hid (hf.heap Hps6.out (by simp))
  have Hqs7 := hid (hf.heap Hqs6.out (by simp))
  have Hls7 := hid (hf.heap Hlz.out (by simp))
  have HKs7 := hid (HKs6.out.kept hf (by simp))
  have HOls7 := hid (HOls6.out.kept hf)
  have HFs7 := hid (HFs6.out.trans hf (by simp))
  have HRDs7 := hid (HRDs6.out.kept hf (by simp))
  clear hf Hps6 Hqs6 Hlz HKs6 HOls6 HFs6 HRDs6 
  have HOmz := hid hmo
  have HSm := hid hms
  clear hmo hms
  unfold LabV.arr
  dsimp only
  go_wp2_with fail
  have hfa : Frm [] w8 (w8.alloc (.cells #[.int .u64 m.pool, .slice m.p m.n m.c, .int .i64 m.top, .int .i64 m.place] 37)) := (Frm.refl _ _).alloc _
  have hra := heap_alloc_new w8 (.cells #[.int .u64 m.pool, .slice m.p m.n m.c, .int .i64 m.top, .int .i64 m.place] 37)
  obtain ⟨Hmb, hHmb⟩ : ∃ b, w8.heap.size = b := ⟨_, rfl⟩
  obtain ⟨w9, hw9⟩ : ∃ W, w8.alloc (.cells #[.int .u64 m.pool, .slice m.p m.n m.c, .int .i64 m.top, .int .i64 m.place] 37) = W := ⟨_, rfl⟩
  rw [hw9] at hfa
  rw [hw9, hHmb] at hra
  rw [hw9, hHmb]
  clear hw9 hHmb
  have Hps8 := hid (hfa.heap Hps7.out (by simp))
  have Hqs8 := hid (hfa.heap Hqs7.out (by simp))
  have Hls8 := hid (hfa.heap Hls7.out (by simp))
  have HKs8 := hid (HKs7.out.kept hfa (by simp))
  have HOls8 := hid (HOls7.out.kept hfa)
  have HOms8 := hid (HOmz.out.kept hfa)
  have HFs8 := hid (HFs7.out.trans hfa (by simp))
  have HRDs8 := hid (HRDs7.out.kept hfa (by simp))
  clear hfa Hps7 Hqs7 Hls7 HKs7 HOls7 HOmz HFs7 HRDs7 
  have Hmz := hid hra
  clear hra
  go_wp2_with fail
  refine (HDU.out kp bn kc w9 HBL.out HCAP.out HKs8.out.rd).mono ?_
  rintro e w10 ⟨rfl, hf⟩
  have Hps9 := hid (hf.heap Hps8.out (by simp))
  have Hqs9 := hid (hf.heap Hqs8.out (by simp))
  have Hls9 := hid (hf.heap Hls8.out (by simp))
  have Hms9 := hid (hf.heap Hmz.out (by simp))
  have HKs9 := hid (HKs8.out.kept hf (by simp))
  have HOls9 := hid (HOls8.out.kept hf)
  have HOms9 := hid (HOms8.out.kept hf)
  have HFs9 := hid (HFs8.out.trans hf (by simp))
  have HRDs9 := hid (HRDs8.out.kept hf (by simp))
  clear hf Hps8 Hqs8 Hls8 Hmz HKs8 HOls8 HOms8 HFs8 HRDs8 
  go_wp2_with fail
  have hfa : Frm [] w10 (w10.alloc (.cells #[.int .u64 v.pool, .int .u64 v.txg, .int .u64 v.note, .int .i64 v.root.top, .int .i64 v.root.at_, .int .i64 v.root.bytes, .int .u64 v.root.birth, .int .i64 v.root.kind, .int .u64 v.root.sa, .int .u64 v.root.sb, .int .u64 v.root.sc, .int .u64 v.root.sd] 45)) := (Frm.refl _ _).alloc _
  have hra := heap_alloc_new w10 (.cells #[.int .u64 v.pool, .int .u64 v.txg, .int .u64 v.note, .int .i64 v.root.top, .int .i64 v.root.at_, .int .i64 v.root.bytes, .int .u64 v.root.birth, .int .i64 v.root.kind, .int .u64 v.root.sa, .int .u64 v.root.sb, .int .u64 v.root.sc, .int .u64 v.root.sd] 45)
  obtain ⟨Hub, hHub⟩ : ∃ b, w10.heap.size = b := ⟨_, rfl⟩
  obtain ⟨w11, hw11⟩ : ∃ W, w10.alloc (.cells #[.int .u64 v.pool, .int .u64 v.txg, .int .u64 v.note, .int .i64 v.root.top, .int .i64 v.root.at_, .int .i64 v.root.bytes, .int .u64 v.root.birth, .int .i64 v.root.kind, .int .u64 v.root.sa, .int .u64 v.root.sb, .int .u64 v.root.sc, .int .u64 v.root.sd] 45) = W := ⟨_, rfl⟩
  rw [hw11] at hfa
  rw [hw11, hHub] at hra
  rw [hw11, hHub]
  clear hw11 hHub
  have Hps10 := hid (hfa.heap Hps9.out (by simp))
  have Hqs10 := hid (hfa.heap Hqs9.out (by simp))
  have Hls10 := hid (hfa.heap Hls9.out (by simp))
  have Hms10 := hid (hfa.heap Hms9.out (by simp))
  have HKs10 := hid (HKs9.out.kept hfa (by simp))
  have HOls10 := hid (HOls9.out.kept hfa)
  have HOms10 := hid (HOms9.out.kept hfa)
  have HFs10 := hid (HFs9.out.trans hfa (by simp))
  have HRDs10 := hid (HRDs9.out.kept hfa (by simp))
  clear hfa Hps9 Hqs9 Hls9 Hms9 HKs9 HOls9 HOms9 HFs9 HRDs9 
  have Huz := hid hra
  clear hra
  go_wp2_with fail
  refine (HRU.out bp bn bc w11 HBL.out hbc (by omega) HRDs10.out).mono ?_
  rintro e w12 ⟨rfl, hf⟩
  have Hps11 := hid (hf.heap Hps10.out (by simp))
  have Hqs11 := hid (hf.heap Hqs10.out (by simp))
  have Hls11 := hid (hf.heap Hls10.out (by simp))
  have Hms11 := hid (hf.heap Hms10.out (by simp))
  have Hus11 := hid (hf.heap Huz.out (by simp))
  have HKs11 := hid (HKs10.out.kept hf (by simp))
  have HOls11 := hid (HOls10.out.kept hf)
  have HOms11 := hid (HOms10.out.kept hf)
  have HFs11 := hid (HFs10.out.trans hf (by simp))
  have HRDs11 := hid (HRDs10.out.kept hf (by simp))
  clear hf Hps10 Hqs10 Hls10 Hms10 Huz HKs10 HOls10 HOms10 HFs10 HRDs10 
  obtain ⟨j0, j1, j2, j3⟩ := lb_row (l := l) Hls11.out
  obtain ⟨k0, k1, k2, k3⟩ := lb_row (l := m) Hms11.out
  have jt := lt_of_heap Hls11.out
  have kt := lt_of_heap Hms11.out
  go_wp2_with fail
  clear j0 j1 j2 j3 k0 k1 k2 k3 jt kt
  have hfa : Frm [] w12 (w12.alloc (.cells #[.int .u64 v.pool, .int .u64 v.txg, .int .u64 v.note, .int .i64 v.root.top, .int .i64 v.root.at_, .int .i64 v.root.bytes, .int .u64 v.root.birth, .int .i64 v.root.kind, .int .u64 v.root.sa, .int .u64 v.root.sb, .int .u64 v.root.sc, .int .u64 v.root.sd] 45)) := (Frm.refl _ _).alloc _
  have hra := heap_alloc_new w12 (.cells #[.int .u64 v.pool, .int .u64 v.txg, .int .u64 v.note, .int .i64 v.root.top, .int .i64 v.root.at_, .int .i64 v.root.bytes, .int .u64 v.root.birth, .int .i64 v.root.kind, .int .u64 v.root.sa, .int .u64 v.root.sb, .int .u64 v.root.sc, .int .u64 v.root.sd] 45)
  obtain ⟨Hvb, hHvb⟩ : ∃ b, w12.heap.size = b := ⟨_, rfl⟩
  obtain ⟨w13, hw13⟩ : ∃ W, w12.alloc (.cells #[.int .u64 v.pool, .int .u64 v.txg, .int .u64 v.note, .int .i64 v.root.top, .int .i64 v.root.at_, .int .i64 v.root.bytes, .int .u64 v.root.birth, .int .i64 v.root.kind, .int .u64 v.root.sa, .int .u64 v.root.sb, .int .u64 v.root.sc, .int .u64 v.root.sd] 45) = W := ⟨_, rfl⟩
  rw [hw13] at hfa
  rw [hw13, hHvb] at hra
  rw [hw13, hHvb]
  clear hw13 hHvb
  have Hps12 := hid (hfa.heap Hps11.out (by simp))
  have Hqs12 := hid (hfa.heap Hqs11.out (by simp))
  have Hls12 := hid (hfa.heap Hls11.out (by simp))
  have Hms12 := hid (hfa.heap Hms11.out (by simp))
  have Hus12 := hid (hfa.heap Hus11.out (by simp))
  have HKs12 := hid (HKs11.out.kept hfa (by simp))
  have HOls12 := hid (HOls11.out.kept hfa)
  have HOms12 := hid (HOms11.out.kept hfa)
  have HFs12 := hid (HFs11.out.trans hfa (by simp))
  have HRDs12 := hid (HRDs11.out.kept hfa (by simp))
  clear hfa Hps11 Hqs11 Hls11 Hms11 Hus11 HKs11 HOls11 HOms11 HFs11 HRDs11 
  have Hvz := hid hra
  clear hra
  have HSM := same_any l m w13 HOls12.out HOms12.out (LabV.sameR HSl.out HSm.out)
  unfold LabV.arr at HSM
  refine HSM.mono ?_
  clear HSM
  rintro e wE ⟨rfl, hf⟩
  have Hps13 := hid (hf.heap Hps12.out (by simp))
  have Hqs13 := hid (hf.heap Hqs12.out (by simp))
  have Hls13 := hid (hf.heap Hls12.out (by simp))
  have Hms13 := hid (hf.heap Hms12.out (by simp))
  have Hus13 := hid (hf.heap Hus12.out (by simp))
  have Hvs13 := hid (hf.heap Hvz.out (by simp))
  have HKs13 := hid (HKs12.out.kept hf (by simp))
  have HOls13 := hid (HOls12.out.kept hf)
  have HOms13 := hid (HOms12.out.kept hf)
  have HFs13 := hid (HFs12.out.trans hf (by simp))
  have HRDs13 := hid (HRDs12.out.kept hf (by simp))
  clear hf Hps12 Hqs12 Hls12 Hms12 Hus12 Hvz HKs12 HOls12 HOms12 HFs12 HRDs12 
  have hcb := cv_any (P := Tryd.prog) (w := wE) 28 5 9 Tryd.underlying28 Tryd.underlying5 Tryd.underlying9 HRDs13.out bc HBL.out
  have hck := cv_any (P := Tryd.prog) (w := wE) 28 5 9 Tryd.underlying28 Tryd.underlying5 Tryd.underlying9 HKs13.out.rd kc HBL.out
  obtain ⟨ST, hST⟩ : ∃ ST, strOfNums bs = ST := ⟨_, rfl⟩
  rw [hST] at hcb hck
  clear hST
  have hss : (ST.toList == ST.toList) = true := by simp
  obtain ⟨a0, a1, a2, a3, a4, a5, a6, a7, a8⟩ := ptr_row (p := q) Hps13.out
  obtain ⟨b0, b1, b2, b3, b4, b5, b6, b7, b8⟩ := ptr_row (p := q) Hqs13.out
  obtain ⟨c0, c1, c2, c3, c4, c5, c6, c7, c8, c9, c10, c11⟩ := ub_row (u := v) Hus13.out
  obtain ⟨d0, d1, d2, d3, d4, d5, d6, d7, d8, d9, d10, d11⟩ := ub_row (u := v) Hvs13.out
  clear Hps13 Hqs13 Hus13 Hvs13 Hls13 Hms13 HOls13 HOms13 HSl HSm HRDs13 HKs13 HDP HDL HDU HRP HRL HRU
  go_wp2_with fail
  go_returns
  exact ⟨rfl, HFs13.out⟩
end
end Go.Proofs.YtdnnbinmippkdaaDoor
