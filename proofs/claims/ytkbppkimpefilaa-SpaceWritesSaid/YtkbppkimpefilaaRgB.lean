/- The library's Insert, at lists of spans. -/
import Derived.Test.YtkbppkimpefilaaRgA
import Derived.Laws.Externs
namespace Go.Proofs.Ytkbppkimpefilaa
open Go.RowKit Go.Lib
set_option maxRecDepth 100000

/-- An append whose run is known. -/
theorem wpList_append_runG {P : Program} {w : World} {ops : Array Oper} {rest : List Oper} {o : Oper} {a : Act} {Q : Exit → Act → World → Prop} (hgd : o.guard = none) (s x : Operand) (t tn : TypeId)
    (ho : o.op = .call { callee := .builtin .append, args := #[s, x], argTypes := #[t, tn] }) (vs vx : Value) (hs : a.eval s = vs) (hx : a.eval x = vx)
    (v' : Value) (w' : World) (hr : (Builtin.append_ #[t, tn] o.type #[vs, vx]).run P w = .ok v' w') (h : wpList P ops Q rest (a.put o.dst v') w') : wpList P ops Q (o :: rest) a w :=
  Lib.wpList_append_run w hgd s x t tn ho vs vx hs hx v' w' hr h
/-- copy of structs into the midst of a block, in a walk. -/
theorem wpList_copyG {P : Program} {w : World} {ops : Array Oper} {rest : List Oper} {o : Oper} {a : Act} {Q : Exit → Act → World → Prop} (hgd : o.guard = none) (d s : Operand) (T : TypeId)
    (ho : o.op = .call { callee := .builtin .copy, args := #[d, s], argTypes := #[T, T] })
    (E B : TypeId) (sz bytes : Nat) (z : Value) (ht : P.underlying T = some (.slice E)) (hI : (P.info? E).map (fun i => (i.zero, i.size, i.bytes)) = some (some z, sz, bytes)) (hsz : 0 < sz)
    (dp : Option Addr) (dn dc : Nat) (hd : a.eval d = .slice dp dn dc) (g off : Nat) (C : List Value) (hg : w.heap[g]? = some (.cells C.toArray B (0, 0))) (hdp : 0 < dn → dp = some ⟨g, off, none⟩) (hdn : off + dn * sz ≤ C.length)
    (p : Option Addr) (m c k : Nat) (ns : List Value) (hx : a.eval s = .slice p m c) (hk : k = min m dn) (hnl : ns.length = k * sz) (hrd : Rv w p ns) (h1 : ∀ u ∈ ns, u.oneCell' = true)
    (h : ∀ w', Hid (w'.heap[g]? = some (.cells (C.take off ++ (ns ++ C.drop (off + k * sz))).toArray B (0, 0))) → Hid (Frm [g] w w') → wpList P ops Q rest (a.put o.dst (.int .i64 (k : Int))) w') :
    wpList P ops Q (o :: rest) a w := by
  refine wpList_plain hgd fun K hK => ?_
  obtain ⟨w', hrun, h2, h3⟩ := run_copyG (P := P) (w := w) ht hI o.type hsz dp dn dc g off C B hg hdp hdn p m c k ns hk hnl hrd h1
  unfold Oper.wp
  simp only [execOp, ho, resolve, invoke, builtin, Sem.run_bind, Sem.run_pure, Result.andThen_ok, List.map_toArray, List.map_cons, List.map_nil, hd, hx, hrun]
  rw [List.append_assoc] at h2
  exact hK _ _ (h w' h2 h3)
theorem rv_block2 {w : World} {g k n : Nat} {C : List Value} {B : TypeId} (hg : w.heap[g]? = some (.cells C.toArray B (0, 0))) : Rv w (some ⟨g, k, none⟩) ((C.drop k).take n) :=
  Or.inr ⟨g, k, rfl, fun i u hu => by
    rw [cell_of_row _ _ _ _ _ _ hg]
    rw [List.getElem?_take] at hu
    split at hu
    · rw [List.getElem?_drop] at hu; simpa using hu
    · cases hu⟩
/-- The new block's cells, once all is copied. -/
theorem grow_cells {C : List Value} {A Y B : List Sp} {i m : Nat} (hi : A.length = i) (hm : Y.length = m) (hA : C.take (i * 2) = rowS A) :
    ((C.take (i * 2) ++ (rowS Y ++ C.drop (i * 2 + m * 2))).take ((i + m) * 2) ++ (rowS B ++ (C.take (i * 2) ++ (rowS Y ++ C.drop (i * 2 + m * 2))).drop ((i + m) * 2 + B.length * 2))).take ((i + m + B.length) * 2) = rowS (A ++ Y ++ B) := by
  have e1 : (C.take (i * 2) ++ (rowS Y ++ C.drop (i * 2 + m * 2))).take ((i + m) * 2) = rowS (A ++ Y) := by
    rw [hA, ← List.append_assoc, ← rowS_app]
    have h2 : (rowS (A ++ Y)).length = (i + m) * 2 := by rw [rowS_len, List.length_append, hi, hm]
    rw [← h2]
    exact List.take_left
  rw [e1, ← List.append_assoc, ← rowS_app]
  have h2 : (rowS (A ++ Y ++ B)).length = (i + m + B.length) * 2 := by rw [rowS_len, List.length_append, List.length_append, hi, hm]
  rw [← h2]
  exact List.take_left
theorem shift_cells {C : List Value} {l Y : List Sp} {i n m : Nat} (hi : i ≤ n) (hn : l.length = n) (hm : Y.length = m) (ht : C.take (n * 2) = rowS l) (hl : (n + m) * 2 ≤ C.length) :
    ((C.take ((i + m) * 2) ++ ((C.drop (i * 2)).take ((n - i) * 2) ++ C.drop ((i + m) * 2 + (n - i) * 2))).take (i * 2) ++ (rowS Y ++ (C.take ((i + m) * 2) ++ ((C.drop (i * 2)).take ((n - i) * 2) ++ C.drop ((i + m) * 2 + (n - i) * 2))).drop (i * 2 + m * 2))).take ((n + m) * 2) = rowS (l.take i ++ Y ++ l.drop i) := by
  have e0 : (C.drop (i * 2)).take ((n - i) * 2) = rowS (l.drop i) := by
    rw [← rowS_drop, ← ht, List.drop_take, show n * 2 - i * 2 = (n - i) * 2 by omega]
  have e1 : C.take (i * 2) = rowS (l.take i) := by rw [← rowS_take, ← ht, List.take_take, Nat.min_eq_left (by omega)]
  have e2 : (C.take ((i + m) * 2) ++ ((C.drop (i * 2)).take ((n - i) * 2) ++ C.drop ((i + m) * 2 + (n - i) * 2))).take (i * 2) = rowS (l.take i) := by
    rw [List.take_append_of_le_length (by rw [List.length_take]; omega), List.take_take, Nat.min_eq_left (by omega), e1]
  have e3 : (C.take ((i + m) * 2) ++ ((C.drop (i * 2)).take ((n - i) * 2) ++ C.drop ((i + m) * 2 + (n - i) * 2))).drop (i * 2 + m * 2) = rowS (l.drop i) ++ C.drop ((i + m) * 2 + (n - i) * 2) := by
    have h3 : (C.take ((i + m) * 2)).length = i * 2 + m * 2 := by rw [List.length_take]; omega
    rw [← h3, List.drop_left, e0]
  rw [e2, e3, ← List.append_assoc, ← List.append_assoc, ← rowS_app, ← rowS_app]
  have h2 : (rowS (l.take i ++ Y ++ l.drop i)).length = (n + m) * 2 := by
    rw [rowS_len, List.length_append, List.length_append, List.length_take, List.length_drop, hn, hm, Nat.min_eq_left hi]; omega
  rw [← h2]
  exact List.take_left
theorem partAt_some {g c lo : Nat} (h : c ≠ lo) : partAt (some ⟨g, 0, none⟩) c lo 2 = some ⟨g, lo * 2, none⟩ := by
  unfold partAt
  rw [if_neg h]
  cases lo <;> simp [Addr.add]
set_option maxHeartbeats 6400000 in
theorem ins_any (p : Option Addr) (n c i : Nat) (l : List Sp) (vp : Option Addr) (m vc : Nat) (ys : List Sp) (w : World) (h : OwnS w p n c l) (hi : i ≤ n) (hv : OwnS w vp m vc ys) (hne : ∀ k ∈ blk vp, k ∉ blk p) (hb : n + m ≤ 1000000) :
    Calls Try.prog 110 #[.slice p n c, .int .i64 (i : Int), .slice vp m vc] w fun e w' => ∃ p' c', e = .returned (.slice p' (n + m : Nat) c') ∧ OwnS w' p' (n + m) c' (l.take i ++ ys ++ l.drop i) ∧ Frm (blk p) w w' ∧ ∀ k ∈ blk p', k ∈ blk p ∨ w.heap.size ≤ k := by
  obtain ⟨hnc, hcm⟩ := h.cap
  have hu : Try.prog.underlying 43 = some (.slice 39) := Try.underlying43
  have hs1 : ∀ W, (Instr.slice 43 (.slice p n c) (some (.int .i64 (i : Int))) none none).run Try.prog W = _ := fun W => sl_l hu infoSp p n c i hi W
  have HO := hid h
  have HV := hid hv
  have HNE := hid hne
  obtain ⟨PO, hPO⟩ : ∃ PO : Ending → World → Prop, (fun e w' => ∃ p' c', e = .returned (.slice p' (n + m : Nat) c') ∧ OwnS w' p' (n + m) c' (l.take i ++ ys ++ l.drop i) ∧ Frm (blk p) w w' ∧ ∀ k ∈ blk p', k ∈ blk p ∨ w.heap.size ≤ k) = PO := ⟨_, rfl⟩
  rw [hPO]
  have HP : Hid (∀ p' c' w', OwnS w' p' (n + m) c' (l.take i ++ ys ++ l.drop i) → Frm (blk p) w w' → (∀ k ∈ blk p', k ∈ blk p ∨ w.heap.size ≤ k) → PO (.returned (.slice p' (n + m : Nat) c')) w') := hid (fun p' c' w' h1 h2 h3 => by rw [← hPO]; exact ⟨p', c', rfl, h1, h2, h3⟩)
  clear hPO h hv hne
  go_enter Try.func110, Try.ntmps110
  by_cases hm0 : m = 0
  · subst hm0
    have hy0 : ys = [] := List.eq_nil_of_length_eq_zero HV.out.2
    go_wp2_with fail
    first | go_returns | skip
    refine HP.out p c w ?_ (Frm.refl _ _) (fun k hk => Or.inl hk)
    rw [hy0, List.append_nil, List.take_append_drop]
    exact HO.out
  have hm1 : ((m : Int) == 0) = false := by simp; omega
  by_cases hin : i = n
  · subst hin
    have HR := hid HV.out.rv
    have HOW := hid HO.out.1
    have HYL : Hid ((rowS ys).length = m * 2) := hid (by rw [rowS_len, HV.out.2])
    go_wp2_with (at_builtin; refine wpList_appV rfl _ _ 43 rfl 39 2 16 _ hu infoSp rfl (by decide) p i c (rowS l) rfl HOW.out vp m vc (rowS ys) rfl HYL.out (fun h0 => absurd h0 hm0) HR.out (rowS_one _) (by unfold maxLen; omega) (by omega) ?_)
    intro p2 c2 w2 ho2 hf2 hb2
    have HFIN : Hid (PO (.returned (.slice p2 (i + m : Nat) c2)) w2) := hid (HP.out p2 c2 w2 ⟨by rw [List.take_of_length_le (by rw [HO.out.2]; exact Nat.le_refl _), List.drop_eq_nil_of_le (by rw [HO.out.2]; exact Nat.le_refl _), List.append_nil, rowS_app]; exact ho2.out, by rw [List.length_append, List.length_append, List.length_take, List.length_drop, HO.out.2, HV.out.2]; omega⟩ hf2.out hb2.out)
    clear ho2 hf2 hb2
    go_wp2_with fail
    first | go_returns | skip
    exact HFIN.out
  have hin1 : ((i : Int) == (n : Int)) = false := by simp; omega
  have hlt : i < n := by omega
  obtain ⟨g, C, rfl, hg, _, _, hl, ht⟩ := HO.out.block (by omega)
  have HG := hid hg
  have HT := hid ht
  have HCL := hid hl
  clear hg ht hl
  by_cases hgr : c < n + m
  · have hs2 : ∀ W, (Instr.slice 43 (.slice (some ⟨g, 0, none⟩) n c) none (some (.int .i64 (i : Int))) none).run Try.prog W = _ := fun W => sl_h hu infoSp (some ⟨g, 0, none⟩) n c i (by omega) W
    have t1 : (c : Int) < (n : Int) + (m : Int) := by omega
    have hk : (n : Int) + (m : Int) - (i : Int) = ((n + m - i : Nat) : Int) := by omega
    obtain ⟨i0, hi0, hz0, hs0, hb0⟩ := info_parts infoSp
    have hold : (Builtin.firstCells i0.size i (.slice (some ⟨g, 0, none⟩) i c)).run Try.prog w.drew = .ok (rowS (l.take i)).toArray w.drew := run_firstCells_some (P := Try.prog) w.drew i0.size i ⟨g, 0, none⟩ i c (rowS (l.take i)) (by rw [rowS_len, hs0, List.length_take, HO.out.2, Nat.min_eq_left hi]) (fun j u hu => by
      rw [show (⟨g, 0, none⟩ : Addr).add j = ⟨g, j, none⟩ by cases j <;> simp [Addr.add]]
      rw [← rowS_take, List.getElem?_take] at hu
      split at hu
      · rw [← HT.out, List.getElem?_take] at hu
        split at hu
        · show w.cell? _ = _
          rw [cell_of_row _ _ _ _ _ _ HG.out]; simpa using hu
        · cases hu
      · cases hu)
    have hns : Builtin.nextslicecap (i + (n + m - i)) c * i0.bytes ≤ 281474976710656 := by
      have := nextslicecap_le (need := i + (n + m - i)) (old := c) (by omega)
      rw [hb0]; omega
    have hap : ∀ ty, _ := fun ty => run_append_grow_zeros (P := Try.prog) w 43 3 ty 39 i0 _ .i64 .i64 hu Try.underlying3 hi0 hz0 (some ⟨g, 0, none⟩) i c _ hold (n + m - i) (by omega) (by omega) (by omega) (by omega) (by rw [hb0]; omega) hns
    simp only [← hk] at hap
    have hge := grownCap_ge w (i + (n + m - i)) c 39
    have hle : grownCap w (i + (n + m - i)) c 39 ≤ maxLen := grownCap_le_maxLen w _ _ _ (by unfold maxLen; omega)
    obtain ⟨cN, hcN⟩ : ∃ q, grownCap w (i + (n + m - i)) c 39 = q := ⟨_, rfl⟩
    rw [hcN] at hap hge hle
    obtain ⟨N, hN⟩ : ∃ q, i + (n + m - i) = q := ⟨_, rfl⟩
    have hNe : N = n + m := by omega
    rw [hN] at hap hge
    rw [hNe] at hap hge
    obtain ⟨C1, hC1⟩ : ∃ q, ((rowS (l.take i)).toArray ++ Builtin.zeroCells (Value.agg #[.int .i64 0, .int .i64 0]).cells (n + m - i) ++ Builtin.zeroCells (Value.agg #[.int .i64 0, .int .i64 0]).cells (cN - (n + m))) = q := ⟨_, rfl⟩
    rw [hC1] at hap
    have hC1l : C1.toList.length = cN * 2 := by
      rw [← hC1, Array.length_toList, Array.size_append, Array.size_append, size_zeroCells, size_zeroCells, List.size_toArray, rowS_len, List.length_take, HO.out.2, Nat.min_eq_left hi]
      show i * 2 + (n + m - i) * 2 + (cN - (n + m)) * 2 = cN * 2
      omega
    have hC1t : C1.toList.take (i * 2) = rowS (l.take i) := by
      rw [← hC1]
      simp only [Array.toList_append, List.append_assoc]
      have h2 : (rowS (l.take i)).length = i * 2 := by rw [rowS_len, List.length_take, HO.out.2, Nat.min_eq_left hi]
      rw [← h2]
      exact List.take_left
    obtain ⟨gN, hgN⟩ : ∃ q, w.heap.size = q := ⟨_, rfl⟩
    have hg1 : (w.drew.alloc (.cells C1 39)).heap[gN]? = some (.cells C1.toList.toArray 39 (0, 0)) := by
      rw [Array.toArray_toList]; exact heap_alloc_to _ _ hgN
    have hf1 : Frm [] w (w.drew.alloc (.cells C1 39)) := (Frm.refl [] w).drew.alloc _
    obtain ⟨w1, hw1⟩ : ∃ q, w.drew.alloc (.cells C1 39) = q := ⟨_, rfl⟩
    rw [hw1] at hg1 hf1 hap
    rw [hgN] at hap
    have HAP := hid hap
    have HG1 := hid hg1
    have HF1 := hid hf1
    have hv1 := HV.out.kept hf1 (by simp)
    have HYR := hid hv1.rv
    have HYL : Hid ((rowS ys).length = m * 2) := hid (by rw [rowS_len, HV.out.2])
    have hs3 : ∀ W, (Instr.slice 43 (.slice (some ⟨gN, 0, none⟩) (n + m : Nat) cN) (some (.int .i64 (i : Int))) none none).run Try.prog W = _ := fun W => sl_l hu infoSp (some ⟨gN, 0, none⟩) (n + m) cN i (by omega) W
    have hs5 : ∀ W, (Instr.sliceAt 43 (.slice (some ⟨gN, 0, none⟩) (n + m : Nat) cN) (some (.int .i64 ((i : Int) + (m : Int)))) none none).run Try.prog W = .ok (.slice (partAt (some ⟨gN, 0, none⟩) cN (i + m) 2) (n + m - (i + m)) (cN - (i + m))) W := fun W => by
      rw [run_sliceAt_slice (h := by rw [show Try.prog.elem 43 = 39 by simp [Program.elem, hu]]; exact hu), show (i : Int) + (m : Int) = ((i + m : Nat) : Int) by omega]
      exact sl_l hu infoSp (some ⟨gN, 0, none⟩) (n + m) cN (i + m) (by omega) W
    have hs6 : ∀ W, (Instr.sliceAt 43 (.slice (some ⟨g, 0, none⟩) n c) (some (.int .i64 (i : Int))) none none).run Try.prog W = .ok (.slice (partAt (some ⟨g, 0, none⟩) c i 2) (n - i) (c - i)) W := fun W => by
      rw [run_sliceAt_slice (h := by rw [show Try.prog.elem 43 = 39 by simp [Program.elem, hu]]; exact hu)]
      exact hs1 W
    have hs7 : ∀ W, (Instr.sliceAt 43 (.slice (some ⟨gN, 0, none⟩) (n + m : Nat) cN) (some (.int .i64 (IntKind.i64.wrap ((i : Int) + (m : Int))))) none none).run Try.prog W = .ok (.slice (partAt (some ⟨gN, 0, none⟩) cN (i + m) 2) (n + m - (i + m)) (cN - (i + m))) W := fun W => by rw [show IntKind.i64.wrap ((i : Int) + (m : Int)) = (i : Int) + (m : Int) by rw [IntKind.wrap_i64]; omega]; exact hs5 W
    have HMIN : Hid (m = min m (n + m - i)) := hid (by omega)
    have HMIN2 : Hid (n - i = min (n - i) (n + m - (i + m))) := hid (by omega)
    have HC1T := hid hC1t
    have HC1L := hid hC1l
    clear hap hg1 hf1 hv1 hw1 hC1 hN hNe hcN hns hold hk hi0 hz0 hs0 hb0 hC1t hC1l
    go_upto_region 9 with fail
    go_upto_region 10 with (at_builtin; refine wpList_append_runG rfl _ _ 43 3 rfl _ _ rfl rfl _ _ (HAP.out _) ?_)
    go_wp2_with (refine wpList_copyG rfl _ _ 43 rfl 39 39 2 16 _ hu infoSp (by decide) _ (n + m - i) (cN - i) rfl gN (i * 2) C1.toList HG1.out (fun _ => partAt_some (by omega)) (by rw [HC1L.out]; omega) vp m vc m (rowS ys) rfl HMIN.out HYL.out HYR.out (rowS_one _) ?_)
    intro w2 hg2 hf2
    obtain ⟨C2, hC2⟩ : ∃ q, C1.toList.take (i * 2) ++ (rowS ys ++ C1.toList.drop (i * 2 + m * 2)) = q := ⟨_, rfl⟩
    rw [hC2] at hg2
    have hC2l : C2.length = cN * 2 := by
      rw [← hC2, List.length_append, List.length_append, List.length_take, List.length_drop, HYL.out, HC1L.out]; omega
    have HG2 := hid hg2.out
    have HC2 := hid hC2
    have HC2L := hid hC2l
    have hgn : g ≠ gN := by have := lt_of_heap HG.out; omega
    have hf2' : Frm [] w w2 := HF1.out.trans hf2.out (by simp; omega)
    have HF2 := hid hf2'
    have ho2 := HO.out.kept hf2' (by simp)
    have hrv : Rv w2.drew (partAt (some ⟨g, 0, none⟩) c i 2) (rowS (l.drop i)) := by
      have h1 := partAt_rv (some ⟨g, 0, none⟩) c i (rowS l) n (by rw [rowS_len, HO.out.2]) hi hnc (ho2.kept (Frm.refl [] w2).drew (by simp)).rv
      rwa [rowS_drop] at h1
    have HRV := hid hrv
    have HRL : Hid ((rowS (l.drop i)).length = (n - i) * 2) := hid (by rw [rowS_len, List.length_drop, HO.out.2])
    clear hg2 hf2 hC2 hC2l hrv ho2 hf2'
    go_upto_region 11 with fail
    go_still_tail 8, (by kernel_rfl)
    change wpList _ _ _ _ _ w2.drew
    have hg2d : w2.drew.heap[gN]? = some (.cells C2.toArray 39 (0, 0)) := HG2.out
    go_wp2_with (refine wpList_copyG rfl _ _ 43 rfl 39 39 2 16 _ hu infoSp (by decide) _ (n + m - (i + m)) (cN - (i + m)) rfl gN ((i + m) * 2) C2 hg2d (fun _ => partAt_some (by omega)) (by rw [HC2L.out]; omega) _ (n - i) (c - i) (n - i) (rowS (l.drop i)) rfl HMIN2.out HRL.out HRV.out (rowS_one _) ?_)
    intro w3 hg3 hf3
    have hcells := grow_cells (C := C1.toList) (A := l.take i) (Y := ys) (B := l.drop i) (i := i) (m := m) (by rw [List.length_take, HO.out.2, Nat.min_eq_left hi]) HV.out.2 HC1T.out
    have hBl : (l.drop i).length = n - i := by rw [List.length_drop, HO.out.2]
    rw [HC2.out, hBl, show i + m + (n - i) = n + m by omega] at hcells
    have HFIN : Hid (PO (.returned (.slice (some ⟨gN, 0, none⟩) (n + m : Nat) cN)) w3) := hid (HP.out _ _ w3 (OwnS.of hg3.out hge hle (by rw [List.length_append, List.length_append, List.length_take, List.length_drop, HC2L.out, HRL.out]; omega) hcells (by rw [List.length_append, List.length_append, List.length_take, List.length_drop, HO.out.2, HV.out.2]; omega)) (((HF2.out.drew).trans hf3.out (by simp; omega)).mono (by simp)) (by intro k hk; simp [blk] at hk; subst hk; omega))
    clear hg3 hf3 hcells
    go_wp2_with fail
    first | go_returns | skip
    exact HFIN.out
  · have hs2 : ∀ W, (Instr.slice 43 (.slice (some ⟨g, 0, none⟩) n c) none (some (.int .i64 ((n : Int) + (m : Int)))) none).run Try.prog W = .ok (.slice (some ⟨g, 0, none⟩) (n + m) c) W := fun W => by
      rw [show (n : Int) + (m : Int) = ((n + m : Nat) : Int) by omega]
      exact sl_h hu infoSp (some ⟨g, 0, none⟩) n c (n + m) (by omega) W
    have t1 : ¬ ((c : Int) < (n : Int) + (m : Int)) := by omega
    obtain ⟨gv, CV, rfl, hgv, _, _, hlv, htv⟩ := HV.out.block (by omega)
    have hgne : gv ≠ g := fun e => HNE.out gv (by simp [blk]) (by simp [blk, e])
    have hs3 : ∀ W, (Instr.slice 43 (.slice (some ⟨g, 0, none⟩) (n + m : Nat) c) (some (.int .i64 ((i : Int) + (m : Int)))) none none).run Try.prog W = .ok (.slice (some ⟨g, (i + m) * 2, none⟩) (n + m - (i + m)) (c - (i + m))) W := fun W => by
      rw [show (i : Int) + (m : Int) = ((i + m : Nat) : Int) by omega, sl_l hu infoSp (some ⟨g, 0, none⟩) (n + m) c (i + m) (by omega) W, partAt_some (by omega)]
    have hs4 : ∀ W, (Instr.sliceAt 43 (.slice (some ⟨g, 0, none⟩) (n + m : Nat) c) (some (.int .i64 ((i : Int) + (m : Int)))) none none).run Try.prog W = .ok (.slice (some ⟨g, (i + m) * 2, none⟩) (n + m - (i + m)) (c - (i + m))) W := fun W => by
      rw [run_sliceAt_slice (h := by rw [show Try.prog.elem 43 = 39 by simp [Program.elem, hu]]; exact hu)]
      exact hs3 W
    have hs5 : ∀ W, (Instr.slice 43 (.slice (some ⟨g, 0, none⟩) (n + m : Nat) c) (some (.int .i64 (i : Int))) none none).run Try.prog W = .ok (.slice (some ⟨g, i * 2, none⟩) (n + m - i) (c - i)) W := fun W => by
      rw [sl_l hu infoSp (some ⟨g, 0, none⟩) (n + m) c i (by omega) W, partAt_some (by omega)]
    have hs6 : ∀ W, (Instr.sliceAt 43 (.slice (some ⟨g, 0, none⟩) (n + m : Nat) c) (some (.int .i64 (i : Int))) none none).run Try.prog W = .ok (.slice (some ⟨g, i * 2, none⟩) (n + m - i) (c - i)) W := fun W => by
      rw [run_sliceAt_slice (h := by rw [show Try.prog.elem 43 = 39 by simp [Program.elem, hu]]; exact hu)]
      exact hs5 W
    have hs7 : ∀ W, (Instr.sliceAt 43 (.slice (some ⟨g, 0, none⟩) (n + m : Nat) c) (some (.int .i64 (IntKind.i64.wrap ((i : Int) + (m : Int))))) none none).run Try.prog W = .ok (.slice (some ⟨g, (i + m) * 2, none⟩) (n + m - (i + m)) (c - (i + m))) W := fun W => by rw [show IntKind.i64.wrap ((i : Int) + (m : Int)) = (i : Int) + (m : Int) by rw [IntKind.wrap_i64]; omega]; exact hs4 W
    have hsa : w.shape? gv = some (39, CV.length) := by unfold World.shape?; rw [hgv]; simp
    have hsb : w.shape? g = some (39, C.length) := by unfold World.shape?; rw [HG.out]; simp
    have hov : ∀ lb cb, (callFunc 115 #[.slice (some ⟨gv, 0, none⟩) m vc, .slice (some ⟨g, (i + m) * 2, none⟩) lb cb]).run Try.prog w = .ok (.value (.bool false)) w := fun lb cb => by
      rw [run_callFunc_extern Try.func115 (by kernel_rfl) (by kernel_rfl) (by kernel_rfl) (e := Extern.SlicesOverlaps.overlaps #[43, 43] #[4]) (by kernel_rfl),
        Lib.run_overlaps_apart w 43 4 39 hu 2 (sizeOf_sl infoSp) ⟨gv, 0, none⟩ ⟨g, (i + m) * 2, none⟩ m vc lb cb hgne _ _ _ _ hsa hsb (by rw [HCL.out]; omega) (frozen_of_row w _ _ _ _ hgv) (frozen_of_row w _ _ _ _ hgv)]
      rfl
    have HYR := hid HV.out.rv
    have HYL : Hid ((rowS ys).length = m * 2) := hid (by rw [rowS_len, HV.out.2])
    clear hgv hlv htv hsa hsb
    go_upto_region 14 with fail
    go_upto_region 15 with (simp only [hov])
    go_still_tail 8, (by kernel_rfl)
    change wpList _ _ _ _ _ w.drew
    have hgd : w.drew.heap[g]? = some (.cells C.toArray 39 (0, 0)) := HG.out
    have e0 : (C.drop (i * 2)).take ((n - i) * 2) = rowS (l.drop i) := by
      rw [← rowS_drop, ← HT.out, List.drop_take, show n * 2 - i * 2 = (n - i) * 2 by omega]
    have HRV : Hid (Rv w.drew (some ⟨g, i * 2, none⟩) ((C.drop (i * 2)).take ((n - i) * 2))) := hid (rv_block2 hgd)
    have HRL : Hid (((C.drop (i * 2)).take ((n - i) * 2)).length = (n - i) * 2) := hid (by rw [e0, rowS_len, List.length_drop, HO.out.2])
    have HONE : Hid (∀ u ∈ (C.drop (i * 2)).take ((n - i) * 2), u.oneCell' = true) := hid (by rw [e0]; exact rowS_one _)
    have HMIN : Hid (n - i = min (n + m - i) (n + m - (i + m))) := hid (by omega)
    have HMIN2 : Hid (m = min m (n + m - i)) := hid (by omega)
    clear hov e0
    go_wp2_with (refine wpList_copyG rfl _ _ 43 rfl 39 39 2 16 _ hu infoSp (by decide) _ (n + m - (i + m)) (c - (i + m)) rfl g ((i + m) * 2) C hgd (fun _ => rfl) (by rw [HCL.out]; omega) _ (n + m - i) (c - i) (n - i) ((C.drop (i * 2)).take ((n - i) * 2)) rfl HMIN.out HRL.out HRV.out HONE.out ?_)
    intro w2 hg2 hf2
    obtain ⟨C2, hC2⟩ : ∃ q, C.take ((i + m) * 2) ++ ((C.drop (i * 2)).take ((n - i) * 2) ++ C.drop ((i + m) * 2 + (n - i) * 2)) = q := ⟨_, rfl⟩
    rw [hC2] at hg2
    have hC2l : C2.length = c * 2 := by
      rw [← hC2, List.length_append, List.length_append, HRL.out, List.length_take, List.length_drop, HCL.out]; omega
    have hf2' : Frm [g] w w2 := (Frm.refl [g] w).drew.trans hf2.out (fun k hk _ => hk)
    have HG2 := hid hg2.out
    have HF2 := hid hf2'
    have HC2 := hid hC2
    have HC2L := hid hC2l
    have HYR2 := hid (HV.out.kept hf2' (by simp [blk]; exact hgne)).rv
    clear hg2 hf2 hC2 hC2l hf2'
    go_upto_region 16 with fail
    go_wp2_with (refine wpList_copyG rfl _ _ 43 rfl 39 39 2 16 _ hu infoSp (by decide) _ (n + m - i) (c - i) rfl g (i * 2) C2 HG2.out (fun _ => rfl) (by rw [HC2L.out]; omega) _ m vc m (rowS ys) rfl HMIN2.out HYL.out HYR2.out (rowS_one _) ?_)
    intro w3 hg3 hf3
    have hcells := shift_cells (C := C) (l := l) (Y := ys) (i := i) (n := n) (m := m) hi HO.out.2 HV.out.2 HT.out (by rw [HCL.out]; omega)
    rw [HC2.out] at hcells
    have HFIN : Hid (PO (.returned (.slice (some ⟨g, 0, none⟩) (n + m : Nat) c)) w3) := hid (HP.out _ _ w3 (OwnS.of hg3.out (by omega) hcm (by rw [List.length_append, List.length_append, List.length_take, List.length_drop, HC2L.out, HYL.out]; omega) hcells (by rw [List.length_append, List.length_append, List.length_take, List.length_drop, HO.out.2, HV.out.2]; omega)) (HF2.out.trans hf3.out (fun k hk _ => hk)) (fun k hk => Or.inl hk))
    clear hg3 hf3 hcells
    go_wp2_with fail
    first | go_returns | skip
    exact HFIN.out
end Go.Proofs.Ytkbppkimpefilaa
