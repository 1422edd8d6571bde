/- Contracts of package ilog: record, its pieces. -/
import Derived.Test.YtiefgfbeemlnjaaIlogM
import Derived.Test.YtiefgfbeemlnjaaRowsL
import Derived.Laws.Rows
import Derived.Deep.RegionLaw
namespace Go.Proofs.Ytiefgfbeemlnjaa
open Go.RowKit
set_option maxRecDepth 100000

theorem slice_mid {P : Program} {t e : TypeId} (ht : P.underlying t = some (.slice e)) (hI : (P.info? e).map (fun i => (i.zero, i.size, i.bytes)) = some (some (.int .u8 0), 1, 1)) (g o n c lo hi : Nat) (hlo : lo < hi) (hc : hi ≤ c) (W : World) :
    (Instr.slice t (.slice (some ⟨g, o, none⟩) n c) (some (.int .i64 (lo : Int))) (some (.int .i64 (hi : Int))) (some (.int .i64 (hi : Int)))).run P W = .ok (.slice (some ⟨g, o + lo, none⟩) (hi - lo) (hi - lo)) W := by
  obtain ⟨i, hi', hz, h1, h2⟩ := info_parts hI
  have he : P.elem t = e := by simp [Program.elem, ht]
  rw [run_slice_lhm W t _ _ _ (elem_of ht) .i64 .i64 .i64 _ _ _ (by omega) (by omega) (Int.le_refl _) (by omega), he]
  have hs : (sizeOf e).run P W = .ok 1 W := by simp [sizeOf, typeInfo, hi', h1, Result.andThen]
  rw [hs]
  have hne : ¬ hi = lo := by omega
  by_cases h0 : lo = 0
  · subst h0; simp [Result.andThen, sliced, Addr.add, hne]
  · simp [Result.andThen, sliced, Addr.add, hne, h0]
/-- The bytes behind a piece's head. -/
theorem piece_cut (pa ni : Nat) (h : ni ≤ 68) : ∃ pp : Addr, (∀ W : World, (Instr.sliceAt 127 (.pointer (some ⟨pa, 0, none⟩)) (some (.int .i64 20)) (some (.int .i64 (20 + (ni : Int)))) (some (.int .i64 (20 + (ni : Int))))).run Try.prog W = .ok (.slice (some pp) ni ni) W) ∧ (∀ (W : World) (zs : List Int), Rd W (some ⟨pa, 0, none⟩) zs → Rd W (some pp) ((zs.drop 20).take ni)) := by
  refine ⟨if ni = 0 then ⟨pa, 0, none⟩ else ⟨pa, 20, none⟩, fun W => ?_, fun W zs hz => ?_⟩
  · rw [run_sliceAt_array_lhm W 127 _ (by kernel_rfl) .i64 .i64 .i64 20 _ _ (by omega) (by omega) (Int.le_refl _) (by rw [show Try.prog.arrayLen 127 = 88 from by kernel_rfl]; omega)]
    rw [show ∀ W : World, (sizeOf (Try.prog.elem 127)).run Try.prog W = .ok 1 W from fun W => by kernel_rfl]
    have e1 : ((20 : Int) + (ni : Int)).toNat = 20 + ni := by omega
    have e2 : (20 : Int).toNat = 20 := rfl
    simp only [Result.andThen_ok, slicedAt, e1, e2]
    by_cases h0 : ni = 0
    · subst h0; simp
    · have : ¬ (20 + ni = 20) := by omega
      rw [if_neg this, if_neg h0]
      simp [Addr.add]
  · by_cases h0 : ni = 0
    · subst h0; exact Or.inl (by simp)
    · rw [if_neg h0]
      have := (Rd.drop hz 20).take ni
      simpa using this
/-- What record answers. -/
def PostR (base next : Nat) (zs : List Int) (w : World) (e : Ending) (w' : World) : Prop :=
  Frm [] w w' ∧ ((e = .returned (.tuple #[.slice none 0 0, .bool false]) ∧ NoRec base next zs) ∨ ∃ (body : List Int) (p' : Option Addr) (n' c' : Nat), body.length ≤ 4096 ∧ recB base next body <+: zs ∧ e = .returned (.tuple #[.slice p' n' c', .bool true]) ∧ n' = body.length ∧ Own w' 5 (.slice p' n' c') body ∧ ∀ k ∈ blk p', w.heap.size ≤ k)
set_option maxHeartbeats 1600000 in
theorem record_loop (b base at_ next : Nat) (g o : Nat) (zs : List Int) (n c N : Nat) (hn : zs.length = n) (h88 : 88 ≤ n) (hc : n ≤ c) (hb1 : base < 9223372036854775808) (hb2 : next < 9223372036854775808) (hN : (zs.drop 16).take 4 = le N 4) (hN2 : N ≤ 4096) (hfit : pcs N * 88 ≤ n) (w : World) (hL : IsLog w b base at_ next) (hrd : Rd w (some ⟨g, o, none⟩) zs) :
    Calls Try.prog 74 #[.pointer (some ⟨b, 0, none⟩), .slice (some ⟨g, o, none⟩) n c] w (PostR base next zs w) := by
  have h1 : ¬ (n : Int) < 88 := by omega
  have h2 : (20 : Int) ≤ (c : Int) := by omega
  have h3 : (20 : Int) ≤ (n : Int) := by omega
  have hr4 : Rd w (some ⟨g, o + 16, none⟩) (le N 4) := by rw [← hN]; exact (hrd.drop 16).take 4
  have HR4 := hid hr4
  have hm : N % 2 ^ (8 * 4) = N := Nat.mod_eq_of_lt (by omega)
  have HM := hid hm
  have HRD := hid hrd
  have HL := hid hL
  have HNN := hid hn
  have HN := hid hN
  have hl' : ¬ (4096 : Int) < (N : Int) := by omega
  have hq : ¬ (n : Int) < (pcs N : Int) * 88 := by omega
  have HPC : Hid (pcs N = pcs N) := rfl
  obtain ⟨m, hm2⟩ : ∃ m, pcs N = m := ⟨_, rfl⟩
  have HPQ := hid (pieces_any N (by omega))
  have hmb := pcs_le N (by omega)
  have hm0 := pcs_pos N
  have hNm : N ≤ m * 68 := by rw [← hm2]; unfold pcs; omega
  have hlo : ∀ t, t < m → t * 68 ≤ N := by intro t ht; rw [← hm2] at ht; unfold pcs at ht; omega
  have HLO := hid hlo
  have HMM := hid hm2
  rw [hm2] at hq HPQ hmb hm0 hfit
  have hmk : ∀ w : World, (Instr.makeSlice 22 (.int .i64 0) (.int .i64 (N : Int))).run Try.prog w = .ok (.slice (some ⟨w.heap.size, 0, none⟩) 0 N) (w.alloc (.cells (madeCells #[.int .u8 0] N) 5)) := fun w => run_make_cap (P := Try.prog) 22 5 Try.underlying22 infoB N (by omega) w
  clear hr4 hm hN hrd hL hn hm2 hlo HPC
  go_enter Try.func74, Try.ntmps74
  go_wp2_with fail
  refine (value16_any N 4 (Nat.le_refl _) _ _ _ HR4.out).mono ?_
  rintro e w1 ⟨rfl, rfl⟩
  rw [HM.out]
  go_wp2_with fail
  refine (HPQ.out _).mono ?_
  rintro e w1 ⟨rfl, rfl⟩
  go_wp2_with fail
  refine (HPQ.out _).mono ?_
  rintro e w1 ⟨rfl, rfl⟩
  have HA0 : Hid (App w (w.alloc (.cells (madeCells #[Value.int .u8 0] N) 5)) (some ⟨w.heap.size, 0, none⟩) 0 N (bodyT zs N 0)) := hid
    ⟨by simp [bodyT], World.ownsRow_made w _ N (Nat.zero_le _) (by unfold maxLen; omega) (by rw [size_madeCells]; omega), (Frm.refl _ _).alloc _, by simp [blk]⟩
  go_wp2_with fail
  go_loopw [7, 34] (fun v i wr => ∃ (t : Nat) (p' : Option Addr) (c' : Nat), t ≤ m ∧ i = .int .i64 t ∧ v = .slice p' (min (t * 68) N) c' ∧ Hid (App w wr p' (min (t * 68) N) c' (bodyT zs N t)) ∧ Hid (∀ i, i < t → (zs.drop (i * 88)).take 88 = pieceB base next i m (bodyT zs N m))) (fun _ i _ => m - (intOf i).toNat)
  case atStart => exact ⟨0, _, _, Nat.zero_le _, rfl, by simp; exact ⟨rfl, rfl⟩, by simpa using HA0, hid (fun i hi => absurd hi (by omega))⟩
  case round =>
    clear HA0
    obtain ⟨t, p', c', ht, rfl, rfl, ha, hpre⟩ := hrel
    by_cases hlt : t < m
    · have htt := HLO.out t hlt
      have htn : (t + 1) * 88 ≤ n := Nat.le_trans (Nat.mul_le_mul_right _ (by omega : t + 1 ≤ m)) hfit
      have hsl := fun W => slice_mid (P := Try.prog) Try.underlying22 infoB g o n c (t * 88) ((t + 1) * 88) (by omega) (by omega) W
      rw [show (t + 1) * 88 - t * 88 = 88 by omega, show ((t * 88 : Nat) : Int) = (t : Int) * 88 by omega, show (((t + 1) * 88 : Nat) : Int) = ((t : Int) + 1) * 88 by omega] at hsl
      have hsl2 : ∀ W : World, (Instr.sliceAt 22 (.slice (some ⟨g, o, none⟩) n c) (some (.int .i64 ((t : Int) * 88))) (some (.int .i64 (((t : Int) + 1) * 88))) (some (.int .i64 (((t : Int) + 1) * 88)))).run Try.prog W = .ok (.slice (some ⟨g, o + t * 88, none⟩) 88 88) W := by
        intro W
        rw [run_sliceAt_slice (h := elem_of Try.underlying22)]
        exact hsl W
      have hw1 : IntKind.i64.wrap ((t : Int) * 88) = (t : Int) * 88 := IntWalk.i64_in _ (by omega)
      have hw2 : IntKind.i64.wrap ((t : Int) + 1) = (t : Int) + 1 := IntWalk.i64_in _ (by omega)
      have hw3 : IntKind.i64.wrap (((t : Int) + 1) * 88) = ((t : Int) + 1) * 88 := IntWalk.i64_in _ (by omega)
      obtain ⟨W2, hW2⟩ : ∃ W2, (wr.alloc (.cells Try.zeroCells127 127)).alloc (.cells Try.zeroCells127 127) = W2 := ⟨_, rfl⟩
      have hga : W2.heap[wr.heap.size]? = some (.cells (bv (List.replicate 88 0)).toArray 127 (0, 0)) := by
        rw [← hW2, ← zeroPiece]
        have h := (Frm.refl [] (wr.alloc (.cells Try.zeroCells127 127))).alloc (.cells Try.zeroCells127 127)
        exact h.heap (heap_alloc_new _ _) (by simp)
      have hgb : W2.heap[wr.heap.size + 1]? = some (.cells (bv (List.replicate 88 0)).toArray 127 (0, 0)) := by
        rw [← hW2, ← zeroPiece]
        exact heap_alloc_to _ _ (by simp)
      have hfa : Frm [] wr W2 := by rw [← hW2]; exact ((Frm.refl _ _).alloc _).alloc _
      have HW2 := hid hW2
      have HGA := hid hga
      have HGB := hid hgb
      have HFA := hid hfa
      have HRS : Hid (Rd W2 (some ⟨g, o + t * 88, none⟩) ((zs.drop (t * 88)).take 88)) := hid (((HRD.out.kept (ha.out.frm.trans hfa (by simp)) (by simp)).drop (t * 88)).take 88)
      have HLS : Hid (88 = ((zs.drop (t * 88)).take 88).length) := hid (by rw [List.length_take, List.length_drop, HNN.out]; omega)
      clear hga hgb hfa hW2
      go_wp2_with fail
      rw [HW2.out]
      obtain ⟨pa, hpa⟩ : ∃ pa, wr.heap.size = pa := ⟨_, rfl⟩
      rw [hpa] at HGA HGB ⊢
      have HPA := hid hpa
      clear hpa HW2
      go_region_law ((refine step_copyS (by rfl) _ _ 22 (by rfl) 5 127 Try.underlying22 infoB (some ⟨pa, 0, none⟩) 88 88 (by kernel_rfl) pa 0 _ HGA.out (fun _ => rfl) (by simp) (some ⟨g, o + t * 88, none⟩) 88 88 ((zs.drop (t * 88)).take 88) (by kernel_rfl) HLS.out HRS.out ?_; intro w4 k4 hk4 hg4 hf4))
      obtain ⟨PI, hPI⟩ : ∃ PI, (zs.drop (t * 88)).take 88 = PI := ⟨_, rfl⟩
      have HPI := hid hPI
      have hpl : PI.length = 88 := by rw [← hPI]; exact HLS.out.symm
      rw [hPI] at hg4
      have hsp : splice (List.replicate 88 0) 0 (PI.take k4) = PI := by
        rw [hk4.out, List.take_of_length_le (by rw [hpl]; decide)]
        unfold splice
        rw [hpl]; simp
      rw [hsp] at hg4
      have HG4 : Hid (w4.heap[pa]? = some (.cells (bv PI).toArray 127 (0, 0))) := hid hg4.out
      have hf5 : Frm [pa] W2 w4 := (Frm.drew (Frm.refl [pa] W2)).trans hf4.out (fun i hi _ => hi)
      have HGB4 := hid (hf5.heap HGB.out (by simp))
      have hpw : wr.heap.size = pa := HPA.out
      have HF4 : Hid (Frm [] wr w4) := hid (HFA.out.trans hf5 (fun i hi hlt => by simp at hi; omega))
      have HA4 := hid (ha.out.call HF4.out)
      have HL4 := hid (HL.out.kept HA4.out.frm (by simp))
      have hbp : b ≠ pa + 1 := by have := HL.out.cells.1; have := ha.out.frm.size; omega
      have HPL := hid hpl
      clear hg4 hf4 hk4 hsp hf5 hPI hpl
      go_wp2_with fail
      refine (head_any b (pa + 1) base at_ next t m N 127 (List.replicate 88 0) hb1 hb2 (by omega) (by omega) (by omega) (by simp) _ HL4.out HGB4.out hbp).mono ?_
      rintro e w6 ⟨rfl, hg6, hf6⟩
      have HG6 := hid hg6
      have HGA6 := hid (hf6.heap HG4.out (by simp))
      have hf6' : Frm [] wr w6 := HF4.out.trans hf6 (fun i hi hlt => by simp at hi; omega)
      have HA6 := hid (ha.out.call hf6')
      have HF6 := hid hf6'
      clear hg6 hf6 hf6'
      obtain ⟨ni, hni⟩ : ∃ ni, min 68 (N - t * 68) = ni := ⟨_, rfl⟩
      have hmin : ∀ (ts : Array TypeId) (ty : TypeId) (W : World), Sem.run Try.prog (Builtin.min_ ts ty #[.int .i64 68, .int .i64 ((N : Int) - (t : Int) * 68)]) W = .ok (.int .i64 (ni : Int)) W := by
        intro ts ty W
        have h := run_min_int2 (P := Try.prog) (w := W) ts ty .i64 .i64 68 ((N : Int) - (t : Int) * 68)
        rw [h]
        congr 2
        split <;> omega
      have HNI := hid hni
      have hni68 : ni ≤ 68 := by omega
      obtain ⟨pp, hsl3, hpp⟩ := piece_cut pa ni hni68
      have hw4 : IntKind.i64.wrap (20 + (ni : Int)) = 20 + (ni : Int) := IntWalk.i64_in _ (by omega)
      have HPP := hid hpp
      clear hni hpp hsl hsl2 hw1 hw2 hw3
      go_wp2_with fail
      clear hmin
      have HRS6 : Hid (Rd w6 (some pp) ((PI.drop 20).take ni)) := hid (HPP.out _ _ ((own_of_block (E := 127) HGA6.out (by rw [HPL.out]; unfold maxLen; omega)).rd))
      have HLS6 : Hid (ni = ((PI.drop 20).take ni).length) := hid (by rw [List.length_take, List.length_drop, HPL.out]; omega)
      have HSL6 : Hid ((splice (List.replicate 88 (0 : Int)) 0 (headB base next t m N)).length = 88) := hid (by rw [splice_length (by rw [headB_length]; simp)]; simp)
      go_region_law ((refine step_copyS (by rfl) _ _ 22 (by rfl) 5 127 Try.underlying22 infoB (some ⟨pa + 1, 20, none⟩) 68 68 (by kernel_rfl) (pa + 1) 20 _ HG6.out (fun _ => rfl) (by rw [HSL6.out]; decide) (some pp) ni ni ((PI.drop 20).take ni) (by kernel_rfl) HLS6.out HRS6.out ?_; intro w7 k7 hk7 hg7 hf7))
      have hk72 : ((PI.drop 20).take ni).take k7 = (PI.drop 20).take ni := by rw [hk7.out, Nat.min_eq_left hni68, List.take_take, Nat.min_self]
      rw [hk72] at hg7
      have hbl : (bodyT zs N m).length = N := by rw [bodyT_length _ _ _ (by rw [HNN.out]; exact hfit)]; omega
      have hpe : splice (splice (List.replicate 88 0) 0 (headB base next t m N)) 20 ((PI.drop 20).take ni) = pieceB base next t m (bodyT zs N m) := by
        unfold pieceB
        rw [hbl, bodyT_part zs N m t hlt (by rw [HNN.out]; exact hfit), ← HPI.out, HNI.out, List.drop_take, List.take_take, List.drop_drop]
        congr 3
        omega
      rw [hpe] at hg7
      obtain ⟨SH, hSH⟩ : ∃ SH, pieceB base next t m (bodyT zs N m) = SH := ⟨_, rfl⟩
      have HSH := hid hSH
      have hshl : SH.length = 88 := by rw [← hSH, pieceB_length]
      rw [hSH] at hg7
      have hf8 : Frm [pa + 1] w6 w7 := (Frm.drew (Frm.refl [pa + 1] w6)).trans hf7.out (fun i hi _ => hi)
      have HG7 : Hid (w7.heap[pa + 1]? = some (.cells (bv SH).toArray 127 (0, 0))) := hid hg7.out
      have HGA7 := hid (hf8.heap HGA6.out (by simp))
      have hf9 : Frm [] wr w7 := HF6.out.trans hf8 (fun i hi hlt => by simp at hi; omega)
      have HA7 := hid (ha.out.call hf9)
      have HFA9 := hid hf9
      have hsz1 : (Try.prog.info? 127).map (·.size) = some (bv PI).toArray.size := by
        rw [show (bv PI).toArray.size = 88 by simp [bv_length, HPL.out]]; kernel_rfl
      have hsz2 : (Try.prog.info? 127).map (·.size) = some (bv SH).toArray.size := by
        rw [show (bv SH).toArray.size = 88 by simp [bv_length, hshl]]; kernel_rfl
      have HS1 := hid hsz1
      have HS2 := hid hsz2
      have hneq : ∀ W : World, (binOp .neq 127 (.agg (bv PI).toArray) (.agg (bv SH).toArray)).run Try.prog W = .ok (.bool (!(PI == SH))) W := fun W =>
        run_neq_bv W 127 5 88 (by kernel_rfl) (by kernel_rfl) (fun W => by kernel_rfl) PI SH HPL.out hshl
      have hbe : (PI.drop 20).take ni = (zs.drop (t * 88 + 20)).take ni := by
        rw [← HPI.out, List.drop_take, List.take_take, List.drop_drop, Nat.min_eq_left hni68]
      have HBE := hid hbe
      have HRA := hid ((((own_of_block (E := 127) HGA7.out (by rw [HPL.out]; unfold maxLen; omega)).rd).drop 20).take ni)
      clear hg7 hf7 hk7 hk72 hbl hpe hSH hf8 hf9 hsl3 hw4 hsz1 hsz2 hbe
      by_cases hps : PI = SH
      · have hsl5 : ∀ W : World, (Instr.sliceAt 127 (.pointer (some ⟨pa, 0, none⟩)) (some (.int .i64 20)) (some (.int .i64 (20 + (ni : Int)))) none).run Try.prog W = .ok (.slice (some ⟨pa, 20, none⟩) ni 68) W := fun W => by
          rw [run_sliceAt_array_lh W 127 _ (by kernel_rfl) .i64 .i64 20 _ (by omega) (by omega) (by rw [show Try.prog.arrayLen 127 = 88 from by kernel_rfl]; omega)]
          rw [show ∀ W : World, (sizeOf (Try.prog.elem 127)).run Try.prog W = .ok 1 W from fun W => by kernel_rfl]
          have e1 : ((20 : Int) + (ni : Int)).toNat = 20 + ni := by omega
          have e2 : (20 : Int).toNat = 20 := rfl
          simp only [Result.andThen_ok, slicedAt, e1, e2, show Try.prog.arrayLen 127 = 88 from by kernel_rfl]
          simp [Addr.add]
        have hq1 : (PI == SH) = true := by simpa using hps
        rw [hq1] at hneq
        have HPS := hid hps
        have hlt2 : t * 68 + ni ≤ 4096 := by have := HNI.out; omega
        have HTL := hid (show min (t * 68) N = t * 68 by omega)
        have HNL : Hid (ni = ((PI.drop 20).take ni).length) := hid (by rw [List.length_take, List.length_drop, HPL.out]; omega)
        have hA8 := HA7.out
        rw [HTL.out] at hA8
        have HA8 := hid hA8
        clear hps hq1 hA8
        go_wp2_with (first | (refine wpList_load_row rfl 127 (.tmp 10) rfl pa rfl _ _ _ _ HGA7.out rfl rfl HS1.out ?_) | (refine wpList_load_row rfl 127 (.tmp 11) rfl (pa + 1) rfl _ _ _ _ HG7.out rfl rfl HS2.out ?_) | (at_builtin; refine wpList_appB rfl _ _ 22 rfl 5 Try.underlying22 infoB p' _ c' (bodyT zs N t) rfl HA8.out.len.symm (by rw [HA8.out.len]; exact HA8.out.own) (some ⟨pa, 20, none⟩) ni 68 ((PI.drop 20).take ni) rfl HNL.out (by simp) HRA.out (by rw [HA8.out.len, ← HNL.out]; omega) ?_))
        intro xs p2 c2 w8 hxs ho8 hf8 hfr8
        obtain ⟨hxl, ha9⟩ := HA8.out.put (m := t * 68 + ni) hxs.out ho8.out hf8.out hfr8.out (by rw [← HNL.out])
        have HA9 : Hid (App w w8 p2 (min ((t + 1) * 68) N) c2 (bodyT zs N (t + 1))) := hid (by
          rw [bodyT_succ, HNI.out, ← HBE.out, show min ((t + 1) * 68) N = t * 68 + ni by have := HNI.out; omega]
          exact ha9)
        rw [hxl]
        have HPR : Hid (∀ i, i < t + 1 → (zs.drop (i * 88)).take 88 = pieceB base next i m (bodyT zs N m)) := hid (fun i hi => by
          by_cases h : i < t
          · exact hpre.out i h
          · obtain rfl : i = t := by omega
            rw [HPI.out, HSH.out]; exact HPS.out)
        have HNN2 := hid (show t * 68 + ni = min ((t + 1) * 68) N by have := HNI.out; omega)
        clear hxs ho8 hf8 hfr8 hxl ha9 hneq hsl5
        go_wp2_with fail
        go_roundw
        case rel => exact ⟨t + 1, p2, c2, by omega, by go_num, by rw [HNN2.out], HA9, HPR⟩
        case measure => simp [intOf]; omega
      · have hq1 : (PI == SH) = false := by simpa using hps
        rw [hq1] at hneq
        have HNR : Hid (NoRec base next zs) := hid (noRec_piece (i := t) HN.out (by omega) (by rw [HMM.out]; exact hlt) (by rw [HMM.out, HPI.out, HSH.out]; exact hps))
        clear hps hq1
        go_wp2_with (first | (refine wpList_load_row rfl 127 (.tmp 10) rfl pa rfl _ _ _ _ HGA7.out rfl rfl HS1.out ?_) | (refine wpList_load_row rfl 127 (.tmp 11) rfl (pa + 1) rfl _ _ _ _ HG7.out rfl rfl HS2.out ?_))
        go_returns
        exact ⟨ha.out.frm.trans HFA9.out (by simp), Or.inl ⟨rfl, HNR.out⟩⟩
    · obtain rfl : t = m := by omega
      have HFB := hid (show PostR base next zs w (.returned (.tuple #[.slice p' (min (t * 68) N) c', .bool true])) wr from by
        have hbl : (bodyT zs N t).length = N := by rw [bodyT_length _ _ _ (by rw [HNN.out]; exact hfit)]; omega
        refine ⟨ha.out.frm, Or.inr ⟨bodyT zs N t, p', min (t * 68) N, c', by omega, ?_, rfl, by omega, ha.out.own, ha.out.new⟩⟩
        refine pre_of_pieces ?_
        rw [hbl, HMM.out]
        exact hpre.out)
      clear hlt hpre ha
      go_wp2_with fail
      go_returns
      exact HFB.out
/-- record, of any region. -/
theorem record_any (b base at_ next : Nat) (p : Option Addr) (zs : List Int) (n c : Nat) (hn : zs.length = n) (hc : n ≤ c) (hz : ∀ z ∈ zs, 0 ≤ z ∧ z < 256) (hb1 : base < 9223372036854775808) (hb2 : next < 9223372036854775808) (w : World) (hL : IsLog w b base at_ next) (hrd : Rd w p zs) :
    Calls Try.prog 74 #[.pointer (some ⟨b, 0, none⟩), .slice p n c] w (PostR base next zs w) := by
  by_cases h88 : n < 88
  · refine (record_short b p n c h88 w).mono ?_
    rintro e w' ⟨rfl, hf⟩
    exact ⟨hf, Or.inl ⟨rfl, noRec_short (by omega)⟩⟩
  · obtain ⟨g, o, rfl⟩ : ∃ g o, p = some ⟨g, o, none⟩ := by
      rcases hrd with h | ⟨g, o, h, _⟩
      · rw [h] at hn; simp at hn; omega
      · exact ⟨g, o, h⟩
    obtain ⟨N, hN2, hN⟩ := le_four (zs := (zs.drop 16).take 4) (by rw [List.length_take, List.length_drop]; omega) (fun z hz' => hz z (List.mem_of_mem_drop (List.mem_of_mem_take hz')))
    by_cases hbad : 4096 < N ∨ n < pcs N * 88
    · refine (record_many b g o zs n c N (by omega) hc hN.symm hN2 hbad w hrd).mono ?_
      rintro e w' ⟨rfl, hf⟩
      refine ⟨hf, Or.inl ⟨rfl, ?_⟩⟩
      rcases hbad with h | h
      · exact noRec_long hN.symm hN2 h
      · exact noRec_cut hN.symm hN2 (by omega)
    · exact record_loop b base at_ next g o zs n c N hn (by omega) hc hb1 hb2 hN.symm (by omega) (by omega) w hL hrd
end Go.Proofs.Ytiefgfbeemlnjaa
