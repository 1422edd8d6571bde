/- Contracts of package ilog: Append. -/
import Derived.Test.YtiefgfbeemlnjaaIlogA
import Derived.Deep.RegionLaw
import Derived.Deep.AppendLies
namespace Go.Proofs.Ytiefgfbeemlnjaa
open Go.RowKit
set_option maxRecDepth 100000

theorem run_make_cap {P : Program} (t e : TypeId) (ht : P.underlying t = some (.slice e)) (hI : (P.info? e).map (fun i => (i.zero, i.size, i.bytes)) = some (some (.int .u8 0), 1, 1)) (c : Nat) (hc : c ≤ 140737488355328) (w : World) :
    (Instr.makeSlice t (.int .i64 0) (.int .i64 (c : Int))).run P w = .ok (.slice (some ⟨w.heap.size, 0, none⟩) 0 c) (w.alloc (.cells (madeCells #[.int .u8 0] c) e)) := by
  obtain ⟨i, hi, hz, h1, h2⟩ := info_parts hI
  have hr := run_make (P := P) w t e i (.int .u8 0) ht hi hz .i64 .i64 0 c (Int.le_refl _) (by omega) (by rw [h2]; omega) (by omega)
  rw [h1, show (Value.int .u8 0).cells = #[Value.int .u8 0] from rfl] at hr
  simpa using hr
theorem zeroPiece : Try.zeroCells127 = (bv (List.replicate 88 0)).toArray := by kernel_rfl
theorem elem_of {P : Program} {t e : TypeId} (ht : P.underlying t = some (.slice e)) : P.underlying t = some (.slice (P.elem t)) := by simp [Program.elem, ht]
/-- A slice from a bound on. -/
theorem slice_low {P : Program} {t e : TypeId} (ht : P.underlying t = some (.slice e)) (hI : (P.info? e).map (fun i => (i.zero, i.size, i.bytes)) = some (some (.int .u8 0), 1, 1)) (p : Option Addr) (zs : List Int) (n c lo : Nat) (hn : zs.length = n) (hlo : lo ≤ n) (hc : n ≤ c) (w : World) (hr : Rd w p zs) :
    ∃ pp, (∀ W : World, (Instr.slice t (.slice p n c) (some (.int .i64 (lo : Int))) none none).run P W = .ok (.slice pp (n - lo) (c - lo)) W) ∧ Rd w pp (zs.drop lo) := by
  obtain ⟨i, hi, hz, h1, h2⟩ := info_parts hI
  have he : P.elem t = e := by simp [Program.elem, ht]
  refine ⟨if c = lo then p else p.map (·.add lo), fun W => ?_, ?_⟩
  · rw [run_slice_l W t _ _ _ (elem_of ht) .i64 _ (by omega) (by omega), he]
    have hs : (sizeOf e).run P W = .ok 1 W := by simp [sizeOf, typeInfo, hi, h1, Result.andThen]
    rw [hs]
    simp [Result.andThen, sliced]
  · by_cases h : c = lo
    · rw [if_pos h, List.drop_eq_nil_of_le (by omega)]
      exact Rd.nil _ _
    · rw [if_neg h]
      rcases hr with hr | ⟨g, o, rfl, hr⟩
      · subst hr
        rw [List.drop_nil]
        exact Rd.nil _ _
      · have h2 := Rd.drop (Or.inr ⟨g, o, rfl, hr⟩ : Rd w (some ⟨g, o, none⟩) zs) lo
        by_cases h0 : lo = 0
        · simpa [Addr.add, h0] using h2
        · simpa [Addr.add, h0] using h2
/-- One piece of a record. -/
def pieceB (base next i all : Nat) (zs : List Int) : List Int := splice (splice (List.replicate 88 0) 0 (headB base next i all zs.length)) 20 ((zs.drop (i * 68)).take 68)
theorem pieceB_length (base next i all : Nat) (zs : List Int) : (pieceB base next i all zs).length = 88 := by
  have h : (splice (List.replicate 88 (0 : Int)) 0 (headB base next i all zs.length)).length = 88 := by rw [splice_length (by rw [headB_length]; simp)]; simp
  unfold pieceB
  rw [splice_length (by rw [h]; simp; omega), h]
/-- The first pieces of a record. -/
def recT (base next all : Nat) (zs : List Int) (t : Nat) : List Int := (List.range t).flatMap fun i => pieceB base next i all zs
def recB (base next : Nat) (zs : List Int) : List Int := recT base next (pcs zs.length) zs (pcs zs.length)
theorem recT_succ (base next all : Nat) (zs : List Int) (t : Nat) : recT base next all zs (t + 1) = recT base next all zs t ++ pieceB base next t all zs := by
  unfold recT; rw [List.range_succ, List.flatMap_append]; simp
theorem recT_length (base next all : Nat) (zs : List Int) (t : Nat) : (recT base next all zs t).length = t * 88 := by
  induction t with
  | zero => rfl
  | succ t ih => rw [recT_succ, List.length_append, ih, pieceB_length]; omega
theorem recB_length (base next : Nat) (zs : List Int) : (recB base next zs).length = pcs zs.length * 88 := recT_length _ _ _ _ _
set_option maxHeartbeats 400000 in
theorem append_long (b : Nat) (p : Option Addr) (n c : Nat) (h : 4096 < n) (w : World) :
    Calls Try.prog 22 #[.pointer (some ⟨b, 0, none⟩), .slice p n c] w fun e w' => e = .returned (.tuple #[.int .i64 0, .slice none 0 0, .int .i64 2]) ∧ Frm [] w w' := by
  have h' : (4096 : Int) < (n : Int) := by omega
  go_enter Try.func22, Try.ntmps22
  go_wp2_with fail
  go_returns
  exact ⟨rfl, Frm.refl _ _⟩
set_option maxHeartbeats 400000 in
theorem append_full (b : Nat) (base : Int) (at_ : Nat) (next : Int) (p : Option Addr) (n c : Nat) (hat : at_ ≤ 22528) (h : n ≤ 4096) (hr : roomB at_ n = false) (w : World) (hL : IsLog w b base at_ next) :
    Calls Try.prog 22 #[.pointer (some ⟨b, 0, none⟩), .slice p n c] w fun e w' => e = .returned (.tuple #[.int .i64 0, .slice none 0 0, .int .i64 161]) ∧ Frm [] w w' := by
  have h' : ¬ (4096 : Int) < (n : Int) := by omega
  have HR := hid hr
  have HL := hid hL
  clear hr hL
  go_enter Try.func22, Try.ntmps22
  go_wp2_with fail
  refine (room_any b base at_ next n _ hat HL.out).mono ?_
  rintro e w1 ⟨rfl, hf⟩
  have HF := hid hf
  rw [HR.out]
  clear hf
  go_wp2_with fail
  go_returns
  exact ⟨rfl, HF.out⟩
set_option maxHeartbeats 3200000 in
theorem append_ok (b base at_ next : Nat) (p : Option Addr) (zs : List Int) (n c : Nat) (hnz : zs.length = n) (hat : at_ ≤ 22528) (hb1 : base < 9223372036854775808) (hb2 : next < 4294967296) (h : n ≤ 4096) (hr : roomB at_ n = true) (w : World) (hL : IsLog w b base at_ next) (hrd : Rd w p zs) (hcc : n ≤ c) :
    Calls Try.prog 22 #[.pointer (some ⟨b, 0, none⟩), .slice p n c] w fun e w' => ∃ p' n' c', e = .returned (.tuple #[.int .i64 at_, .slice p' n' c', .int .i64 0]) ∧ n' = pcs n * 88 ∧ Own w' 5 (.slice p' n' c') (recB base next zs) ∧ IsLog w' b base ((at_ + pcs n * 88 : Nat) : Int) ((next + 1 : Nat) : Int) ∧ Frm [b] w w' ∧ ∀ k ∈ blk p', w.heap.size ≤ k := by
  have HNZ := hid hnz
  have h' : ¬ (4096 : Int) < (n : Int) := by omega
  have HR := hid hr
  have HL := hid hL
  have HRD := hid hrd
  obtain ⟨lb, c0, c1, c2, f1, f2⟩ := hL.cells
  obtain ⟨m, hm⟩ : ∃ m, pcs n = m := ⟨_, rfl⟩
  have hm1 := pcs_le n h
  have hm2 := pcs_pos n
  have hpq : ∀ W : World, Calls Try.prog 75 #[.int .i64 n] W fun e w' => e = .returned (.int .i64 (m : Int)) ∧ w' = W := by
    intro W
    rw [← hm]
    exact (pieces_any n (by omega) W).mono fun e w' h => ⟨h.1, h.2.symm⟩
  have HPQ := hid hpq
  have hlo : ∀ i, i < m → i * 68 ≤ n := by intro i hi; rw [← hm] at hi; unfold pcs at hi; omega
  have HLO := hid hlo
  have hlt0 : ∀ i, i < m → 0 < n → i * 68 < n := by intro i hi h0; rw [← hm] at hi; unfold pcs at hi; omega
  have HLT := hid hlt0
  have hrec : recB base next zs = recT base next m zs m := by unfold recB; rw [hnz, hm]
  have HREC := hid hrec
  rw [hm] at hm1 hm2
  rw [hm]
  have hmk : ∀ w : World, (Instr.makeSlice 22 (.int .i64 0) (.int .i64 ((m : Int) * 88))).run Try.prog w = .ok (.slice (some ⟨w.heap.size, 0, none⟩) 0 (m * 88)) (w.alloc (.cells (madeCells #[.int .u8 0] (m * 88)) 5)) := by
    intro w
    have h := run_make_cap (P := Try.prog) 22 5 Try.underlying22 infoB (m * 88) (by omega) w
    rwa [show ((m * 88 : Nat) : Int) = (m : Int) * 88 by omega] at h
  clear hnz hr hL hrd hpq hlo hlt0 hrec hm
  go_enter Try.func22, Try.ntmps22
  go_wp2_with fail
  refine (room_any b base at_ next n _ hat HL.out).mono ?_
  rintro e w1 ⟨rfl, hf⟩
  rw [HR.out]
  have k1 := (hf.cell (p := ⟨b, 1, none⟩) lb List.not_mem_nil).trans c1
  have HF1 := hid hf
  clear hf
  go_wp2_with fail
  go_quiet ((go_at_call 75; exact Calls.quiet_of_same (HPQ.out _)))
  go_wp2_with fail
  have HF2 : Hid (Frm [] w ((w1.drewN nq).alloc (.cells (madeCells #[Value.int .u8 0] (m * 88)) 5))) := (HF1.out.drewN nq).alloc _
  have HO2 : Hid (Own ((w1.drewN nq).alloc (.cells (madeCells #[Value.int .u8 0] (m * 88)) 5)) 5 (.slice (some ⟨w1.heap.size, 0, none⟩) (recT base next m zs 0).length (m * 88)) (recT base next m zs 0)) :=
    World.ownsRow_made (w1.drewN nq) _ (m * 88) (Nat.zero_le _) (by unfold maxLen; omega) (by rw [size_madeCells]; omega)
  have hw1 := HF1.out.size
  go_loopw [31, 9] (fun i v wr => ∃ (t : Nat) (p' : Option Addr) (c' : Nat), t ≤ m ∧ i = .int .i64 t ∧ v = .slice p' (t * 88) c' ∧ Hid (Own wr 5 (.slice p' (t * 88) c') (recT base next m zs t)) ∧ Hid (Frm [] w wr) ∧ Hid (∀ k ∈ blk p', w.heap.size ≤ k)) (fun i _ _ => m - (intOf i).toNat)
  case atStart => exact ⟨0, some ⟨w1.heap.size, 0, none⟩, m * 88, Nat.zero_le _, rfl, rfl, HO2, HF2, hid (by simp [blk]; omega)⟩
  case round =>
    obtain ⟨t, p', c', ht, rfl, rfl, ho, hf, hk⟩ := hrel
    by_cases hlt : t < m
    · have hlo := HLO.out t hlt
      go_wp2_with fail
      have hpz : (wr.alloc (.cells Try.zeroCells127 127)).heap[wr.heap.size]? = some (.cells (bv (List.replicate 88 0)).toArray 127 (0, 0)) := by
        rw [heap_alloc_new, zeroPiece]
      have hfa : Frm [] wr (wr.alloc (.cells Try.zeroCells127 127)) := (Frm.refl _ _).alloc _
      have hls := hf.out.size
      have hLr : IsLog (wr.alloc (.cells Try.zeroCells127 127)) b base at_ next := (HL.out.kept hf.out (by simp)).kept hfa (by simp)
      obtain ⟨pb, hpb⟩ : ∃ pb, wr.heap.size = pb := ⟨_, rfl⟩
      have hbp : b ≠ pb := by omega
      have hpw : w.heap.size ≤ pb := by omega
      have HPB := hid hpb
      have hlow := ho.out.lows
      have HOA := hid (ho.out.kept hfa (by simp))
      have HFA := hid (hf.out.trans hfa (by simp))
      rw [hpb] at hpz hlow
      have hHD := head_any b pb base at_ next t m n 127 (List.replicate 88 0) hb1 (by omega) (by omega) (by omega) (by omega) (by simp) _ hLr hpz hbp
      have HHD := hid hHD
      clear hpz hfa hLr hpb hHD
      rw [HPB.out]
      refine HHD.out.mono ?_
      rintro e w3 ⟨rfl, hg3, hf3⟩
      have hsl : (splice (List.replicate 88 (0 : Int)) 0 (headB base next t m n)).length = 88 := by rw [splice_length (by rw [headB_length]; simp)]; simp
      have HG3 := hid hg3
      have HF3 := hid hf3
      have HO3 := hid (HOA.out.kept hf3 (by rw [own_blk]; intro k hk h; simp at h; have := hlow k hk; omega))
      have hs3 := hf3.size
      have HSL := hid hsl
      have HR3 : Hid (Rd w3 p zs) := by
        by_cases hz : zs = []
        · exact Or.inl hz
        · exact (HRD.out.kept HFA.out (by simp)).kept hf3 (fun k hk h => by simp at h; have := HRD.out.lows hz _ hk; omega)
      clear hg3 hf3 hsl
      have hw2 : IntKind.i64.wrap ((t : Int) * 68) = (t : Int) * 68 := IntWalk.i64_in _ (by omega)
      have hmn : ¬ ((n : Int) < (t : Int) * 68) := by omega
      have hmn2 : (t : Int) * 68 ≤ (n : Int) := by omega
      have hmn3 : (0 : Int) ≤ (t : Int) * 68 := by omega
      have hmin : ∀ (ts : Array TypeId) (ty : TypeId) (W : World), Sem.run Try.prog (Builtin.min_ ts ty #[.int .i64 ((t : Int) * 68), .int .i64 (n : Int)]) W = .ok (.int .i64 ((t : Int) * 68)) W := by
        intro ts ty W
        have h := run_min_int2 (P := Try.prog) (w := W) ts ty .i64 .i64 ((t : Int) * 68) (n : Int)
        rwa [if_neg hmn] at h
      have hci : (n : Int) ≤ (c : Int) := by omega
      have htn : ((t : Int) * 68).toNat = t * 68 := by omega
      obtain ⟨pp, hsr, hrp⟩ := slice_low Try.underlying22 infoB p zs n c (t * 68) HNZ.out (hlo) hcc w3 HR3.out
      have hsr1 : ∀ W : World, (Instr.slice 22 (.slice p n c) (some (.int .i64 ((t : Int) * 68))) none none).run Try.prog W = .ok (.slice pp (n - t * 68) (c - t * 68)) W := by
        intro W
        have h := hsr W
        rwa [show ((t * 68 : Nat) : Int) = (t : Int) * 68 by omega] at h
      have hsr2 : ∀ W : World, (Instr.sliceAt 22 (.slice p n c) (some (.int .i64 ((t : Int) * 68))) none none).run Try.prog W = .ok (.slice pp (n - t * 68) (c - t * 68)) W := by
        intro W
        rw [run_sliceAt_slice (h := elem_of Try.underlying22)]
        exact hsr1 W
      have HRS := hid hrp
      have HLS := hid (show n - t * 68 = (zs.drop (t * 68)).length by rw [List.length_drop, HNZ.out])
      clear hsr hrp hcc
      go_wp2_with fail
      go_region_law ((refine step_copyS (by rfl) _ _ 22 (by rfl) 5 127 Try.underlying22 infoB (some ⟨pb, 20, none⟩) 68 68 (by rfl) pb 20 _ HG3.out (fun _ => rfl) (by rw [HSL.out]; decide) pp (n - t * 68) (c - t * 68) (zs.drop (t * 68)) (by rfl) HLS.out HRS.out ?_; intro w4 k4 hk4 hg4 hf4))
      have hpe : (zs.drop (t * 68)).take k4 = (zs.drop (t * 68)).take 68 := by
        rw [hk4.out]
        by_cases h68 : n - t * 68 ≤ 68
        · rw [Nat.min_eq_left h68, List.take_of_length_le (by rw [List.length_drop, HNZ.out]; omega), List.take_of_length_le (by rw [List.length_drop, HNZ.out]; omega)]
        · rw [Nat.min_eq_right (by omega)]
      rw [hpe] at hg4
      have HG4 : Hid (w4.heap[pb]? = some (.cells (bv (pieceB base next t m zs)).toArray 127 (0, 0))) := hid (by unfold pieceB; rw [HNZ.out]; exact hg4.out)
      have HR4 := hid ((own_of_block (E := 127) HG4.out (by rw [pieceB_length]; unfold maxLen; omega)).rd)
      have HF4 : Hid (Frm [] w w4) := (HFA.out.trans HF3.out (fun i hi hlt => by simp at hi; omega)).trans (T := [pb]) ((Frm.drew (Frm.refl [pb] w3)).trans hf4.out (fun i hi _ => hi)) (fun i hi hlt => by simp at hi; omega)
      have HO4 := hid (HO3.out.kept (S := [pb]) ((Frm.drew (Frm.refl [pb] w3)).trans hf4.out (fun i hi _ => hi)) (by rw [own_blk]; intro k hk h; simp at h; have := hlow k hk; omega))
      have hml : (t + 1) * 88 ≤ 61 * 88 := Nat.mul_le_mul_right _ (by omega)
      clear hg4 hf4 hk4 hpe
      go_wp2_with (at_builtin; refine wpList_appB rfl _ _ 22 rfl 5 Try.underlying22 infoB p' _ c' (recT base next m zs t) rfl (recT_length _ _ _ _ _).symm (by rw [recT_length]; exact HO4.out) (some ⟨pb, 0, none⟩) 88 88 (pieceB base next t m zs) rfl (pieceB_length _ _ _ _ _).symm (by simp) HR4.out (by rw [recT_length, pieceB_length]; omega) ?_)
      intro xs p2 c2 w5 hxs ho5 hf5 hfr5
      have hx : xs = recT base next m zs (t + 1) := by rw [recT_succ]; exact hxs.out
      have hxl : xs.length = (t + 1) * 88 := by rw [hx, recT_length]
      have HO5 : Hid (Own w5 5 (.slice p2 ((t + 1) * 88) c2) (recT base next m zs (t + 1))) := by
        have h1 := ho5.out
        rw [hxl, hx] at h1
        exact h1
      have HF5 : Hid (Frm [] w w5) := HF4.out.trans hf5.out (fun i hi hlt => by have := hk.out i hi; omega)
      have HK5 : Hid (∀ k ∈ blk p2, w.heap.size ≤ k) := fun k hk2 => by
        rcases hfr5.out k hk2 with h | h
        · exact hk.out k h
        · have := HF4.out.size; omega
      rw [hxl]
      clear ho5 hf5 hfr5 hx hxs hxl
      go_wp2_with fail
      go_roundw
      case rel => exact ⟨t + 1, p2, c2, by omega, by go_num, rfl, HO5, HF5, HK5⟩
      case measure => simp [intOf]; omega
    · obtain rfl : t = m := by omega
      have kb1 := (hf.out.cell (p := ⟨b, 1, none⟩) lb List.not_mem_nil).trans c1
      have kb2 := (hf.out.cell (p := ⟨b, 2, none⟩) lb List.not_mem_nil).trans c2
      have kf1 := (hf.out.frozen (p := ⟨b, 1, none⟩) lb List.not_mem_nil).trans f1
      have kf2 := (hf.out.frozen (p := ⟨b, 2, none⟩) lb List.not_mem_nil).trans f2
      have HLF := hid (HL.out.kept hf.out (by simp))
      have hbk : ∀ k ∈ blk p', k ∉ [b] := by intro k hk2 h; have := hk.out k hk2; simp at h; omega
      have HBK := hid hbk
      clear hbk hlt
      go_wp2_with fail
      go_returns
      have hF : Frm [b] wr ((wr.setCell ⟨b, 1, none⟩ (.int .i64 ((at_ : Int) + ((t * 88 : Nat) : Int)))).setCell ⟨b, 2, none⟩ (.int .i64 ((next : Int) + 1))) := ((Frm.refl _ _).setCell _ _ (by simp)).setCell _ _ (by simp)
      refine ⟨p', t * 88, c', rfl, rfl, ?_, ?_, (hf.out.mono (by simp)).trans hF (fun i hi _ => hi), hk.out⟩
      · rw [HREC.out]
        exact ho.out.kept hF (by rw [own_blk]; exact HBK.out)
      · show _ = _
        rw [heap_setCell_same _ b 2 _ _ _ (heap_setCell_same _ b 1 _ _ _ HLF.out)]
        rw [show ((at_ + t * 88 : Nat) : Int) = (at_ : Int) + ((t * 88 : Nat) : Int) by omega, show ((next + 1 : Nat) : Int) = (next : Int) + 1 by omega]
        rfl
end Go.Proofs.Ytiefgfbeemlnjaa
