/- Disks and their power: Read; a sector of one byte. -/
import Derived.Test.YtfclamndjnoopaaDskB
namespace Go.Proofs.Ytfclamndjnoopaa
open Go.RowKit Go.Lib
set_option maxRecDepth 100000

theorem rd_blockD {w : World} {g : Nat} {bs : List Int} {T : TypeId} (h : w.heap[g]? = some (.cells (bv bs).toArray T (0, 0))) : Rd w (some ⟨g, 0, none⟩) bs :=
  Or.inr ⟨g, 0, rfl, fun i hi => by
    rw [Nat.zero_add, cell_of_row w g i _ T (0, 0) h]
    simp only [List.getElem?_toArray]
    exact bv_get hi⟩
theorem slice_lowD (p : Option Addr) (zs : List Int) (n c lo : Nat) (hn : zs.length = n) (hlo : lo ≤ n) (hc : n ≤ c) (w : World) (hr : Rd w p zs) :
    ∃ pp, (∀ W : World, (Instr.slice 22 (.slice p n c) (some (.int .i64 (lo : Int))) none none).run Try.prog W = .ok (.slice pp (n - lo) (c - lo)) W) ∧ Rd w pp (zs.drop lo) := by
  obtain ⟨i, hi, hz, h1, h2⟩ := info_parts infoB
  refine ⟨if c = lo then p else p.map (·.add lo), fun W => ?_, ?_⟩
  · rw [run_slice_l W 22 _ _ _ (by simp [Program.elem, Try.underlying22] : Try.prog.underlying 22 = some (.slice (Try.prog.elem 22))) .i64 _ (by omega) (by omega), show Try.prog.elem 22 = 5 by simp [Program.elem, Try.underlying22]]
    have hs : (sizeOf 5).run Try.prog W = .ok 1 W := by simp [sizeOf, typeInfo, hi, h1, Result.andThen]
    rw [hs]
    simp [Result.andThen, sliced]
  · by_cases h : c = lo
    · rw [if_pos h, List.drop_eq_nil_of_le (by omega)]
      exact Rd.nil _ _
    · rw [if_neg h]
      rcases hr with hr | ⟨g, o, rfl, hr⟩
      · subst hr
        rw [List.drop_nil]
        exact Rd.nil _ _
      · have h2 := Rd.drop (Or.inr ⟨g, o, rfl, hr⟩ : Rd w (some ⟨g, o, none⟩) zs) lo
        by_cases h0 : lo = 0
        · simpa [Addr.add, h0] using h2
        · simpa [Addr.add, h0] using h2
/-- What Read answers. -/
def PostRd (w : World) (bs : List Int) (err : Int) (e : Ending) (w' : World) : Prop :=
  Frm [] w w' ∧ ((err ≠ 0 ∧ e = .returned (.tuple #[.slice none 0 0, .int .i64 err])) ∨ (err = 0 ∧ ∃ g, e = .returned (.tuple #[.slice (some ⟨g, 0, none⟩) bs.length bs.length, .int .i64 0]) ∧ w'.heap[g]? = some (.cells (bv bs).toArray 5 (0, 0)) ∧ w.heap.size ≤ g))
set_option maxHeartbeats 1600000 in
theorem read_any (pb : Nat) (S : PSt) (q : Option Addr) (c : Nat) (D : DSt) (at_ many : Int) (w : World) (hp : IsPow w pb S q c) (hd : IsDisk w pb D) (ha : -9223372036854775808 ≤ at_ ∧ at_ ≤ 9223372036854775807) (hm : -9223372036854775808 ≤ many ∧ many ≤ 9223372036854775807) :
    Calls Try.prog 13 #[.pointer (some ⟨D.db, 0, none⟩), .int .i64 at_, .int .i64 many] w (PostRd w ((D.seen.drop (at_.toNat * 128)).take (many.toNat * 128)) (askE S D at_ many)) := by
  have HA := hid (ask_any pb S q c D at_ many w hp hd ha hm)
  have HE : Hid (askE S D at_ many = 0 → 0 ≤ at_ ∧ 0 ≤ many ∧ many ≤ (D.n : Int) ∧ at_ ≤ (D.n : Int) - many) := hid (fun h => by
    unfold askE at h
    split at h
    · omega
    split at h
    · omega
    split at h
    · omega
    · omega)
  have HD := hid hd
  obtain ⟨c0, c1, c2, c3, c4⟩ := hd.cells
  have hn1 := hd.n1
  have hn2 := hd.n2
  obtain ⟨C, hC⟩ : ∃ C, askE S D at_ many = C := ⟨_, rfl⟩
  rw [hC] at HA HE ⊢
  obtain ⟨PO, hPO⟩ : ∃ PO, PostRd w ((D.seen.drop (at_.toNat * 128)).take (many.toNat * 128)) C = PO := ⟨_, rfl⟩
  rw [hPO]
  have HPO := hid hPO
  clear hp hd hC hPO
  go_enter Try.func13, Try.ntmps13
  go_wp2_with fail
  refine HA.out.mono ?_
  rintro e w1 ⟨rfl, rfl⟩
  by_cases h0 : C = 0
  case neg =>
    have hb : (C != 0) = true := by simpa using h0
    go_wp2_with fail
    rw [← HPO.out]
    exact ⟨Frm.refl _ _, Or.inl ⟨h0, rfl⟩⟩
  obtain ⟨a0, m0, m1, m2⟩ := HE.out h0
  subst h0
  obtain ⟨a, rfl⟩ : ∃ a : Nat, at_ = a := ⟨at_.toNat, by omega⟩
  obtain ⟨k, rfl⟩ : ∃ k : Nat, many = k := ⟨many.toNat, by omega⟩
  have hmk := make_bytes (k * 128) (by omega)
  rw [show ((k * 128 : Nat) : Int) = (k : Int) * 128 by omega] at hmk
  obtain ⟨pp, hsl, hrp⟩ := slice_lowD (some ⟨D.gs, 0, none⟩) D.seen (D.n * 128) (D.n * 128) (a * 128) HD.out.sn (by omega) (Nat.le_refl _) w1 (rd_blockD HD.out.se)
  rw [show ((a * 128 : Nat) : Int) = (a : Int) * 128 by omega] at hsl
  simp only [Int.toNat_natCast] at HPO
  have hlt := lt_of_heap HD.out.row
  have HG := hid (heap_alloc_new w1 (.cells (bv (List.replicate (k * 128) 0)).toArray 5))
  have hfa : Frm [] w1 (w1.alloc (.cells (bv (List.replicate (k * 128) 0)).toArray 5)) := (Frm.refl _ _).alloc _
  have HFA := hid hfa
  have HRP := hid (hrp.kept hfa (by simp))
  have HLN : Hid (D.n * 128 - a * 128 = (D.seen.drop (a * 128)).length) := hid (by rw [List.length_drop, HD.out.sn])
  clear hrp hfa
  go_wp2_with (refine wpList_copyS rfl _ _ 22 rfl 5 5 Try.underlying22 infoB (some ⟨w1.heap.size, 0, none⟩) (k * 128) (k * 128) rfl w1.heap.size 0 (List.replicate (k * 128) 0) HG.out (fun _ => rfl) (by simp) pp (D.n * 128 - a * 128) (D.n * 128 - a * 128) (D.seen.drop (a * 128)) rfl HLN.out HRP.out ?_)
  intro w2 kk hkk hg2 hf2
  have hk2 : kk = k * 128 := by rw [hkk.out]; omega
  have hsp : splice (List.replicate (k * 128) 0) 0 ((D.seen.drop (a * 128)).take kk) = (D.seen.drop (a * 128)).take (k * 128) := by
    have hl : ((D.seen.drop (a * 128)).take (k * 128)).length = k * 128 := by rw [List.length_take, List.length_drop, HD.out.sn]; omega
    rw [hk2]
    unfold splice
    rw [hl]
    simp
  have hl : ((D.seen.drop (a * 128)).take (k * 128)).length = k * 128 := by rw [List.length_take, List.length_drop, HD.out.sn]; omega
  have hG := hg2.out
  rw [hsp] at hG
  have HGG := hid hG
  have HL := hid hl
  have HF2 := hid (HFA.out.trans hf2.out (fun i hi hl => by simp at hi; omega))
  clear hkk hg2 hf2 hk2 hsp hG hl HG HFA HRP HLN hsl hmk
  go_wp2_with fail
  rw [← HPO.out]
  refine ⟨HF2.out, Or.inr ⟨rfl, w1.heap.size, ?_, HGG.out, Nat.le_refl _⟩⟩
  rw [HL.out]
  rfl
set_option maxHeartbeats 800000 in
theorem full_any (x : Int) (w : World) :
    Calls Try.prog 27 #[.int .u8 x] w fun e w' => ∃ g, e = .returned (.slice (some ⟨g, 0, none⟩) 128 128) ∧ w'.heap[g]? = some (.cells (bv (List.replicate 128 x)).toArray 5 (0, 0)) ∧ w.heap.size ≤ g ∧ Frm [] w w' := by
  have hmk := make_bytes 128 (by omega)
  have h0 := heap_alloc_new w (.cells (bv (List.replicate 128 0)).toArray 5)
  have hf0 : Frm [] w (w.alloc (.cells (bv (List.replicate 128 0)).toArray 5)) := (Frm.refl _ _).alloc _
  simp only [Int.cast_ofNat_Int] at hmk
  obtain ⟨Z, hZ⟩ : ∃ Z, List.replicate 128 (0 : Int) = Z := ⟨_, rfl⟩
  rw [hZ] at hmk h0 hf0
  have HZ := hid hZ
  clear hZ
  go_enter Try.func27, Try.ntmps27
  go_wp2_with fail
  obtain ⟨g, hg⟩ : ∃ g, w.heap.size = g := ⟨_, rfl⟩
  obtain ⟨wa, hwa⟩ : ∃ W, w.alloc (.cells (bv Z).toArray 5) = W := ⟨_, rfl⟩
  rw [hwa] at hf0
  rw [hwa, hg] at h0
  rw [hwa, hg]
  rw [← HZ.out] at h0
  have HG := hid hg
  have H0 : Hid (wa.heap[g]? = some (.cells (bv (List.replicate 0 x ++ List.replicate (128 - 0) 0)).toArray 5 (0, 0))) := hid h0
  have HF0 := hid hf0
  clear hwa hg h0 hf0 hmk
  go_loopw [4] (fun i wr => ∃ j : Nat, j ≤ 128 ∧ i = .int .i64 (j : Int) ∧ Hid (wr.heap[g]? = some (.cells (bv (List.replicate j x ++ List.replicate (128 - j) 0)).toArray 5 (0, 0))) ∧ Hid (Frm [] w wr)) (fun i _ => 128 - (intOf i).toNat)
  case atStart => exact ⟨0, by omega, rfl, H0, HF0⟩
  case round =>
    clear H0 HF0
    obtain ⟨j, hj, rfl, hh, hf⟩ := hrel
    by_cases hlt : j < 128
    · have t1 : (j : Int) < 128 := by omega
      have c0 : wr.cell? ⟨g, j, none⟩ = some (.int .u8 0) := by
        rw [cell_of_row wr _ _ _ _ _ hh.out]
        simp only [List.getElem?_toArray]
        rw [bv_get (by simp; omega), List.getD_eq_getElem?_getD, List.getElem?_append_right (by simp), List.length_replicate, Nat.sub_self, List.getElem?_replicate, if_pos (by omega)]
        rfl
      have z0 := frozen_of_row wr g j _ _ hh.out
      have HN : Hid ((wr.setCell ⟨g, j, none⟩ (.int .u8 x)).heap[g]? = some (.cells (bv (List.replicate (j + 1) x ++ List.replicate (128 - (j + 1)) 0)).toArray 5 (0, 0))) := hid (by
        rw [heap_setCell_same _ _ j _ _ _ hh.out]
        congr 2
        apply Array.ext'
        simp only [Array.toList_setIfInBounds]
        unfold bv
        rw [← List.map_set (f := fun z => Value.int .u8 z)]
        congr 1
        rw [List.set_append_right _ _ (by simp), List.length_replicate, Nat.sub_self, show 128 - j = (128 - (j + 1)) + 1 by omega, List.replicate_succ, List.set_cons_zero, List.replicate_succ', List.append_assoc]
        rfl)
      have HF2 := hid (hf.out.trans ((Frm.refl [g] wr).setCell ⟨g, j, none⟩ (.int .u8 x) (by simp)) (fun i hi hl => by simp at hi; have := HG.out; omega))
      clear hh hf
      go_wp2_with fail
      go_roundw
      case rel => exact ⟨j + 1, by omega, by go_num, HN, HF2⟩
      case measure => simp [intOf]; omega
    · obtain rfl : j = 128 := by omega
      go_wp2_with fail
      go_returns
      exact ⟨g, rfl, hh.out, by have := HG.out; omega, hf.out⟩
end Go.Proofs.Ytfclamndjnoopaa
