/- Contracts of the document's volume: New, within, Write, Discard, Read. -/
import Derived.Test.YthifchkeapbfdaaVolU
import Derived.StillTailTactics
namespace Go.Proofs.Ythifchkeapbfdaa
open Go.RowKit
set_option maxRecDepth 100000

/-- The document's volume at block b, its bytes in block g. -/
structure IsRefV (w : World) (b g : Nat) (bs : List Int) : Prop where
  hb : w.heap[b]? = some (.cells #[.slice (some ⟨g, 0, none⟩) bs.length bs.length] 52 (0, 0))
  hg : w.heap[g]? = some (.cells (bv bs).toArray 5 (0, 0))
  ne : b ≠ g
  l1 : 256 ≤ bs.length
  l2 : bs.length ≤ 16384
  l3 : bs.length % 256 = 0
theorem IsRefV.kept {w w' : World} {b g : Nat} {S : List Nat} {bs : List Int} (h : IsRefV w b g bs) (hf : Frm S w w') (hb : b ∉ S) (hg : g ∉ S) : IsRefV w' b g bs :=
  ⟨hf.heap h.hb hb, hf.heap h.hg hg, h.ne, h.l1, h.l2, h.l3⟩
theorem IsRefV.cells {w : World} {b g : Nat} {bs : List Int} (h : IsRefV w b g bs) : b < w.heap.size ∧ g < w.heap.size ∧ w.cell? ⟨b, 0, none⟩ = some (.slice (some ⟨g, 0, none⟩) bs.length bs.length) ∧ Rd w (some ⟨g, 0, none⟩) bs :=
  ⟨lt_of_heap h.hb, lt_of_heap h.hg, by rw [cell_of_row w _ _ _ _ _ h.hb]; rfl, (own_of_block (E := 5) h.hg (by have := h.l2; unfold maxLen; omega)).rd⟩
theorem IsRefV.set {w w' : World} {b g : Nat} {bs cs : List Int} (h : IsRefV w b g bs) (hf : Frm [g] w w') (hg : w'.heap[g]? = some (.cells (bv cs).toArray 5 (0, 0))) (hl : cs.length = bs.length) : IsRefV w' b g cs := by
  refine ⟨?_, hg, h.ne, by rw [hl]; exact h.l1, by rw [hl]; exact h.l2, by rw [hl]; exact h.l3⟩
  rw [hl]
  exact hf.heap h.hb (by simpa using h.ne)
set_option maxHeartbeats 400000 in
theorem refVNew_bad (n : Int) (h : n < 256 ∨ 16384 < n ∨ n % 256 ≠ 0) (w : World) :
    Calls Try.prog 7 #[.int .i64 n] w fun e w' => e = .returned (.tuple #[.pointer none, .int .i64 1]) ∧ w = w' := by
  by_cases h1 : n < 256
  · clear h
    go_enter Try.func7, Try.ntmps7
    go_wp2_with fail
    go_returns
    exact ⟨rfl, rfl⟩
  · by_cases h2 : 16384 < n
    · clear h
      go_enter Try.func7, Try.ntmps7
      go_wp2_with fail
      go_returns
      exact ⟨rfl, rfl⟩
    · have h3 : (n % 256 != 0) = true := by simp; omega
      clear h
      go_enter Try.func7, Try.ntmps7
      go_wp2_with fail
      go_returns
      exact ⟨rfl, rfl⟩
set_option maxHeartbeats 400000 in
theorem refVNew_ok (n : Nat) (h1 : 256 ≤ n) (h2 : n ≤ 16384) (h3 : n % 256 = 0) (w : World) :
    Calls Try.prog 7 #[.int .i64 n] w fun e w' => ∃ b g, e = .returned (.tuple #[.pointer (some ⟨b, 0, none⟩), .int .i64 0]) ∧ IsRefV w' b g (List.replicate n 0) ∧ Frm [] w w' ∧ w.heap.size ≤ b ∧ w.heap.size ≤ g := by
  have hmk := run_make_row' (P := Try.prog) 44 5 (.int .u8 0) 1 Try.underlying44 infoB rfl .i64 .i64 n (by omega) (by omega)
  have hb3 : ((n : Int) % 256 != 0) = false := by simp; omega
  go_enter Try.func7, Try.ntmps7
  go_wp2_with fail
  go_returns
  refine ⟨w.heap.size + 1, w.heap.size, rfl, ⟨?_, ?_, by omega, by simpa using h1, by simpa using h2, by simpa using h3⟩, ((Frm.refl [] w).alloc _).alloc _, by omega, Nat.le_refl _⟩
  · rw [List.length_replicate]
    exact heap_alloc_to _ _ (by simp)
  · rw [Below.heap_alloc _ _ _ (by simp), heap_alloc_new]
    congr 2
    apply Array.ext'
    simp [toList_madeCells_one, bv]
set_option maxHeartbeats 400000 in
theorem within_any (b g : Nat) (bs : List Int) (i many : Int) (w : World) (hv : IsRefV w b g bs) :
    Calls Try.prog 32 #[.pointer (some ⟨b, 0, none⟩), .int .i64 i, .int .i64 many] w fun e w' => e = .returned (.bool (hasB bs.length i many)) ∧ w = w' := by
  obtain ⟨lb, lg, c0, _⟩ := hv.cells
  have l2 := hv.l2
  clear hv
  obtain ⟨r, hr⟩ : ∃ r, hasB bs.length i many = r := ⟨_, rfl⟩
  have HR := hid hr
  rw [hr]
  clear hr
  by_cases h1 : 0 ≤ i
  · by_cases h2 : 0 ≤ many
    · by_cases h3 : i ≤ bs.length
      · by_cases h4 : many ≤ bs.length - i
        · go_enter Try.func32, Try.ntmps32
          go_wp2_with fail
          go_returns
          exact ⟨boolE (by rw [← HR.out]; simp [hasB]; omega), rfl⟩
        · go_enter Try.func32, Try.ntmps32
          go_wp2_with fail
          go_returns
          exact ⟨boolE (by rw [← HR.out]; simp [hasB]; omega), rfl⟩
      · go_enter Try.func32, Try.ntmps32
        go_wp2_with fail
        go_returns
        exact ⟨boolE (by rw [← HR.out]; simp [hasB]; omega), rfl⟩
    · go_enter Try.func32, Try.ntmps32
      go_wp2_with fail
      go_returns
      exact ⟨boolE (by rw [← HR.out]; simp [hasB]; omega), rfl⟩
  · go_enter Try.func32, Try.ntmps32
    go_wp2_with fail
    go_returns
    exact ⟨boolE (by rw [← HR.out]; simp [hasB]; omega), rfl⟩
theorem splice_set' {bs zs : List Int} {a k : Nat} (hk : k < zs.length) (hl : a + zs.length ≤ bs.length) : (splice bs a (zs.take k)).set (a + k) (zs.getD k 0) = splice bs a (zs.take (k + 1)) := by
  have e2 : (bs.take a ++ zs.take k).length = a + k := by rw [List.length_append, List.length_take, List.length_take]; omega
  have e3 : (zs.take k).length = k := by rw [List.length_take]; omega
  have e4 : (zs.take (k + 1)).length = k + 1 := by rw [List.length_take]; omega
  unfold splice
  rw [e3, e4, List.set_append_right _ _ (by omega), e2, Nat.sub_self, List.drop_eq_getElem_cons (by omega), List.set_cons_zero, List.take_add_one, List.getElem?_eq_getElem hk, List.getD_eq_getElem?_getD, List.getElem?_eq_getElem hk]
  simp only [Option.toList_some, Option.getD_some, List.append_assoc, List.cons_append, List.nil_append, Nat.add_assoc]
theorem rd_at' {w : World} {p : Option Addr} {zs : List Int} {i : Nat} (h : Rd w p zs) (hi : i < zs.length) : ∃ g o, p = some ⟨g, o, none⟩ ∧ w.cell? ⟨g, o + i, none⟩ = some (.int .u8 (zs.getD i 0)) := by
  rcases h with h | ⟨g, o, rfl, hc⟩
  · subst h; simp at hi
  · exact ⟨g, o, rfl, hc i hi⟩
set_option maxHeartbeats 1600000 in
theorem refVWrite_any (b g : Nat) (bs : List Int) (i : Int) (p : Option Addr) (zs : List Int) (l c : Nat) (hl : zs.length = l) (w : World) (hv : IsRefV w b g bs) (hrd : Rd w p zs) (hg : zs ≠ [] → g ∉ blk p) (hl2 : l ≤ 9223372036854775807) :
    Calls Try.prog 28 #[.pointer (some ⟨b, 0, none⟩), .int .i64 i, .slice p l c] w fun e w' => e = .returned (.int .i64 (errB bs.length i l)) ∧ IsRefV w' b g (wrB bs i zs) ∧ Frm [g] w w' := by
  have HV := hid hv
  by_cases h : hasB bs.length i l = true
  · have h0 : errB bs.length i (l : Int) = 0 := by unfold errB; rw [if_pos h]
    have h3 : wrB bs i zs = splice bs i.toNat zs := by unfold wrB; rw [hl, if_pos h]
    obtain ⟨a, k, rfl, hk, hle⟩ := hasB_yes h
    obtain rfl : l = k := by omega
    rw [h0, h3, Int.toNat_natCast]
    have HH := hid h
    have HL := hid hl
    have HR := hid hrd
    have HG := hid hg
    have hb2 := hv.l2
    clear h h0 h3 hv hk hrd hl hg
    go_enter Try.func28, Try.ntmps28
    go_wp2_with fail
    refine (within_any b g bs a l _ HV.out).mono ?_
    rintro e w1 ⟨rfl, rfl⟩
    rw [HH.out]
    go_wp2_with fail
    go_loopw [8] (fun i wr => ∃ j : Nat, j ≤ l ∧ i = .int .i64 j ∧ Hid (IsRefV wr b g (splice bs a (zs.take j))) ∧ Hid (Frm [g] w wr)) (fun i _ => l - (intOf i).toNat)
    case atStart => exact ⟨0, Nat.zero_le _, rfl, hid (by simpa [splice_nil] using HV.out), hid (Frm.refl _ _)⟩
    case round =>
      obtain ⟨j, hj, rfl, hv, hf⟩ := hrel
      by_cases hlt : j < l
      · have hnew := splice_set' (bs := bs) (zs := zs) (a := a) (k := j) (by rw [HL.out]; exact hlt) (by rw [HL.out]; omega)
        have hll : (splice bs a (zs.take j)).length = bs.length := splice_length (by rw [List.length_take, HL.out]; omega)
        obtain ⟨cur, hcu⟩ : ∃ cur, splice bs a (zs.take j) = cur := ⟨_, rfl⟩
        rw [hcu] at hv hnew hll
        have HNEW := hid hnew
        have HLL := hid hll
        obtain ⟨lb, lg, c0, hrg⟩ := hv.out.cells
        rw [hll] at c0
        obtain ⟨q, o, rfl, hcs⟩ := rd_at' (i := j) (show Rd wr p zs from by
          by_cases hz : zs = []
          · exact Or.inl hz
          · exact HR.out.kept hf.out (fun k hk => by simp; rintro rfl; exact HG.out hz hk)) (by rw [HL.out]; exact hlt)
        obtain ⟨_, _, e1, hc⟩ := rd_at' (i := a + j) hrg (by rw [hll]; omega)
        simp only [Option.some.injEq, Addr.mk.injEq, and_true] at e1
        obtain ⟨rfl, rfl⟩ := e1
        rw [Nat.zero_add] at hc
        have hfz := frozen_of_row wr g (a + j) _ _ hv.out.hg
        obtain ⟨y, hy⟩ : ∃ y, cur.getD (a + j) 0 = y := ⟨_, rfl⟩
        obtain ⟨x, hx⟩ : ∃ x, zs.getD j 0 = x := ⟨_, rfl⟩
        rw [hy] at hc
        rw [hx] at hcs HNEW
        have s0 : (0 : Int) ≤ (a : Int) + (j : Int) := by omega
        have s1 : (a : Int) + (j : Int) < (bs.length : Int) := by omega
        have s2 : ((a : Int) + (j : Int)).toNat = a + j := by omega
        have s3 : IntKind.i64.wrap ((a : Int) + (j : Int)) = (a : Int) + (j : Int) := IntWalk.i64_in _ (by omega)
        have t0 : (0 : Int) ≤ (j : Int) := by omega
        have t1 : (j : Int) < (l : Int) := by omega
        clear hnew hll hcu hy hx
        go_wp2_with fail
        go_still_tail 12, (by kernel_rfl)
        change wpList _ _ _ _ _ wr.drew
        have hv4 : IsRefV wr.drew b g cur := hv.out.kept ((Frm.refl [] wr).drew) (by simp) (by simp)
        have HV4 := hid hv4
        have HF4 : Hid (Frm [g] w wr.drew) := hid hf.out.drew
        obtain ⟨w4, hw4⟩ : ∃ w4, wr.drew = w4 := ⟨_, rfl⟩
        have hc4 : w4.cell? ⟨g, a + j, none⟩ = some (.int .u8 y) := by rw [← hw4]; exact hc
        have hfz4 : w4.frozen? ⟨g, a + j, none⟩ = false := by rw [← hw4]; exact hfz
        rw [hw4] at HV4 HF4 ⊢
        clear hw4 hv4 hc hfz hcs c0
        go_wp2_with fail
        go_roundw
        case rel =>
          refine ⟨j + 1, by omega, by go_num, hid (HV4.out.set ((Frm.refl _ _).setCell _ _ (by simp)) ?_ ?_), hid (HF4.out.setCell _ _ (by simp))⟩
          · rw [heap_setCell_same w4 g (a + j) _ _ _ HV4.out.hg, ← HNEW.out]
            congr 2
            apply Array.ext'
            simp [bv, List.map_set]
          · rw [HLL.out]; exact splice_length (by rw [List.length_take, HL.out]; omega)
        case measure => simp [intOf]; omega
      · obtain rfl : j = l := by omega
        have HV2 : Hid (IsRefV wr b g (splice bs a zs)) := hid (by
          have h := hv.out
          rwa [List.take_of_length_le (by rw [HL.out]; omega)] at h)
        clear hlt hv
        go_wp2_with fail
        go_returns
        exact ⟨rfl, HV2.out, hf.out⟩
  · have h0 : errB bs.length i (l : Int) = 186 := by unfold errB; rw [if_neg h]
    have h3 : wrB bs i zs = bs := by unfold wrB; rw [hl, if_neg h]
    have h4 : hasB bs.length i (l : Int) = false := by simpa using h
    rw [h0, h3]
    have HH := hid h4
    clear h h0 h3 h4 hv hrd hl hg
    go_enter Try.func28, Try.ntmps28
    go_wp2_with fail
    refine (within_any b g bs i l _ HV.out).mono ?_
    rintro e w1 ⟨rfl, rfl⟩
    rw [HH.out]
    go_wp2_with fail
    go_returns
    exact ⟨rfl, HV.out, Frm.refl _ _⟩
/-- What a discarding call makes of the bytes. -/
def diB (bs : List Int) (i many : Int) : List Int := if hasB bs.length i many then splice bs i.toNat (List.replicate many.toNat 0) else bs
theorem diB_length (bs : List Int) (i many : Int) : (diB bs i many).length = bs.length := by
  unfold diB
  split
  · rename_i h
    obtain ⟨a, k, rfl, rfl, hle⟩ := hasB_yes h
    exact splice_length (by simpa using hle)
  · rfl
set_option maxHeartbeats 1600000 in
theorem refVDiscard_any (b g : Nat) (bs : List Int) (i many : Int) (w : World) (hv : IsRefV w b g bs) :
    Calls Try.prog 29 #[.pointer (some ⟨b, 0, none⟩), .int .i64 i, .int .i64 many] w fun e w' => e = .returned (.int .i64 (errB bs.length i many)) ∧ IsRefV w' b g (diB bs i many) ∧ Frm [g] w w' := by
  have HV := hid hv
  by_cases h : hasB bs.length i many = true
  · have h0 : errB bs.length i many = 0 := by unfold errB; rw [if_pos h]
    have h3 : diB bs i many = splice bs i.toNat (List.replicate many.toNat 0) := by unfold diB; rw [if_pos h]
    obtain ⟨a, l, rfl, rfl, hle⟩ := hasB_yes h
    rw [h0, h3, Int.toNat_natCast, Int.toNat_natCast]
    have HH := hid h
    have hb2 := hv.l2
    obtain ⟨zs, hzs⟩ : ∃ zs, List.replicate l (0 : Int) = zs := ⟨_, rfl⟩
    have HL : Hid (zs.length = l) := hid (by rw [← hzs, List.length_replicate])
    have HZ : Hid (∀ j, j < l → zs.getD j 0 = 0) := hid (fun j hj => by rw [← hzs, List.getD_eq_getElem?_getD, List.getElem?_replicate, if_pos hj]; rfl)
    rw [hzs]
    clear h h0 h3 hv hzs
    go_enter Try.func29, Try.ntmps29
    go_wp2_with fail
    refine (within_any b g bs a l _ HV.out).mono ?_
    rintro e w1 ⟨rfl, rfl⟩
    rw [HH.out]
    go_wp2_with fail
    go_loopw [8] (fun i wr => ∃ j : Nat, j ≤ l ∧ i = .int .i64 ((a : Int) + (j : Int)) ∧ Hid (IsRefV wr b g (splice bs a (zs.take j))) ∧ Hid (Frm [g] w wr)) (fun i _ => l - ((intOf i).toNat - a))
    case atStart => exact ⟨0, Nat.zero_le _, by simp, hid (by simpa [splice_nil] using HV.out), hid (Frm.refl _ _)⟩
    case round =>
      obtain ⟨j, hj, rfl, hv, hf⟩ := hrel
      by_cases hlt : j < l
      · have hnew := splice_set' (bs := bs) (zs := zs) (a := a) (k := j) (by rw [HL.out]; exact hlt) (by rw [HL.out]; omega)
        rw [HZ.out j hlt] at hnew
        have hll : (splice bs a (zs.take j)).length = bs.length := splice_length (by rw [List.length_take, HL.out]; omega)
        obtain ⟨cur, hcu⟩ : ∃ cur, splice bs a (zs.take j) = cur := ⟨_, rfl⟩
        rw [hcu] at hv hnew hll
        have HNEW := hid hnew
        have HLL := hid hll
        obtain ⟨lb, lg, c0, hrg⟩ := hv.out.cells
        rw [hll] at c0
        obtain ⟨_, _, e1, hc⟩ := rd_at' (i := a + j) hrg (by rw [hll]; omega)
        simp only [Option.some.injEq, Addr.mk.injEq, and_true] at e1
        obtain ⟨rfl, rfl⟩ := e1
        rw [Nat.zero_add] at hc
        have hfz := frozen_of_row wr g (a + j) _ _ hv.out.hg
        obtain ⟨y, hy⟩ : ∃ y, cur.getD (a + j) 0 = y := ⟨_, rfl⟩
        rw [hy] at hc
        have s0 : (0 : Int) ≤ (a : Int) + (j : Int) := by omega
        have s1 : (a : Int) + (j : Int) < (bs.length : Int) := by omega
        have s2 : ((a : Int) + (j : Int)).toNat = a + j := by omega
        have s3 : (a : Int) + (j : Int) < (a : Int) + (l : Int) := by omega
        have HVV := hid hv.out.hg
        clear hnew hll hcu hy
        go_wp2_with fail
        go_roundw
        case rel =>
          refine ⟨j + 1, by omega, by go_num, hid (hv.out.set ((Frm.refl _ _).setCell _ _ (by simp)) ?_ ?_), hid (hf.out.setCell _ _ (by simp))⟩
          · rw [heap_setCell_same wr g (a + j) _ _ _ HVV.out, ← HNEW.out]
            congr 2
            apply Array.ext'
            simp [bv, List.map_set]
          · rw [HLL.out]; exact splice_length (by rw [List.length_take, HL.out]; omega)
        case measure => simp [intOf]; omega
      · obtain rfl : j = l := by omega
        have HV2 : Hid (IsRefV wr b g (splice bs a zs)) := hid (by
          have h := hv.out
          rwa [List.take_of_length_le (by rw [HL.out]; omega)] at h)
        clear hlt hv
        go_wp2_with fail
        go_returns
        exact ⟨rfl, HV2.out, hf.out⟩
  · have h0 : errB bs.length i many = 186 := by unfold errB; rw [if_neg h]
    have h3 : diB bs i many = bs := by unfold diB; rw [if_neg h]
    have h4 : hasB bs.length i many = false := by simpa using h
    rw [h0, h3]
    have HH := hid h4
    clear h h0 h3 h4 hv
    go_enter Try.func29, Try.ntmps29
    go_wp2_with fail
    refine (within_any b g bs i many _ HV.out).mono ?_
    rintro e w1 ⟨rfl, rfl⟩
    rw [HH.out]
    go_wp2_with fail
    go_returns
    exact ⟨rfl, HV.out, Frm.refl _ _⟩
/-- What a reading call answers. -/
def rdB (bs : List Int) (i many : Int) : List Int := if hasB bs.length i many then (bs.drop i.toNat).take many.toNat else []
theorem rdB_length (bs : List Int) (i many : Int) : (rdB bs i many).length ≤ bs.length := by
  unfold rdB
  split
  · rw [List.length_take, List.length_drop]; omega
  · simp
/-- What comes of a Read: bytes of one's own. -/
def PostB (bs : List Int) (i many : Int) (w : World) (e : Ending) (w' : World) : Prop :=
  ∃ (p : Option Addr) (n c : Nat), e = .returned (.tuple #[.slice p n c, .int .i64 (errB bs.length i many)]) ∧ Hid (n = (rdB bs i many).length) ∧ Own w' 5 (.slice p n c) (rdB bs i many) ∧ Frm [] w w' ∧ ∀ k ∈ blk p, w.heap.size ≤ k
theorem volRead_any (b g : Nat) (bs : List Int) (i many : Int) (w : World) (hv : IsVol w b g bs) :
    Calls Try.prog 15 #[.pointer (some ⟨b, 0, none⟩), .int .i64 i, .int .i64 many] w (PostB bs i many w) := by
  by_cases h : hasB bs.length i many = true
  · have h0 : errB bs.length i many = 0 := by unfold errB; rw [if_pos h]
    have h3 : rdB bs i many = (bs.drop i.toNat).take many.toNat := by unfold rdB; rw [if_pos h]
    obtain ⟨a, l, rfl, rfl, hle⟩ := hasB_yes h
    rw [Int.toNat_natCast, Int.toNat_natCast] at h3
    refine (volRead_ok b g bs a l w hv hle).mono ?_
    rintro e w' ⟨p, n, c, rfl, rfl, hl, ho, hf, hk⟩
    exact ⟨p, n, c, by rw [h0], hid (by rw [h3, hl]), by rw [h3]; exact ho, hf, hk⟩
  · have h0 : errB bs.length i many = 186 := by unfold errB; rw [if_neg h]
    have h3 : rdB bs i many = [] := by unfold rdB; rw [if_neg h]
    refine (volRead_no b g bs i many w hv (by simpa using h)).mono ?_
    rintro e w' ⟨rfl, rfl⟩
    exact ⟨none, 0, 0, by rw [h0], hid (by rw [h3]; rfl), by rw [h3]; exact Own.nil _ _, Frm.refl _ _, by simp [blk]⟩
set_option maxHeartbeats 1600000 in
theorem refVRead_any (b g : Nat) (bs : List Int) (i many : Int) (w : World) (hv : IsRefV w b g bs) :
    Calls Try.prog 30 #[.pointer (some ⟨b, 0, none⟩), .int .i64 i, .int .i64 many] w (PostB bs i many w) := by
  have HV := hid hv
  by_cases h : hasB bs.length i many = true
  · have h0 : errB bs.length i many = 0 := by unfold errB; rw [if_pos h]
    have h3 : rdB bs i many = (bs.drop i.toNat).take many.toNat := by unfold rdB; rw [if_pos h]
    obtain ⟨a, l, rfl, rfl, hle⟩ := hasB_yes h
    rw [Int.toNat_natCast, Int.toNat_natCast] at h3
    have HH := hid h
    have H0 := hid h0
    have H3 := hid h3
    have hb2 := hv.l2
    obtain ⟨lb, lg, c0, hrg⟩ := hv.cells
    have HRG := hid hrg
    clear h h0 h3 hv hrg
    go_enter Try.func30, Try.ntmps30
    go_wp2_with fail
    refine (within_any b g bs a l _ HV.out).mono ?_
    rintro e w1 ⟨rfl, rfl⟩
    rw [HH.out]
    go_wp2_with fail
    go_loopw [9, 10] (fun v i wr => ∃ (j : Nat) (p : Option Addr) (c : Nat), j ≤ l ∧ v = .slice p j c ∧ i = .int .i64 ((a : Int) + (j : Int)) ∧ Hid (((bs.drop a).take j).length = j) ∧ Hid (Own wr 5 (.slice p j c) ((bs.drop a).take j)) ∧ Hid (Frm [] w wr) ∧ Hid (∀ k ∈ blk p, w.heap.size ≤ k)) (fun _ i _ => l - ((intOf i).toNat - a))
    case atStart => exact ⟨0, none, 0, Nat.zero_le _, rfl, by simp, hid rfl, hid (Own.nil _ _), hid (Frm.refl _ _), hid (by simp [blk])⟩
    case round =>
      obtain ⟨j, p, c, hj, rfl, rfl, hlen, ho, hf, hk⟩ := hrel
      by_cases hlt : j < l
      · have e0 := (hf.out.cell (p := ⟨b, 0, none⟩) lb (by simp)).trans c0
        obtain ⟨_, _, e1, hc⟩ := rd_at' (i := a + j) (HRG.out.kept hf.out (by simp)) (by omega)
        simp only [Option.some.injEq, Addr.mk.injEq, and_true] at e1
        obtain ⟨rfl, rfl⟩ := e1
        rw [Nat.zero_add] at hc
        have htk : (bs.drop a).take (j + 1) = (bs.drop a).take j ++ [bs.getD (a + j) 0] := by
          rw [List.take_add_one, List.getElem?_drop, List.getD_eq_getElem?_getD, List.getElem?_eq_getElem (by omega)]; rfl
        obtain ⟨x, hx⟩ : ∃ x, bs.getD (a + j) 0 = x := ⟨_, rfl⟩
        rw [hx] at hc htk
        have HTK := hid htk
        have s0 : (0 : Int) ≤ (a : Int) + (j : Int) := by omega
        have s1 : (a : Int) + (j : Int) < (bs.length : Int) := by omega
        have s2 : ((a : Int) + (j : Int)).toNat = a + j := by omega
        have s3 : (a : Int) + (j : Int) < (a : Int) + (l : Int) := by omega
        have hrz : Rd (wr.alloc (.cells #[.int .u8 x] 5)) (some ⟨wr.heap.size, 0, none⟩) [x] :=
          (own_of_block (E := 5) (zs := [x]) (heap_alloc_new wr _) (by simp [maxLen])).rd
        have HRZ := hid hrz
        have HOA := hid (ho.out.kept ((Frm.refl [] wr).alloc (.cells #[.int .u8 x] 5)) (by simp))
        have HFA := hid (hf.out.alloc (.cells #[.int .u8 x] 5))
        clear hrz htk hx
        go_wp2_with (at_builtin; refine wpList_appB rfl _ _ 44 rfl 5 Try.underlying44 infoB p _ c ((bs.drop a).take j) rfl hlen.out.symm (by rw [hlen.out]; exact HOA.out) (some ⟨wr.heap.size, 0, none⟩) 1 1 [x] rfl rfl (by simp) HRZ.out (by rw [hlen.out]; simp; omega) ?_)
        intro xs p2 c2 w2 hxs ho2 hf2 hfr2
        have hx2 : xs = (bs.drop a).take (j + 1) := by rw [hxs.out, ← HTK.out]
        have hxl : xs.length = j + 1 := by rw [hxs.out, List.length_append, hlen.out]; rfl
        have HLN : Hid (((bs.drop a).take (j + 1)).length = j + 1) := hid (by rw [← hx2, hxl])
        have HO2 : Hid (Own w2 5 (.slice p2 (j + 1) c2) ((bs.drop a).take (j + 1))) := hid (by have h := ho2.out; rwa [hxl, hx2] at h)
        have HF2 : Hid (Frm [] w w2) := hid (HFA.out.trans hf2.out (fun i hi hlt => by have := hk.out i hi; omega))
        have HK2 : Hid (∀ k ∈ blk p2, w.heap.size ≤ k) := hid (fun k hk2 => by
          rcases hfr2.out k hk2 with h | h
          · exact hk.out k h
          · have := hf.out.size; omega)
        rw [hxl]
        clear hxs ho2 hf2 hfr2 hx2 hxl
        go_wp2_with fail
        go_roundw
        case rel => exact ⟨j + 1, p2, c2, by omega, rfl, by go_num, HLN, HO2, HF2, HK2⟩
        case measure => simp [intOf]; omega
      · obtain rfl : j = l := by omega
        have HP : Hid (PostB bs (a : Int) (j : Int) w (.returned (.tuple #[.slice p j c, .int .i64 0])) wr) := hid
          ⟨p, j, c, by rw [H0.out], hid (by rw [H3.out, hlen.out]), by rw [H3.out]; exact ho.out, hf.out, hk.out⟩
        clear hlt
        go_wp2_with fail
        go_returns
        exact HP.out
  · have h0 : errB bs.length i many = 186 := by unfold errB; rw [if_neg h]
    have h3 : rdB bs i many = [] := by unfold rdB; rw [if_neg h]
    have h4 : hasB bs.length i many = false := by simpa using h
    have HP : Hid (PostB bs i many w (.returned (.tuple #[.slice none 0 0, .int .i64 186])) w) := hid
      ⟨none, 0, 0, by rw [h0], hid (by rw [h3]; rfl), by rw [h3]; exact Own.nil _ _, Frm.refl _ _, by simp [blk]⟩
    have HH := hid h4
    clear h h0 h3 h4 hv
    go_enter Try.func30, Try.ntmps30
    go_wp2_with fail
    refine (within_any b g bs i many _ HV.out).mono ?_
    rintro e w1 ⟨rfl, rfl⟩
    rw [HH.out]
    go_wp2_with fail
    go_returns
    exact HP.out
end Go.Proofs.Ythifchkeapbfdaa
