/- Contracts of package volume: New, has, fill, Read, Write. -/
import Derived.Test.YthifchkeapbfdaaGen
namespace Go.Proofs.Ythifchkeapbfdaa
open Go.RowKit
set_option maxRecDepth 100000

/-- A volume at block b, its bytes in block g. -/
structure IsVol (w : World) (b g : Nat) (bs : List Int) : Prop where
  hb : w.heap[b]? = some (.cells #[.slice (some ⟨g, 0, none⟩) bs.length bs.length] 50 (0, 0))
  hg : w.heap[g]? = some (.cells (bv bs).toArray 5 (0, 0))
  ne : b ≠ g
  l1 : 256 ≤ bs.length
  l2 : bs.length ≤ 16384
  l3 : bs.length % 256 = 0
theorem IsVol.kept {w w' : World} {b g : Nat} {S : List Nat} {bs : List Int} (h : IsVol w b g bs) (hf : Frm S w w') (hb : b ∉ S) (hg : g ∉ S) : IsVol w' b g bs :=
  ⟨hf.heap h.hb hb, hf.heap h.hg hg, h.ne, h.l1, h.l2, h.l3⟩
theorem IsVol.cells {w : World} {b g : Nat} {bs : List Int} (h : IsVol w b g bs) : b < w.heap.size ∧ g < w.heap.size ∧ w.cell? ⟨b, 0, none⟩ = some (.slice (some ⟨g, 0, none⟩) bs.length bs.length) ∧ Rd w (some ⟨g, 0, none⟩) bs :=
  ⟨lt_of_heap h.hb, lt_of_heap h.hg, by rw [cell_of_row w _ _ _ _ _ h.hb]; rfl, (own_of_block (E := 5) h.hg (by have := h.l2; unfold maxLen; omega)).rd⟩
theorem IsVol.set {w w' : World} {b g : Nat} {bs cs : List Int} (h : IsVol w b g bs) (hf : Frm [g] w w') (hg : w'.heap[g]? = some (.cells (bv cs).toArray 5 (0, 0))) (hl : cs.length = bs.length) : IsVol w' b g cs := by
  refine ⟨?_, hg, h.ne, by rw [hl]; exact h.l1, by rw [hl]; exact h.l2, by rw [hl]; exact h.l3⟩
  rw [hl]
  exact hf.heap h.hb (by simpa using h.ne)
set_option maxHeartbeats 400000 in
theorem volNew_bad (n : Int) (h : n < 256 ∨ 16384 < n ∨ n % 256 ≠ 0) (w : World) :
    Calls Try.prog 6 #[.int .i64 n] w fun e w' => e = .returned (.tuple #[.pointer none, .int .i64 1]) ∧ w = w' := by
  by_cases h1 : n < 256
  · clear h
    go_enter Try.func6, Try.ntmps6
    go_wp2_with fail
    go_returns
    exact ⟨rfl, rfl⟩
  · by_cases h2 : 16384 < n
    · clear h
      go_enter Try.func6, Try.ntmps6
      go_wp2_with fail
      go_returns
      exact ⟨rfl, rfl⟩
    · have h3 : (n % 256 != 0) = true := by simp; omega
      clear h
      go_enter Try.func6, Try.ntmps6
      go_wp2_with fail
      go_returns
      exact ⟨rfl, rfl⟩
set_option maxHeartbeats 400000 in
theorem volNew_ok (n : Nat) (h1 : 256 ≤ n) (h2 : n ≤ 16384) (h3 : n % 256 = 0) (w : World) :
    Calls Try.prog 6 #[.int .i64 n] w fun e w' => ∃ b g, e = .returned (.tuple #[.pointer (some ⟨b, 0, none⟩), .int .i64 0]) ∧ IsVol w' b g (List.replicate n 0) ∧ Frm [] w w' ∧ w.heap.size ≤ b ∧ w.heap.size ≤ g := by
  have hmk := run_make_row' (P := Try.prog) 44 5 (.int .u8 0) 1 Try.underlying44 infoB rfl .i64 .i64 n (by omega) (by omega)
  have hb3 : ((n : Int) % 256 != 0) = false := by simp; omega
  go_enter Try.func6, Try.ntmps6
  go_wp2_with fail
  go_returns
  refine ⟨w.heap.size + 1, w.heap.size, rfl, ⟨?_, ?_, by omega, by simpa using h1, by simpa using h2, by simpa using h3⟩, ((Frm.refl [] w).alloc _).alloc _, by omega, Nat.le_refl _⟩
  · rw [List.length_replicate]
    exact heap_alloc_to _ _ (by simp)
  · rw [Below.heap_alloc _ _ _ (by simp), heap_alloc_new]
    congr 2
    apply Array.ext'
    simp [toList_madeCells_one, bv]
/-- May so many bytes be asked for? -/
def hasB (n : Nat) (i many : Int) : Bool := decide (0 ≤ i) && decide (0 ≤ many) && decide (many ≤ n) && decide (i ≤ n - many)
set_option maxHeartbeats 400000 in
theorem has_any (b g : Nat) (bs : List Int) (i many : Int) (w : World) (hv : IsVol w b g bs) :
    Calls Try.prog 25 #[.pointer (some ⟨b, 0, none⟩), .int .i64 i, .int .i64 many] w fun e w' => e = .returned (.bool (hasB bs.length i many)) ∧ w = w' := by
  obtain ⟨lb, lg, c0, _⟩ := hv.cells
  have l2 := hv.l2
  clear hv
  obtain ⟨r, hr⟩ : ∃ r, hasB bs.length i many = r := ⟨_, rfl⟩
  have HR := hid hr
  rw [hr]
  clear hr
  by_cases h1 : 0 ≤ i
  · by_cases h2 : 0 ≤ many
    · by_cases h3 : many ≤ bs.length
      · by_cases h4 : i ≤ bs.length - many
        · go_enter Try.func25, Try.ntmps25
          go_wp2_with fail
          go_returns
          exact ⟨boolE (by rw [← HR.out]; simp [hasB]; omega), rfl⟩
        · go_enter Try.func25, Try.ntmps25
          go_wp2_with fail
          go_returns
          exact ⟨boolE (by rw [← HR.out]; simp [hasB]; omega), rfl⟩
      · go_enter Try.func25, Try.ntmps25
        go_wp2_with fail
        go_returns
        exact ⟨boolE (by rw [← HR.out]; simp [hasB]; omega), rfl⟩
    · go_enter Try.func25, Try.ntmps25
      go_wp2_with fail
      go_returns
      exact ⟨boolE (by rw [← HR.out]; simp [hasB]; omega), rfl⟩
  · go_enter Try.func25, Try.ntmps25
    go_wp2_with fail
    go_returns
    exact ⟨boolE (by rw [← HR.out]; simp [hasB]; omega), rfl⟩
/-- A piece to be filled in: where it lies, its bytes. -/
structure PieceD where
  p : Option Addr
  c : Nat
  zs : List Int
def allZ (ps : List PieceD) : List Int := ps.flatMap fun x => x.zs
theorem allZ_take (ps : List PieceD) (t : Nat) (h : t < ps.length) : allZ (ps.take (t + 1)) = allZ (ps.take t) ++ ps[t].zs := by
  unfold allZ; rw [List.take_succ_eq_append_getElem h, List.flatMap_append]; simp
theorem allZ_le (ps : List PieceD) (t : Nat) : (allZ (ps.take t)).length ≤ (allZ ps).length := by
  have h : allZ ps = allZ (ps.take t) ++ allZ (ps.drop t) := by unfold allZ; rw [← List.flatMap_append, List.take_append_drop]
  rw [h, List.length_append]
  omega
/-- A row of pieces. -/
def IsPcs (w : World) (g : Nat) (pp : Option Addr) (ps : List PieceD) : Prop :=
  ∀ i (h : i < ps.length), ∃ hb o, pp = some ⟨hb, o, none⟩ ∧ hb < w.heap.size ∧ hb ≠ g ∧ w.cell? ⟨hb, o + i, none⟩ = some (.slice ps[i].p ps[i].zs.length ps[i].c) ∧ Rd w ps[i].p ps[i].zs ∧ (ps[i].zs ≠ [] → g ∉ blk ps[i].p)
set_option maxHeartbeats 800000 in
theorem fill_any (b g i0 : Nat) (bs : List Int) (pp : Option Addr) (pc : Nat) (ps : List PieceD) (w : World) (hv : IsVol w b g bs) (hps : IsPcs w g pp ps) (hl : i0 + (allZ ps).length ≤ bs.length) (hpl : ps.length ≤ 9223372036854775807) :
    Calls Try.prog 20 #[.pointer (some ⟨b, 0, none⟩), .int .i64 i0, .slice pp ps.length pc] w fun e w' => e = .returned (.tuple #[]) ∧ IsVol w' b g (splice bs i0 (allZ ps)) ∧ Frm [g] w w' := by
  have HV := hid hv
  have HP := hid hps
  have l2 := hv.l2
  clear hv hps
  go_enter Try.func20, Try.ntmps20
  go_wp2_with fail
  go_loopw [1, 10] (fun a i wr => ∃ (t n : Nat), t ≤ ps.length ∧ i = .int .i64 t ∧ Hid (n = (allZ (ps.take t)).length) ∧ a = .int .i64 ((i0 + n : Nat) : Int) ∧ Hid (IsVol wr b g (splice bs i0 (allZ (ps.take t)))) ∧ Hid (Frm [g] w wr)) (fun _ i _ => ps.length - (intOf i).toNat)
  case atStart => exact ⟨0, 0, Nat.zero_le _, rfl, hid (by simp [allZ]), rfl, hid (by simpa [allZ, splice_nil] using HV.out), Frm.refl _ _⟩
  case round =>
    obtain ⟨t, n, ht, rfl, hn, rfl, hv, hf⟩ := hrel
    by_cases hlt : t < ps.length
    · obtain ⟨hb, o, rfl, hbl, hbg, hc, hrd, hgp⟩ := HP.out t hlt
      have hle := allZ_le ps (t + 1)
      have hat := allZ_take ps t hlt
      have hnl := congrArg List.length hat
      rw [List.length_append, ← hn.out] at hnl
      rw [hnl] at hle
      generalize ps[t] = x at hc hrd hgp hat hnl hle
      obtain ⟨xp, xc, zs⟩ := x
      simp only at hc hrd hgp hat hnl hle
      have k0 := (hf.out.cell (p := ⟨hb, o + t, none⟩) hbl (by simpa using hbg)).trans hc
      have HR : Hid (Rd wr xp zs) := by
        by_cases hz : zs = []
        · exact Or.inl hz
        · exact hrd.kept hf.out (fun k hk => by simp; rintro rfl; exact hgp hz hk)
      have HAT := hid hat
      have HNL := hid hnl
      have hsl : (splice bs i0 (allZ (ps.take t))).length = bs.length := splice_length (by rw [← hn.out]; omega)
      obtain ⟨cur, hcur⟩ : ∃ cur, splice bs i0 (allZ (ps.take t)) = cur := ⟨_, rfl⟩
      rw [hcur] at hv hsl
      have HC := hid hcur
      obtain ⟨lb, lg, c0, _⟩ := hv.out.cells
      rw [hsl] at c0
      have HG := hid hv.out.hg
      have HSL := hid hsl
      clear hrd hat hnl hcur hsl hc hgp
      have hb1 : (0 : Int) ≤ ((i0 + n : Nat) : Int) := by omega
      have hb2 : ((i0 + n : Nat) : Int) ≤ (bs.length : Int) := by omega
      by_cases hcap : i0 + n = bs.length
      · have hz : zs = [] := List.eq_nil_of_length_eq_zero (by omega)
        subst hz
        have HCAP := hid hcap
        go_wp2_with (refine wpList_copyS rfl _ _ 44 rfl 5 5 Try.underlying44 infoB _ _ _ rfl g (i0 + n) cur HG.out (fun h => absurd h (Nat.lt_irrefl _)) (by rw [HSL.out]; omega) xp _ xc [] rfl rfl HR.out ?_)
        rw [← HCAP.out]
        intro w2 k hk hg2 hf2
        have hkz : k = ([] : List Int).length := by have := hk.out; omega
        simp only [List.length_nil] at hkz
        subst hkz
        have HV2 : Hid (IsVol w2 b g (splice bs i0 (allZ (ps.take (t + 1))))) := by
          have h1 := hv.out.set hf2.out hg2.out (by rw [splice_length (by rw [HSL.out]; omega)])
          rw [← HC.out, hn.out] at h1
          rw [splice_splice (by rw [← hn.out]; omega), ← HAT.out] at h1
          exact h1
        have HF2 : Hid (Frm [g] w w2) := hf.out.trans hf2.out (fun i hi _ => hi)
        have HN2 : Hid (n + ([] : List Int).length = (allZ (ps.take (t + 1))).length) := HNL.out.symm
        clear hk hg2 hf2
        go_wp2_with fail
        go_roundw
        case rel => exact ⟨t + 1, n + ([] : List Int).length, by omega, by go_num, HN2, by go_num, HV2, HF2⟩
        case measure => simp [intOf]; omega
      · go_wp2_with (refine wpList_copyS rfl _ _ 44 rfl 5 5 Try.underlying44 infoB _ _ _ rfl g (i0 + n) cur HG.out (fun _ => rfl) (by rw [HSL.out]; omega) xp zs.length xc zs rfl rfl HR.out ?_)
        intro w2 k hk hg2 hf2
        have hkz : k = zs.length := by have := hk.out; omega
        subst hkz
        rw [List.take_length] at hg2
        have HV2 : Hid (IsVol w2 b g (splice bs i0 (allZ (ps.take (t + 1))))) := by
          have h1 := hv.out.set hf2.out hg2.out (by rw [splice_length (by rw [HSL.out]; omega)])
          rw [← HC.out, hn.out] at h1
          rw [splice_splice (by rw [← hn.out]; omega), ← HAT.out] at h1
          exact h1
        have HF2 : Hid (Frm [g] w w2) := hf.out.trans hf2.out (fun i hi _ => hi)
        have HN2 : Hid (n + zs.length = (allZ (ps.take (t + 1))).length) := HNL.out.symm
        clear hk hg2 hf2
        go_wp2_with fail
        go_roundw
        case rel => exact ⟨t + 1, n + zs.length, by omega, by go_num, HN2, by go_num, HV2, HF2⟩
        case measure => simp [intOf]; omega
    · obtain rfl : t = ps.length := by omega
      rw [List.take_length] at hv
      go_wp2_with fail
      go_returns
      exact ⟨rfl, hv.out, hf.out⟩
end Go.Proofs.Ythifchkeapbfdaa
