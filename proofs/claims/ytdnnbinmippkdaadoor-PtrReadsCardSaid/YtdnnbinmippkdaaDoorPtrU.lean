/- Contracts of package ptr: what is taken up of a label. -/
import Derived.Test.YtdnnbinmippkdaaDoorPtrQ
import Derived.Test.YtdnnbinmippkdaaDoorPtrI
namespace Go.Proofs.YtdnnbinmippkdaaDoor
open Go.RowKit Go.Lib
set_option maxRecDepth 100000

theorem infoTop : (Tryd.prog.info? 39).map (fun i => (i.zero, i.size, i.bytes)) = some (some (.agg #[.int .i64 0, .int .i64 0, .int .i64 0]), 3, 24) := by kernel_rfl
def spT (ts : List T3) : List Value := ts.flatMap fun t => [.int .i64 t.kind, .int .i64 t.leaves, .int .i64 t.sectors]
theorem spT_length (ts : List T3) : (spT ts).length = ts.length * 3 := by
  induction ts with
  | nil => rfl
  | cons t ts ih =>
    rw [show spT (t :: ts) = [.int .i64 t.kind, .int .i64 t.leaves, .int .i64 t.sectors] ++ spT ts from rfl, List.length_append, ih]
    simp only [List.length_cons, List.length_nil]
    omega
def rdTop (bs : List Int) (i : Nat) : T3 := ⟨valAt bs (15 + 6 * i) 1, valAt bs (15 + 6 * i + 1) 1, valAt bs (15 + 6 * i + 2) 4⟩
def topsAt (bs : List Int) (n : Nat) : List T3 := (List.range n).map (rdTop bs)
theorem topsAt_length (bs : List Int) (n : Nat) : (topsAt bs n).length = n := by simp [topsAt]
theorem topsAt_succ (bs : List Int) (n : Nat) : topsAt bs (n + 1) = topsAt bs n ++ [rdTop bs n] := by simp [topsAt, List.range_succ]
theorem spT_succ (bs : List Int) (n : Nat) : spT (topsAt bs (n + 1)) = spT (topsAt bs n) ++ [.int .i64 (rdTop bs n).kind, .int .i64 (rdTop bs n).leaves, .int .i64 (rdTop bs n).sectors] := by
  rw [topsAt_succ]
  simp [spT]
def lettersL (bs : List Int) : Bool := decide (bs.take 4 = [85, 67, 76, 66])
def manyL (bs : List Int) : Nat := (valAt bs 14 1).toNat
def okL (bs : List Int) : Bool := lettersL bs && decide (manyL bs ≤ 4)
/-- What getLabel answers. -/
def PostGL (bs : List Int) (w : World) (b g : Nat) (e : Ending) (w' : World) : Prop :=
  Frm [b] w w' ∧ ((okL bs = false ∧ e = .returned (.tuple #[.agg #[.int .u64 0, .slice none 0 0, .int .i64 0, .int .i64 0], .bool false]) ∧ IsR w' b g bs 15 0) ∨
    (okL bs = true ∧ ∃ p c, e = .returned (.tuple #[.agg #[.int .u64 (valAt bs 4 8), .slice p (manyL bs) c, .int .i64 (valAt bs 12 1), .int .i64 (valAt bs 13 1)], .bool true]) ∧ w'.ownsRow 0 39 3 (.slice p (manyL bs) c) (manyL bs) (spT (topsAt bs (manyL bs))) ∧ (∀ k ∈ blk p, w.heap.size ≤ k) ∧ IsR w' b g bs (15 + 6 * manyL bs) 0))
/-- In the midst of the tops. -/
structure GL (w W : World) (bs : List Int) (b g rb : Nat) (pool top place : Int) (p : Option Addr) (c t q : Nat) : Prop where
  rd : IsR W b g bs q 0
  vr : W.heap[rb + 1]? = some (.cells #[.int .u64 pool, .slice p t c, .int .i64 top, .int .i64 place] 37 (0, 0))
  rr : W.heap[rb]? = some (.cells #[.int .u64 0, .slice none 0 0, .int .i64 0, .int .i64 0] 37 (0, 0))
  own : W.ownsRow 0 39 3 (.slice p t c) t (spT (topsAt bs t))
  new : ∀ k ∈ blk p, rb + 1 < k
  fr : Frm [b] w W
  hr : w.heap.size ≤ rb
  hb : b < w.heap.size
  hg : g < w.heap.size
theorem GL.call {w W W' : World} {bs : List Int} {b g rb : Nat} {pool top place : Int} {p : Option Addr} {c t q q' : Nat} (h : GL w W bs b g rb pool top place p c t q) (hr : IsR W' b g bs q' 0) (hf : Frm [b] W W') : GL w W' bs b g rb pool top place p c t q' :=
  ⟨hr, hf.heap h.vr (by simp; have := h.hr; have := h.hb; omega), hf.heap h.rr (by simp; have := h.hr; have := h.hb; omega), ownsRow_kept h.own hf (fun k hk hm => by simp at hm; have := h.new k hk; have := h.hr; have := h.hb; omega), h.new, h.fr.trans hf (fun i hi _ => hi), h.hr, h.hb, h.hg⟩
theorem GL.kept {w W W' : World} {bs : List Int} {b g rb : Nat} {pool top place : Int} {p : Option Addr} {c t q : Nat} {S : List Nat} (h : GL w W bs b g rb pool top place p c t q) (hf : Frm S W W') (hS : ∀ i ∈ S, rb + 1 < i ∧ i ≠ b ∧ i ≠ g ∧ i ∉ blk p) : GL w W' bs b g rb pool top place p c t q := by
  have h1 := h.hr
  have h2 := h.hb
  have h3 := h.hg
  exact ⟨h.rd.kept hf (fun hm => (hS _ hm).2.1 rfl) (fun hm => (hS _ hm).2.2.1 rfl), hf.heap h.vr (fun hm => by have := (hS _ hm).1; omega), hf.heap h.rr (fun hm => by have := (hS _ hm).1; omega), ownsRow_kept h.own hf (fun k hk hm => (hS k hm).2.2.2 hk), h.new, h.fr.trans hf (fun i hi hl => by have := (hS i hi).1; omega), h.hr, h.hb, h.hg⟩
set_option maxHeartbeats 3200000 in
theorem getLabel_any (b g : Nat) (bs : List Int) (hb : ∀ z ∈ bs, 0 ≤ z ∧ z < 256) (w : World) (hw : IsR w b g bs 0 0) (hp : bs.length = 96) :
    Calls Tryd.prog 50 #[.pointer (some ⟨b, 0, none⟩)] w (PostGL bs w b g) := by
  have HN := hid (fun q k W (h : IsR W b g bs q 0) (h1 : 1 ≤ k) (h8 : k ≤ 8) (hq : q + k ≤ bs.length) => num_take b g q bs hb k W h h1 h8 hq)
  have HY := hid (fun W (h : IsR W b g bs 0 0) => bytes_take b g 0 bs 4 W h (by omega) (by omega))
  have HG := hid (GP.born (T := 37) #[.int .u64 0, .slice none 0 0, .int .i64 0, .int .i64 0] hw)
  have HL := hid hp
  have HB := hid hb
  have HLL : Hid ((bs.take 4).length = 4) := hid (by rw [List.length_take]; omega)
  have HB4 : Hid (∀ z ∈ bs.take 4, 0 ≤ z ∧ z < 256) := hid (fun z hz => hb z (List.mem_of_mem_take hz))
  clear hw
  obtain ⟨PG, hPG⟩ : ∃ PG, PostGL bs w b g = PG := ⟨_, rfl⟩
  rw [hPG]
  have HPG := hid hPG
  clear hPG
  obtain ⟨v0, e0⟩ : ∃ v, valAt bs 4 8 = v := ⟨_, rfl⟩
  have E0 := hid e0
  obtain ⟨l0, u0⟩ := valAt_bd hb 4 8 (by omega)
  rw [e0] at l0 u0
  simp only [Nat.reduceMul, Int.reducePow] at u0
  clear e0
  obtain ⟨v1, e1⟩ : ∃ v, valAt bs 12 1 = v := ⟨_, rfl⟩
  have E1 := hid e1
  obtain ⟨l1, u1⟩ := valAt_bd hb 12 1 (by omega)
  rw [e1] at l1 u1
  simp only [Nat.reduceMul, Int.reducePow] at u1
  clear e1
  obtain ⟨v2, e2⟩ : ∃ v, valAt bs 13 1 = v := ⟨_, rfl⟩
  have E2 := hid e2
  obtain ⟨l2, u2⟩ := valAt_bd hb 13 1 (by omega)
  rw [e2] at l2 u2
  simp only [Nat.reduceMul, Int.reducePow] at u2
  clear e2
  obtain ⟨v3, e3⟩ : ∃ v, valAt bs 14 1 = v := ⟨_, rfl⟩
  have E3 := hid e3
  obtain ⟨l3, u3⟩ := valAt_bd hb 14 1 (by omega)
  rw [e3] at l3 u3
  simp only [Nat.reduceMul, Int.reducePow] at u3
  clear e3
  obtain ⟨m, hm⟩ : ∃ m : Nat, v3 = (m : Int) := ⟨v3.toNat, by omega⟩
  subst hm
  have HM : Hid (manyL bs = m) := hid (by unfold manyL; rw [E3.out]; simp)
  clear hb hp
  go_enter Tryd.func50, Tryd.ntmps50
  go_wp2_with fail
  obtain ⟨rb, hrb⟩ : ∃ rb, w.heap.size = rb := ⟨_, rfl⟩
  obtain ⟨wa, hwa⟩ : ∃ wa, (w.alloc (.cells #[.int .u64 0, .slice none 0 0, .int .i64 0, .int .i64 0] 37)).alloc (.cells #[.int .u64 0, .slice none 0 0, .int .i64 0, .int .i64 0] 37) = wa := ⟨_, rfl⟩
  rw [hwa, hrb] at HG
  rw [hwa, hrb]
  have HRB := hid hrb
  clear hwa hrb
  refine (HY.out _ HG.out.rd).mono ?_
  rintro e w0 ⟨lp, lc, rfl, hl, hr, hf⟩
  have hcv := cv_any (P := Tryd.prog) 28 5 9 Tryd.underlying28 Tryd.underlying5 Tryd.underlying9 (show Rd w0 lp (bs.take 4) from hl) lc HLL.out
  have G0 := hid (HG.out.call hr hf)
  obtain ⟨S, hS⟩ : ∃ S, strOfNums (bs.take 4) = S := ⟨_, rfl⟩
  rw [hS] at hcv
  have hSS : (S.toList == [85, 67, 76, 66]) = lettersL bs := by rw [← hS]; exact letters_eq HB4.out [85, 67, 76, 66] [85, 67, 76, 66] (by decide) rfl
  have HSS := hid hSS
  clear hl hr hf HG hS hSS
  go_wp2_with fail
  clear hcv
  have h0 := HN.out 4 8 _ G0.out.rd (by omega) (by omega) (by have := HL.out; omega)
  rw [E0.out] at h0
  refine h0.mono ?_
  rintro e w1 ⟨rfl, hr, hf⟩
  have A1 := G0.out.call hr hf
  have q0 : w1.cell? ⟨rb + 1, 0, none⟩ = some (.int .u64 0) := A1.cell 0
  have z0 := A1.froz 0
  have G1 := hid (A1.set 0 (.int .u64 v0) (row' := #[.int .u64 v0, .slice none 0 0, .int .i64 0, .int .i64 0]) rfl)
  clear h0 hr hf A1 G0
  go_wp2_with fail
  clear q0 z0
  have h1 := HN.out 12 1 _ G1.out.rd (by omega) (by omega) (by have := HL.out; omega)
  rw [E1.out] at h1
  refine h1.mono ?_
  rintro e w2 ⟨rfl, hr, hf⟩
  have A2 := G1.out.call hr hf
  have q1 : w2.cell? ⟨rb + 1, 2, none⟩ = some (.int .i64 0) := A2.cell 2
  have z1 := A2.froz 2
  have G2 := hid (A2.set 2 (.int .i64 v1) (row' := #[.int .u64 v0, .slice none 0 0, .int .i64 v1, .int .i64 0]) rfl)
  clear h1 hr hf A2 G1
  go_wp2_with fail
  clear q1 z1
  have h2 := HN.out 13 1 _ G2.out.rd (by omega) (by omega) (by have := HL.out; omega)
  rw [E2.out] at h2
  refine h2.mono ?_
  rintro e w3 ⟨rfl, hr, hf⟩
  have A3 := G2.out.call hr hf
  have q2 : w3.cell? ⟨rb + 1, 3, none⟩ = some (.int .i64 0) := A3.cell 3
  have z2 := A3.froz 3
  have G3 := hid (A3.set 3 (.int .i64 v2) (row' := #[.int .u64 v0, .slice none 0 0, .int .i64 v1, .int .i64 v2]) rfl)
  clear h2 hr hf A3 G2
  go_wp2_with fail
  clear q2 z2
  have h3 := HN.out 14 1 _ G3.out.rd (by omega) (by omega) (by have := HL.out; omega)
  rw [E3.out] at h3
  refine h3.mono ?_
  rintro e w4 ⟨rfl, hr, hf⟩
  have G4 := hid (G3.out.call hr hf)
  clear h3 hr hf G3
  obtain ⟨lt, hlt⟩ : ∃ lt, lettersL bs = lt := ⟨_, rfl⟩
  have hsq : (S.toList == [85, 67, 76, 66]) = lt := by rw [HSS.out, hlt]
  have HLT := hid hlt
  clear hlt
  have r0 : w4.cell? ⟨rb, 0, none⟩ = some (.int .u64 0) := G4.out.cellR 0
  have r1 : w4.cell? ⟨rb, 1, none⟩ = some (.slice none 0 0) := G4.out.cellR 1
  have r2 : w4.cell? ⟨rb, 2, none⟩ = some (.int .i64 0) := G4.out.cellR 2
  have r3 : w4.cell? ⟨rb, 3, none⟩ = some (.int .i64 0) := G4.out.cellR 3
  have y0 := G4.out.frozR 0
  have y1 := G4.out.frozR 1
  have y2 := G4.out.frozR 2
  have y3 := G4.out.frozR 3
  cases lt
  case false =>
    have hsn : (!S.toList == [85, 67, 76, 66]) = true := by rw [hsq]; rfl
    go_wp2_with fail
    obtain ⟨h5, f5⟩ := sets_row rb 37 [(0, .int .u64 0), (1, .slice none 0 0), (2, .int .i64 0), (3, .int .i64 0)] w4 _ G4.out.rr
    obtain ⟨wz, hwz⟩ : ∃ wz, sets w4 rb [(0, .int .u64 0), (1, .slice none 0 0), (2, .int .i64 0), (3, .int .i64 0)] = wz := ⟨_, rfl⟩
    rw [hwz] at h5 f5
    simp only [List.foldl, List.setIfInBounds_toArray, List.set_cons_zero, List.set_cons_succ] at h5
    have hwz' : (((w4.setCell ⟨rb, 0, none⟩ (.int .u64 0)).setCell ⟨rb, 1, none⟩ (.slice none 0 0)).setCell ⟨rb, 2, none⟩ (.int .i64 0)).setCell ⟨rb, 3, none⟩ (.int .i64 0) = wz := hwz
    rw [hwz', ← HPG.out]
    have g0 : wz.cell? ⟨rb, 0, none⟩ = some (.int .u64 0) := by rw [cell_of_row wz _ _ _ _ _ h5]; rfl
    have g1 : wz.cell? ⟨rb, 1, none⟩ = some (.slice none 0 0) := by rw [cell_of_row wz _ _ _ _ _ h5]; rfl
    have g2 : wz.cell? ⟨rb, 2, none⟩ = some (.int .i64 0) := by rw [cell_of_row wz _ _ _ _ _ h5]; rfl
    have g3 : wz.cell? ⟨rb, 3, none⟩ = some (.int .i64 0) := by rw [cell_of_row wz _ _ _ _ _ h5]; rfl
    have gb := G4.out.hb
    have gg := G4.out.hg
    have gr := G4.out.hr
    exact bodyPost_ret (v := .tuple #[.agg #[.int .u64 0, .slice none 0 0, .int .i64 0, .int .i64 0], .bool false]) (by simp [results, Tryd.results50, go_sem, g0, g1, g2, g3]) rfl ⟨G4.out.fr.trans f5 (fun i hi hl => by simp at hi; omega), Or.inl ⟨by unfold okL; rw [HLT.out]; rfl, rfl, G4.out.rd.kept f5 (by simp; omega) (by simp; omega)⟩⟩
  case true =>
    have hsn : (!S.toList == [85, 67, 76, 66]) = false := by rw [hsq]; rfl
    by_cases hm4 : m ≤ 4
    case neg =>
      have hm5 : (4 : Int) < (m : Int) := by omega
      go_wp2_with fail
      obtain ⟨h5, f5⟩ := sets_row rb 37 [(0, .int .u64 0), (1, .slice none 0 0), (2, .int .i64 0), (3, .int .i64 0)] w4 _ G4.out.rr
      obtain ⟨wz, hwz⟩ : ∃ wz, sets w4 rb [(0, .int .u64 0), (1, .slice none 0 0), (2, .int .i64 0), (3, .int .i64 0)] = wz := ⟨_, rfl⟩
      rw [hwz] at h5 f5
      simp only [List.foldl, List.setIfInBounds_toArray, List.set_cons_zero, List.set_cons_succ] at h5
      have hwz' : (((w4.setCell ⟨rb, 0, none⟩ (.int .u64 0)).setCell ⟨rb, 1, none⟩ (.slice none 0 0)).setCell ⟨rb, 2, none⟩ (.int .i64 0)).setCell ⟨rb, 3, none⟩ (.int .i64 0) = wz := hwz
      rw [hwz', ← HPG.out]
      have g0 : wz.cell? ⟨rb, 0, none⟩ = some (.int .u64 0) := by rw [cell_of_row wz _ _ _ _ _ h5]; rfl
      have g1 : wz.cell? ⟨rb, 1, none⟩ = some (.slice none 0 0) := by rw [cell_of_row wz _ _ _ _ _ h5]; rfl
      have g2 : wz.cell? ⟨rb, 2, none⟩ = some (.int .i64 0) := by rw [cell_of_row wz _ _ _ _ _ h5]; rfl
      have g3 : wz.cell? ⟨rb, 3, none⟩ = some (.int .i64 0) := by rw [cell_of_row wz _ _ _ _ _ h5]; rfl
      have gb := G4.out.hb
      have gg := G4.out.hg
      have gr := G4.out.hr
      exact bodyPost_ret (v := .tuple #[.agg #[.int .u64 0, .slice none 0 0, .int .i64 0, .int .i64 0], .bool false]) (by simp [results, Tryd.results50, go_sem, g0, g1, g2, g3]) rfl ⟨G4.out.fr.trans f5 (fun i hi hl => by simp at hi; omega), Or.inl ⟨by unfold okL; rw [HLT.out, HM.out, decide_eq_false hm4]; rfl, rfl, G4.out.rd.kept f5 (by simp; omega) (by simp; omega)⟩⟩
    have hm5 : ¬ (4 : Int) < (m : Int) := by omega
    have HGL : Hid (GL w w4 bs b g rb v0 v1 v2 none 0 0 (15 + 6 * 0)) := hid ⟨G4.out.rd, G4.out.pr, G4.out.rr, ⟨by simp [spT, topsAt], Or.inl ⟨rfl, rfl⟩⟩, by simp [blk], G4.out.fr, G4.out.hr, G4.out.hb, G4.out.hg⟩
    clear r0 r1 r2 r3 y0 y1 y2 y3 G4
    go_wp2_with fail
    go_loopw [33] (fun i wr => ∃ (t : Nat) (p : Option Addr) (c : Nat), t ≤ m ∧ i = .int .i64 t ∧ Hid (GL w wr bs b g rb v0 v1 v2 p c t (15 + 6 * t))) (fun i _ => m - (intOf i).toNat)
    case atStart => exact ⟨0, none, 0, by omega, rfl, HGL⟩
    case round =>
      clear HGL
      obtain ⟨t, p, c, ht, rfl, hgl⟩ := hrel
      by_cases hlt : t < m
      · have t1 : (t : Int) < (m : Int) := by omega
        have E4 := hid (Eq.refl (rdTop bs t))
        obtain ⟨k0, k0e⟩ : ∃ v, valAt bs (15 + 6 * t) 1 = v := ⟨_, rfl⟩
        obtain ⟨k1, k1e⟩ : ∃ v, valAt bs (15 + 6 * t + 1) 1 = v := ⟨_, rfl⟩
        obtain ⟨k2, k2e⟩ : ∃ v, valAt bs (15 + 6 * t + 2) 4 = v := ⟨_, rfl⟩
        obtain ⟨a0, b0⟩ := valAt_bd HB.out (15 + 6 * t) 1 (by have := HL.out; omega)
        obtain ⟨a1, b1⟩ := valAt_bd HB.out (15 + 6 * t + 1) 1 (by have := HL.out; omega)
        obtain ⟨a2, b2⟩ := valAt_bd HB.out (15 + 6 * t + 2) 4 (by have := HL.out; omega)
        rw [k0e] at a0 b0
        rw [k1e] at a1 b1
        rw [k2e] at a2 b2
        simp only [Nat.reduceMul, Int.reducePow] at b0 b1 b2
        have K0 := hid k0e
        have K1 := hid k1e
        have K2 := hid k2e
        have hsp := spT_succ bs t
        rw [show rdTop bs t = ⟨k0, k1, k2⟩ by unfold rdTop; rw [k0e, k1e, k2e]] at hsp
        have HSP := hid hsp
        clear k0e k1e k2e hsp E4
        go_wp2_with fail
        obtain ⟨tb, htb⟩ : ∃ tb, wr.heap.size = tb := ⟨_, rfl⟩
        have hfa : Frm [] wr (wr.alloc (.cells #[.int .i64 0, .int .i64 0, .int .i64 0] 39)) := (Frm.refl _ _).alloc _
        have htr := heap_alloc_new wr (.cells #[.int .i64 0, .int .i64 0, .int .i64 0] 39)
        have hc := hgl.out.rd.cells
        have hlow := ownsRow_low hgl.out.own
        have HTB : Hid (rb + 1 < tb ∧ b < tb ∧ g < tb ∧ (∀ k ∈ blk p, k < tb)) := hid (by
          rw [← htb]
          exact ⟨lt_of_heap hgl.out.vr, hc.1, hc.2.1, hlow⟩)
        obtain ⟨wt, hwt⟩ : ∃ wt, wr.alloc (.cells #[.int .i64 0, .int .i64 0, .int .i64 0] 39) = wt := ⟨_, rfl⟩
        rw [hwt] at hfa
        rw [hwt, htb] at htr
        rw [hwt, htb]
        have HGT := hid (hgl.out.kept hfa (by simp))
        clear hwt htb hfa hc hlow hgl
        have hS : ∀ i ∈ [tb], rb + 1 < i ∧ i ≠ b ∧ i ≠ g ∧ i ∉ blk p := by
          intro i hi
          simp at hi
          subst hi
          exact ⟨HTB.out.1, by have := HTB.out.2.1; omega, by have := HTB.out.2.2.1; omega, fun h => by have := HTB.out.2.2.2 _ h; omega⟩
        have HS := hid hS
        have hnb : tb ∉ [b] := by simp; have := HTB.out.2.1; omega
        have HNB := hid hnb
        clear hS hnb
        have HT0 : Hid (wt.heap[tb]? = some (.cells #[.int .i64 0, .int .i64 0, .int .i64 0] 39 (0, 0))) := hid htr
        clear htr
        have h0 := HN.out (15 + 6 * t) 1 _ HGT.out.rd (by omega) (by omega) (by have := HL.out; omega)
        rw [K0.out] at h0
        refine h0.mono ?_
        rintro e x0 ⟨rfl, hr, hf⟩
        have ht0 := hf.heap HT0.out HNB.out
        have A0 := HGT.out.call hr hf
        have q0 : x0.cell? ⟨tb, 0, none⟩ = some (.int .i64 0) := by rw [cell_of_row x0 _ _ _ _ _ ht0]; rfl
        have z0 := frozen_of_row x0 tb 0 _ _ ht0
        have hfs0 : Frm [tb] x0 (x0.setCell ⟨tb, 0, none⟩ (.int .i64 k0)) := (Frm.refl _ _).setCell _ _ (by simp)
        have GG0 := hid (A0.kept hfs0 HS.out)
        have HT1 : Hid ((x0.setCell ⟨tb, 0, none⟩ (.int .i64 k0)).heap[tb]? = some (.cells #[.int .i64 k0, .int .i64 0, .int .i64 0] 39 (0, 0))) := hid (by rw [heap_setCell_same _ _ 0 _ _ _ ht0]; rfl)
        clear h0 hr hf ht0 A0 hfs0 HGT HT0
        go_wp2_with fail
        clear q0 z0
        have h1 := HN.out (15 + 6 * t + 1) 1 _ GG0.out.rd (by omega) (by omega) (by have := HL.out; omega)
        rw [K1.out] at h1
        refine h1.mono ?_
        rintro e x1 ⟨rfl, hr, hf⟩
        have ht1 := hf.heap HT1.out HNB.out
        have A1 := GG0.out.call hr hf
        have q1 : x1.cell? ⟨tb, 1, none⟩ = some (.int .i64 0) := by rw [cell_of_row x1 _ _ _ _ _ ht1]; rfl
        have z1 := frozen_of_row x1 tb 1 _ _ ht1
        have hfs1 : Frm [tb] x1 (x1.setCell ⟨tb, 1, none⟩ (.int .i64 k1)) := (Frm.refl _ _).setCell _ _ (by simp)
        have GG1 := hid (A1.kept hfs1 HS.out)
        have HT2 : Hid ((x1.setCell ⟨tb, 1, none⟩ (.int .i64 k1)).heap[tb]? = some (.cells #[.int .i64 k0, .int .i64 k1, .int .i64 0] 39 (0, 0))) := hid (by rw [heap_setCell_same _ _ 1 _ _ _ ht1]; rfl)
        clear h1 hr hf ht1 A1 hfs1 GG0 HT1
        go_wp2_with fail
        clear q1 z1
        have h2 := HN.out (15 + 6 * t + 2) 4 _ GG1.out.rd (by omega) (by omega) (by have := HL.out; omega)
        rw [K2.out] at h2
        refine h2.mono ?_
        rintro e x2 ⟨rfl, hr, hf⟩
        have ht2 := hf.heap HT2.out HNB.out
        have A2 := GG1.out.call hr hf
        have q2 : x2.cell? ⟨tb, 2, none⟩ = some (.int .i64 0) := by rw [cell_of_row x2 _ _ _ _ _ ht2]; rfl
        have z2 := frozen_of_row x2 tb 2 _ _ ht2
        have hfs2 : Frm [tb] x2 (x2.setCell ⟨tb, 2, none⟩ (.int .i64 k2)) := (Frm.refl _ _).setCell _ _ (by simp)
        have GG2 := hid (A2.kept hfs2 HS.out)
        have HT3 : Hid ((x2.setCell ⟨tb, 2, none⟩ (.int .i64 k2)).heap[tb]? = some (.cells #[.int .i64 k0, .int .i64 k1, .int .i64 k2] 39 (0, 0))) := hid (by rw [heap_setCell_same _ _ 2 _ _ _ ht2]; rfl)
        clear h2 hr hf ht2 A2 hfs2 GG1 HT2
        rename_i K4 kk4 K3 kk3
        have HK4 := hid kk4
        clear kk4
        go_wp2_with fail
        clear q2 z2
        obtain ⟨w6, hw6⟩ : ∃ w6, x2.setCell ⟨tb, 2, none⟩ (.int .i64 k2) = w6 := ⟨_, rfl⟩
        rw [hw6] at GG2 HT3
        rw [hw6]
        clear hw6
        refine HK4.out _ _ ?_
        clear HK4
        have s0 : w6.cell? ⟨tb, 0, none⟩ = some (.int .i64 k0) := by rw [cell_of_row w6 _ _ _ _ _ HT3.out]; rfl
        have s1 : w6.cell? ⟨tb, 1, none⟩ = some (.int .i64 k1) := by rw [cell_of_row w6 _ _ _ _ _ HT3.out]; rfl
        have s2 : w6.cell? ⟨tb, 2, none⟩ = some (.int .i64 k2) := by rw [cell_of_row w6 _ _ _ _ _ HT3.out]; rfl
        have s3 : w6.cell? ⟨rb + 1, 1, none⟩ = some (.slice p t c) := by rw [cell_of_row w6 _ _ _ _ _ GG2.out.vr]; rfl
        have hfa : Frm [] w6 (w6.alloc (.cells #[.int .i64 k0, .int .i64 k1, .int .i64 k2] 39)) := (Frm.refl _ _).alloc _
        have HGA := hid (GG2.out.kept hfa (by simp))
        have HRV : Hid (Rv (w6.alloc (.cells #[.int .i64 k0, .int .i64 k1, .int .i64 k2] 39)) (some ⟨w6.heap.size, 0, none⟩) [.int .i64 k0, .int .i64 k1, .int .i64 k2]) := hid (rv_block (cs := #[.int .i64 k0, .int .i64 k1, .int .i64 k2]) (heap_alloc_new _ _))
        have hlt6 := lt_of_heap GG2.out.vr
        have HLT6 := hid hlt6
        clear hfa GG2 HT3 hlt6
        go_wp2_with (at_builtin; refine wpList_appV rfl _ _ 35 rfl 39 3 24 _ Tryd.underlying35 infoTop rfl (by decide) p t c (spT (topsAt bs t)) rfl HGA.out.own (some ⟨w6.heap.size, 0, none⟩) 1 1 [.int .i64 k0, .int .i64 k1, .int .i64 k2] rfl rfl (by simp) HRV.out (by intro u hu; simp at hu; rcases hu with rfl | rfl | rfl <;> rfl) (by unfold maxLen; omega) (by omega) ?_)
        intro p7 c7 w7 ho7 hf7 hfr7
        have hgl : Hid (∀ k ∈ blk p7, rb + 1 < k) := hid (fun k hk => by
          rcases hfr7.out k hk with h | h
          · exact HGA.out.new k h
          · have := HLT6.out
            omega)
        have gb := HGA.out.hb
        have gg := HGA.out.hg
        have gr := HGA.out.hr
        have hnw := HGA.out.new
        have hvr := hf7.out.heap HGA.out.vr (fun h => by have := hnw _ h; omega)
        have hfs : Frm [rb + 1] w7 (w7.setCell ⟨rb + 1, 1, none⟩ (.slice p7 (t + 1) c7)) := (Frm.refl _ _).setCell _ _ (by simp)
        have HG8 : Hid (GL w (w7.setCell ⟨rb + 1, 1, none⟩ (.slice p7 (t + 1) c7)) bs b g rb v0 v1 v2 p7 c7 (t + 1) (15 + 6 * (t + 1))) := hid (by
          rw [show 15 + 6 * (t + 1) = 15 + 6 * t + 2 + 4 by omega]
          refine ⟨(HGA.out.rd.kept hf7.out (fun h => by have := hnw _ h; omega) (fun h => by have := hnw _ h; omega)).kept hfs (by simp; omega) (by simp; omega), by rw [heap_setCell_same _ _ 1 _ _ _ hvr]; rfl, hfs.heap (hf7.out.heap HGA.out.rr (fun h => by have := hnw _ h; omega)) (by simp), ?_, hgl.out, (HGA.out.fr.trans hf7.out (fun i hi hl => by have := hnw _ hi; omega)).trans hfs (fun i hi hl => by simp at hi; omega), gr, gb, gg⟩
          rw [HSP.out]
          exact ownsRow_kept ho7.out hfs (fun k hk hm => by simp at hm; have := hgl.out k hk; omega))
        have s4 : w7.cell? ⟨rb + 1, 1, none⟩ = some (.slice p t c) := by rw [cell_of_row w7 _ _ _ _ _ hvr]; rfl
        have z4 := frozen_of_row w7 (rb + 1) 1 _ _ hvr
        clear ho7 hf7 hfr7 hvr hfs hnw HGA s0 s1 s2 s3
        go_wp2_with fail
        go_roundw
        case rel => exact ⟨t + 1, p7, c7, by omega, by go_num, HG8⟩
        case measure => simp [intOf]; omega
      · obtain rfl : t = m := by omega
        have q0 : wr.cell? ⟨rb + 1, 0, none⟩ = some (.int .u64 v0) := by rw [cell_of_row wr _ _ _ _ _ hgl.out.vr]; rfl
        have q1 : wr.cell? ⟨rb + 1, 1, none⟩ = some (.slice p t c) := by rw [cell_of_row wr _ _ _ _ _ hgl.out.vr]; rfl
        have q2 : wr.cell? ⟨rb + 1, 2, none⟩ = some (.int .i64 v1) := by rw [cell_of_row wr _ _ _ _ _ hgl.out.vr]; rfl
        have q3 : wr.cell? ⟨rb + 1, 3, none⟩ = some (.int .i64 v2) := by rw [cell_of_row wr _ _ _ _ _ hgl.out.vr]; rfl
        have r0 : wr.cell? ⟨rb, 0, none⟩ = some (.int .u64 0) := by rw [cell_of_row wr _ _ _ _ _ hgl.out.rr]; rfl
        have r1 : wr.cell? ⟨rb, 1, none⟩ = some (.slice none 0 0) := by rw [cell_of_row wr _ _ _ _ _ hgl.out.rr]; rfl
        have r2 : wr.cell? ⟨rb, 2, none⟩ = some (.int .i64 0) := by rw [cell_of_row wr _ _ _ _ _ hgl.out.rr]; rfl
        have r3 : wr.cell? ⟨rb, 3, none⟩ = some (.int .i64 0) := by rw [cell_of_row wr _ _ _ _ _ hgl.out.rr]; rfl
        have y0 := frozen_of_row wr rb 0 _ _ hgl.out.rr
        have y1 := frozen_of_row wr rb 1 _ _ hgl.out.rr
        have y2 := frozen_of_row wr rb 2 _ _ hgl.out.rr
        have y3 := frozen_of_row wr rb 3 _ _ hgl.out.rr
        go_wp2_with fail
        obtain ⟨h5, f5⟩ := sets_row rb 37 [(0, .int .u64 v0), (1, .slice p t c), (2, .int .i64 v1), (3, .int .i64 v2)] wr _ hgl.out.rr
        obtain ⟨wz, hwz⟩ : ∃ wz, sets wr rb [(0, .int .u64 v0), (1, .slice p t c), (2, .int .i64 v1), (3, .int .i64 v2)] = wz := ⟨_, rfl⟩
        rw [hwz] at h5 f5
        simp only [List.foldl, List.setIfInBounds_toArray, List.set_cons_zero, List.set_cons_succ] at h5
        have hwz' : (((wr.setCell ⟨rb, 0, none⟩ (.int .u64 v0)).setCell ⟨rb, 1, none⟩ (.slice p t c)).setCell ⟨rb, 2, none⟩ (.int .i64 v1)).setCell ⟨rb, 3, none⟩ (.int .i64 v2) = wz := hwz
        rw [hwz', ← HPG.out]
        have g0 : wz.cell? ⟨rb, 0, none⟩ = some (.int .u64 v0) := by rw [cell_of_row wz _ _ _ _ _ h5]; rfl
        have g1 : wz.cell? ⟨rb, 1, none⟩ = some (.slice p t c) := by rw [cell_of_row wz _ _ _ _ _ h5]; rfl
        have g2 : wz.cell? ⟨rb, 2, none⟩ = some (.int .i64 v1) := by rw [cell_of_row wz _ _ _ _ _ h5]; rfl
        have g3 : wz.cell? ⟨rb, 3, none⟩ = some (.int .i64 v2) := by rw [cell_of_row wz _ _ _ _ _ h5]; rfl
        have gb := hgl.out.hb
        have gg := hgl.out.hg
        have gr := hgl.out.hr
        have hok : okL bs = true := by unfold okL; rw [HLT.out, HM.out, decide_eq_true hm4]; rfl
        have hpost : PostGL bs w b g (.returned (.tuple #[.agg #[.int .u64 v0, .slice p t c, .int .i64 v1, .int .i64 v2], .bool true])) wz := by
          refine ⟨hgl.out.fr.trans f5 (fun i hi hl => by simp at hi; omega), Or.inr ⟨hok, p, c, ?_, ?_, fun k hk => by have := hgl.out.new k hk; omega, ?_⟩⟩
          · rw [E0.out, E1.out, E2.out, HM.out]
          · rw [HM.out]
            exact ownsRow_kept hgl.out.own f5 (fun k hk hm => by simp at hm; have := hgl.out.new k hk; omega)
          · rw [HM.out]
            exact hgl.out.rd.kept f5 (by simp; omega) (by simp; omega)
        exact bodyPost_ret (v := .tuple #[.agg #[.int .u64 v0, .slice p t c, .int .i64 v1, .int .i64 v2], .bool true]) (by simp [results, Tryd.results50, go_sem, g0, g1, g2, g3]) rfl hpost
end Go.Proofs.YtdnnbinmippkdaaDoor
