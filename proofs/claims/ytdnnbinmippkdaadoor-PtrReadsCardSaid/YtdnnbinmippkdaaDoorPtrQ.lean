/- Contracts of package ptr: what is taken up of an uberblock. -/
import Derived.Test.YtdnnbinmippkdaaDoorPtrP
import Derived.Test.YtdnnbinmippkdaaDoorPtrH
import Derived.Test.YtdnnbinmippkdaaDoorCodeT
import Derived.Lib.Bytes
namespace Go.Proofs.YtdnnbinmippkdaaDoor
open Go.RowKit Go.Lib
set_option maxRecDepth 100000

/-- The uberblock that stands in a body. -/
def rdU (bs : List Int) : U12 := ⟨valAt bs 4 8, valAt bs 12 8, valAt bs 20 8, rdP bs 28⟩
def lettersU (bs : List Int) : Bool := decide (bs.take 4 = [85, 67, 85, 66])
theorem letters_eq {zs : List Int} (hz : ∀ z ∈ zs, 0 ≤ z ∧ z < 256) (ks : List Int) (cs : List UInt8) (hk : ∀ z ∈ ks, 0 ≤ z ∧ z < 256) (hc : ks.map (fun n => UInt8.ofNat n.toNat) = cs) : ((strOfNums zs).toList == cs) = decide (zs = ks) := by
  have key : ∀ zs : List Int, (∀ z ∈ zs, 0 ≤ z ∧ z < 256) → (zs.map fun n => UInt8.ofNat n.toNat).map (fun b => (b.toNat : Int)) = zs := by
    intro zs hz
    rw [List.map_map]
    conv => rhs; rw [← List.map_id zs]
    apply List.map_congr_left
    intro z hm
    have := hz z hm
    simp
    omega
  rw [strOfNums_toList, ← hc]
  show (zs.map _ == _) = _
  by_cases h : zs = ks
  · rw [h]; simp
  · rw [decide_eq_false h]
    refine beq_eq_false_iff_ne.2 (fun h2 => h ?_)
    rw [← key zs hz, ← key ks hk, h2]
theorem bytes_take (b g pos : Nat) (bs : List Int) (k : Nat) (w : World) (hw : IsR w b g bs pos 0) (hk : k ≤ 64) (hp : pos + k ≤ bs.length) :
    Calls Tryd.prog 68 #[.pointer (some ⟨b, 0, none⟩), .int .i64 (k : Int)] w fun e w' => ∃ p c, e = .returned (.slice p k c) ∧ Rd w' p ((bs.drop pos).take k) ∧ IsR w' b g bs (pos + k) 0 ∧ Frm [b] w w' := by
  have h := bytesR_any b g pos bs 0 (k : Int) w hw (by omega) (by omega)
  have e : bytesT (bs.drop pos) (k : Int) = ((bs.drop pos).take k, k, 0) := by
    unfold bytesT
    rw [if_neg (by omega), if_neg (by rw [List.length_drop]; omega), Int.toNat_natCast]
  rw [e, readS_ok] at h
  refine h.mono ?_
  rintro e w' ⟨p, n, c, rfl, hn, ho, _, hr, hf⟩
  have hn' : n = k := by rw [hn]; simp only [List.length_take, List.length_drop]; omega
  subst hn'
  refine ⟨p, c, rfl, ho.rd, ?_, hf⟩
  simpa using hr
set_option maxHeartbeats 3200000 in
theorem getUber_any (b g : Nat) (bs : List Int) (hb : ∀ z ∈ bs, 0 ≤ z ∧ z < 256) (w : World) (hw : IsR w b g bs 0 0) (hp : bs.length = 96) :
    Calls Tryd.prog 53 #[.pointer (some ⟨b, 0, none⟩)] w fun e w' => e = .returned (.tuple #[.agg (rdU bs).arr, .bool (lettersU bs)]) ∧ IsR w' b g bs 76 0 ∧ Frm [b] w w' := by
  have HN := hid (fun q k W (h : IsR W b g bs q 0) (h1 : 1 ≤ k) (h8 : k ≤ 8) (hq : q + k ≤ bs.length) => num_take b g q bs hb k W h h1 h8 hq)
  have HS := hid (fun W (h : IsR W b g bs 28 0) => getPtr_any b g 28 bs hb W h (by omega))
  have HY := hid (fun W (h : IsR W b g bs 0 0) => bytes_take b g 0 bs 4 W h (by omega) (by omega))
  have HG := hid (GP.born (T := 45) #[.int .u64 0, .int .u64 0, .int .u64 0, .int .i64 0, .int .i64 0, .int .i64 0, .int .u64 0, .int .i64 0, .int .u64 0, .int .u64 0, .int .u64 0, .int .u64 0] hw)
  have HL := hid hp
  have HLL : Hid ((bs.take 4).length = 4) := hid (by rw [List.length_take]; omega)
  have HB4 : Hid (∀ z ∈ bs.take 4, 0 ≤ z ∧ z < 256) := hid (fun z hz => hb z (List.mem_of_mem_take hz))
  clear hw
  unfold rdU U12.arr
  dsimp only
  obtain ⟨p, hpp⟩ : ∃ p, rdP bs 28 = p := ⟨_, rfl⟩
  rw [hpp] at HS ⊢
  unfold P9.arr at HS
  clear hpp
  obtain ⟨R, hR⟩ : ∃ R, lettersU bs = R := ⟨_, rfl⟩
  rw [hR]
  have HR := hid hR
  clear hR
  obtain ⟨v0, e0⟩ : ∃ v, valAt bs 4 8 = v := ⟨_, rfl⟩
  have E0 := hid e0
  rw [e0]
  clear e0
  obtain ⟨v1, e1⟩ : ∃ v, valAt bs 12 8 = v := ⟨_, rfl⟩
  have E1 := hid e1
  rw [e1]
  clear e1
  obtain ⟨v2, e2⟩ : ∃ v, valAt bs 20 8 = v := ⟨_, rfl⟩
  have E2 := hid e2
  rw [e2]
  clear e2
  clear hb hp
  go_enter Tryd.func53, Tryd.ntmps53
  go_wp2_with fail
  obtain ⟨rb, hrb⟩ : ∃ rb, w.heap.size = rb := ⟨_, rfl⟩
  obtain ⟨wa, hwa⟩ : ∃ wa, (w.alloc (.cells #[.int .u64 0, .int .u64 0, .int .u64 0, .int .i64 0, .int .i64 0, .int .i64 0, .int .u64 0, .int .i64 0, .int .u64 0, .int .u64 0, .int .u64 0, .int .u64 0] 45)).alloc (.cells #[.int .u64 0, .int .u64 0, .int .u64 0, .int .i64 0, .int .i64 0, .int .i64 0, .int .u64 0, .int .i64 0, .int .u64 0, .int .u64 0, .int .u64 0, .int .u64 0] 45) = wa := ⟨_, rfl⟩
  rw [hwa, hrb] at HG
  rw [hwa, hrb]
  clear hwa hrb
  refine (HY.out _ HG.out.rd).mono ?_
  rintro e w0 ⟨lp, lc, rfl, hl, hr, hf⟩
  have hcv := cv_any (P := Tryd.prog) 28 5 9 Tryd.underlying28 Tryd.underlying5 Tryd.underlying9 (show Rd w0 lp (bs.take 4) from hl) lc HLL.out
  have G0 := hid (HG.out.call hr hf)
  obtain ⟨S, hS⟩ : ∃ S, strOfNums (bs.take 4) = S := ⟨_, rfl⟩
  rw [hS] at hcv
  have HSS := hid hS
  clear hl hr hf HG hS
  go_wp2_with fail
  clear hcv
  have h0 := HN.out 4 8 _ G0.out.rd (by omega) (by omega) (by have := HL.out; omega)
  rw [E0.out] at h0
  refine h0.mono ?_
  rintro e w1 ⟨rfl, hr, hf⟩
  have A1 := G0.out.call hr hf
  have G1 := hid A1
  clear h0 hr hf A1 G0
  go_wp2_with fail
  have h1 := HN.out 12 8 _ G1.out.rd (by omega) (by omega) (by have := HL.out; omega)
  rw [E1.out] at h1
  refine h1.mono ?_
  rintro e w2 ⟨rfl, hr, hf⟩
  have A2 := G1.out.call hr hf
  have G2 := hid A2
  clear h1 hr hf A2 G1
  go_wp2_with fail
  have h2 := HN.out 20 8 _ G2.out.rd (by omega) (by omega) (by have := HL.out; omega)
  rw [E2.out] at h2
  refine h2.mono ?_
  rintro e w3 ⟨rfl, hr, hf⟩
  have A3 := G2.out.call hr hf
  have q0 : w3.cell? ⟨rb + 1, 0, none⟩ = some (.int .u64 0) := A3.cell 0
  have z0 := A3.froz 0
  have q1 : w3.cell? ⟨rb + 1, 1, none⟩ = some (.int .u64 0) := A3.cell 1
  have z1 := A3.froz 1
  have q2 : w3.cell? ⟨rb + 1, 2, none⟩ = some (.int .u64 0) := A3.cell 2
  have z2 := A3.froz 2
  have G3 := hid (((A3.set 0 (.int .u64 v0) (row' := #[.int .u64 v0, .int .u64 0, .int .u64 0, .int .i64 0, .int .i64 0, .int .i64 0, .int .u64 0, .int .i64 0, .int .u64 0, .int .u64 0, .int .u64 0, .int .u64 0]) rfl).set 1 (.int .u64 v1) (row' := #[.int .u64 v0, .int .u64 v1, .int .u64 0, .int .i64 0, .int .i64 0, .int .i64 0, .int .u64 0, .int .i64 0, .int .u64 0, .int .u64 0, .int .u64 0, .int .u64 0]) rfl).set 2 (.int .u64 v2) (row' := #[.int .u64 v0, .int .u64 v1, .int .u64 v2, .int .i64 0, .int .i64 0, .int .i64 0, .int .u64 0, .int .i64 0, .int .u64 0, .int .u64 0, .int .u64 0, .int .u64 0]) rfl)
  clear h2 hr hf A3 G2
  go_wp2_with fail
  clear q0 q1 q2 z0 z1 z2
  rename_i K2 k2 K1 k1
  have HK2 := hid k2
  clear k2
  refine (HS.out _ G3.out.rd).mono ?_
  rintro e w5 ⟨rfl, hr, hf⟩
  have A5 := G3.out.call hr hf
  have p3 : w5.cell? ⟨rb + 1, 3, none⟩ = some (.int .i64 0) := A5.cell 3
  have z3 := A5.froz 3
  have p4 : w5.cell? ⟨rb + 1, 4, none⟩ = some (.int .i64 0) := A5.cell 4
  have z4 := A5.froz 4
  have p5 : w5.cell? ⟨rb + 1, 5, none⟩ = some (.int .i64 0) := A5.cell 5
  have z5 := A5.froz 5
  have p6 : w5.cell? ⟨rb + 1, 6, none⟩ = some (.int .u64 0) := A5.cell 6
  have z6 := A5.froz 6
  have p7 : w5.cell? ⟨rb + 1, 7, none⟩ = some (.int .i64 0) := A5.cell 7
  have z7 := A5.froz 7
  have p8 : w5.cell? ⟨rb + 1, 8, none⟩ = some (.int .u64 0) := A5.cell 8
  have z8 := A5.froz 8
  have p9 : w5.cell? ⟨rb + 1, 9, none⟩ = some (.int .u64 0) := A5.cell 9
  have z9 := A5.froz 9
  have p10 : w5.cell? ⟨rb + 1, 10, none⟩ = some (.int .u64 0) := A5.cell 10
  have z10 := A5.froz 10
  have p11 : w5.cell? ⟨rb + 1, 11, none⟩ = some (.int .u64 0) := A5.cell 11
  have z11 := A5.froz 11
  have G5 := hid (((((((((A5.set 3 (.int .i64 p.top) (row' := #[.int .u64 v0, .int .u64 v1, .int .u64 v2, .int .i64 p.top, .int .i64 0, .int .i64 0, .int .u64 0, .int .i64 0, .int .u64 0, .int .u64 0, .int .u64 0, .int .u64 0]) rfl).set 4 (.int .i64 p.at_) (row' := #[.int .u64 v0, .int .u64 v1, .int .u64 v2, .int .i64 p.top, .int .i64 p.at_, .int .i64 0, .int .u64 0, .int .i64 0, .int .u64 0, .int .u64 0, .int .u64 0, .int .u64 0]) rfl).set 5 (.int .i64 p.bytes) (row' := #[.int .u64 v0, .int .u64 v1, .int .u64 v2, .int .i64 p.top, .int .i64 p.at_, .int .i64 p.bytes, .int .u64 0, .int .i64 0, .int .u64 0, .int .u64 0, .int .u64 0, .int .u64 0]) rfl).set 6 (.int .u64 p.birth) (row' := #[.int .u64 v0, .int .u64 v1, .int .u64 v2, .int .i64 p.top, .int .i64 p.at_, .int .i64 p.bytes, .int .u64 p.birth, .int .i64 0, .int .u64 0, .int .u64 0, .int .u64 0, .int .u64 0]) rfl).set 7 (.int .i64 p.kind) (row' := #[.int .u64 v0, .int .u64 v1, .int .u64 v2, .int .i64 p.top, .int .i64 p.at_, .int .i64 p.bytes, .int .u64 p.birth, .int .i64 p.kind, .int .u64 0, .int .u64 0, .int .u64 0, .int .u64 0]) rfl).set 8 (.int .u64 p.sa) (row' := #[.int .u64 v0, .int .u64 v1, .int .u64 v2, .int .i64 p.top, .int .i64 p.at_, .int .i64 p.bytes, .int .u64 p.birth, .int .i64 p.kind, .int .u64 p.sa, .int .u64 0, .int .u64 0, .int .u64 0]) rfl).set 9 (.int .u64 p.sb) (row' := #[.int .u64 v0, .int .u64 v1, .int .u64 v2, .int .i64 p.top, .int .i64 p.at_, .int .i64 p.bytes, .int .u64 p.birth, .int .i64 p.kind, .int .u64 p.sa, .int .u64 p.sb, .int .u64 0, .int .u64 0]) rfl).set 10 (.int .u64 p.sc) (row' := #[.int .u64 v0, .int .u64 v1, .int .u64 v2, .int .i64 p.top, .int .i64 p.at_, .int .i64 p.bytes, .int .u64 p.birth, .int .i64 p.kind, .int .u64 p.sa, .int .u64 p.sb, .int .u64 p.sc, .int .u64 0]) rfl).set 11 (.int .u64 p.sd) (row' := #[.int .u64 v0, .int .u64 v1, .int .u64 v2, .int .i64 p.top, .int .i64 p.at_, .int .i64 p.bytes, .int .u64 p.birth, .int .i64 p.kind, .int .u64 p.sa, .int .u64 p.sb, .int .u64 p.sc, .int .u64 p.sd]) rfl)
  clear hr hf A5 G3
  go_wp2_with fail
  obtain ⟨w6, hw6⟩ : ∃ w6, (((((((((w5.setCell ⟨rb + 1, 3, none⟩ (.int .i64 p.top)).setCell ⟨rb + 1, 4, none⟩ (.int .i64 p.at_)).setCell ⟨rb + 1, 5, none⟩ (.int .i64 p.bytes)).setCell ⟨rb + 1, 6, none⟩ (.int .u64 p.birth)).setCell ⟨rb + 1, 7, none⟩ (.int .i64 p.kind)).setCell ⟨rb + 1, 8, none⟩ (.int .u64 p.sa)).setCell ⟨rb + 1, 9, none⟩ (.int .u64 p.sb)).setCell ⟨rb + 1, 10, none⟩ (.int .u64 p.sc)).setCell ⟨rb + 1, 11, none⟩ (.int .u64 p.sd)) = w6 := ⟨_, rfl⟩
  rw [hw6] at G5 ⊢
  clear hw6 p3 z3 p4 z4 p5 z5 p6 z6 p7 z7 p8 z8 p9 z9 p10 z10 p11 z11
  have hrow : w6.heap[rb + 1]? = some (.cells #[.int .u64 v0, .int .u64 v1, .int .u64 v2, .int .i64 p.top, .int .i64 p.at_, .int .i64 p.bytes, .int .u64 p.birth, .int .i64 p.kind, .int .u64 p.sa, .int .u64 p.sb, .int .u64 p.sc, .int .u64 p.sd] 45 (0, 0)) := G5.out.pr
  have p0 : w6.cell? ⟨rb + 1, 0, none⟩ = some (.int .u64 v0) := by rw [cell_of_row w6 _ _ _ _ _ hrow]; rfl
  have r0 : w6.cell? ⟨rb, 0, none⟩ = some (.int .u64 0) := G5.out.cellR 0
  have y0 := G5.out.frozR 0
  have p1 : w6.cell? ⟨rb + 1, 1, none⟩ = some (.int .u64 v1) := by rw [cell_of_row w6 _ _ _ _ _ hrow]; rfl
  have r1 : w6.cell? ⟨rb, 1, none⟩ = some (.int .u64 0) := G5.out.cellR 1
  have y1 := G5.out.frozR 1
  have p2 : w6.cell? ⟨rb + 1, 2, none⟩ = some (.int .u64 v2) := by rw [cell_of_row w6 _ _ _ _ _ hrow]; rfl
  have r2 : w6.cell? ⟨rb, 2, none⟩ = some (.int .u64 0) := G5.out.cellR 2
  have y2 := G5.out.frozR 2
  have p3 : w6.cell? ⟨rb + 1, 3, none⟩ = some (.int .i64 p.top) := by rw [cell_of_row w6 _ _ _ _ _ hrow]; rfl
  have r3 : w6.cell? ⟨rb, 3, none⟩ = some (.int .i64 0) := G5.out.cellR 3
  have y3 := G5.out.frozR 3
  have p4 : w6.cell? ⟨rb + 1, 4, none⟩ = some (.int .i64 p.at_) := by rw [cell_of_row w6 _ _ _ _ _ hrow]; rfl
  have r4 : w6.cell? ⟨rb, 4, none⟩ = some (.int .i64 0) := G5.out.cellR 4
  have y4 := G5.out.frozR 4
  have p5 : w6.cell? ⟨rb + 1, 5, none⟩ = some (.int .i64 p.bytes) := by rw [cell_of_row w6 _ _ _ _ _ hrow]; rfl
  have r5 : w6.cell? ⟨rb, 5, none⟩ = some (.int .i64 0) := G5.out.cellR 5
  have y5 := G5.out.frozR 5
  have p6 : w6.cell? ⟨rb + 1, 6, none⟩ = some (.int .u64 p.birth) := by rw [cell_of_row w6 _ _ _ _ _ hrow]; rfl
  have r6 : w6.cell? ⟨rb, 6, none⟩ = some (.int .u64 0) := G5.out.cellR 6
  have y6 := G5.out.frozR 6
  have p7 : w6.cell? ⟨rb + 1, 7, none⟩ = some (.int .i64 p.kind) := by rw [cell_of_row w6 _ _ _ _ _ hrow]; rfl
  have r7 : w6.cell? ⟨rb, 7, none⟩ = some (.int .i64 0) := G5.out.cellR 7
  have y7 := G5.out.frozR 7
  have p8 : w6.cell? ⟨rb + 1, 8, none⟩ = some (.int .u64 p.sa) := by rw [cell_of_row w6 _ _ _ _ _ hrow]; rfl
  have r8 : w6.cell? ⟨rb, 8, none⟩ = some (.int .u64 0) := G5.out.cellR 8
  have y8 := G5.out.frozR 8
  have p9 : w6.cell? ⟨rb + 1, 9, none⟩ = some (.int .u64 p.sb) := by rw [cell_of_row w6 _ _ _ _ _ hrow]; rfl
  have r9 : w6.cell? ⟨rb, 9, none⟩ = some (.int .u64 0) := G5.out.cellR 9
  have y9 := G5.out.frozR 9
  have p10 : w6.cell? ⟨rb + 1, 10, none⟩ = some (.int .u64 p.sc) := by rw [cell_of_row w6 _ _ _ _ _ hrow]; rfl
  have r10 : w6.cell? ⟨rb, 10, none⟩ = some (.int .u64 0) := G5.out.cellR 10
  have y10 := G5.out.frozR 10
  have p11 : w6.cell? ⟨rb + 1, 11, none⟩ = some (.int .u64 p.sd) := by rw [cell_of_row w6 _ _ _ _ _ hrow]; rfl
  have r11 : w6.cell? ⟨rb, 11, none⟩ = some (.int .u64 0) := G5.out.cellR 11
  have y11 := G5.out.frozR 11
  clear hrow
  refine HK2.out _ _ ?_
  go_wp2_with fail
  rw [show (S.toList == [85, 67, 85, 66]) = R by rw [← HSS.out, ← HR.out]; exact letters_eq HB4.out [85, 67, 85, 66] [85, 67, 85, 66] (by decide) rfl]
  obtain ⟨h4, f4⟩ := sets_row rb 45 [(0, .int .u64 v0), (1, .int .u64 v1), (2, .int .u64 v2), (3, .int .i64 p.top), (4, .int .i64 p.at_), (5, .int .i64 p.bytes), (6, .int .u64 p.birth), (7, .int .i64 p.kind), (8, .int .u64 p.sa), (9, .int .u64 p.sb), (10, .int .u64 p.sc), (11, .int .u64 p.sd)] w6 _ G5.out.rr
  obtain ⟨wz, hwz⟩ : ∃ wz, sets w6 rb [(0, .int .u64 v0), (1, .int .u64 v1), (2, .int .u64 v2), (3, .int .i64 p.top), (4, .int .i64 p.at_), (5, .int .i64 p.bytes), (6, .int .u64 p.birth), (7, .int .i64 p.kind), (8, .int .u64 p.sa), (9, .int .u64 p.sb), (10, .int .u64 p.sc), (11, .int .u64 p.sd)] = wz := ⟨_, rfl⟩
  rw [hwz] at h4 f4
  simp only [List.foldl, List.setIfInBounds_toArray, List.set_cons_zero, List.set_cons_succ] at h4
  have hwz' : ((((((((((((w6.setCell ⟨rb, 0, none⟩ (.int .u64 v0)).setCell ⟨rb, 1, none⟩ (.int .u64 v1)).setCell ⟨rb, 2, none⟩ (.int .u64 v2)).setCell ⟨rb, 3, none⟩ (.int .i64 p.top)).setCell ⟨rb, 4, none⟩ (.int .i64 p.at_)).setCell ⟨rb, 5, none⟩ (.int .i64 p.bytes)).setCell ⟨rb, 6, none⟩ (.int .u64 p.birth)).setCell ⟨rb, 7, none⟩ (.int .i64 p.kind)).setCell ⟨rb, 8, none⟩ (.int .u64 p.sa)).setCell ⟨rb, 9, none⟩ (.int .u64 p.sb)).setCell ⟨rb, 10, none⟩ (.int .u64 p.sc)).setCell ⟨rb, 11, none⟩ (.int .u64 p.sd)) = wz := hwz
  rw [hwz']
  have g0 : wz.cell? ⟨rb, 0, none⟩ = some (.int .u64 v0) := by rw [cell_of_row wz _ _ _ _ _ h4]; rfl
  have g1 : wz.cell? ⟨rb, 1, none⟩ = some (.int .u64 v1) := by rw [cell_of_row wz _ _ _ _ _ h4]; rfl
  have g2 : wz.cell? ⟨rb, 2, none⟩ = some (.int .u64 v2) := by rw [cell_of_row wz _ _ _ _ _ h4]; rfl
  have g3 : wz.cell? ⟨rb, 3, none⟩ = some (.int .i64 p.top) := by rw [cell_of_row wz _ _ _ _ _ h4]; rfl
  have g4 : wz.cell? ⟨rb, 4, none⟩ = some (.int .i64 p.at_) := by rw [cell_of_row wz _ _ _ _ _ h4]; rfl
  have g5 : wz.cell? ⟨rb, 5, none⟩ = some (.int .i64 p.bytes) := by rw [cell_of_row wz _ _ _ _ _ h4]; rfl
  have g6 : wz.cell? ⟨rb, 6, none⟩ = some (.int .u64 p.birth) := by rw [cell_of_row wz _ _ _ _ _ h4]; rfl
  have g7 : wz.cell? ⟨rb, 7, none⟩ = some (.int .i64 p.kind) := by rw [cell_of_row wz _ _ _ _ _ h4]; rfl
  have g8 : wz.cell? ⟨rb, 8, none⟩ = some (.int .u64 p.sa) := by rw [cell_of_row wz _ _ _ _ _ h4]; rfl
  have g9 : wz.cell? ⟨rb, 9, none⟩ = some (.int .u64 p.sb) := by rw [cell_of_row wz _ _ _ _ _ h4]; rfl
  have g10 : wz.cell? ⟨rb, 10, none⟩ = some (.int .u64 p.sc) := by rw [cell_of_row wz _ _ _ _ _ h4]; rfl
  have g11 : wz.cell? ⟨rb, 11, none⟩ = some (.int .u64 p.sd) := by rw [cell_of_row wz _ _ _ _ _ h4]; rfl
  have gb := G5.out.hb
  have gg := G5.out.hg
  have gr := G5.out.hr
  refine bodyPost_ret (v := .tuple #[.agg #[.int .u64 v0, .int .u64 v1, .int .u64 v2, .int .i64 p.top, .int .i64 p.at_, .int .i64 p.bytes, .int .u64 p.birth, .int .i64 p.kind, .int .u64 p.sa, .int .u64 p.sb, .int .u64 p.sc, .int .u64 p.sd], .bool R]) (by simp [results, Tryd.results53, go_sem, g0, g1, g2, g3, g4, g5, g6, g7, g8, g9, g10, g11]) rfl ⟨rfl, G5.out.rd.kept f4 (by simp; omega) (by simp; omega), G5.out.fr.trans f4 (fun i hi hl => by simp at hi; omega)⟩
end Go.Proofs.YtdnnbinmippkdaaDoor
