/- The statement VolumeReads: the walk. -/
import Derived.Test.YtdfefeljnfcngaaVolH
import Derived.Test.YtdfefeljnfcngaaVolO
namespace Go.Proofs.Ytdfefeljnfcngaa
open Go.RowKit
set_option maxRecDepth 100000

theorem splice_set {bs zs : List Int} {a k : Nat} (hk : k < zs.length) (hl : a + zs.length ≤ bs.length) : (splice bs a (zs.take k)).set (a + k) (zs.getD k 0) = splice bs a (zs.take (k + 1)) := by
  have e1 : zs.take (k + 1) = zs.take k ++ [zs.getD k 0] := by
    rw [List.take_succ_eq_append_getElem hk]; simp [List.getD, hk]
  have e2 : (zs.take k).length = k := by simp; omega
  have e3 : (bs.take a ++ zs.take k).length = a + k := by simp; omega
  obtain ⟨y, hy⟩ : ∃ y, bs.drop (a + k) = y :: bs.drop (a + (k + 1)) := ⟨bs[a + k]'(by omega), by rw [List.drop_eq_getElem_cons (by omega)]; rfl⟩
  unfold splice
  rw [e2, e1, List.length_append, e2, hy]
  rw [List.set_append_right _ _ (by omega), e3, Nat.sub_self, List.set_cons_zero]
  simp
theorem splice_getD {bs zs : List Int} {a k : Nat} (hk : k < zs.length) (hl : a + zs.length ≤ bs.length) : a + k < (splice bs a (zs.take k)).length := by
  rw [splice_length (by simp; omega)]; omega
theorem rd_at {w : World} {p : Option Addr} {zs : List Int} {i : Nat} (h : Rd w p zs) (hi : i < zs.length) : ∃ g o, p = some ⟨g, o, none⟩ ∧ w.cell? ⟨g, o + i, none⟩ = some (.int .u8 (zs.getD i 0)) := by
  rcases h with h | ⟨g, o, h1, h2⟩
  · subst h; simp at hi
  · exact ⟨g, o, h1, h2 i hi⟩
/-- What holds at each round's head: the volume, and the bytes that are wanted, are the same. -/
structure VolI (w0 : World) (vb vg wb n : Nat) (cur : List Int) (w : World) : Prop where
  v : IsVol w vb vg cur
  q : w.heap[wb]? = some (.cells (bv cur).toArray 5 (0, 0))
  l : cur.length = n
  f : Frm [] w0 w
theorem VolI.other {w0 w w' : World} {vb vg wb n : Nat} {cur : List Int} (h : VolI w0 vb vg wb n cur w) (hf : Frm [] w w') : VolI w0 vb vg wb n cur w' :=
  ⟨h.v.kept hf (by simp) (by simp), hf.heap h.q (by simp), h.l, h.f.trans hf (by simp)⟩
set_option maxHeartbeats 12800000 in
theorem volReads_any (ch : Int) (hc : -9223372036854775808 ≤ ch) (hc2 : ch ≤ 9223372036854775807) (q : Option Addr) (m c2 : Nat) (w : World) (hcl : CameO w q m c2) :
    Calls Try.prog 9 #[.int .i64 ch, .slice q m c2] w fun e w' => e = .returned (.bool true) ∧ Frm [] w w' := by
  have HCL := hid hcl
  have hm : m ≤ 9223372036854775807 := by have := hcl.1; have := hcl.2.1; omega
  clear hcl
  obtain ⟨j, hj, hj2⟩ : ∃ j : Nat, pickV ch 64 = j ∧ j < 64 := ⟨(pickV ch 64).toNat, by have := pickV_bd (c := ch) (n := 64) (by decide); omega, by have := pickV_bd (c := ch) (n := 64) (by decide); omega⟩
  have HJ := hid hj
  obtain ⟨n, hn⟩ : ∃ n, n = 256 * (1 + j) := ⟨_, rfl⟩
  have hsz : (256 : Int) * (1 + (j : Int)) = (n : Int) := by omega
  have hn1 : 256 ≤ n := by omega
  have hn2 : n ≤ 16384 := by omega
  have hn3 : n % 256 = 0 := by omega
  have hmk := run_make_row' (P := Try.prog) 22 5 (.int .u8 0) 1 Try.underlying22 infoB rfl .i64 .i64 n (by omega) (by omega)
  clear hj hn
  go_enter Try.func9, Try.ntmps9
  go_wp2_with fail
  refine (awakeV_any _).mono ?_
  rintro e w0 ⟨rfl, hf0⟩
  have HF0 := hid hf0
  clear hf0
  go_wp2_with fail
  refine (pick_any ch 64 hc hc2 (by omega) (by omega) _).mono ?_
  rintro e w1 ⟨rfl, rfl⟩
  rw [HJ.out]
  go_wp2_with fail
  refine (volNew_ok n hn1 hn2 hn3 _).mono ?_
  rintro e w2 ⟨vb, vg, rfl, hv2, hf2, hvb, hvg⟩
  have hvc := hv2.cells
  have hne := hv2.ne
  have HAW : Hid (Frm [] w2 (w2.alloc (.cells (madeCells #[Value.int .u8 0] n) 5))) := (Frm.refl _ _).alloc _
  have HI2 : Hid (VolI w0 vb vg w2.heap.size n (List.replicate n 0) (w2.alloc (.cells (madeCells #[Value.int .u8 0] n) 5))) := by
    refine ⟨hv2.kept HAW.out (by simp) (by simp), ?_, by simp, hf2.trans HAW.out (by simp)⟩
    rw [heap_alloc_new]
    congr 2
    apply Array.ext'
    rw [toList_madeCells_one, bv_toList]
    simp [bv]
  have hwl := hf2.size
  obtain ⟨wb, hwb⟩ : ∃ wb, w2.heap.size = wb := ⟨_, rfl⟩
  have hb1 : vg < wb := by omega
  have hb2 : vb < wb := by omega
  have hb3 : w0.heap.size ≤ wb := by omega
  rw [hwb] at HI2
  have HWB := hid hwb
  clear hv2 hf2 hvc hwl hwb HAW
  go_wp2_with fail
  rw [HWB.out]
  go_loopw [10] (fun i wr => ∃ (t : Nat) (cur : List Int), t ≤ m ∧ i = .int .i64 t ∧ Hid (VolI w0 vb vg wb n cur wr)) (fun i _ => m - (intOf i).toNat)
  case atStart => exact ⟨0, List.replicate n 0, Nat.zero_le _, rfl, HI2⟩
  case round =>
    obtain ⟨t, cur, ht, rfl, hinv⟩ := hrel
    clear HI2
    by_cases hlt : t < m
    · obtain ⟨g, o, rfl, d, hat, hok⟩ : ∃ g o, q = some ⟨g, o, none⟩ ∧ ∃ d, OpAt wr g (o + t * 4) d ∧ OpOk w0 d := by
        rcases HCL.out.2.2 with h | ⟨g, o, rfl, h⟩
        · omega
        · obtain ⟨d, h1, h2⟩ := h t hlt
          exact ⟨g, o, rfl, d, (h1.kept HF0.out).kept hinv.out.f, h2.kept HF0.out⟩
      obtain ⟨k0, k1, k2, k3⟩ := hat
      obtain ⟨⟨a0, a1⟩, ⟨a2, a3⟩, ⟨a4, a5⟩, ns, hnl, hrd, _, hpc, hbc, hbm⟩ := hok
      have HRD := hid hrd
      have HPC := hid hpc
      have HFA : Hid (Frm [] wr (wr.alloc (.cells #[.int .i64 d.kind, .int .i64 d.at_, .int .i64 d.many, .slice d.p d.bl d.bc] 80))) := (Frm.refl _ _).alloc _
      have HI3 := hid (hinv.out.other HFA.out)
      have hcs : ∀ i v, (#[.int .i64 d.kind, .int .i64 d.at_, .int .i64 d.many, .slice d.p d.bl d.bc] : Array Value)[i]? = some v → (wr.alloc (.cells #[.int .i64 d.kind, .int .i64 d.at_, .int .i64 d.many, .slice d.p d.bl d.bc] 80)).cell? ⟨wr.heap.size, i, none⟩ = some v := by
        intro i v hv
        rw [cell_of_row _ _ _ _ _ _ (heap_alloc_new wr _)]; exact hv
      have hvc := hinv.out.v.cells
      have hwbl := lt_of_heap hinv.out.q
      have hx1 : wr.heap.size ∉ [vg] := by simp; omega
      have hx2 : wr.heap.size ∉ [wb] := by simp; omega
      have hxl : wr.heap.size < (wr.alloc (.cells #[.int .i64 d.kind, .int .i64 d.at_, .int .i64 d.many, .slice d.p d.bl d.bc] 80)).heap.size := by simp
      have e0 := hcs 0 _ rfl
      have e1 := hcs 1 _ rfl
      have e2 := hcs 2 _ rfl
      have e3 := hcs 3 _ rfl
      have hgp : ns ≠ [] → ∀ k ∈ blk d.p, k < w0.heap.size := fun h k hk => HRD.out.lows h k hk
      have HGP := hid hgp
      obtain ⟨A, hA⟩ : ∃ A, pickV d.at_ (n + 3) - 1 = A := ⟨_, rfl⟩
      have hAb := pickV_bd (c := d.at_) (n := (n : Int) + 3) (by omega)
      obtain ⟨M, hM, hMb⟩ : ∃ M : Nat, pickV d.many 700 = M ∧ M < 700 := ⟨(pickV d.many 700).toNat, by have := pickV_bd (c := d.many) (n := 700) (by decide); omega, by have := pickV_bd (c := d.many) (n := 700) (by decide); omega⟩
      have HM := hid hM
      have hA1 : -1 ≤ A := by omega
      have hA2 : A ≤ n + 1 := by omega
      have HAA := hid hA
      obtain ⟨bx, hbx⟩ : ∃ bx, wr.heap.size = bx := ⟨_, rfl⟩
      have HBX := hid hbx
      rw [hbx] at hx1 hx2 hxl e0 e1 e2 e3
      clear hrd hpc hcs hvc hgp hM hA hAb hbx
      have hkb := pickV_bd (c := d.kind) (n := 2) (by decide)
      go_wp2_with fail
      rw [HBX.out]
      refine (pick_any d.at_ (n + 3) a2 a3 (by omega) (by omega) _).mono ?_
      rintro e w4 ⟨rfl, rfl⟩
      have hpA : -9223372036854775808 ≤ pickV d.at_ (n + 3) - 1 := by rw [HAA.out]; omega
      have hpA2 : pickV d.at_ (n + 3) - 1 ≤ 9223372036854775807 := by rw [HAA.out]; omega
      have hAA := HAA.out
      go_wp2_with fail
      refine (pick_any d.many 700 a4 a5 (by omega) (by omega) _).mono ?_
      rintro e w4 ⟨rfl, rfl⟩
      rw [HM.out]
      go_wp2_with fail
      refine (pick_any d.kind 2 a0 a1 (by omega) (by omega) _).mono ?_
      rintro e w4 ⟨rfl, rfl⟩
      by_cases hK : pickV d.kind 2 = 0
      · have HK := hid hK
        rw [hK]
        clear hK hkb
        by_cases hh : hasB n A (d.bl : Int) = true
        · obtain ⟨a, k', ha, hk', hle⟩ := hasB_yes hh
          obtain rfl : k' = d.bl := by omega
          subst ha
          have HW := volWrite_ok vb vg cur a d.p ns d.bc _ HI3.out.v (HRD.out.kept HI3.out.f (by simp)) (fun h hk => by have := HGP.out h vg hk; omega) (by rw [HI3.out.l]; omega)
          rw [hnl] at HW
          have HWW := hid HW
          have hle2 : (d.bl : Int) ≤ (n : Int) := by omega
          have hle3 : (a : Int) ≤ (n : Int) - (d.bl : Int) := by omega
          have HLE : Hid (a + ns.length ≤ cur.length) := by show _ ≤ _; rw [HI3.out.l]; omega
          have HZL : Hid (ns.length = d.bl) := hnl
          clear HW hh hk'
          go_wp2_with fail
          refine HWW.out.mono ?_
          rintro e w5 ⟨rfl, hv5, hf5⟩
          have HV5 := hid hv5
          have HF5 : Hid (Frm [] w0 w5) := HI3.out.f.trans hf5 (fun i hi hlt => by simp at hi; omega)
          have HQ5 : Hid (w5.heap[wb]? = some (.cells (bv (splice cur a (ns.take 0))).toArray 5 (0, 0))) := by
            show _ = _
            rw [List.take_zero, splice_nil]
            exact hf5.heap HI3.out.q (by simp; omega)
          have HX5 : Hid (bx < w5.heap.size) := Nat.lt_of_lt_of_le hxl hf5.size
          have g0 := (hf5.cell (p := ⟨bx, 0, none⟩) hxl hx1).trans e0
          have g3 := (hf5.cell (p := ⟨bx, 3, none⟩) hxl hx1).trans e3
          clear hv5 hf5
          go_wp2_with fail
          go_loopw [16] (fun k wq => ∃ kk : Nat, kk ≤ d.bl ∧ k = .int .i64 kk ∧ Hid (wq.heap[wb]? = some (.cells (bv (splice cur a (ns.take kk))).toArray 5 (0, 0))) ∧ Hid (IsVol wq vb vg (splice cur a ns)) ∧ Hid (Frm [] w0 wq) ∧ Hid (wq.cell? ⟨bx, 0, none⟩ = some (.int .i64 d.kind)) ∧ Hid (wq.cell? ⟨bx, 3, none⟩ = some (.slice d.p d.bl d.bc)) ∧ Hid (bx < wq.heap.size)) (fun k _ => d.bl - (intOf k).toNat)
          case atStart => exact ⟨0, Nat.zero_le _, rfl, HQ5, HV5, HF5, hid g0, hid g3, HX5⟩
          case round =>
            obtain ⟨kk, hkk, rfl, hq, hv, hf, h0, h3, hxl⟩ := hrel
            by_cases hlk : kk < d.bl
            · have hlz : kk < ns.length := by rw [HZL.out]; exact hlk
              have hwl := splice_getD (bs := cur) (a := a) hlz HLE.out
              have hcw : wr.cell? ⟨wb, a + kk, none⟩ = some (.int .u8 ((splice cur a (ns.take kk)).getD (a + kk) 0)) := by
                rw [cell_of_row _ _ _ _ _ (0, 0) hq.out]
                simpa using bv_get hwl
              have hfw := frozen_of_row wr wb (a + kk) _ _ hq.out
              have hss := splice_set (bs := cur) (a := a) hlz HLE.out
              obtain ⟨x, hx⟩ : ∃ x, ns.getD kk 0 = x := ⟨_, rfl⟩
              rw [hx] at hss
              have HSS := hid hss
              clear hss
              have c0 := h0.out
              have c3 := h3.out
              have HFS : Hid (Frm [wb] wr (wr.setCell ⟨wb, a + kk, none⟩ (.int .u8 0))) := (Frm.refl _ _).setCell _ _ (by simp)
              have d0 := (HFS.out.cell (p := ⟨bx, 0, none⟩) hxl.out hx2).trans c0
              have d3 := (HFS.out.cell (p := ⟨bx, 3, none⟩) hxl.out hx2).trans c3
              have HQ1 : Hid ((wr.setCell ⟨wb, a + kk, none⟩ (.int .u8 0)).heap[wb]? = some (.cells (bv ((splice cur a (ns.take kk)).set (a + kk) 0)).toArray 5 (0, 0))) := by
                show _ = _
                rw [heap_setCell_same wr wb (a + kk) _ _ _ hq.out]
                congr 2
                apply Array.ext'
                simp [bv, List.map_set]
              have hf6 : Frm [] w0 (wr.setCell ⟨wb, a + kk, none⟩ (.int .u8 0)) := hf.out.trans HFS.out (fun i hi hlt => by simp at hi; omega)
              have HF6 := hid hf6
              clear hf6
              obtain ⟨gp, op, hdp, hcp⟩ := rd_at HRD.out hlz
              rw [hx] at hcp
              have hcp' := (HF6.out.cell (p := ⟨gp, op + kk, none⟩) (World.block_lt_of_cell? _ _ hcp) (by simp)).trans hcp
              have hcq : (wr.setCell ⟨wb, a + kk, none⟩ (.int .u8 0)).cell? ⟨wb, a + kk, none⟩ = some (.int .u8 0) := by
                rw [cell_of_row _ _ _ _ _ (0, 0) HQ1.out]
                have e9 := bv_get (zs := (splice cur a (ns.take kk)).set (a + kk) 0) (i := a + kk) (by rw [List.length_set]; exact hwl)
                rw [show ((splice cur a (ns.take kk)).set (a + kk) 0).getD (a + kk) 0 = 0 by simp [List.getD, hwl]] at e9
                simpa using e9
              have hfq := frozen_of_row _ wb (a + kk) _ _ HQ1.out
              rw [hdp] at c3 d3 ⊢
              clear hcp hlz hwl hx
              go_wp2_with fail
              refine (pick_any d.kind 2 a0 a1 (by omega) (by omega) _).mono ?_
              rintro e w7 ⟨rfl, rfl⟩
              rw [HK.out]
              go_wp2_with fail
              go_roundw
              case rel =>
                have HF8 : Frm [wb] (wr.setCell ⟨wb, a + kk, none⟩ (.int .u8 0)) ((wr.setCell ⟨wb, a + kk, none⟩ (.int .u8 0)).setCell ⟨wb, a + kk, none⟩ (.int .u8 x)) := (Frm.refl _ _).setCell _ _ (by simp)
                have HF9 : Frm [wb] wr ((wr.setCell ⟨wb, a + kk, none⟩ (.int .u8 0)).setCell ⟨wb, a + kk, none⟩ (.int .u8 x)) := HFS.out.trans HF8 (fun i hi _ => hi)
                have g1 : vb ∉ [wb] := by simp; omega
                have g2 : vg ∉ [wb] := by simp; omega
                have g4 : ∀ i ∈ [wb], i < w0.heap.size → i ∈ ([] : List Nat) := fun i hi hlt => by simp at hi; omega
                refine ⟨kk + 1, by omega, by go_num, ?_, hv.out.kept HF9 g1 g2, HF6.out.trans HF8 g4, hid ((HF8.cell (p := ⟨bx, 0, none⟩) (Nat.lt_of_lt_of_le hxl.out HFS.out.size) hx2).trans d0), hid ((HF8.cell (p := ⟨bx, 3, none⟩) (Nat.lt_of_lt_of_le hxl.out HFS.out.size) hx2).trans d3), Nat.lt_of_lt_of_le hxl.out HF9.size⟩
                show _ = _
                rw [heap_setCell_same _ wb (a + kk) _ _ _ HQ1.out]
                congr 2
                apply Array.ext'
                have h9 := congrArg bv HSS.out
                simpa [bv, List.map_set] using h9
              case measure => simp [intOf]; omega
            · obtain rfl : kk = d.bl := by omega
              have hqq := hq.out
              rw [List.take_of_length_le (by rw [HZL.out]; exact Nat.le_refl _)] at hqq
              have HV9 : Hid (VolI w0 vb vg wb n (splice cur a ns) wr) := ⟨hv.out, hqq, by rw [splice_length HLE.out]; exact HI3.out.l, hf.out⟩
              clear hqq
              go_wp2_with fail
              go_roundw
              case rel => exact ⟨t + 1, splice cur a ns, by omega, by go_num, HV9⟩
              case measure => simp [intOf]; omega
        · have hh' : hasB n A (d.bl : Int) = false := by simpa using hh
          have HW := volWrite_no vb vg cur A d.p d.bl d.bc _ HI3.out.v (by omega) (by rw [HI3.out.l]; exact hh')
          have HWW := hid HW
          have hcase : A < 0 ∨ (0 ≤ A ∧ (n : Int) < (d.bl : Int)) ∨ (0 ≤ A ∧ ((d.bl : Int) : Int) ≤ n ∧ (n : Int) - (d.bl : Int) < A) := by
            simp [hasB] at hh'
            omega
          clear HW hh'
          rcases hcase with hc1 | ⟨hc1, hc4⟩ | ⟨hc1, hc3, hc4⟩
          · clear hh
            go_wp2_with fail
            refine HWW.out.mono ?_
            rintro e w5 ⟨rfl, rfl⟩
            go_wp2_with fail
            go_loopw [16] (fun k wq => k = .int .i64 0 ∧ Hid (VolI w0 vb vg wb n cur wq)) (fun _ _ => 0)
            case atStart => exact ⟨rfl, HI3⟩
            case round =>
              obtain ⟨rfl, hq⟩ := hrel
              go_wp2_with fail
              all_goals
                go_roundw
                case rel => exact ⟨t + 1, cur, by omega, by go_num, hq⟩
                case measure => simp [intOf]; omega
          · clear hh
            go_wp2_with fail
            refine HWW.out.mono ?_
            rintro e w5 ⟨rfl, rfl⟩
            go_wp2_with fail
            go_loopw [16] (fun k wq => k = .int .i64 0 ∧ Hid (VolI w0 vb vg wb n cur wq)) (fun _ _ => 0)
            case atStart => exact ⟨rfl, HI3⟩
            case round =>
              obtain ⟨rfl, hq⟩ := hrel
              go_wp2_with fail
              all_goals
                go_roundw
                case rel => exact ⟨t + 1, cur, by omega, by go_num, hq⟩
                case measure => simp [intOf]; omega
          · clear hh
            go_wp2_with fail
            refine HWW.out.mono ?_
            rintro e w5 ⟨rfl, rfl⟩
            go_wp2_with fail
            go_loopw [16] (fun k wq => k = .int .i64 0 ∧ Hid (VolI w0 vb vg wb n cur wq)) (fun _ _ => 0)
            case atStart => exact ⟨rfl, HI3⟩
            case round =>
              obtain ⟨rfl, hq⟩ := hrel
              go_wp2_with fail
              all_goals
                go_roundw
                case rel => exact ⟨t + 1, cur, by omega, by go_num, hq⟩
                case measure => simp [intOf]; omega
      · have hK1 : pickV d.kind 2 = 1 := by omega
        have HK := hid hK1
        rw [hK1]
        clear hK hK1 hkb
        by_cases hh : hasB n A (M : Int) = true
        · obtain ⟨a, k', ha, hk', hle⟩ := hasB_yes hh
          obtain rfl : M = k' := by omega
          subst ha
          have HW := volDiscard_ok vb vg cur a M _ HI3.out.v (by rw [HI3.out.l]; omega)
          obtain ⟨ZS, hzs⟩ : ∃ ZS, ZS = List.replicate M (0 : Int) := ⟨_, rfl⟩
          rw [← hzs] at HW
          have HZS := hid hzs
          clear hzs
          have HWW := hid HW
          have hle2 : (M : Int) ≤ (n : Int) := by omega
          have hle3 : (a : Int) ≤ (n : Int) - (M : Int) := by omega
          have HLE : Hid (a + ZS.length ≤ cur.length) := by show _ ≤ _; rw [HI3.out.l, HZS.out, List.length_replicate]; omega
          have HZL : Hid (ZS.length = M) := by show _ = _; rw [HZS.out, List.length_replicate]
          clear HW hh hk'
          go_wp2_with fail
          refine HWW.out.mono ?_
          rintro e w5 ⟨rfl, hv5, hf5⟩
          have HV5 := hid hv5
          have HF5 : Hid (Frm [] w0 w5) := HI3.out.f.trans hf5 (fun i hi hlt => by simp at hi; omega)
          have HQ5 : Hid (w5.heap[wb]? = some (.cells (bv (splice cur a (ZS.take 0))).toArray 5 (0, 0))) := by
            show _ = _
            rw [List.take_zero, splice_nil]
            exact hf5.heap HI3.out.q (by simp; omega)
          have HX5 : Hid (bx < w5.heap.size) := Nat.lt_of_lt_of_le hxl hf5.size
          have g0 := (hf5.cell (p := ⟨bx, 0, none⟩) hxl hx1).trans e0
          have g3 := (hf5.cell (p := ⟨bx, 3, none⟩) hxl hx1).trans e3
          clear hv5 hf5
          go_wp2_with fail
          go_loopw [16] (fun k wq => ∃ kk : Nat, kk ≤ M ∧ k = .int .i64 kk ∧ Hid (wq.heap[wb]? = some (.cells (bv (splice cur a (ZS.take kk))).toArray 5 (0, 0))) ∧ Hid (IsVol wq vb vg (splice cur a ZS)) ∧ Hid (Frm [] w0 wq) ∧ Hid (wq.cell? ⟨bx, 0, none⟩ = some (.int .i64 d.kind)) ∧ Hid (wq.cell? ⟨bx, 3, none⟩ = some (.slice d.p d.bl d.bc)) ∧ Hid (bx < wq.heap.size)) (fun k _ => M - (intOf k).toNat)
          case atStart => exact ⟨0, Nat.zero_le _, rfl, HQ5, HV5, HF5, hid g0, hid g3, HX5⟩
          case round =>
            obtain ⟨kk, hkk, rfl, hq, hv, hf, h0, h3, hxl⟩ := hrel
            by_cases hlk : kk < M
            · have hlz : kk < ZS.length := by rw [HZL.out]; exact hlk
              have hwl := splice_getD (bs := cur) (a := a) hlz HLE.out
              have hcw : wr.cell? ⟨wb, a + kk, none⟩ = some (.int .u8 ((splice cur a (ZS.take kk)).getD (a + kk) 0)) := by
                rw [cell_of_row _ _ _ _ _ (0, 0) hq.out]
                simpa using bv_get hwl
              have hfw := frozen_of_row wr wb (a + kk) _ _ hq.out
              have hss := splice_set (bs := cur) (a := a) hlz HLE.out
              obtain ⟨x, hx⟩ : ∃ x, ZS.getD kk 0 = x := ⟨_, rfl⟩
              rw [hx] at hss
              have HSS := hid hss
              clear hss
              have c0 := h0.out
              have c3 := h3.out
              have HFS : Hid (Frm [wb] wr (wr.setCell ⟨wb, a + kk, none⟩ (.int .u8 0))) := (Frm.refl _ _).setCell _ _ (by simp)
              have d0 := (HFS.out.cell (p := ⟨bx, 0, none⟩) hxl.out hx2).trans c0
              have d3 := (HFS.out.cell (p := ⟨bx, 3, none⟩) hxl.out hx2).trans c3
              have HQ1 : Hid ((wr.setCell ⟨wb, a + kk, none⟩ (.int .u8 0)).heap[wb]? = some (.cells (bv ((splice cur a (ZS.take kk)).set (a + kk) 0)).toArray 5 (0, 0))) := by
                show _ = _
                rw [heap_setCell_same wr wb (a + kk) _ _ _ hq.out]
                congr 2
                apply Array.ext'
                simp [bv, List.map_set]
              have hf6 : Frm [] w0 (wr.setCell ⟨wb, a + kk, none⟩ (.int .u8 0)) := hf.out.trans HFS.out (fun i hi hlt => by simp at hi; omega)
              have HF6 := hid hf6
              clear hf6
              have hx0 : ZS.getD kk 0 = 0 := by rw [HZS.out]; simp [List.getD, hlk]
              rw [hx0] at hx
              subst hx
              clear hlz hwl hx0
              go_wp2_with fail
              refine (pick_any d.kind 2 a0 a1 (by omega) (by omega) _).mono ?_
              rintro e w7 ⟨rfl, rfl⟩
              rw [HK.out]
              go_wp2_with fail
              go_roundw
              case rel =>
                have g1 : vb ∉ [wb] := by simp; omega
                have g2 : vg ∉ [wb] := by simp; omega
                refine ⟨kk + 1, by omega, by go_num, ?_, hv.out.kept HFS.out g1 g2, HF6, hid d0, hid d3, Nat.lt_of_lt_of_le hxl.out HFS.out.size⟩
                rw [← HSS.out]
                exact HQ1
              case measure => simp [intOf]; omega
            · have hkM : kk = M := by omega
              subst hkM
              have hqq := hq.out
              rw [List.take_of_length_le (by rw [HZL.out]; exact Nat.le_refl _)] at hqq
              have HV9 : Hid (VolI w0 vb vg wb n (splice cur a ZS) wr) := ⟨hv.out, hqq, by rw [splice_length HLE.out]; exact HI3.out.l, hf.out⟩
              clear hqq
              go_wp2_with fail
              go_roundw
              case rel => exact ⟨t + 1, splice cur a ZS, by omega, by go_num, HV9⟩
              case measure => simp [intOf]; omega
        · have hh' : hasB n A (M : Int) = false := by simpa using hh
          have HW := volDiscard_no vb vg cur A M _ HI3.out.v (by rw [HI3.out.l]; exact hh')
          have HWW := hid HW
          have hcase : A < 0 ∨ (0 ≤ A ∧ (n : Int) < (M : Int)) ∨ (0 ≤ A ∧ ((M : Int) : Int) ≤ n ∧ (n : Int) - (M : Int) < A) := by
            simp [hasB] at hh'
            omega
          clear HW hh'
          rcases hcase with hc1 | ⟨hc1, hc4⟩ | ⟨hc1, hc3, hc4⟩
          · clear hh
            go_wp2_with fail
            refine HWW.out.mono ?_
            rintro e w5 ⟨rfl, rfl⟩
            go_wp2_with fail
            go_loopw [16] (fun k wq => k = .int .i64 0 ∧ Hid (VolI w0 vb vg wb n cur wq)) (fun _ _ => 0)
            case atStart => exact ⟨rfl, HI3⟩
            case round =>
              obtain ⟨rfl, hq⟩ := hrel
              go_wp2_with fail
              all_goals
                go_roundw
                case rel => exact ⟨t + 1, cur, by omega, by go_num, hq⟩
                case measure => simp [intOf]; omega
          · clear hh
            go_wp2_with fail
            refine HWW.out.mono ?_
            rintro e w5 ⟨rfl, rfl⟩
            go_wp2_with fail
            go_loopw [16] (fun k wq => k = .int .i64 0 ∧ Hid (VolI w0 vb vg wb n cur wq)) (fun _ _ => 0)
            case atStart => exact ⟨rfl, HI3⟩
            case round =>
              obtain ⟨rfl, hq⟩ := hrel
              go_wp2_with fail
              all_goals
                go_roundw
                case rel => exact ⟨t + 1, cur, by omega, by go_num, hq⟩
                case measure => simp [intOf]; omega
          · clear hh
            go_wp2_with fail
            refine HWW.out.mono ?_
            rintro e w5 ⟨rfl, rfl⟩
            go_wp2_with fail
            go_loopw [16] (fun k wq => k = .int .i64 0 ∧ Hid (VolI w0 vb vg wb n cur wq)) (fun _ _ => 0)
            case atStart => exact ⟨rfl, HI3⟩
            case round =>
              obtain ⟨rfl, hq⟩ := hrel
              go_wp2_with fail
              all_goals
                go_roundw
                case rel => exact ⟨t + 1, cur, by omega, by go_num, hq⟩
                case measure => simp [intOf]; omega
    · obtain rfl : t = m := by omega
      have hl3 := hinv.out.l
      have HIA := hid hinv.out
      clear hlt hinv
      go_wp2_with fail
      refine (volCells_any vb vg cur _ HIA.out.v).mono ?_
      rintro e w3 ⟨pp, pc, xs, n3, rfl, rfl, hs3, hi3, hf3⟩
      have HV3 := hid (HIA.out.other hf3)
      have hop := volOpen_any cur w3 _ pp pc xs hi3 hs3 (by rw [hl3]; exact hn1) (by rw [hl3]; exact hn2) (by rw [hl3]; exact hn3)
      have HOP := hid hop
      clear hi3 hs3 hf3 hop
      go_wp2_with fail
      refine HOP.out.mono ?_
      rintro e w4 ⟨ob, og, rfl, hv4, hf4, hob, hog⟩
      have HV4 := hid (HV3.out.other hf4)
      have HO4 := hid hv4
      clear hv4 hf4
      have hr1 := volRead_ok vb vg cur 0 n w4 HV4.out.v (by rw [hl3]; omega)
      rw [List.drop_zero, List.take_of_length_le (by rw [hl3]; exact Nat.le_refl _)] at hr1
      have HR1 := hid hr1
      clear hr1
      go_wp2_with fail
      refine HR1.out.mono ?_
      rintro e w5 ⟨p5, n5, c5, rfl, rfl, _, ho5, hf5, hk5⟩
      have HV5 := hid (HV4.out.other hf5)
      have HO5 := hid (HO4.out.kept hf5 (by simp) (by simp))
      have HA5 := hid ho5
      clear ho5 hf5
      have hr2 := volRead_ok ob og cur 0 n5 w5 HO5.out (by rw [hl3]; omega)
      rw [List.drop_zero, List.take_of_length_le (by rw [hl3]; exact Nat.le_refl _)] at hr2
      have HR2 := hid hr2
      clear hr2
      go_wp2_with fail
      refine HR2.out.mono ?_
      rintro e w6 ⟨p6, n6, c6, rfl, rfl, _, ho6, hf6, hk6⟩
      have HV6 := hid (HV5.out.other hf6)
      have hz1 := cv_any (P := Try.prog) (w := w6) 22 5 9 Try.underlying22 Try.underlying5 Try.underlying9 (HA5.out.kept hf6 (by simp)).rd c5 hl3
      have hz2 := cv_any (P := Try.prog) (w := w6) 22 5 9 Try.underlying22 Try.underlying5 Try.underlying9 ho6.rd c6 hl3
      have hz3 := cv_any (P := Try.prog) (w := w6) 22 5 9 Try.underlying22 Try.underlying5 Try.underlying9 (own_of_block (E := 5) HV6.out.q (by unfold maxLen; omega)).rd n6 hl3
      generalize strOfNums cur = S at hz1 hz2 hz3
      clear ho6 hf6 hk5 hk6
      go_wp2_with fail
      go_returns
      exact ⟨rfl, HF0.out.trans HV6.out.f (by simp)⟩
end Go.Proofs.Ytdfefeljnfcngaa
