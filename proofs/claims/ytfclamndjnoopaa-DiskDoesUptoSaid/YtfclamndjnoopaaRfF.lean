/- The document's disks: Flush, Fail. The document's disks: Replace. -/
import Derived.Test.YtfclamndjnoopaaRfE
import Derived.Deep.RegionHeld3
import Derived.Deep.DeepCutAuto
namespace Go.Proofs.Ytfclamndjnoopaa
section
open Go.RowKit Go.Lib
set_option maxRecDepth 100000

/-- Where all lies behind without. -/
def RHp.less (H : RHp) (i : Nat) (d : RDk) (keep : Bool) (wp : Option Addr) (wc : Nat) : RHp := { H with wp := wp, wc := wc, ws := restR i H.ws, ds := H.ds.set i { d with ss := if keep then overS i d.ss H.ws else d.ss } }
theorem RStp.trans {w1 w2 w3 : World} {φ φ1 φ2 : Nat → Rl} {H H1 H2 : RHp} (h : RStp w1 φ H H1 φ1 w2) (k : RStp w2 φ1 H1 H2 φ2 w3) : RStp w1 φ H H2 φ2 w3 :=
  ⟨k.r, k.b.trans h.b, fun i hi => (k.x i (Nat.lt_of_lt_of_le hi h.f.size)).trans (h.x i hi), h.f.trans k.f h.x⟩
theorem IsRf.stp0 {w : World} {φ : Nat → Rl} {H : RHp} (h : IsRf w φ H) : RStp w φ H H φ w := ⟨h, rfl, fun _ _ => rfl, FrR.refl _ _⟩
set_option maxHeartbeats 1600000 in
theorem refFlush_any (φ : Nat → Rl) (H : RHp) (i : Nat) (d : RDk) (w : World) (h : IsRf w φ H) (hi : H.ds[i]? = some d) :
    Calls Try.prog 37 #[.pointer (some ⟨H.rb, 0, none⟩), .int .i64 (i : Int)] w fun e w' => e = .returned (.int .i64 (downR H d)) ∧ ∃ H' φ', ((downR H d ≠ 0 ∧ H' = H) ∨ (downR H d = 0 ∧ H' = H.less i d true H'.wp H'.wc)) ∧ RStp w φ H H' φ' w' := by
  have HDW := hid (refDown_any φ H i d w h hi)
  have HWO := hid (refWithout_any φ H i d true w h hi)
  have HH := hid h
  obtain ⟨E, hE⟩ : ∃ E, downR H d = E := ⟨_, rfl⟩
  rw [hE] at HDW ⊢
  obtain ⟨PO, hPO⟩ : ∃ PO : Ending → World → Prop, (fun e w' => e = .returned (.int .i64 E) ∧ ∃ H' φ', ((E ≠ 0 ∧ H' = H) ∨ (E = 0 ∧ H' = H.less i d true H'.wp H'.wc)) ∧ RStp w φ H H' φ' w') = PO := ⟨_, rfl⟩
  rw [hPO]
  have HPO := hid hPO
  clear h hi hE hPO
  by_cases h0 : E = 0
  · subst h0
    go_enter Try.func37, Try.ntmps37
    go_wp2_with fail
    refine HDW.out.mono ?_
    rintro e w1 ⟨rfl, rfl⟩
    go_wp2_with fail
    refine HWO.out.mono ?_
    rintro e w2 ⟨rfl, H', φ', he, hr⟩
    have HE := hid he
    have HR := hid hr
    clear he hr HDW HWO
    go_wp2_with fail
    rw [← HPO.out]
    exact ⟨rfl, H', φ', Or.inr ⟨trivial, HE.out⟩, HR.out⟩
  · have hb : (E == 0) = false := by simpa using h0
    have H0 := hid h0
    clear h0
    go_enter Try.func37, Try.ntmps37
    go_wp2_with fail
    refine HDW.out.mono ?_
    rintro e w1 ⟨rfl, rfl⟩
    go_wp2_with fail
    rw [← HPO.out]
    exact ⟨rfl, H, φ, Or.inl ⟨H0.out, rfl⟩, HH.out.stp0⟩
set_option maxHeartbeats 1600000 in
theorem refFail_any (φ : Nat → Rl) (H : RHp) (i : Nat) (d : RDk) (w : World) (h : IsRf w φ H) (hi : H.ds[i]? = some d) :
    Calls Try.prog 38 #[.pointer (some ⟨H.rb, 0, none⟩), .int .i64 (i : Int)] w fun e w' => e = .returned (.tuple #[]) ∧ ∃ H' φ', H' = { H.less i d false H'.wp H'.wc with ds := H.ds.set i { d with failed := true } } ∧ RStp w φ H H' φ' w' := by
  have HWO := hid (refWithout_any φ H i d false w h hi)
  have HI := hid hi
  obtain ⟨PO, hPO⟩ : ∃ PO : Ending → World → Prop, (fun e w' => e = .returned (.tuple #[]) ∧ ∃ H' φ', H' = { H.less i d false H'.wp H'.wc with ds := H.ds.set i { d with failed := true } } ∧ RStp w φ H H' φ' w') = PO := ⟨_, rfl⟩
  rw [hPO]
  have HPO := hid hPO
  have hdl := h.dl
  have hil : (i : Int) < (H.ds.length : Int) := by have := (List.getElem?_eq_some_iff.1 hi).1; omega
  clear h hi hPO
  go_enter Try.func38, Try.ntmps38
  go_wp2_with fail
  refine HWO.out.mono ?_
  rintro e w2 ⟨rfl, H', φ', he, hr⟩
  have hds : H'.ds = H.ds := by rw [he]; exact set_self_r HI.out
  have hi' : H'.ds[i]? = some d := by rw [hds]; exact HI.out
  obtain ⟨c0, _, _, _, _⟩ := hr.r.cells
  obtain ⟨gd, hgd, d0, d1, d2⟩ := hr.r.at hi'
  have zf : w2.frozen? ⟨d.db, 1, none⟩ = false := frozen_of_row _ _ 1 _ _ (hr.r.dr i d hi').1
  have hb : H'.rb = H.rb := hr.b
  rw [hb, hgd, hds] at c0
  have HE := hid he
  have HR := hid hr
  have HI' := hid hi'
  have HDS := hid hds
  clear he hr hi' hds hgd hb HWO d1
  go_wp2_with fail
  go_returns
  rw [← HPO.out]
  obtain ⟨r1, r2, r3⟩ := HR.out.r.setFailed HI'.out true
  refine ⟨rfl, _, φ', ?_, HR.out.trans ⟨r1, rfl, fun _ _ => rfl, FrR.of r2 (fun k hk _ => by simp at hk; subst hk; rw [r3]; trivial)⟩⟩
  rw [HE.out]
  simp [RHp.less]
end
section
open Go.RowKit Go.Lib
set_option maxRecDepth 100000

/-- A new block is a sector's. -/
def secφ (φ : Nat → Rl) (n g : Nat) : Nat → Rl := fun k => if k = g then .sec else cutφ φ n k
theorem secφ_old {φ : Nat → Rl} {n g k : Nat} (hg : n ≤ g) (hk : k < n) : secφ φ n g k = φ k := by unfold secφ; rw [if_neg (by omega), cutφ_old hk]
theorem IsRf.newSec {w w' : World} {φ : Nat → Rl} {H : RHp} (h : IsRf w φ H) (hf : Frm [] w w') {g c : Nat} {bs : List Int} (hr : Rd w' (some ⟨g, 0, none⟩) bs) (hl : bs.length = 128) (hc : 128 ≤ c) (hb : ∀ z ∈ bs, 0 ≤ z ∧ z < 256) (hn : w.heap.size ≤ g) (hlt : g < w'.heap.size) :
    IsRf w' (secφ φ w.heap.size g) H ∧ SecOk w' (secφ φ w.heap.size g) ⟨g, c, bs⟩ :=
  ⟨h.kept hf.size (fun k hk _ => hf.block k hk (by simp)) (fun k hk => secφ_old hn hk), ⟨hr, hl, hc, hb, by unfold secφ; rw [if_pos rfl], hlt⟩⟩
set_option maxHeartbeats 800000 in
theorem refNoughts_any (w : World) :
    Calls Try.prog 46 #[] w fun e w' => e = .returned (.slice (some ⟨w.heap.size, 0, none⟩) 128 128) ∧ w' = w.alloc (.cells (bv (List.replicate 128 0)).toArray 5) := by
  have hmk := make_bytes 128 (by omega)
  simp only [Int.cast_ofNat_Int] at hmk
  obtain ⟨Z, hZ⟩ : ∃ Z, (bv (List.replicate 128 0)).toArray = Z := ⟨_, rfl⟩
  rw [hZ] at hmk ⊢
  clear hZ
  go_enter Try.func46, Try.ntmps46
  go_wp2_with fail
  go_returns
  exact ⟨rfl, rfl⟩
/-- Where Replace stands behind j sectors. -/
structure InN (w : World) (φ : Nat → Rl) (H : RHp) (i : Nat) (d : RDk) (j : Nat) (w' : World) : Prop where
  ex : ∃ (H' : RHp) (φ' : Nat → Rl) (ns : List SecR), ns.length = j ∧ (∀ s ∈ ns, s.bs = List.replicate 128 0) ∧ H' = { H with ds := H.ds.set i { d with failed := false, ss := ns ++ d.ss.drop j } } ∧ RStp w φ H H' φ' w'
set_option maxHeartbeats 6400000 in
theorem refReplace_any (φ : Nat → Rl) (H : RHp) (i : Nat) (d : RDk) (w : World) (h : IsRf w φ H) (hi : H.ds[i]? = some d) :
    Calls Try.prog 39 #[.pointer (some ⟨H.rb, 0, none⟩), .int .i64 (i : Int)] w fun e w' => e = .returned (.tuple #[]) ∧ ∃ H' φ' ns, ns.length = d.ss.length ∧ (∀ s ∈ ns, s.bs = List.replicate 128 0) ∧ H' = { H.less i d false H'.wp H'.wc with ds := H.ds.set i { d with failed := false, ss := ns } } ∧ RStp w φ H H' φ' w' := by
  have HWO := hid (refWithout_any φ H i d false w h hi)
  have HI := hid hi
  obtain ⟨PO, hPO⟩ : ∃ PO : Ending → World → Prop, (fun e w' => e = .returned (.tuple #[]) ∧ ∃ H' φ' ns, ns.length = d.ss.length ∧ (∀ s ∈ ns, s.bs = List.replicate 128 0) ∧ H' = { H.less i d false H'.wp H'.wc with ds := H.ds.set i { d with failed := false, ss := ns } } ∧ RStp w φ H H' φ' w') = PO := ⟨_, rfl⟩
  rw [hPO]
  have HPO := hid hPO
  have hdl := h.dl
  have hnb := h.nb i d hi
  have hil : (i : Int) < (H.ds.length : Int) := by have := (List.getElem?_eq_some_iff.1 hi).1; omega
  clear h hi hPO
  go_enter Try.func39, Try.ntmps39
  go_wp2_with fail
  refine HWO.out.mono ?_
  rintro e w2 ⟨rfl, H1, φ1, he, hr⟩
  have hds : H1.ds = H.ds := by rw [he]; exact set_self_r HI.out
  have hi' : H1.ds[i]? = some d := by rw [hds]; exact HI.out
  obtain ⟨c0, _, _, _, _⟩ := hr.r.cells
  obtain ⟨gd, hgd, d0, d1, d2⟩ := hr.r.at hi'
  have zf : w2.frozen? ⟨d.db, 1, none⟩ = false := frozen_of_row _ _ 1 _ _ (hr.r.dr i d hi').1
  have hb : H1.rb = H.rb := hr.b
  rw [hb, hgd, hds] at c0
  have HE := hid he
  have HB := hid hb
  have HDS := hid hds
  have HGD := hid hgd
  have HR := hid hr
  obtain ⟨r1, r2, r3⟩ := hr.r.setFailed hi' false
  have HST : Hid (InN w2 φ1 H1 i d 0 (w2.setCell ⟨d.db, 1, none⟩ (.bool false))) := hid ⟨_, φ1, [], rfl, by simp, by simp, ⟨r1, rfl, fun _ _ => rfl, FrR.of r2 (fun k hk _ => by simp at hk; subst hk; rw [r3]; trivial)⟩⟩
  obtain ⟨L, hL⟩ : ∃ L, d.ss.length = L := ⟨_, rfl⟩
  rw [hL] at hnb
  have HLL := hid hL
  have HI1 := hid hi'
  clear he hr hi' hds hgd hb HWO d1 r1 r2 r3 hL
  go_wp2_with fail
  go_loopw [4] (fun t wr => ∃ j : Nat, j ≤ L ∧ t = .int .i64 (j : Int) ∧ Hid (InN w2 φ1 H1 i d j wr)) (fun t _ => L - (intOf t).toNat)
  case atStart => exact ⟨0, by omega, rfl, HST⟩
  case round =>
    clear HST c0 d0 d2 zf
    obtain ⟨j, hj, rfl, hin⟩ := hrel
    obtain ⟨H2, φ2, ns, hnl, hnz, he2, hr2⟩ := hin.out.ex
    have hlt0 : i < H1.ds.length := (List.getElem?_eq_some_iff.1 HI1.out).1
    have hgi : H2.ds[i]? = some { d with failed := false, ss := ns ++ d.ss.drop j } := by rw [he2]; show (H1.ds.set i _)[i]? = _; rw [List.getElem?_set, if_pos rfl, if_pos hlt0]
    have hln : (ns ++ d.ss.drop j).length = L := by rw [List.length_append, List.length_drop, hnl, HLL.out]; omega
    obtain ⟨c0, _, _, _, _⟩ := hr2.r.cells
    obtain ⟨gd2, hgd2, d0, d1, _⟩ := hr2.r.at hgi
    have hdp : H2.dp = H1.dp := by rw [he2]
    have hdc : H2.dc = H1.dc := by rw [he2]
    have hdn : H2.ds.length = H.ds.length := by rw [he2]; show (H1.ds.set i _).length = _; rw [List.length_set, HDS.out]
    rw [hdp, HGD.out] at hgd2
    simp only [Option.some.injEq, Addr.mk.injEq, and_true] at hgd2
    subst hgd2
    rw [hr2.b, HB.out, hdp, HGD.out, hdc, hdn] at c0
    have hdc1 : H1.dc = H.dc := by rw [HE.out]
    rw [hdc1] at c0
    simp only [hln] at d1
    by_cases hlt : j < L
    · have t1 : (j : Int) < (L : Int) := by omega
      obtain ⟨so, hso⟩ : ∃ so, (ns ++ d.ss.drop j)[j]? = some so := ⟨_, List.getElem?_eq_getElem (by rw [hln]; exact hlt)⟩
      obtain ⟨gp, hgp, p0, pz⟩ := hr2.r.sec hgi hso
      have hgp' : d.pp = some ⟨gp, 0, none⟩ := hgp
      rw [hgp'] at d1
      have HGP := hid hgp
      have HGI := hid hgi
      have HR2 := hid hr2
      have HE2 := hid he2
      have HNS : Hid (ns.length = j ∧ (∀ s ∈ ns, s.bs = List.replicate 128 0)) := hid ⟨hnl, hnz⟩
      have hnd : d.db ≠ gp ∧ gd ≠ gp ∧ H.rb ≠ gp := by
        have e1 := (hr2.r.rI i _ hgi).1
        have e2 := (hr2.r.rI i _ hgi).2 gp (by rw [hgp]; simp [blk])
        have e3 := hr2.r.rD gd (by rw [hdp, HGD.out]; simp [blk])
        have e4 := hr2.r.rP
        rw [hr2.b, HB.out] at e4
        refine ⟨fun e => ?_, fun e => ?_, fun e => ?_⟩
        · have e1' : φ2 d.db = .disk i := e1
          rw [e, e2] at e1'; cases e1'
        · rw [e, e2] at e3; cases e3
        · rw [e, e2] at e4; cases e4
      have HND := hid hnd
      have HNO := hid (by
        have h := refNoughts_any wr.drew
        exact h)
      have hfa : Frm [] wr.drew (wr.drew.alloc (.cells (bv (List.replicate 128 0)).toArray 5)) := (Frm.refl _ _).alloc _
      obtain ⟨ZZ, hZZ⟩ : ∃ Z, (Obj.cells (bv (List.replicate 128 0)).toArray 5 (0, 0)) = Z := ⟨_, rfl⟩
      rw [hZZ] at hfa HNO
      have HZZ := hid hZZ
      have HNC : Hid (Calls Try.prog 46 #[] wr.drew fun e w' => e = .returned (.slice (some ⟨wr.heap.size, 0, none⟩) 128 128) ∧ Hid (w' = wr.drew.alloc ZZ) ∧ w'.cell? ⟨gp, j, none⟩ = some so.v ∧ w'.frozen? ⟨gp, j, none⟩ = false ∧ w'.cell? ⟨H.rb, 0, none⟩ = some (.slice (some ⟨gd, 0, none⟩) H.ds.length H.dc) ∧ w'.cell? ⟨gd, i, none⟩ = some (.pointer (some ⟨d.db, 0, none⟩)) ∧ w'.cell? ⟨d.db, 0, none⟩ = some (.slice (some ⟨gp, 0, none⟩) L d.pc)) := hid (HNO.out.mono (by
        rintro e w' ⟨rfl, rfl⟩
        exact ⟨rfl, hid rfl, (hfa.cell (p := ⟨gp, j, none⟩) (World.block_lt_of_cell? wr _ p0) (by simp)).trans p0, (hfa.frozen (p := ⟨gp, j, none⟩) (World.block_lt_of_cell? wr _ p0) (by simp)).trans pz, (hfa.cell (p := ⟨H.rb, 0, none⟩) (World.block_lt_of_cell? wr _ c0) (by simp)).trans c0, (hfa.cell (p := ⟨gd, i, none⟩) (World.block_lt_of_cell? wr _ d0) (by simp)).trans d0, (hfa.cell (p := ⟨d.db, 0, none⟩) (World.block_lt_of_cell? wr _ d1) (by simp)).trans d1⟩))
      have HS0 : Hid (wr.drew.cell? ⟨H.rb, 0, none⟩ = some (.slice (some ⟨gd, 0, none⟩) H.ds.length H.dc) ∧ wr.drew.cell? ⟨gd, i, none⟩ = some (.pointer (some ⟨d.db, 0, none⟩)) ∧ wr.drew.cell? ⟨d.db, 0, none⟩ = some (.slice (some ⟨gp, 0, none⟩) L d.pc)) := hid ⟨c0, d0, d1⟩
      have HKS : Hid (∀ (W : World) (v : Value), (W.cell? ⟨H.rb, 0, none⟩ = some (.slice (some ⟨gd, 0, none⟩) H.ds.length H.dc) ∧ W.cell? ⟨gd, i, none⟩ = some (.pointer (some ⟨d.db, 0, none⟩)) ∧ W.cell? ⟨d.db, 0, none⟩ = some (.slice (some ⟨gp, 0, none⟩) L d.pc)) → ((W.setCell ⟨gp, j, none⟩ v).cell? ⟨H.rb, 0, none⟩ = some (.slice (some ⟨gd, 0, none⟩) H.ds.length H.dc) ∧ (W.setCell ⟨gp, j, none⟩ v).cell? ⟨gd, i, none⟩ = some (.pointer (some ⟨d.db, 0, none⟩)) ∧ (W.setCell ⟨gp, j, none⟩ v).cell? ⟨d.db, 0, none⟩ = some (.slice (some ⟨gp, 0, none⟩) L d.pc))) := hid (fun W v h => by
        have hf : Frm [gp] W (W.setCell ⟨gp, j, none⟩ v) := (Frm.refl _ _).setCell _ _ (by simp)
        exact ⟨(hf.cell (p := ⟨H.rb, 0, none⟩) (World.block_lt_of_cell? W _ h.1) (by simp; exact HND.out.2.2)).trans h.1, (hf.cell (p := ⟨gd, i, none⟩) (World.block_lt_of_cell? W _ h.2.1) (by simp; exact HND.out.2.1)).trans h.2.1, (hf.cell (p := ⟨d.db, 0, none⟩) (World.block_lt_of_cell? W _ h.2.2) (by simp; exact HND.out.1)).trans h.2.2⟩)
      clear hgi hln hdp hdc hdn hso hgp hgp' hr2 he2 hnl hnz hlt0 hnd hdc1 hfa p0 pz hin hZZ HNO
      go_upto_region 5 with fail
      have HIN : Hid (InN w2 φ1 H1 i d (j + 1) ((wr.drew.alloc ZZ).setCell ⟨gp, j, none⟩ (.slice (some ⟨wr.heap.size, 0, none⟩) 128 128))) := hid (by
        have hr2 := HR2.out
        have hfb : Frm [] wr (wr.drew.alloc ZZ) := ((Frm.refl [] wr).drew).alloc _
        have hblk : (wr.drew.alloc ZZ).heap[wr.heap.size]? = some (.cells (bv (List.replicate 128 0)).toArray 5 (0, 0)) := by rw [HZZ.out]; exact heap_alloc_new wr.drew _
        obtain ⟨n1, n2⟩ := hr2.r.newSec hfb (c := 128) (rd_blockD hblk) (by simp) (by omega) (rep_bd 128) (Nat.le_refl _) (lt_of_heap hblk)
        obtain ⟨s1, s2, s3⟩ := n1.setSec (k := j) HGI.out HGP.out n2
        obtain ⟨hnl, hnz⟩ := HNS.out
        refine ⟨_, _, ns ++ [⟨wr.heap.size, 128, List.replicate 128 0⟩], by rw [List.length_append, hnl]; rfl, fun s hs => ?_, ?_, hr2.trans ⟨s1, rfl, fun k hk => secφ_old (Nat.le_refl _) hk, (FrR.of hfb (by simp)).trans (FrR.of s2 (fun k hk _ => by simp at hk; subst hk; rw [s3]; trivial)) (fun k hk => secφ_old (Nat.le_refl _) hk)⟩⟩
        · rcases List.mem_append.1 hs with h | h
          · exact hnz s h
          · obtain rfl := List.mem_singleton.1 h; rfl
        · have he2 := HE2.out
          rw [he2]
          simp only [List.set_set]
          congr 2
          have hd1 : d.ss.drop j = d.ss[j]'(by rw [HLL.out]; exact hlt) :: d.ss.drop (j + 1) := List.drop_eq_getElem_cons _
          have hset : (ns ++ d.ss.drop j).set j ⟨wr.heap.size, 128, List.replicate 128 0⟩ = ns ++ [⟨wr.heap.size, 128, List.replicate 128 0⟩] ++ d.ss.drop (j + 1) := by
            rw [hd1, List.set_append_right _ _ (by omega), hnl, Nat.sub_self, List.set_cons_zero]
            simp
          rw [hset])
      go_region_held3 (fun W => W.cell? ⟨H.rb, 0, none⟩ = some (.slice (some ⟨gd, 0, none⟩) H.ds.length H.dc) ∧ W.cell? ⟨gd, i, none⟩ = some (.pointer (some ⟨d.db, 0, none⟩)) ∧ W.cell? ⟨d.db, 0, none⟩ = some (.slice (some ⟨gp, 0, none⟩) L d.pc)) (first | (with_reducible exact HS0.out) | (exact ⟨k0, k1, k2⟩) | (exact HKS.out _ _ ⟨k0, k1, k2⟩)) (((with_reducible refine HNC.out.mono ?_); rintro e w7 ⟨rfl, hw7, q0, qz, k0, k1, k2⟩))
      all_goals (
        rw [← hw7.out] at HIN
        go_wp2_with fail
        go_roundw
        case rel => exact ⟨j + 1, by omega, by go_num, HIN⟩
        case measure => first | (simp [intOf]; done) | (simp [intOf]; omega))
    · obtain rfl : j = L := by omega
      have HFIN : Hid (∃ (H' : RHp) (φ' : Nat → Rl) (ns : List SecR), ns.length = d.ss.length ∧ (∀ s ∈ ns, s.bs = List.replicate 128 0) ∧ H' = { H.less i d false H'.wp H'.wc with ds := H.ds.set i { d with failed := false, ss := ns } } ∧ RStp w φ H H' φ' wr) := hid ⟨H2, φ2, ns, by rw [hnl, HLL.out], hnz, by
        rw [he2, HE.out, List.drop_eq_nil_of_le (by rw [HLL.out]; omega), List.append_nil]
        simp [RHp.less], HR.out.trans hr2⟩
      clear hgi hln hdp hdc hdn hr2 he2 hnl hnz hlt0 hdc1 hin
      go_wp2_with fail
      go_returns
      rw [← HPO.out]
      exact ⟨rfl, HFIN.out⟩
end
end Go.Proofs.Ytfclamndjnoopaa
