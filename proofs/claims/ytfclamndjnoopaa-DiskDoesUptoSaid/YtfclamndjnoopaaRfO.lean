/- The document's disks: Corrupt, walked. -/
import Derived.Test.YtfclamndjnoopaaRfM
import Derived.Test.YtfclamndjnoopaaHeldT
namespace Go.Proofs.Ytfclamndjnoopaa
open Go.RowKit Go.Lib
set_option maxRecDepth 100000

set_option maxHeartbeats 6400000 in
theorem refCorrupt_any (φ : Nat → Rl) (H : RHp) (i a : Nat) (d : RDk) (s : SecR) (p : Option Addr) (cm : Nat) (ms : List Int) (w : World) (h : IsRf w φ H) (hi : H.ds[i]? = some d) (hfl : d.failed = false) (hs : d.ss[a]? = some s) (hm : ms.length ≤ 128) (hrd : Rd w p ms) (hbz : ∀ z ∈ ms, 0 ≤ z ∧ z < 256) (hap : ms ≠ [] → ∀ k ∈ blk p, ∃ n, φ k = .oth n) :
    Calls Try.prog 41 #[.pointer (some ⟨H.rb, 0, none⟩), .int .i64 (i : Int), .int .i64 (a : Int), .slice p ms.length cm] w fun e w' => e = .returned (.int .i64 0) ∧ ∃ (H' : RHp) (φ' : Nat → Rl) (ws : List RWt) (sn : SecR), ws.map RWt.pure = H.ws.map (turnR i a ms) ∧ sn.bs = xr s.bs ms ∧ H' = { H with ds := H.ds.set i { d with ss := d.ss.set a sn }, ws := ws } ∧ RStp w φ H H' φ' w' := by
  have HH := hid h
  have HI := hid hi
  have HMS := hid hm
  have HRD := hid hrd
  have HBZ := hid hbz
  have HAP := hid hap
  obtain ⟨c0, _, _, _, _⟩ := h.cells
  obtain ⟨gd, hgd, d0, d1, d2⟩ := h.at hi
  obtain ⟨gp, hgp, p0, pz⟩ := h.sec hi hs
  have HSO := hid (h.secD i d hi s (List.mem_of_getElem? hs))
  have HGP := hid hgp
  have HGD := hid hgd
  have hil : (i : Int) < (H.ds.length : Int) := by have := (List.getElem?_eq_some_iff.1 hi).1; omega
  have hal : (a : Int) < (d.ss.length : Int) := by have := (List.getElem?_eq_some_iff.1 hs).1; omega
  have hdl := h.dl
  have hnb := h.nb i d hi
  have hwb := h.wb
  have hnd : d.db ≠ gp ∧ gd ≠ gp ∧ H.rb ≠ gp := by
    have e1 := (h.rI i _ hi).1
    have e2 := (h.rI i _ hi).2 gp (by rw [hgp]; simp [blk])
    have e3 := h.rD gd (by rw [hgd]; simp [blk])
    have e4 := h.rP
    refine ⟨fun e => ?_, fun e => ?_, fun e => ?_⟩
    · rw [e, e2] at e1; cases e1
    · rw [e, e2] at e3; cases e3
    · rw [e, e2] at e4; cases e4
  have HND := hid hnd
  obtain ⟨n, hn⟩ : ∃ n, H.ds.length = n := ⟨_, rfl⟩
  obtain ⟨M, hM⟩ : ∃ m, H.ws.length = m := ⟨_, rfl⟩
  obtain ⟨l, hll⟩ : ∃ l, d.ss.length = l := ⟨_, rfl⟩
  obtain ⟨m, hmm⟩ : ∃ m, ms.length = m := ⟨_, rfl⟩
  have hM2 : M ≤ 500000000000 := by omega
  rw [hgd, hn] at c0
  rw [hgp, hll] at d1
  rw [hn] at hil hdl
  rw [hll] at hal hnb
  rw [hfl] at d2
  have HM := hid hM
  have HMM := hid hmm
  have HN := hid hn
  have hT := refTurned_any s.g s.c s.bs p cm ms w.drew HSO.out.rd.drew HSO.out.len hm hrd.drew
  rw [hmm] at hT hm ⊢
  have hm3 : (m : Int) ≤ 128 := by omega
  have HT : Hid (Calls Try.prog 51 #[s.v, .slice p m cm] w.drew fun e w' => ∃ g' c', e = .returned (.slice (some ⟨g', 0, none⟩) 128 c') ∧ Hid (InC w φ H i a d s ms 0 (w'.setCell ⟨gp, a, none⟩ (.slice (some ⟨g', 0, none⟩) 128 c'))) ∧ w'.cell? ⟨gp, a, none⟩ = some s.v ∧ w'.frozen? ⟨gp, a, none⟩ = false ∧ w'.cell? ⟨H.rb, 0, none⟩ = some (.slice (some ⟨gd, 0, none⟩) n H.dc) ∧ w'.cell? ⟨gd, i, none⟩ = some (.pointer (some ⟨d.db, 0, none⟩)) ∧ w'.cell? ⟨d.db, 0, none⟩ = some (.slice (some ⟨gp, 0, none⟩) l d.pc)) := hid (hT.mono (by
    rintro e w' ⟨g', c', rfl, r1, r2, r3, r4, r5⟩
    have hf : Frm [] w w' := ((Frm.refl [] w).drew).trans r3 (by simp)
    exact ⟨g', c', rfl, hid (InC.start HH.out HI.out HSO.out HGP.out HMS.out HBZ.out hf r1 r2 r4 r5), (hf.cell (p := ⟨gp, a, none⟩) (World.block_lt_of_cell? w _ p0) (by simp)).trans p0, (hf.frozen (p := ⟨gp, a, none⟩) (World.block_lt_of_cell? w _ p0) (by simp)).trans pz, (hf.cell (p := ⟨H.rb, 0, none⟩) (World.block_lt_of_cell? w _ c0) (by simp)).trans c0, (hf.cell (p := ⟨gd, i, none⟩) (World.block_lt_of_cell? w _ d0) (by simp)).trans d0, (hf.cell (p := ⟨d.db, 0, none⟩) (World.block_lt_of_cell? w _ d1) (by simp)).trans d1⟩))
  have HS0 : Hid (w.drew.cell? ⟨gp, a, none⟩ = some s.v ∧ w.drew.cell? ⟨H.rb, 0, none⟩ = some (.slice (some ⟨gd, 0, none⟩) n H.dc) ∧ w.drew.cell? ⟨gd, i, none⟩ = some (.pointer (some ⟨d.db, 0, none⟩)) ∧ w.drew.cell? ⟨d.db, 0, none⟩ = some (.slice (some ⟨gp, 0, none⟩) l d.pc)) := hid ⟨p0, c0, d0, d1⟩
  clear h hi hs hn hM hll hgd hgp hwb hmm hfl hnd hrd hbz hap hT
  go_enter Try.func41, Try.ntmps41
  go_upto_region 3 with fail
  go_cut [41] from 20 to 41 (fun s wx => s = .bool false ∧ wx = w)
  case first =>
    have b1 : decide ((a : Int) < 0) = false := decide_eq_false (by omega)
    have b2 : decide ((l : Int) ≤ (a : Int)) = false := decide_eq_false (by omega)
    have b3 : decide ((128 : Int) < (m : Int)) = false := decide_eq_false (by omega)
    go_wp2_with fail
    go_meet
    case rel => exact ⟨by first | rfl | (simp; omega), rfl⟩
  obtain ⟨rfl, hwc⟩ := hcut
  have hw6 := hwc.symm
  clear hwc
  subst hw6
  go_upto_region 5 with fail
  go_cut [] from 42 to 68 (fun wx => Hid (InC w φ H i a d s ms 0 wx))
  case first =>
    refine wp_region_tail (S := fun W => (W.cell? ⟨gp, a, none⟩ = some s.v ∧ W.cell? ⟨H.rb, 0, none⟩ = some (.slice (some ⟨gd, 0, none⟩) n H.dc) ∧ W.cell? ⟨gd, i, none⟩ = some (.pointer (some ⟨d.db, 0, none⟩)) ∧ W.cell? ⟨d.db, 0, none⟩ = some (.slice (some ⟨gp, 0, none⟩) l d.pc))) 26 28 rfl (by kernel_rfl) (by kernel_rfl) ?_
    refine wpAnyHT_take (i := 0) (oi := _) (v := ?_) (by kernel_rfl) rfl (by kernel_rfl) (by kernel_rfl) (by kernel_rfl) (by kernel_rfl) (fun _ _ _ h => h) (Or.inl ⟨by rfl, ?_⟩) HS0.out ?_
    rotate_left 1
    · (intro W hSw; obtain ⟨s3, s0, s1, s2⟩ := hSw; (try simp only [List.getElem_toArray, List.getElem_cons_zero]); go_simp; try with_reducible rfl)
    try simp only [List.getElem_toArray, List.getElem_cons_zero, Act.put, List.setIfInBounds_toArray, List.set_cons_zero, List.set_cons_succ]
    refine wpAnyHT_take (i := 1) (oi := _) (v := ?_) (by kernel_rfl) rfl (by kernel_rfl) (by kernel_rfl) (by kernel_rfl) (by kernel_rfl) (fun _ _ _ h => h) (Or.inl ⟨by rfl, ?_⟩) HS0.out ?_
    rotate_left 1
    · (intro W hSw; obtain ⟨s3, s0, s1, s2⟩ := hSw; (try simp only [List.getElem_toArray, List.getElem_cons_succ, List.getElem_cons_zero]); go_simp; try with_reducible rfl)
    try simp only [List.getElem_toArray, List.getElem_cons_succ, List.getElem_cons_zero, Act.put, List.setIfInBounds_toArray, List.set_cons_zero, List.set_cons_succ]
    refine wpAnyHT_take (i := 2) (oi := _) (v := ?_) (by kernel_rfl) rfl (by kernel_rfl) (by kernel_rfl) (by kernel_rfl) (by kernel_rfl) (fun _ _ _ h => h) (Or.inl ⟨by rfl, ?_⟩) HS0.out ?_
    rotate_left 1
    · (intro W hSw; obtain ⟨s3, s0, s1, s2⟩ := hSw; (try simp only [List.getElem_toArray, List.getElem_cons_succ, List.getElem_cons_zero]); go_simp; try with_reducible rfl)
    try simp only [List.getElem_toArray, List.getElem_cons_succ, List.getElem_cons_zero, Act.put, List.setIfInBounds_toArray, List.set_cons_zero, List.set_cons_succ]
    refine wpAnyHT_take (i := 3) (oi := _) (v := ?_) (by kernel_rfl) rfl (by kernel_rfl) (by kernel_rfl) (by kernel_rfl) (by kernel_rfl) (fun _ _ _ h => h) (Or.inl ⟨by rfl, ?_⟩) HS0.out ?_
    rotate_left 1
    · (intro W hSw; obtain ⟨s3, s0, s1, s2⟩ := hSw; (try simp only [List.getElem_toArray, List.getElem_cons_succ, List.getElem_cons_zero]); go_simp; try with_reducible rfl)
    try simp only [List.getElem_toArray, List.getElem_cons_succ, List.getElem_cons_zero, Act.put, List.setIfInBounds_toArray, List.set_cons_zero, List.set_cons_succ]
    refine wpAnyHT_take (i := 4) (oi := _) (v := ?_) (by kernel_rfl) rfl (by kernel_rfl) (by kernel_rfl) (by kernel_rfl) (by kernel_rfl) (fun _ _ _ h => h) (Or.inl ⟨by rfl, ?_⟩) HS0.out ?_
    rotate_left 1
    · (intro W hSw; obtain ⟨s3, s0, s1, s2⟩ := hSw; (try simp only [List.getElem_toArray, List.getElem_cons_succ, List.getElem_cons_zero]); go_simp; try with_reducible rfl)
    try simp only [List.getElem_toArray, List.getElem_cons_succ, List.getElem_cons_zero, Act.put, List.setIfInBounds_toArray, List.set_cons_zero, List.set_cons_succ]
    refine wpAnyHT_take (i := 5) (oi := _) (v := ?_) (by kernel_rfl) rfl (by kernel_rfl) (by kernel_rfl) (by kernel_rfl) (by kernel_rfl) (fun _ _ _ h => h) (Or.inl ⟨by rfl, ?_⟩) HS0.out ?_
    rotate_left 1
    · (intro W hSw; obtain ⟨s3, s0, s1, s2⟩ := hSw; (try simp only [List.getElem_toArray, List.getElem_cons_succ, List.getElem_cons_zero]); go_simp; try with_reducible rfl)
    try simp only [List.getElem_toArray, List.getElem_cons_succ, List.getElem_cons_zero, Act.put, List.setIfInBounds_toArray, List.set_cons_zero, List.set_cons_succ]
    refine wpAnyHT_take (i := 6) (oi := _) (v := ?_) (by kernel_rfl) rfl (by kernel_rfl) (by kernel_rfl) (by kernel_rfl) (by kernel_rfl) (fun _ _ _ h => h) (Or.inl ⟨by rfl, ?_⟩) HS0.out ?_
    rotate_left 1
    · (intro W hSw; obtain ⟨s3, s0, s1, s2⟩ := hSw; (try simp only [List.getElem_toArray, List.getElem_cons_succ, List.getElem_cons_zero]); go_simp; try with_reducible rfl)
    try simp only [List.getElem_toArray, List.getElem_cons_succ, List.getElem_cons_zero, Act.put, List.setIfInBounds_toArray, List.set_cons_zero, List.set_cons_succ]
    refine wpAnyHT_take (i := 7) (oi := _) (v := ?_) (by kernel_rfl) rfl (by kernel_rfl) (by kernel_rfl) (by kernel_rfl) (by kernel_rfl) (fun _ _ _ h => h) (Or.inl ⟨by rfl, ?_⟩) HS0.out ?_
    rotate_left 1
    · (intro W hSw; obtain ⟨s3, s0, s1, s2⟩ := hSw; (try simp only [List.getElem_toArray, List.getElem_cons_succ, List.getElem_cons_zero]); go_simp; try with_reducible rfl)
    try simp only [List.getElem_toArray, List.getElem_cons_succ, List.getElem_cons_zero, Act.put, List.setIfInBounds_toArray, List.set_cons_zero, List.set_cons_succ]
    refine wpAnyHT_take (i := 8) (oi := _) (v := ?_) (by kernel_rfl) rfl (by kernel_rfl) (by kernel_rfl) (by kernel_rfl) (by kernel_rfl) (fun _ _ _ h => h) (Or.inl ⟨by rfl, ?_⟩) HS0.out ?_
    rotate_left 1
    · (intro W hSw; obtain ⟨s3, s0, s1, s2⟩ := hSw; (try simp only [List.getElem_toArray, List.getElem_cons_succ, List.getElem_cons_zero]); go_simp; try with_reducible rfl)
    try simp only [List.getElem_toArray, List.getElem_cons_succ, List.getElem_cons_zero, Act.put, List.setIfInBounds_toArray, List.set_cons_zero, List.set_cons_succ]
    refine wpAnyHT_take (i := 9) (oi := _) (v := ?_) (by kernel_rfl) rfl (by kernel_rfl) (by kernel_rfl) (by kernel_rfl) (by kernel_rfl) (fun _ _ _ h => h) (Or.inl ⟨by rfl, ?_⟩) HS0.out ?_
    rotate_left 1
    · (intro W hSw; obtain ⟨s3, s0, s1, s2⟩ := hSw; (try simp only [List.getElem_toArray, List.getElem_cons_succ, List.getElem_cons_zero]); go_simp; try with_reducible rfl)
    try simp only [List.getElem_toArray, List.getElem_cons_succ, List.getElem_cons_zero, Act.put, List.setIfInBounds_toArray, List.set_cons_zero, List.set_cons_succ]
    refine wpAnyHT_take (i := 10) (oi := _) (v := ?_) (by kernel_rfl) rfl (by kernel_rfl) (by kernel_rfl) (by kernel_rfl) (by kernel_rfl) (fun _ _ _ h => h) (Or.inl ⟨by rfl, ?_⟩) HS0.out ?_
    rotate_left 1
    · (intro W hSw; obtain ⟨s3, s0, s1, s2⟩ := hSw; (try simp only [List.getElem_toArray, List.getElem_cons_succ, List.getElem_cons_zero]); go_simp; try with_reducible rfl)
    try simp only [List.getElem_toArray, List.getElem_cons_succ, List.getElem_cons_zero, Act.put, List.setIfInBounds_toArray, List.set_cons_zero, List.set_cons_succ]
    refine wpAnyHT_take (i := 11) (oi := _) (v := ?_) (by kernel_rfl) rfl (by kernel_rfl) (by kernel_rfl) (by kernel_rfl) (by kernel_rfl) (fun _ _ _ h => h) (Or.inl ⟨by rfl, ?_⟩) HS0.out ?_
    rotate_left 1
    · (intro W hSw; obtain ⟨s3, s0, s1, s2⟩ := hSw; (try simp only [List.getElem_toArray, List.getElem_cons_succ, List.getElem_cons_zero]); go_simp; try with_reducible rfl)
    try simp only [List.getElem_toArray, List.getElem_cons_succ, List.getElem_cons_zero, Act.put, List.setIfInBounds_toArray, List.set_cons_zero, List.set_cons_succ]
    refine wpAnyHT_take (i := 12) (oi := _) (v := ?_) (by kernel_rfl) rfl (by kernel_rfl) (by kernel_rfl) (by kernel_rfl) (by kernel_rfl) (fun _ _ _ h => h) (Or.inl ⟨by rfl, ?_⟩) HS0.out ?_
    rotate_left 1
    · (intro W hSw; obtain ⟨s3, s0, s1, s2⟩ := hSw; (try simp only [List.getElem_toArray, List.getElem_cons_succ, List.getElem_cons_zero]); go_simp; try with_reducible rfl)
    try simp only [List.getElem_toArray, List.getElem_cons_succ, List.getElem_cons_zero, Act.put, List.setIfInBounds_toArray, List.set_cons_zero, List.set_cons_succ]
    refine wpAnyHT_take (i := 13) (oi := _) (v := ?_) (by kernel_rfl) rfl (by kernel_rfl) (by kernel_rfl) (by kernel_rfl) (by kernel_rfl) (fun _ _ _ h => h) (Or.inl ⟨by rfl, ?_⟩) HS0.out ?_
    rotate_left 1
    · (intro W hSw; obtain ⟨s3, s0, s1, s2⟩ := hSw; (try simp only [List.getElem_toArray, List.getElem_cons_succ, List.getElem_cons_zero]); go_simp; try with_reducible rfl)
    try simp only [List.getElem_toArray, List.getElem_cons_succ, List.getElem_cons_zero, Act.put, List.setIfInBounds_toArray, List.set_cons_zero, List.set_cons_succ]
    refine wpAnyHT_take (i := 14) (oi := _) (v := ?_) (by kernel_rfl) rfl (by kernel_rfl) (by kernel_rfl) (by kernel_rfl) (by kernel_rfl) (fun _ _ _ h => h) (Or.inl ⟨by rfl, ?_⟩) HS0.out ?_
    rotate_left 1
    · (intro W hSw; obtain ⟨s3, s0, s1, s2⟩ := hSw; (try simp only [List.getElem_toArray, List.getElem_cons_succ, List.getElem_cons_zero]); go_simp; try with_reducible rfl)
    try simp only [List.getElem_toArray, List.getElem_cons_succ, List.getElem_cons_zero, Act.put, List.setIfInBounds_toArray, List.set_cons_zero, List.set_cons_succ]
    refine wpAnyHT_take (i := 15) (oi := _) (v := ?_) (by kernel_rfl) rfl (by kernel_rfl) (by kernel_rfl) (by kernel_rfl) (by kernel_rfl) (fun _ _ _ h => h) (Or.inl ⟨by rfl, ?_⟩) HS0.out ?_
    rotate_left 1
    · (intro W hSw; obtain ⟨s3, s0, s1, s2⟩ := hSw; (try simp only [List.getElem_toArray, List.getElem_cons_succ, List.getElem_cons_zero]); go_simp; try with_reducible rfl)
    try simp only [List.getElem_toArray, List.getElem_cons_succ, List.getElem_cons_zero, Act.put, List.setIfInBounds_toArray, List.set_cons_zero, List.set_cons_succ]
    refine wpAnyHT_take (i := 16) (oi := _) (v := ?_) (by kernel_rfl) rfl (by kernel_rfl) (by kernel_rfl) (by kernel_rfl) (by kernel_rfl) (fun _ _ _ h => h) (Or.inl ⟨by rfl, ?_⟩) HS0.out ?_
    rotate_left 1
    · (intro W hSw; obtain ⟨s3, s0, s1, s2⟩ := hSw; (try simp only [List.getElem_toArray, List.getElem_cons_succ, List.getElem_cons_zero]); go_simp; try with_reducible rfl)
    try simp only [List.getElem_toArray, List.getElem_cons_succ, List.getElem_cons_zero, Act.put, List.setIfInBounds_toArray, List.set_cons_zero, List.set_cons_succ]
    refine wpAnyHT_take (i := 17) (oi := _) (v := ?_) (by kernel_rfl) rfl (by kernel_rfl) (by kernel_rfl) (by kernel_rfl) (by kernel_rfl) (fun _ _ _ h => h) (Or.inl ⟨by rfl, ?_⟩) HS0.out ?_
    rotate_left 1
    · (intro W hSw; obtain ⟨s3, s0, s1, s2⟩ := hSw; (try simp only [List.getElem_toArray, List.getElem_cons_succ, List.getElem_cons_zero]); go_simp; try with_reducible rfl)
    try simp only [List.getElem_toArray, List.getElem_cons_succ, List.getElem_cons_zero, Act.put, List.setIfInBounds_toArray, List.set_cons_zero, List.set_cons_succ]
    refine wpAnyHT_take (i := 18) (oi := _) (v := ?_) (by kernel_rfl) rfl (by kernel_rfl) (by kernel_rfl) (by kernel_rfl) (by kernel_rfl) (fun _ _ _ h => h) (Or.inl ⟨by rfl, ?_⟩) HS0.out ?_
    rotate_left 1
    · (intro W hSw; obtain ⟨s3, s0, s1, s2⟩ := hSw; (try simp only [List.getElem_toArray, List.getElem_cons_succ, List.getElem_cons_zero]); go_simp; try with_reducible rfl)
    try simp only [List.getElem_toArray, List.getElem_cons_succ, List.getElem_cons_zero, Act.put, List.setIfInBounds_toArray, List.set_cons_zero, List.set_cons_succ]
    refine wpAnyHT_take (i := 19) (oi := _) (v := ?_) (by kernel_rfl) rfl (by kernel_rfl) (by kernel_rfl) (by kernel_rfl) (by kernel_rfl) (fun _ _ _ h => h) (Or.inl ⟨by rfl, ?_⟩) HS0.out ?_
    rotate_left 1
    · (intro W hSw; obtain ⟨s3, s0, s1, s2⟩ := hSw; (try simp only [List.getElem_toArray, List.getElem_cons_succ, List.getElem_cons_zero]); go_simp; try with_reducible rfl)
    try simp only [List.getElem_toArray, List.getElem_cons_succ, List.getElem_cons_zero, Act.put, List.setIfInBounds_toArray, List.set_cons_zero, List.set_cons_succ]
    refine wpAnyHT_take (i := 20) (oi := _) (v := ?_) (by kernel_rfl) rfl (by kernel_rfl) (by kernel_rfl) (by kernel_rfl) (by kernel_rfl) (fun _ _ _ h => h) (Or.inl ⟨by rfl, ?_⟩) HS0.out ?_
    rotate_left 1
    · (intro W hSw; obtain ⟨s3, s0, s1, s2⟩ := hSw; (try simp only [List.getElem_toArray, List.getElem_cons_succ, List.getElem_cons_zero]); go_simp; try with_reducible rfl)
    try simp only [List.getElem_toArray, List.getElem_cons_succ, List.getElem_cons_zero, Act.put, List.setIfInBounds_toArray, List.set_cons_zero, List.set_cons_succ]
    refine wpAnyHT_take (i := 21) (oi := _) (v := ?_) (by kernel_rfl) rfl (by kernel_rfl) (by kernel_rfl) (by kernel_rfl) (by kernel_rfl) (fun _ _ _ h => h) (Or.inl ⟨by rfl, ?_⟩) HS0.out ?_
    rotate_left 1
    · (intro W hSw; obtain ⟨s3, s0, s1, s2⟩ := hSw; (try simp only [List.getElem_toArray, List.getElem_cons_succ, List.getElem_cons_zero]); go_simp; try with_reducible rfl)
    try simp only [List.getElem_toArray, List.getElem_cons_succ, List.getElem_cons_zero, Act.put, List.setIfInBounds_toArray, List.set_cons_zero, List.set_cons_succ]
    refine wpAnyHT_take (i := 22) (oi := _) (v := ?_) (by kernel_rfl) rfl (by kernel_rfl) (by kernel_rfl) (by kernel_rfl) (by kernel_rfl) (fun _ _ _ h => h) (Or.inl ⟨by rfl, ?_⟩) HS0.out ?_
    rotate_left 1
    · (intro W hSw; obtain ⟨s3, s0, s1, s2⟩ := hSw; (try simp only [List.getElem_toArray, List.getElem_cons_succ, List.getElem_cons_zero]); go_simp; try with_reducible rfl)
    try simp only [List.getElem_toArray, List.getElem_cons_succ, List.getElem_cons_zero, Act.put, List.setIfInBounds_toArray, List.set_cons_zero, List.set_cons_succ]
    refine wpAnyHT_take (i := 23) (oi := _) (v := ?_) (by kernel_rfl) rfl (by kernel_rfl) (by kernel_rfl) (by kernel_rfl) (by kernel_rfl) (fun _ _ _ h => h) (Or.inl ⟨by rfl, ?_⟩) HS0.out ?_
    rotate_left 1
    · (intro W hSw; obtain ⟨s3, s0, s1, s2⟩ := hSw; (try simp only [List.getElem_toArray, List.getElem_cons_succ, List.getElem_cons_zero]); go_simp; try with_reducible rfl)
    try simp only [List.getElem_toArray, List.getElem_cons_succ, List.getElem_cons_zero, Act.put, List.setIfInBounds_toArray, List.set_cons_zero, List.set_cons_succ]
    refine wpAnyHT_take (i := 24) (oi := _) (v := ?_) (by kernel_rfl) rfl (by kernel_rfl) (by kernel_rfl) (by kernel_rfl) (by kernel_rfl) (fun _ _ _ h => h) (Or.inl ⟨by rfl, ?_⟩) HS0.out ?_
    rotate_left 1
    · (intro W hSw; obtain ⟨s3, s0, s1, s2⟩ := hSw; (try simp only [List.getElem_toArray, List.getElem_cons_succ, List.getElem_cons_zero]); go_simp; try with_reducible rfl)
    try simp only [List.getElem_toArray, List.getElem_cons_succ, List.getElem_cons_zero, Act.put, List.setIfInBounds_toArray, List.set_cons_zero, List.set_cons_succ]
    refine wpAnyHT_one (i := 25) rfl (by kernel_rfl) (by kernel_rfl) (fun K hK => ?_)
    try simp only [List.getElem_toArray, List.getElem_cons_succ, List.getElem_cons_zero]
    go_simp
    refine HT.out.mono ?_
    rintro e w7 ⟨g', c', rfl, hin, q0, qz, k0, k1, k2⟩
    refine hK _ _ ⟨q0, k0, k1, k2⟩ ?_
    clear hK K
    try simp only [List.getElem_toArray, List.getElem_cons_succ, List.getElem_cons_zero, Act.put, List.setIfInBounds_toArray, List.set_cons_zero, List.set_cons_succ]
    refine wpAnyHT_end (by kernel_rfl) ?_
    simp only [List.drop_succ_cons, List.drop_zero]
    go_wp2_with fail
    go_meet
    case rel => exact hin
  clear HT HS0 p0 pz d0 d1 d2 c0 hm3 hil hal hm
  go_wp2_with fail
  go_loopw [9] (fun t wr => ∃ j : Nat, j ≤ M ∧ t = .int .i64 (j : Int) ∧ Hid (InC w φ H i a d s ms j wr)) (fun t _ => M - (intOf t).toNat)
  case atStart => exact ⟨0, by omega, rfl, hcut⟩
  case round =>
    clear hcut
    obtain ⟨j, hj, rfl, hin⟩ := hrel
    obtain ⟨H2, φ2, ns, sn, hns, hsn, he2, hr2⟩ := hin.out.ex
    have hnl : ns.length = j := by have := congrArg List.length hns; simpa [HM.out, Nat.min_eq_left hj] using this
    have hwl : H2.ws.length = M := by rw [he2]; show (ns ++ H.ws.drop j).length = M; rw [List.length_append, List.length_drop, HM.out]; omega
    obtain ⟨_, c1, _, _, _⟩ := hr2.r.cells
    rw [hr2.b, hwl] at c1
    by_cases hlt : j < M
    · have t1 : (j : Int) < (M : Int) := by omega
      obtain ⟨x, hx⟩ : ∃ x, H.ws[j]? = some x := ⟨_, List.getElem?_eq_getElem (by rw [HM.out]; exact hlt)⟩
      have hx2 : H2.ws[j]? = some x := by
        obtain ⟨h1, h2⟩ := List.getElem?_eq_some_iff.1 hx
        rw [he2]
        show (ns ++ H.ws.drop j)[j]? = some x
        rw [List.getElem?_append_right (by omega), hnl, Nat.sub_self, List.getElem?_drop, Nat.add_zero]
        exact hx
      obtain ⟨gw, hgw, x0, x1, x2, xz⟩ := hr2.r.wait hx2
      rw [hgw] at c1
      by_cases hd : x.d = i
      · have b1 : ((x.d : Int) == (i : Int)) = true := by simp [hd]
        by_cases ha : x.at_ = a
        · have b2 : ((x.at_ : Int) == (a : Int)) = true := by simp [ha]
          have hsx := hr2.r.secW x (List.mem_of_getElem? hx2)
          have hne : H.rb ≠ gw := fun e => by
            have e1 := hr2.r.rP
            have e2 := hr2.r.rW gw (by rw [hgw]; simp [blk])
            rw [hr2.b, e, e2] at e1
            cases e1
          have HNE := hid hne
          have hrd := rd_oth HRD.out HAP.out hr2.f
          have hT := refTurned_any x.s.g x.s.c x.s.bs p cm ms wr.drew hsx.rd.drew hsx.len HMS.out hrd.drew
          rw [HMM.out] at hT
          have HNX : Hid (∀ w7 g' c', Frm [] wr w7 → Rd w7 (some ⟨g', 0, none⟩) (xr x.s.bs ms) → 128 ≤ c' → wr.heap.size ≤ g' → g' < w7.heap.size → InC w φ H i a d s ms (j + 1) (w7.setCell ⟨gw, j * 3 + 2, none⟩ (.slice (some ⟨g', 0, none⟩) 128 c'))) := hid (fun w7 g' c' hf r1 r2 r3 r4 => InC.hit hns hsn he2 hr2 hx ⟨hd, ha⟩ hgw hsx HMS.out HBZ.out hf r1 r2 r3 r4)
          obtain ⟨WC, hWC⟩ : ∃ c, H2.wc = c := ⟨_, rfl⟩
          rw [hWC] at c1
          have HT : Hid (Calls Try.prog 51 #[x.s.v, .slice p m cm] wr.drew fun e w' => ∃ g' c', e = .returned (.slice (some ⟨g', 0, none⟩) 128 c') ∧ Hid (InC w φ H i a d s ms (j + 1) (w'.setCell ⟨gw, j * 3 + 2, none⟩ (.slice (some ⟨g', 0, none⟩) 128 c'))) ∧ w'.cell? ⟨gw, j * 3 + 2, none⟩ = some x.s.v ∧ w'.frozen? ⟨gw, j * 3 + 2, none⟩ = false ∧ w'.cell? ⟨H.rb, 1, none⟩ = some (.slice (some ⟨gw, 0, none⟩) M WC)) := hid (by
            exact hT.mono (by
              rintro e w' ⟨g', c', rfl, r1, r2, r3, r4, r5⟩
              have hf : Frm [] wr w' := ((Frm.refl [] wr).drew).trans r3 (by simp)
              exact ⟨g', c', rfl, hid (HNX.out _ _ _ hf r1 r2 r4 r5), (hf.cell (p := ⟨gw, j * 3 + 2, none⟩) (World.block_lt_of_cell? wr _ x2) (by simp)).trans x2, (hf.frozen (p := ⟨gw, j * 3 + 2, none⟩) (World.block_lt_of_cell? wr _ x2) (by simp)).trans xz, (hf.cell (p := ⟨H.rb, 1, none⟩) (World.block_lt_of_cell? wr _ c1) (by simp)).trans c1⟩))
          have HS0 : Hid (wr.drew.cell? ⟨gw, j * 3 + 2, none⟩ = some x.s.v ∧ wr.drew.cell? ⟨H.rb, 1, none⟩ = some (.slice (some ⟨gw, 0, none⟩) M WC)) := hid ⟨x2, c1⟩
          clear hns hsn he2 hr2 hnl hwl hx hx2 hgw hd ha hsx hne hrd hT hWC hin HNX
          go_upto_region 10 with fail
          refine wp_region_tail (S := fun W => (W.cell? ⟨gw, j * 3 + 2, none⟩ = some x.s.v ∧ W.cell? ⟨H.rb, 1, none⟩ = some (.slice (some ⟨gw, 0, none⟩) M WC))) 15 18 rfl (by kernel_rfl) (by kernel_rfl) ?_
          refine wpAnyHT_take (i := 0) (oi := _) (v := ?_) (by kernel_rfl) rfl (by kernel_rfl) (by kernel_rfl) (by kernel_rfl) (by kernel_rfl) (fun _ _ _ h => h) (Or.inl ⟨by rfl, ?_⟩) HS0.out ?_
          rotate_left 1
          · (intro W hSw; obtain ⟨s1, s0⟩ := hSw; (try simp only [List.getElem_toArray, List.getElem_cons_zero]); go_simp; try with_reducible rfl)
          try simp only [List.getElem_toArray, List.getElem_cons_zero, Act.put, List.setIfInBounds_toArray, List.set_cons_zero, List.set_cons_succ]
          refine wpAnyHT_take (i := 1) (oi := _) (v := ?_) (by kernel_rfl) rfl (by kernel_rfl) (by kernel_rfl) (by kernel_rfl) (by kernel_rfl) (fun _ _ _ h => h) (Or.inl ⟨by rfl, ?_⟩) HS0.out ?_
          rotate_left 1
          · (intro W hSw; obtain ⟨s1, s0⟩ := hSw; (try simp only [List.getElem_toArray, List.getElem_cons_succ, List.getElem_cons_zero]); go_simp; try with_reducible rfl)
          try simp only [List.getElem_toArray, List.getElem_cons_succ, List.getElem_cons_zero, Act.put, List.setIfInBounds_toArray, List.set_cons_zero, List.set_cons_succ]
          refine wpAnyHT_take (i := 2) (oi := _) (v := ?_) (by kernel_rfl) rfl (by kernel_rfl) (by kernel_rfl) (by kernel_rfl) (by kernel_rfl) (fun _ _ _ h => h) (Or.inl ⟨by rfl, ?_⟩) HS0.out ?_
          rotate_left 1
          · (intro W hSw; obtain ⟨s1, s0⟩ := hSw; (try simp only [List.getElem_toArray, List.getElem_cons_succ, List.getElem_cons_zero]); go_simp; try with_reducible rfl)
          try simp only [List.getElem_toArray, List.getElem_cons_succ, List.getElem_cons_zero, Act.put, List.setIfInBounds_toArray, List.set_cons_zero, List.set_cons_succ]
          refine wpAnyHT_take (i := 3) (oi := _) (v := ?_) (by kernel_rfl) rfl (by kernel_rfl) (by kernel_rfl) (by kernel_rfl) (by kernel_rfl) (fun _ _ _ h => h) (Or.inl ⟨by rfl, ?_⟩) HS0.out ?_
          rotate_left 1
          · (intro W hSw; obtain ⟨s1, s0⟩ := hSw; (try simp only [List.getElem_toArray, List.getElem_cons_succ, List.getElem_cons_zero]); go_simp; try with_reducible rfl)
          try simp only [List.getElem_toArray, List.getElem_cons_succ, List.getElem_cons_zero, Act.put, List.setIfInBounds_toArray, List.set_cons_zero, List.set_cons_succ]
          refine wpAnyHT_take (i := 4) (oi := _) (v := ?_) (by kernel_rfl) rfl (by kernel_rfl) (by kernel_rfl) (by kernel_rfl) (by kernel_rfl) (fun _ _ _ h => h) (Or.inl ⟨by rfl, ?_⟩) HS0.out ?_
          rotate_left 1
          · (intro W hSw; obtain ⟨s1, s0⟩ := hSw; (try simp only [List.getElem_toArray, List.getElem_cons_succ, List.getElem_cons_zero]); go_simp; try with_reducible rfl)
          try simp only [List.getElem_toArray, List.getElem_cons_succ, List.getElem_cons_zero, Act.put, List.setIfInBounds_toArray, List.set_cons_zero, List.set_cons_succ]
          refine wpAnyHT_take (i := 5) (oi := _) (v := ?_) (by kernel_rfl) rfl (by kernel_rfl) (by kernel_rfl) (by kernel_rfl) (by kernel_rfl) (fun _ _ _ h => h) (Or.inl ⟨by rfl, ?_⟩) HS0.out ?_
          rotate_left 1
          · (intro W hSw; obtain ⟨s1, s0⟩ := hSw; (try simp only [List.getElem_toArray, List.getElem_cons_succ, List.getElem_cons_zero]); go_simp; try with_reducible rfl)
          try simp only [List.getElem_toArray, List.getElem_cons_succ, List.getElem_cons_zero, Act.put, List.setIfInBounds_toArray, List.set_cons_zero, List.set_cons_succ]
          refine wpAnyHT_take (i := 6) (oi := _) (v := ?_) (by kernel_rfl) rfl (by kernel_rfl) (by kernel_rfl) (by kernel_rfl) (by kernel_rfl) (fun _ _ _ h => h) (Or.inl ⟨by rfl, ?_⟩) HS0.out ?_
          rotate_left 1
          · (intro W hSw; obtain ⟨s1, s0⟩ := hSw; (try simp only [List.getElem_toArray, List.getElem_cons_succ, List.getElem_cons_zero]); go_simp; try with_reducible rfl)
          try simp only [List.getElem_toArray, List.getElem_cons_succ, List.getElem_cons_zero, Act.put, List.setIfInBounds_toArray, List.set_cons_zero, List.set_cons_succ]
          refine wpAnyHT_take (i := 7) (oi := _) (v := ?_) (by kernel_rfl) rfl (by kernel_rfl) (by kernel_rfl) (by kernel_rfl) (by kernel_rfl) (fun _ _ _ h => h) (Or.inl ⟨by rfl, ?_⟩) HS0.out ?_
          rotate_left 1
          · (intro W hSw; obtain ⟨s1, s0⟩ := hSw; (try simp only [List.getElem_toArray, List.getElem_cons_succ, List.getElem_cons_zero]); go_simp; try with_reducible rfl)
          try simp only [List.getElem_toArray, List.getElem_cons_succ, List.getElem_cons_zero, Act.put, List.setIfInBounds_toArray, List.set_cons_zero, List.set_cons_succ]
          refine wpAnyHT_take (i := 8) (oi := _) (v := ?_) (by kernel_rfl) rfl (by kernel_rfl) (by kernel_rfl) (by kernel_rfl) (by kernel_rfl) (fun _ _ _ h => h) (Or.inl ⟨by rfl, ?_⟩) HS0.out ?_
          rotate_left 1
          · (intro W hSw; obtain ⟨s1, s0⟩ := hSw; (try simp only [List.getElem_toArray, List.getElem_cons_succ, List.getElem_cons_zero]); go_simp; try with_reducible rfl)
          try simp only [List.getElem_toArray, List.getElem_cons_succ, List.getElem_cons_zero, Act.put, List.setIfInBounds_toArray, List.set_cons_zero, List.set_cons_succ]
          refine wpAnyHT_take (i := 9) (oi := _) (v := ?_) (by kernel_rfl) rfl (by kernel_rfl) (by kernel_rfl) (by kernel_rfl) (by kernel_rfl) (fun _ _ _ h => h) (Or.inl ⟨by rfl, ?_⟩) HS0.out ?_
          rotate_left 1
          · (intro W hSw; obtain ⟨s1, s0⟩ := hSw; (try simp only [List.getElem_toArray, List.getElem_cons_succ, List.getElem_cons_zero]); go_simp; try with_reducible rfl)
          try simp only [List.getElem_toArray, List.getElem_cons_succ, List.getElem_cons_zero, Act.put, List.setIfInBounds_toArray, List.set_cons_zero, List.set_cons_succ]
          refine wpAnyHT_take (i := 10) (oi := _) (v := ?_) (by kernel_rfl) rfl (by kernel_rfl) (by kernel_rfl) (by kernel_rfl) (by kernel_rfl) (fun _ _ _ h => h) (Or.inl ⟨by rfl, ?_⟩) HS0.out ?_
          rotate_left 1
          · (intro W hSw; obtain ⟨s1, s0⟩ := hSw; (try simp only [List.getElem_toArray, List.getElem_cons_succ, List.getElem_cons_zero]); go_simp; try with_reducible rfl)
          try simp only [List.getElem_toArray, List.getElem_cons_succ, List.getElem_cons_zero, Act.put, List.setIfInBounds_toArray, List.set_cons_zero, List.set_cons_succ]
          refine wpAnyHT_take (i := 11) (oi := _) (v := ?_) (by kernel_rfl) rfl (by kernel_rfl) (by kernel_rfl) (by kernel_rfl) (by kernel_rfl) (fun _ _ _ h => h) (Or.inl ⟨by rfl, ?_⟩) HS0.out ?_
          rotate_left 1
          · (intro W hSw; obtain ⟨s1, s0⟩ := hSw; (try simp only [List.getElem_toArray, List.getElem_cons_succ, List.getElem_cons_zero]); go_simp; try with_reducible rfl)
          try simp only [List.getElem_toArray, List.getElem_cons_succ, List.getElem_cons_zero, Act.put, List.setIfInBounds_toArray, List.set_cons_zero, List.set_cons_succ]
          refine wpAnyHT_take (i := 12) (oi := _) (v := ?_) (by kernel_rfl) rfl (by kernel_rfl) (by kernel_rfl) (by kernel_rfl) (by kernel_rfl) (fun _ _ _ h => h) (Or.inl ⟨by rfl, ?_⟩) HS0.out ?_
          rotate_left 1
          · (intro W hSw; obtain ⟨s1, s0⟩ := hSw; (try simp only [List.getElem_toArray, List.getElem_cons_succ, List.getElem_cons_zero]); go_simp; try with_reducible rfl)
          try simp only [List.getElem_toArray, List.getElem_cons_succ, List.getElem_cons_zero, Act.put, List.setIfInBounds_toArray, List.set_cons_zero, List.set_cons_succ]
          refine wpAnyHT_take (i := 13) (oi := _) (v := ?_) (by kernel_rfl) rfl (by kernel_rfl) (by kernel_rfl) (by kernel_rfl) (by kernel_rfl) (fun _ _ _ h => h) (Or.inl ⟨by rfl, ?_⟩) HS0.out ?_
          rotate_left 1
          · (intro W hSw; obtain ⟨s1, s0⟩ := hSw; (try simp only [List.getElem_toArray, List.getElem_cons_succ, List.getElem_cons_zero]); go_simp; try with_reducible rfl)
          try simp only [List.getElem_toArray, List.getElem_cons_succ, List.getElem_cons_zero, Act.put, List.setIfInBounds_toArray, List.set_cons_zero, List.set_cons_succ]
          refine wpAnyHT_one (i := 14) rfl (by kernel_rfl) (by kernel_rfl) (fun K hK => ?_)
          try simp only [List.getElem_toArray, List.getElem_cons_succ, List.getElem_cons_zero]
          go_simp
          refine HT.out.mono ?_
          rintro e w7 ⟨g', c', rfl, hin, q0, qz, k0⟩
          refine hK _ _ ⟨q0, k0⟩ ?_
          clear hK K
          try simp only [List.getElem_toArray, List.getElem_cons_succ, List.getElem_cons_zero, Act.put, List.setIfInBounds_toArray, List.set_cons_zero, List.set_cons_succ]
          refine wpAnyHT_end (by kernel_rfl) ?_
          simp only [List.drop_succ_cons, List.drop_zero]
          go_wp2_with fail
          go_roundw
          case rel => exact ⟨j + 1, by omega, by go_num, hin⟩
          case measure => first | (simp [intOf]; done) | (simp [intOf]; omega)
        · have b2 : ((x.at_ : Int) == (a : Int)) = false := by simpa using fun h : (x.at_ : Int) = a => ha (by omega)
          have HNX : Hid (InC w φ H i a d s ms (j + 1) wr) := hid (hin.out.miss hx (fun h => ha h.2))
          clear hns hsn he2 hr2 hnl hwl hx hx2 hgw hd ha hin
          go_wp2_with fail
          go_roundw
          case rel => exact ⟨j + 1, by omega, by go_num, HNX⟩
          case measure => first | (simp [intOf]; done) | (simp [intOf]; omega)
      · have b1 : ((x.d : Int) == (i : Int)) = false := by simpa using fun h : (x.d : Int) = i => hd (by omega)
        have HNX : Hid (InC w φ H i a d s ms (j + 1) wr) := hid (hin.out.miss hx (fun h => hd h.1))
        clear hns hsn he2 hr2 hnl hwl hx hx2 hgw hd hin
        go_wp2_with fail
        go_roundw
        case rel => exact ⟨j + 1, by omega, by go_num, HNX⟩
        case measure => first | (simp [intOf]; done) | (simp [intOf]; omega)
    · obtain rfl : j = M := by omega
      have HFIN : Hid (∃ (H' : RHp) (φ' : Nat → Rl) (ws : List RWt) (sn : SecR), ws.map RWt.pure = H.ws.map (turnR i a ms) ∧ sn.bs = xr s.bs ms ∧ H' = { H with ds := H.ds.set i { d with ss := d.ss.set a sn }, ws := ws } ∧ RStp w φ H H' φ' wr) := hid ⟨H2, φ2, ns, sn, by rw [hns, List.take_of_length_le (Nat.le_of_eq HM.out)], hsn, by rw [he2, List.drop_eq_nil_of_le (Nat.le_of_eq HM.out), List.append_nil], hr2⟩
      clear hns hsn he2 hr2 hnl hwl hin
      go_wp2_with fail
      go_returns
      exact ⟨rfl, HFIN.out⟩
end Go.Proofs.Ytfclamndjnoopaa
