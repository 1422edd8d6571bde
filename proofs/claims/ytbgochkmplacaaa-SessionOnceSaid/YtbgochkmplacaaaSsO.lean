/- SessionOnce, walked. -/
import Derived.Test.YtbgochkmplacaaaSsK
import Derived.Deep.CutBlock
import Derived.Deep.RegionHeld3
namespace Go.Proofs.Ytbgochkmplacaaa
open Go.RowKit Go.Lib
set_option maxRecDepth 100000

/-- A table, and what the law has kept itself. -/
structure OP (w0 wr : World) (b : Nat) (pl : Option Nat) (vs : List Rp) (f a r : Int) (kb : Nat) (ks : List Rp) : Prop where
  fr : Frm [] w0 wr
  t : TS wr b pl vs f a r
  k : wr.heap[kb]? = some (.cells (rowsR ks).toArray 61 (0, 0))
  kn : kb ∉ foot24 b pl
  k0 : w0.heap.size ≤ kb
  tn : ∀ k ∈ foot24 b pl, w0.heap.size ≤ k
  kB : ∀ v ∈ vs, ∀ k ∈ v.B, k ≠ kb
  kl : ks.length = 9
  ko : ∀ v ∈ ks, RpOk w0 v
  eq : ∀ i : Nat, i < 9 → (ks.getD i rp0).x = (vs.getD i rp0).x
section
variable {w0 wr w' : World} {b : Nat} {pl pl' : Option Nat} {vs vs' : List Rp} {f a r f' a' r' : Int} {kb : Nat} {ks : List Rp}
theorem OP.at (h : OP w0 wr b pl vs f a r kb ks) {i : Nat} {v : Rp} (hi : ks[i]? = some v) (j : Nat) (u : Value) (hu : v.row[j]? = some u) : wr.cell? ⟨kb, i * 7 + j, none⟩ = some u := by
  rw [cell_of_row _ _ _ _ _ _ h.k]
  simpa using rowsR_get ks i v hi j u hu
theorem OP.stay (h : OP w0 wr b pl vs f a r kb ks) (hf : Frm [] wr w') : OP w0 w' b pl vs f a r kb ks :=
  ⟨h.fr.trans hf (by simp), h.t.k0 hf, hf.heap h.k (by simp), h.kn, h.k0, h.tn, h.kB, h.kl, h.ko, h.eq⟩
theorem OP.step (h : OP w0 wr b pl vs f a r kb ks) (h2 : Frm (foot24 b pl) wr w') (h3 : Nx wr pl pl') (h4 : ∀ v ∈ vs', v ∈ vs ∨ ∀ k ∈ v.B, wr.heap.size ≤ k) :
    Frm [] w0 w' ∧ w'.heap[kb]? = some (.cells (rowsR ks).toArray 61 (0, 0)) ∧ kb ∉ foot24 b pl' ∧ (∀ k ∈ foot24 b pl', w0.heap.size ≤ k) ∧ (∀ v ∈ vs', ∀ k ∈ v.B, k ≠ kb) := by
  have hz := h.fr.size
  have hk := lt_of_heap h.k
  refine ⟨h.fr.trans h2 (fun k hk hkl => by have := h.tn k hk; omega), h2.heap h.k h.kn, fun hm => ?_, fun k hk => ?_, fun v hv k hk2 => ?_⟩
  · rcases h3.foot kb hm with h5 | h5
    · exact h.kn h5
    · omega
  · rcases h3.foot k hk with h5 | h5
    · exact h.tn k h5
    · omega
  · rcases h4 v hv with h5 | h5
    · exact h.kB v h5 k hk2
    · have := h5 k hk2; omega
/-- A call that keeps nothing new. -/
theorem OP.same (h : OP w0 wr b pl vs f a r kb ks) (h1 : TS w' b pl' vs f' a' r') (h2 : Frm (foot24 b pl) wr w') (h3 : Nx wr pl pl') : OP w0 w' b pl' vs f' a' r' kb ks := by
  obtain ⟨s1, s2, s3, s4, s5⟩ := h.step (vs' := vs) h2 h3 (fun v hv => Or.inl hv)
  exact ⟨s1, h1, s2, s3, h.k0, s4, s5, h.kl, h.ko, h.eq⟩
theorem OP.get (h : OP w0 wr b pl vs f a r kb ks) {i : Nat} (hi : i < 9) : ∃ v, ks[i]? = some v ∧ v.x = (vs.getD i rp0).x ∧ RpOk w0 v := by
  obtain ⟨v, hv⟩ : ∃ v, ks[i]? = some v := ⟨_, List.getElem?_eq_getElem (by rw [h.kl]; exact hi)⟩
  exact ⟨v, hv, by rw [← h.eq i hi]; simp [hv], h.ko v (List.mem_of_getElem? hv)⟩
/-- One place of what the law keeps, another reply. -/
theorem OP.putK (fr : Frm [] w0 wr) (ht : TS wr b pl vs f a r) (hk : wr.heap[kb]? = some (.cells (rowsR ks).toArray 61 (0, 0))) (kn : kb ∉ foot24 b pl) (k0 : w0.heap.size ≤ kb) (tn : ∀ k ∈ foot24 b pl, w0.heap.size ≤ k) (kB : ∀ v ∈ vs, ∀ k ∈ v.B, k ≠ kb) (kl : ks.length = 9) (ko : ∀ v ∈ ks, RpOk w0 v) {m : Nat} (hm : m < 9) (v : Rp) (hv : RpOk w0 v) (heq : ∀ i : Nat, i < 9 → ((ks.set m v).getD i rp0).x = (vs.getD i rp0).x) :
    OP w0 (((((((wr.setCell ⟨kb, m * 7, none⟩ (.int .i64 v.x.s)).setCell ⟨kb, m * 7 + 1, none⟩ (.int .i64 v.x.id)).setCell ⟨kb, m * 7 + 2, none⟩ (.int .i64 v.x.er)).setCell ⟨kb, m * 7 + 3, none⟩ (.int .i64 v.x.nu)).setCell ⟨kb, m * 7 + 4, none⟩ (.string v.x.tx)).setCell ⟨kb, m * 7 + 5, none⟩ (.slice v.lp v.x.ss.length v.lc)).setCell ⟨kb, m * 7 + 6, none⟩ (.slice v.dp v.x.ds.length v.dc)) b pl vs f a r kb (ks.set m v) := by
  have h1 := heap_setCell_same wr kb (m * 7) _ _ (.int .i64 v.x.s) hk
  have h2 := heap_setCell_same _ kb (m * 7 + 1) _ _ (.int .i64 v.x.id) h1
  have h3 := heap_setCell_same _ kb (m * 7 + 2) _ _ (.int .i64 v.x.er) h2
  have h4 := heap_setCell_same _ kb (m * 7 + 3) _ _ (.int .i64 v.x.nu) h3
  have h5 := heap_setCell_same _ kb (m * 7 + 4) _ _ (.string v.x.tx) h4
  have h6 := heap_setCell_same _ kb (m * 7 + 5) _ _ (.slice v.lp v.x.ss.length v.lc) h5
  have h7 := heap_setCell_same _ kb (m * 7 + 6) _ _ (.slice v.dp v.x.ds.length v.dc) h6
  simp only [List.setIfInBounds_toArray] at h7
  rw [rowsR_set ks m v (by rw [kl]; exact hm)] at h7
  have hf := (((((((Frm.refl [kb] wr).setCell ⟨kb, m * 7, none⟩ (.int .i64 v.x.s) (by simp)).setCell ⟨kb, m * 7 + 1, none⟩ (.int .i64 v.x.id) (by simp)).setCell ⟨kb, m * 7 + 2, none⟩ (.int .i64 v.x.er) (by simp)).setCell ⟨kb, m * 7 + 3, none⟩ (.int .i64 v.x.nu) (by simp)).setCell ⟨kb, m * 7 + 4, none⟩ (.string v.x.tx) (by simp)).setCell ⟨kb, m * 7 + 5, none⟩ (.slice v.lp v.x.ss.length v.lc) (by simp)).setCell ⟨kb, m * 7 + 6, none⟩ (.slice v.dp v.x.ds.length v.dc) (by simp)
  refine ⟨fr.trans hf (fun k hk2 hkl => by rw [List.mem_singleton] at hk2; omega), ht.kept hf (fun k hk2 hm2 => by rw [List.mem_singleton] at hm2; subst hm2; exact kn hk2) (fun u hu k hk2 hm2 => by rw [List.mem_singleton] at hm2; exact kB u hu k hk2 hm2), h7, kn, k0, tn, kB, by rw [List.length_set]; exact kl, fun u hu => ?_, heq⟩
  rcases List.mem_or_eq_of_mem_set hu with h | rfl
  · exact ko u h
  · exact hv
end
set_option maxHeartbeats 25600000 in
theorem once24_any (p : Option Addr) (len cap : Nat) (w : World) (hI : CameR w p len cap) :
    Calls Try.prog 7 #[.slice p len cap] w fun e w' => e = .returned (.bool true) ∧ Frm [] w w' := by
  have HI := hid hI
  have HNW := hid (fun W => new24_any W)
  have HAW := hid (awake24_any w)
  have hlc : len ≤ 9223372036854775807 := by have := hI.1; have := hI.2.1; omega
  have hmk := make9
  clear hI
  go_enter Try.func7, Try.ntmps7
  go_wp2_with fail
  refine HAW.out.mono ?_
  rintro e w1 ⟨rfl, hf1⟩
  have HF1 := hid hf1
  clear hf1 HAW
  go_wp2_with fail
  refine (HNW.out _).mono ?_
  rintro e w2 ⟨b, rfl, ht2, hf2, hb2⟩
  obtain ⟨kb, hkb⟩ : ∃ q, w2.heap.size = q := ⟨_, rfl⟩
  obtain ⟨w3, hw3⟩ : ∃ q, w2.alloc (.cells (rowsR zeros9).toArray 61) = q := ⟨_, rfl⟩
  have HOP : Hid (OP w w3 b none zeros9 0 0 0 kb zeros9) := hid (by
    have h3 : Frm [] w2 w3 := by rw [← hw3]; exact (Frm.refl _ _).alloc _
    have hl := ht2.low b (by simp [foot24])
    have hz := HF1.out.size
    have hz2 := hf2.size
    have hrp : ∀ v ∈ zeros9, v = rp0 := fun v hv => by unfold zeros9 at hv; exact (List.mem_replicate.1 hv).2
    refine ⟨(HF1.out.trans hf2 (by simp)).trans h3 (by simp), ht2.k0 h3, by rw [← hw3]; exact heap_alloc_to _ _ hkb, ?_, by omega, ?_, fun v hv k hk => ?_, rfl, fun v hv => ?_, fun i hi => rfl⟩
    · simp [foot24]; omega
    · intro k hk; simp [foot24] at hk; omega
    · rw [hrp v hv] at hk; simp [Rp.B, rp0, blk] at hk
    · rw [hrp v hv]; exact rp0_ok _)
  have HW3 := hid hw3
  have HKB := hid hkb
  clear ht2 hf2 hb2 hw3 hkb HF1 HNW
  go_upto_region 6 with fail
  rw [HKB.out, HW3.out]
  clear HW3 HKB hmk
  go_wp2_with fail
  go_loopw [6] (fun i wr => ∃ (t : Nat) (pl : Option Nat) (vs ks : List Rp) (f a r : Int), t ≤ len ∧ i = .int .i64 (t : Int) ∧ Hid (OP w wr b pl vs f a r kb ks)) (fun i _ => len - (intOf i).toNat)
  case atStart => exact ⟨0, none, zeros9, zeros9, 0, 0, 0, Nat.zero_le _, rfl, HOP⟩
  case round =>
    clear HOP
    obtain ⟨t, pl, vs, ks, f, a, r, ht, rfl, hop⟩ := hrel
    by_cases hlt : t < len
    · have t1 : (t : Int) < (len : Int) := by omega
      obtain ⟨_, _, hcs⟩ := HI.out
      obtain ⟨g, o, rfl, hcells⟩ : ∃ g o, p = some ⟨g, o, none⟩ ∧ ∀ i, i < len → ∃ d : OpR, (∀ j u, d.row[j]? = some u → w.cell? ⟨g, o + i * 10 + j, none⟩ = some u) ∧ OpRIn w d := by
        rcases hcs with h | h
        · omega
        · exact h
      obtain ⟨⟨kd, wh, ⟨⟨s, id, er, nu, tx, ss, ds⟩, lp, lc, dp, dc⟩, lq, ll, lr⟩, hrow, hk, _, hs, hid_, hok⟩ := hcells t hlt
      have hcell : ∀ j u, _ → wr.cell? ⟨g, o + t * 10 + j, none⟩ = some u := fun j u hu => (hop.out.fr.cell (World.block_lt_of_cell? w _ (hrow j u hu)) (by simp)).trans (hrow j u hu)
      simp only [OpR.row] at hcell
      simp only at hk hs hid_
      have HK := hid hk
      have HS := hid hs
      have HOK := hid hok
      obtain ⟨n, hn⟩ : ∃ q, ss.length = q := ⟨_, rfl⟩
      obtain ⟨mm, hmm⟩ : ∃ q, ds.length = q := ⟨_, rfl⟩
      have HV : Hid ((⟨⟨s, id, er, nu, tx, ss, ds⟩, lp, lc, dp, dc⟩ : Rp).agg = .agg #[.int .i64 s, .int .i64 id, .int .i64 er, .int .i64 nu, .string tx, .slice lp n lc, .slice dp mm dc]) := hid (by unfold Rp.agg; simp only; rw [hn, hmm])
      have HNN := hid hn
      have HMM := hid hmm
      rw [hn, hmm] at hcell
      have d0 : wr.cell? ⟨g, o + t * 10, none⟩ = some (.int .i64 kd) := hcell 0 _ rfl
      have d1 : wr.cell? ⟨g, o + t * 10 + 1, none⟩ = some (.int .i64 wh) := hcell 1 _ rfl
      have d2 : wr.cell? ⟨g, o + t * 10 + 2, none⟩ = some (.int .i64 s) := hcell 2 _ rfl
      have d3 : wr.cell? ⟨g, o + t * 10 + 3, none⟩ = some (.int .i64 id) := hcell 3 _ rfl
      have d4 : wr.cell? ⟨g, o + t * 10 + 4, none⟩ = some (.int .i64 er) := hcell 4 _ rfl
      have d5 : wr.cell? ⟨g, o + t * 10 + 5, none⟩ = some (.int .i64 nu) := hcell 5 _ rfl
      have d6 : wr.cell? ⟨g, o + t * 10 + 6, none⟩ = some (.string tx) := hcell 6 _ rfl
      have d7 : wr.cell? ⟨g, o + t * 10 + 7, none⟩ = some (.slice lp n lc) := hcell 7 _ rfl
      have d8 : wr.cell? ⟨g, o + t * 10 + 8, none⟩ = some (.slice dp mm dc) := hcell 8 _ rfl
      have d9 : wr.cell? ⟨g, o + t * 10 + 9, none⟩ = some (.slice lq ll lr) := hcell 9 _ rfl
      obtain ⟨bx, hbx⟩ : ∃ q, wr.heap.size = q := ⟨_, rfl⟩
      obtain ⟨w5, hw5⟩ : ∃ q, wr.alloc (.cells #[.int .i64 kd, .int .i64 wh, .int .i64 s, .int .i64 id, .int .i64 er, .int .i64 nu, .string tx, .slice lp n lc, .slice dp mm dc, .slice lq ll lr] 63) = q := ⟨_, rfl⟩
      have h5 : Frm [] wr w5 := by rw [← hw5]; exact (Frm.refl _ _).alloc _
      have HX : Hid (w5.heap[bx]? = some (.cells #[.int .i64 kd, .int .i64 wh, .int .i64 s, .int .i64 id, .int .i64 er, .int .i64 nu, .string tx, .slice lp n lc, .slice dp mm dc, .slice lq ll lr] 63 (0, 0))) := hid (by rw [← hw5]; exact heap_alloc_to _ _ hbx)
      have HOP5 := hid (hop.out.stay h5)
      have HNT : Hid (bx ∉ foot24 b pl ∧ bx ≠ kb) := hid ⟨fun hm => by have := hop.out.t.low bx hm; omega, by have := lt_of_heap hop.out.k; omega⟩
      have HW5 := hid hw5
      have HBX := hid hbx
      clear hw5 hbx h5 hop hcell hrow hcs hcells hn hmm hk hs hid_ hok
      go_upto_region 10 with fail
      rw [HBX.out, HW5.out]
      clear HW5 HBX d0 d1 d2 d3 d4 d5 d6 d7 d8 d9
      obtain ⟨i9, hi9⟩ : ∃ i9 : Nat, pickM s 9 = (i9 : Int) := ⟨(pickM s 9).toNat, by have := pickM_bd s 9 (by omega); omega⟩
      have hi9b : i9 < 9 := by have := pickM_bd s 9 (by omega); omega
      obtain ⟨kv, hkv, hkx, _⟩ := HOP5.out.get hi9b
      have q1 : w5.cell? ⟨kb, i9 * 7 + 1, none⟩ = some (.int .i64 kv.x.id) := HOP5.out.at hkv 1 _ rfl
      have HI9 := hid hi9
      have HKX := hid hkx
      have HP9 := hid (pick24_any s 9 w5 HS.out (by omega))
      rw [hi9] at HP9
      have i9i : (i9 : Int) < 9 := by omega
      have x0 : w5.cell? ⟨bx, 0, none⟩ = some (.int .i64 kd) := by rw [cell_of_row _ _ _ _ _ _ HX.out]; rfl
      have x2 : w5.cell? ⟨bx, 2, none⟩ = some (.int .i64 s) := by rw [cell_of_row _ _ _ _ _ _ HX.out]; rfl
      clear hkv hkx hi9
      go_wp2_with fail
      refine HP9.out.mono ?_
      rintro e w5' ⟨rfl, hww⟩
      have hww2 := hww.symm
      clear hww
      subst hww2
      have HP2 := hid (pick24_any kd 2 w5 HK.out (by omega))
      obtain ⟨pk, hpk⟩ : ∃ q, pickM kd 2 = q := ⟨_, rfl⟩
      rw [hpk] at HP2
      clear hpk
      go_wp2_with fail
      refine HP2.out.mono ?_
      rintro e w5b ⟨rfl, hww⟩
      have hww2 := hww.symm
      clear hww
      subst hww2
      go_upto_if 45 with fail
      go_cut [9] (fun _ wx => ∃ pl' vs' ks' f' a' r', Hid (OP w wx b pl' vs' f' a' r' kb ks'))
      case first =>
        clear q1 x0 x2
        by_cases hk0 : pk = 0
        · subst hk0
          have HLT := hid (look_any b pl vs f a r s id w5 HOP5.out.t)
          unfold LookP at HLT
          have x2 : w5.cell? ⟨bx, 2, none⟩ = some (.int .i64 s) := by rw [cell_of_row _ _ _ _ _ _ HX.out]; rfl
          have x3 : w5.cell? ⟨bx, 3, none⟩ = some (.int .i64 id) := by rw [cell_of_row _ _ _ _ _ _ HX.out]; rfl
          go_wp2_with fail
          refine HLT.out.mono ?_
          rintro e w6 ⟨p6, va, rfl, _, _, _, ht6, hf6, hn6⟩
          have HOP6 := hid (HOP5.out.same ht6 hf6 hn6)
          clear ht6 hf6 hn6 HLT x2 x3
          go_wp2_with fail
          go_meet
          case rel => exact ⟨_, _, _, _, _, _, HOP6⟩
        · have hkb : (pk == 0) = false := by simpa using hk0
          obtain ⟨C, hC⟩ : ∃ q, chk24 vs s id 1 = q := ⟨_, rfl⟩
          have HC := hid hC
          have HKT := hid (keep_any b pl vs f a r ⟨⟨s, id, er, nu, tx, ss, ds⟩, lp, lc, dp, dc⟩ w5 HOP5.out.t (fun W hf => HOK.out.kept (HOP5.out.fr.trans hf (fun k hk hkl => by have := HOP5.out.tn k hk; omega)) (by simp)))
          rw [HV.out] at HKT
          unfold KeepP at HKT
          simp only at HKT
          rw [hC] at HKT
          have x2 : w5.cell? ⟨bx, 2, none⟩ = some (.int .i64 s) := by rw [cell_of_row _ _ _ _ _ _ HX.out]; rfl
          have x3 : w5.cell? ⟨bx, 3, none⟩ = some (.int .i64 id) := by rw [cell_of_row _ _ _ _ _ _ HX.out]; rfl
          have x4 : w5.cell? ⟨bx, 4, none⟩ = some (.int .i64 er) := by rw [cell_of_row _ _ _ _ _ _ HX.out]; rfl
          have x5 : w5.cell? ⟨bx, 5, none⟩ = some (.int .i64 nu) := by rw [cell_of_row _ _ _ _ _ _ HX.out]; rfl
          have x6 : w5.cell? ⟨bx, 6, none⟩ = some (.string tx) := by rw [cell_of_row _ _ _ _ _ _ HX.out]; rfl
          have x7 : w5.cell? ⟨bx, 7, none⟩ = some (.slice lp n lc) := by rw [cell_of_row _ _ _ _ _ _ HX.out]; rfl
          have x8 : w5.cell? ⟨bx, 8, none⟩ = some (.slice dp mm dc) := by rw [cell_of_row _ _ _ _ _ _ HX.out]; rfl
          clear hC hk0
          go_wp2_with fail
          refine HKT.out.mono ?_
          rintro e w6 ⟨p6, vs6, rfl, ht6, hf6, hn6, hs6, hz6⟩
          have HX6 := hid (hf6.heap HX.out HNT.out.1)
          clear x2 x3 x4 x5 x6 x7 x8 hkb HKT
          by_cases hC0 : C = 0
          · obtain ⟨v6, hx6, hv6, hb6⟩ := hz6 hC0
            subst hv6
            have hch := chk24_zero (hC0 ▸ HC.out : chk24 vs s id 1 = 0)
            obtain ⟨⟨z1, z2, z3, z4⟩, z5⟩ := hch
            obtain ⟨m, rfl⟩ : ∃ m : Nat, s = m := ⟨s.toNat, by omega⟩
            have him : i9 = m := by
              have h := HI9.out
              unfold pickM at h
              rw [if_neg (by omega), Int.emod_eq_of_lt (by omega) (by omega)] at h
              omega
            have hlast : last24 vs (m : Int) = kv.x.id := by
              unfold last24
              rw [if_pos ⟨z1, z2⟩, Int.toNat_natCast, HKX.out, him]
            obtain ⟨s1, s2, s3, s4, s5⟩ := HOP5.out.step hf6 hn6 (keep_mem (i := (m : Int).toNat) hb6)
            rw [Int.toNat_natCast] at ht6 s5
            have hput := OP.putK s1 ht6 s2 s3 HOP5.out.k0 s4 s5 HOP5.out.kl HOP5.out.ko (m := m) (by omega) ⟨⟨(m : Int), id, er, nu, tx, ss, ds⟩, lp, lc, dp, dc⟩ HOK.out (fun i hi => by
              rw [set_at HOP5.out.kl (by omega), set_at HOP5.out.t.ln (by omega)]
              split
              · exact hx6.symm
              · exact HOP5.out.eq i hi)
            simp only at hput
            rw [HNN.out, HMM.out] at hput
            obtain ⟨wz, hwz⟩ : ∃ q, (((((((w6.setCell ⟨kb, m * 7, none⟩ (.int .i64 (m : Int))).setCell ⟨kb, m * 7 + 1, none⟩ (.int .i64 id)).setCell ⟨kb, m * 7 + 2, none⟩ (.int .i64 er)).setCell ⟨kb, m * 7 + 3, none⟩ (.int .i64 nu)).setCell ⟨kb, m * 7 + 4, none⟩ (.string tx)).setCell ⟨kb, m * 7 + 5, none⟩ (.slice lp n lc)).setCell ⟨kb, m * 7 + 6, none⟩ (.slice dp mm dc)) = q := ⟨_, rfl⟩
            rw [hwz] at hput
            have HPUT := hid hput
            have HWZ := hid hwz
            obtain ⟨kw, hkw⟩ : ∃ kw, ks[m]? = some kw := ⟨_, List.getElem?_eq_getElem (by rw [HOP5.out.kl]; omega)⟩
            have k0 : w6.cell? ⟨kb, m * 7, none⟩ = some (.int .i64 kw.x.s) := by
              rw [cell_of_row _ _ _ _ _ _ s2]
              simpa using rowsR_get ks m kw hkw 0 _ rfl
            have k1 : w6.cell? ⟨kb, m * 7 + 1, none⟩ = some (.int .i64 kw.x.id) := by
              rw [cell_of_row _ _ _ _ _ _ s2]
              simpa using rowsR_get ks m kw hkw 1 _ rfl
            have k2 : w6.cell? ⟨kb, m * 7 + 2, none⟩ = some (.int .i64 kw.x.er) := by
              rw [cell_of_row _ _ _ _ _ _ s2]
              simpa using rowsR_get ks m kw hkw 2 _ rfl
            have k3 : w6.cell? ⟨kb, m * 7 + 3, none⟩ = some (.int .i64 kw.x.nu) := by
              rw [cell_of_row _ _ _ _ _ _ s2]
              simpa using rowsR_get ks m kw hkw 3 _ rfl
            have k4 : w6.cell? ⟨kb, m * 7 + 4, none⟩ = some (.string kw.x.tx) := by
              rw [cell_of_row _ _ _ _ _ _ s2]
              simpa using rowsR_get ks m kw hkw 4 _ rfl
            have k5 : w6.cell? ⟨kb, m * 7 + 5, none⟩ = some (.slice kw.lp kw.x.ss.length kw.lc) := by
              rw [cell_of_row _ _ _ _ _ _ s2]
              simpa using rowsR_get ks m kw hkw 5 _ rfl
            have k6 : w6.cell? ⟨kb, m * 7 + 6, none⟩ = some (.slice kw.dp kw.x.ds.length kw.dc) := by
              rw [cell_of_row _ _ _ _ _ _ s2]
              simpa using rowsR_get ks m kw hkw 6 _ rfl
            have x2 : w6.cell? ⟨bx, 2, none⟩ = some (.int .i64 (m : Int)) := by rw [cell_of_row _ _ _ _ _ _ HX6.out]; rfl
            have x3 : w6.cell? ⟨bx, 3, none⟩ = some (.int .i64 id) := by rw [cell_of_row _ _ _ _ _ _ HX6.out]; rfl
            have x4 : w6.cell? ⟨bx, 4, none⟩ = some (.int .i64 er) := by rw [cell_of_row _ _ _ _ _ _ HX6.out]; rfl
            have x5 : w6.cell? ⟨bx, 5, none⟩ = some (.int .i64 nu) := by rw [cell_of_row _ _ _ _ _ _ HX6.out]; rfl
            have x6 : w6.cell? ⟨bx, 6, none⟩ = some (.string tx) := by rw [cell_of_row _ _ _ _ _ _ HX6.out]; rfl
            have x7 : w6.cell? ⟨bx, 7, none⟩ = some (.slice lp n lc) := by rw [cell_of_row _ _ _ _ _ _ HX6.out]; rfl
            have x8 : w6.cell? ⟨bx, 8, none⟩ = some (.slice dp mm dc) := by rw [cell_of_row _ _ _ _ _ _ HX6.out]; rfl
            have zz : ∀ j, w6.frozen? ⟨kb, j, none⟩ = false := fun j => frozen_of_row _ _ _ _ _ s2
            have f0 := zz (m * 7)
            have f1 := zz (m * 7 + 1)
            have f2 := zz (m * 7 + 2)
            have f3 := zz (m * 7 + 3)
            have f4 := zz (m * 7 + 4)
            have f5 := zz (m * 7 + 5)
            have f6 := zz (m * 7 + 6)
            have hle : ¬ (id ≤ kv.x.id) := by omega
            have hm9 : (m : Int) < 9 := by omega
            subst hC0
            clear ht6 hf6 hn6 hs6 hz6 hx6 hb6 z3 z4 z5 him hlast s1 s2 s3 s4 s5 hput hwz hkw zz
            go_wp2_with fail
            rw [HWZ.out]
            go_meet
            case rel => exact ⟨_, _, _, _, _, _, HPUT⟩
          · have HOP6 := hid (HOP5.out.same (hs6 hC0 ▸ ht6) hf6 hn6)
            have hcb : (C == 0) = false := by simpa using hC0
            clear ht6 hf6 hn6 hs6 hz6 hC0
            go_wp2_with fail
            go_meet
            case rel => exact ⟨_, _, _, _, _, _, HOP6⟩
      obtain ⟨pl2, vs2, ks2, f2, a2, r2, hop2⟩ := hcut
      have HOP2 := hid hop2.out
      clear hop2 HOP5 HX HNT q1 x0 x2
      go_wp2_with fail
      go_loopw [10] (fun i wr => ∃ (q : Nat) (pl : Option Nat) (f a r : Int), 1 ≤ q ∧ q ≤ 9 ∧ i = .int .i64 (q : Int) ∧ Hid (OP w wr b pl vs2 f a r kb ks2)) (fun i _ => 9 - (intOf i).toNat)
      case atStart => exact ⟨1, pl2, f2, a2, r2, by omega, by omega, rfl, HOP2⟩
      case round =>
        clear HOP2
        obtain ⟨q, pl, f, a, r, hq1, hq9, rfl, hop⟩ := hrel
        by_cases hq : q < 9
        · have t2 : (q : Int) ≤ 8 := by omega
          have t3 : (q : Int) < 9 := by omega
          obtain ⟨kw, hkw, hkx, hkok⟩ := hop.out.get hq
          have HKW := hid hkw
          have HKX2 := hid hkx
          have HKOK := hid hkok
          have hla : last24 vs2 (q : Int) = kw.x.id := by
            unfold last24
            rw [if_pos ⟨by omega, by omega⟩, Int.toNat_natCast, hkx]
          have HLA := hid hla
          have HOPD := hid (hop.out.stay (Frm.refl [] _).drew)
          have HLS := hid (last_any b pl vs2 f a r q _ HOPD.out.t)
          rw [hla] at HLS
          have HS0 := hid (HOPD.out.at hkw 1 _ rfl)
          have HKS : Hid (∀ W, Frm (foot24 b pl) _ W → W.cell? ⟨kb, q * 7 + 1, none⟩ = some (.int .i64 kw.x.id)) := hid (fun W hf => (hf.cell (World.block_lt_of_cell? _ _ HS0.out) HOPD.out.kn).trans HS0.out)
          clear hkw hkx hkok hla hop
          go_upto_region 21 with fail
          go_region_held3 (fun W => W.cell? ⟨kb, q * 7 + 1, none⟩ = some (.int .i64 kw.x.id)) (first | (with_reducible exact HS0.out) | (with_reducible exact HKS.out _ (by assumption))) (((with_reducible refine HLS.out.mono ?_); rintro e w5 ⟨p5, rfl, ht5, hf5, hn5⟩))
          all_goals (
            have HOP5 := hid (HOPD.out.same ht5 hf5 hn5)
            have k1 : w5.cell? ⟨kb, q * 7 + 1, none⟩ = some (.int .i64 kw.x.id) := HKS.out w5 hf5
            clear ht5 hf5 hn5
            by_cases hz : kw.x.id = 0
            · have hzb : (kw.x.id == 0) = true := by simpa using hz
              clear hz
              go_wp2_with fail
              go_roundw
              case rel => exact ⟨q + 1, p5, f, a, r, by omega, by omega, by go_num, HOP5⟩
              case measure => simp [intOf]; omega
            · have hzb : (kw.x.id == 0) = false := by simpa using hz
              have HLK : Hid (look24 vs2 (q : Int) kw.x.id = (kw.x, true, 0)) := hid (by
                have hib := HOP5.out.t.ib
                obtain ⟨u, hu⟩ : ∃ u, vs2[q]? = some u := ⟨_, List.getElem?_eq_getElem (by rw [HOP5.out.t.ln]; exact hq)⟩
                have hux : kw.x = u.x := by rw [HKX2.out]; simp [hu]
                have hb := hib u (List.mem_of_getElem? hu)
                rw [← hux] at hb
                have hchk : chk24 vs2 (q : Int) kw.x.id 0 = 0 := by
                  unfold chk24
                  rw [HLA.out, if_neg (fun h => h ⟨by omega, by omega, by omega, by omega⟩), if_neg (by omega)]
                unfold look24
                rw [hchk, if_neg (by simp), HLA.out, if_neg (by omega), Int.toNat_natCast, ← HKX2.out])
              have HLT := hid (look_any b p5 vs2 f a r q kw.x.id w5 HOP5.out.t)
              unfold LookP at HLT
              rw [HLK.out] at HLT
              simp only at HLT
              clear hz
              go_wp2_with fail
              refine HLT.out.mono ?_
              rintro e w6 ⟨p6, va, rfl, hxa, hra, hba, ht6, hf6, hn6⟩
              have HOP6 := hid (HOP5.out.same ht6 hf6 hn6)
              obtain ⟨ba, hbA⟩ : ∃ q, w6.heap.size = q := ⟨_, rfl⟩
              obtain ⟨w7, hw7⟩ : ∃ q, w6.alloc (.cells #[.int .i64 va.x.s, .int .i64 va.x.id, .int .i64 va.x.er, .int .i64 va.x.nu, .string va.x.tx, .slice va.lp va.x.ss.length va.lc, .slice va.dp va.x.ds.length va.dc] 61) = q := ⟨_, rfl⟩
              have h7 : Frm [] w6 w7 := by rw [← hw7]; exact (Frm.refl _ _).alloc _
              have hA7 : w7.heap[ba]? = some (.cells #[.int .i64 va.x.s, .int .i64 va.x.id, .int .i64 va.x.er, .int .i64 va.x.nu, .string va.x.tx, .slice va.lp va.x.ss.length va.lc, .slice va.dp va.x.ds.length va.dc] 61 (0, 0)) := by rw [← hw7]; exact heap_alloc_to _ _ hbA
              have HOP7 := hid (HOP6.out.stay h7)
              have HD7 : Hid (Frm [] w7 w7.drew) := hid (Frm.refl [] w7).drew
              have HSA := hid (same24_any va kw w7.drew ((hra.kept h7 (by simp)).kept HD7.out (by simp)) (HKOK.out.kept (HOP7.out.fr.trans HD7.out (by simp)) (by simp)) hxa)
              have HS7 : Hid (w7.drew.cell? ⟨ba, 0, none⟩ = some (.int .i64 va.x.s) ∧ w7.drew.cell? ⟨ba, 1, none⟩ = some (.int .i64 va.x.id) ∧ w7.drew.cell? ⟨ba, 2, none⟩ = some (.int .i64 va.x.er) ∧ w7.drew.cell? ⟨ba, 3, none⟩ = some (.int .i64 va.x.nu) ∧ w7.drew.cell? ⟨ba, 4, none⟩ = some (.string va.x.tx) ∧ w7.drew.cell? ⟨ba, 5, none⟩ = some (.slice va.lp va.x.ss.length va.lc) ∧ w7.drew.cell? ⟨ba, 6, none⟩ = some (.slice va.dp va.x.ds.length va.dc) ∧ w7.drew.cell? ⟨kb, q * 7, none⟩ = some (.int .i64 kw.x.s) ∧ w7.drew.cell? ⟨kb, q * 7 + 1, none⟩ = some (.int .i64 kw.x.id) ∧ w7.drew.cell? ⟨kb, q * 7 + 2, none⟩ = some (.int .i64 kw.x.er) ∧ w7.drew.cell? ⟨kb, q * 7 + 3, none⟩ = some (.int .i64 kw.x.nu) ∧ w7.drew.cell? ⟨kb, q * 7 + 4, none⟩ = some (.string kw.x.tx) ∧ w7.drew.cell? ⟨kb, q * 7 + 5, none⟩ = some (.slice kw.lp kw.x.ss.length kw.lc) ∧ w7.drew.cell? ⟨kb, q * 7 + 6, none⟩ = some (.slice kw.dp kw.x.ds.length kw.dc)) := hid ⟨by show w7.cell? _ = _; rw [cell_of_row _ _ _ _ _ _ hA7]; rfl, by show w7.cell? _ = _; rw [cell_of_row _ _ _ _ _ _ hA7]; rfl, by show w7.cell? _ = _; rw [cell_of_row _ _ _ _ _ _ hA7]; rfl, by show w7.cell? _ = _; rw [cell_of_row _ _ _ _ _ _ hA7]; rfl, by show w7.cell? _ = _; rw [cell_of_row _ _ _ _ _ _ hA7]; rfl, by show w7.cell? _ = _; rw [cell_of_row _ _ _ _ _ _ hA7]; rfl, by show w7.cell? _ = _; rw [cell_of_row _ _ _ _ _ _ hA7]; rfl, HOP7.out.at HKW.out 0 _ rfl, HOP7.out.at HKW.out 1 _ rfl, HOP7.out.at HKW.out 2 _ rfl, HOP7.out.at HKW.out 3 _ rfl, HOP7.out.at HKW.out 4 _ rfl, HOP7.out.at HKW.out 5 _ rfl, HOP7.out.at HKW.out 6 _ rfl⟩
              have HW7 := hid hw7
              have HBB := hid hbA
              unfold Rp.agg at HSA ⊢
              clear hxa hra hba ht6 hf6 hn6 hw7 hbA h7 hA7 HLT k1 hzb
              go_upto_region 25 with fail
              rw [HBB.out, HW7.out]
              clear HW7 HBB
              have HKS2 : Hid (∀ W : World, Frm [] w7.drew W → (W.cell? ⟨ba, 0, none⟩ = some (.int .i64 va.x.s) ∧ W.cell? ⟨ba, 1, none⟩ = some (.int .i64 va.x.id) ∧ W.cell? ⟨ba, 2, none⟩ = some (.int .i64 va.x.er) ∧ W.cell? ⟨ba, 3, none⟩ = some (.int .i64 va.x.nu) ∧ W.cell? ⟨ba, 4, none⟩ = some (.string va.x.tx) ∧ W.cell? ⟨ba, 5, none⟩ = some (.slice va.lp va.x.ss.length va.lc) ∧ W.cell? ⟨ba, 6, none⟩ = some (.slice va.dp va.x.ds.length va.dc) ∧ W.cell? ⟨kb, q * 7, none⟩ = some (.int .i64 kw.x.s) ∧ W.cell? ⟨kb, q * 7 + 1, none⟩ = some (.int .i64 kw.x.id) ∧ W.cell? ⟨kb, q * 7 + 2, none⟩ = some (.int .i64 kw.x.er) ∧ W.cell? ⟨kb, q * 7 + 3, none⟩ = some (.int .i64 kw.x.nu) ∧ W.cell? ⟨kb, q * 7 + 4, none⟩ = some (.string kw.x.tx) ∧ W.cell? ⟨kb, q * 7 + 5, none⟩ = some (.slice kw.lp kw.x.ss.length kw.lc) ∧ W.cell? ⟨kb, q * 7 + 6, none⟩ = some (.slice kw.dp kw.x.ds.length kw.dc))) := hid (fun W hf => by
                obtain ⟨g0, g1, g2, g3, g4, g5, g6, j0, j1, j2, j3, j4, j5, j6⟩ := HS7.out
                exact ⟨(hf.cell (World.block_lt_of_cell? _ _ g0) (by simp)).trans g0, (hf.cell (World.block_lt_of_cell? _ _ g1) (by simp)).trans g1, (hf.cell (World.block_lt_of_cell? _ _ g2) (by simp)).trans g2, (hf.cell (World.block_lt_of_cell? _ _ g3) (by simp)).trans g3, (hf.cell (World.block_lt_of_cell? _ _ g4) (by simp)).trans g4, (hf.cell (World.block_lt_of_cell? _ _ g5) (by simp)).trans g5, (hf.cell (World.block_lt_of_cell? _ _ g6) (by simp)).trans g6, (hf.cell (World.block_lt_of_cell? _ _ j0) (by simp)).trans j0, (hf.cell (World.block_lt_of_cell? _ _ j1) (by simp)).trans j1, (hf.cell (World.block_lt_of_cell? _ _ j2) (by simp)).trans j2, (hf.cell (World.block_lt_of_cell? _ _ j3) (by simp)).trans j3, (hf.cell (World.block_lt_of_cell? _ _ j4) (by simp)).trans j4, (hf.cell (World.block_lt_of_cell? _ _ j5) (by simp)).trans j5, (hf.cell (World.block_lt_of_cell? _ _ j6) (by simp)).trans j6⟩)
              go_region_held3 (fun W : World => W.cell? ⟨ba, 0, none⟩ = some (.int .i64 va.x.s) ∧ W.cell? ⟨ba, 1, none⟩ = some (.int .i64 va.x.id) ∧ W.cell? ⟨ba, 2, none⟩ = some (.int .i64 va.x.er) ∧ W.cell? ⟨ba, 3, none⟩ = some (.int .i64 va.x.nu) ∧ W.cell? ⟨ba, 4, none⟩ = some (.string va.x.tx) ∧ W.cell? ⟨ba, 5, none⟩ = some (.slice va.lp va.x.ss.length va.lc) ∧ W.cell? ⟨ba, 6, none⟩ = some (.slice va.dp va.x.ds.length va.dc) ∧ W.cell? ⟨kb, q * 7, none⟩ = some (.int .i64 kw.x.s) ∧ W.cell? ⟨kb, q * 7 + 1, none⟩ = some (.int .i64 kw.x.id) ∧ W.cell? ⟨kb, q * 7 + 2, none⟩ = some (.int .i64 kw.x.er) ∧ W.cell? ⟨kb, q * 7 + 3, none⟩ = some (.int .i64 kw.x.nu) ∧ W.cell? ⟨kb, q * 7 + 4, none⟩ = some (.string kw.x.tx) ∧ W.cell? ⟨kb, q * 7 + 5, none⟩ = some (.slice kw.lp kw.x.ss.length kw.lc) ∧ W.cell? ⟨kb, q * 7 + 6, none⟩ = some (.slice kw.dp kw.x.ds.length kw.dc)) (first | (with_reducible exact HS7.out) | (with_reducible exact HKS2.out _ (by assumption))) (((with_reducible refine HSA.out.mono ?_); rintro e w8 ⟨rfl, hf8⟩))
              all_goals (
                have HOP8 := hid (HOP7.out.stay (HD7.out.trans hf8 (by simp)))
                clear hf8
                go_wp2_with fail
                go_roundw
                case rel => exact ⟨q + 1, _, _, _, _, by omega, by omega, by go_num, HOP8⟩
                case measure => simp [intOf]; omega))
        · have t2 : ¬ ((q : Int) ≤ 8) := by omega
          have HOP3 := hid hop.out
          clear hop
          go_wp2_with fail
          go_roundw
          case rel => exact ⟨t + 1, pl, vs2, ks2, f, a, r, by omega, by go_num, HOP3⟩
          case measure => simp [intOf]; omega
    · obtain rfl : len = t := by omega
      have t1 : ¬ ((len : Int) < (len : Int)) := by omega
      have HF := hid hop.out.fr
      go_wp2_with fail
      first | go_returns | skip
      exact ⟨rfl, HF.out⟩
end Go.Proofs.Ytbgochkmplacaaa
