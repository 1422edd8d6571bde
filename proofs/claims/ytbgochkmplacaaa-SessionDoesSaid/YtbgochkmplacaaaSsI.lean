/- Two replies that say the same; a new table; the law's pick. -/
import Derived.Test.YtbgochkmplacaaaSsH
namespace Go.Proofs.Ytbgochkmplacaaa
open Go.RowKit Go.Lib
set_option maxRecDepth 100000

set_option maxHeartbeats 6400000 in
theorem same24_any (u v : Rp) (w : World) (hu : RpOk w u) (hv : RpOk w v) (hx : u.x = v.x) :
    Calls Try.prog 37 #[u.agg, v.agg] w fun e w' => e = .returned (.bool true) ∧ Frm [] w w' := by
  have HU := hid (fun W (hf : Frm [] w W) => hu.kept hf (by simp))
  have HV := hid (fun W (hf : Frm [] w W) => hv.kept hf (by simp))
  have hb1 := hu.lb
  have hb2 := hu.db
  clear hu hv
  obtain ⟨⟨s, id, er, nu, tx, ss, ds⟩, lp, lc, dp, dc⟩ := u
  obtain ⟨x, lq, ld, dq, dd⟩ := v
  simp only at hx hb1 hb2
  subst hx
  unfold Rp.agg
  simp only
  obtain ⟨n, hn⟩ : ∃ q, ss.length = q := ⟨_, rfl⟩
  obtain ⟨m, hm⟩ : ∃ q, ds.length = q := ⟨_, rfl⟩
  have HN := hid hn
  have HM := hid hm
  rw [hn] at hb1 ⊢
  rw [hm] at hb2 ⊢
  clear hn hm
  obtain ⟨bx, hbx⟩ : ∃ q, w.heap.size = q := ⟨_, rfl⟩
  obtain ⟨wa, hwa⟩ : ∃ q, (w.alloc (.cells #[.int .i64 s, .int .i64 id, .int .i64 er, .int .i64 nu, .string tx, .slice lp n lc, .slice dp m dc] 61)).alloc (.cells #[.int .i64 s, .int .i64 id, .int .i64 er, .int .i64 nu, .string tx, .slice lq n ld, .slice dq m dd] 61) = q := ⟨_, rfl⟩
  have hfx : Frm [] w wa := by rw [← hwa]; exact ((Frm.refl _ _).alloc _).alloc _
  have hx : wa.heap[bx]? = some (.cells #[.int .i64 s, .int .i64 id, .int .i64 er, .int .i64 nu, .string tx, .slice lp n lc, .slice dp m dc] 61 (0, 0)) := by
    rw [← hwa]; exact ((Frm.refl [] _).alloc _).heap (heap_alloc_to _ _ hbx) (by simp)
  have hy : wa.heap[bx + 1]? = some (.cells #[.int .i64 s, .int .i64 id, .int .i64 er, .int .i64 nu, .string tx, .slice lq n ld, .slice dq m dd] 61 (0, 0)) := by
    rw [← hwa]; exact heap_alloc_to _ _ (by simp [hbx])
  have HFX := hid hfx
  have HX := hid hx
  have HY := hid hy
  have HWA := hid hwa
  have HBX := hid hbx
  have x0 : wa.cell? ⟨bx, 0, none⟩ = some (.int .i64 s) := by rw [cell_of_row _ _ _ _ _ _ hx]; rfl
  have x1 : wa.cell? ⟨bx, 1, none⟩ = some (.int .i64 id) := by rw [cell_of_row _ _ _ _ _ _ hx]; rfl
  have x2 : wa.cell? ⟨bx, 2, none⟩ = some (.int .i64 er) := by rw [cell_of_row _ _ _ _ _ _ hx]; rfl
  have x3 : wa.cell? ⟨bx, 3, none⟩ = some (.int .i64 nu) := by rw [cell_of_row _ _ _ _ _ _ hx]; rfl
  have x4 : wa.cell? ⟨bx, 4, none⟩ = some (.string tx) := by rw [cell_of_row _ _ _ _ _ _ hx]; rfl
  have x5 : wa.cell? ⟨bx, 5, none⟩ = some (.slice lp n lc) := by rw [cell_of_row _ _ _ _ _ _ hx]; rfl
  have x6 : wa.cell? ⟨bx, 6, none⟩ = some (.slice dp m dc) := by rw [cell_of_row _ _ _ _ _ _ hx]; rfl
  have y0 : wa.cell? ⟨bx + 1, 0, none⟩ = some (.int .i64 s) := by rw [cell_of_row _ _ _ _ _ _ hy]; rfl
  have y1 : wa.cell? ⟨bx + 1, 1, none⟩ = some (.int .i64 id) := by rw [cell_of_row _ _ _ _ _ _ hy]; rfl
  have y2 : wa.cell? ⟨bx + 1, 2, none⟩ = some (.int .i64 er) := by rw [cell_of_row _ _ _ _ _ _ hy]; rfl
  have y3 : wa.cell? ⟨bx + 1, 3, none⟩ = some (.int .i64 nu) := by rw [cell_of_row _ _ _ _ _ _ hy]; rfl
  have y4 : wa.cell? ⟨bx + 1, 4, none⟩ = some (.string tx) := by rw [cell_of_row _ _ _ _ _ _ hy]; rfl
  have y5 : wa.cell? ⟨bx + 1, 5, none⟩ = some (.slice lq n ld) := by rw [cell_of_row _ _ _ _ _ _ hy]; rfl
  have y6 : wa.cell? ⟨bx + 1, 6, none⟩ = some (.slice dq m dd) := by rw [cell_of_row _ _ _ _ _ _ hy]; rfl
  clear hwa hbx hfx hx hy
  go_enter Try.func37, Try.ntmps37
  go_upto_region 1 with fail
  rw [HBX.out, HWA.out]
  clear HWA
  go_wp2_with fail
  go_loopw [5, 4] (fun i s4 wr => ∃ t : Nat, t ≤ n ∧ i = .int .i64 (t : Int) ∧ Hid (Frm [] wa wr)) (fun i _ _ => n - (intOf i).toNat)
  case atStart => exact ⟨0, Nat.zero_le _, rfl, hid (Frm.refl _ _)⟩
  case round =>
    clear x0 x1 x2 x3 x4 x5 x6 y0 y1 y2 y3 y4 y5 y6
    obtain ⟨t, ht, rfl, hin⟩ := hrel
    have hxr := hin.out.heap HX.out (by simp)
    have hyr := hin.out.heap HY.out (by simp)
    have x5 : wr.cell? ⟨bx, 5, none⟩ = some (.slice lp n lc) := by rw [cell_of_row _ _ _ _ _ _ hxr]; rfl
    have x6 : wr.cell? ⟨bx, 6, none⟩ = some (.slice dp m dc) := by rw [cell_of_row _ _ _ _ _ _ hxr]; rfl
    have y5 : wr.cell? ⟨bx + 1, 5, none⟩ = some (.slice lq n ld) := by rw [cell_of_row _ _ _ _ _ _ hyr]; rfl
    have y6 : wr.cell? ⟨bx + 1, 6, none⟩ = some (.slice dq m dd) := by rw [cell_of_row _ _ _ _ _ _ hyr]; rfl
    clear hxr hyr
    by_cases hlt : t < n
    · have t1 : (t : Int) < (n : Int) := by omega
      obtain ⟨c, hc⟩ : ∃ c, ss[t]? = some c := ⟨_, List.getElem?_eq_getElem (by rw [HN.out]; exact hlt)⟩
      have hcs : (strs ss)[t]? = some (.string c) := by unfold strs; rw [List.getElem?_map, hc]; rfl
      have hlu := (HU.out wr (HFX.out.trans hin.out (by simp))).l
      have hlv := (HV.out wr (HFX.out.trans hin.out (by simp))).l
      have hne : strs ss ≠ [] := fun h => by rw [h] at hcs; simp at hcs
      rcases hlu with h | ⟨g, o, hg, hcu⟩
      · exact absurd h hne
      rcases hlv with h | ⟨g', o', hg', hcv⟩
      · exact absurd h hne
      simp only at hg hg'
      subst hg hg'
      have q0 := hcu t _ hcs
      have q1 := hcv t _ hcs
      clear hc hcs hcu hcv hne
      go_upto_region 6 with fail
      go_quiet (fail)
      go_wp2_with fail
      go_roundw
      case rel => exact ⟨t + 1, by omega, by go_num, hid (hin.out.drewN _)⟩
      case measure => simp [intOf]; omega
    · obtain rfl : n = t := by omega
      have HFR := hid (HFX.out.trans hin.out (by simp))
      have hcv1 := cv_any (P := Try.prog) (w := wr) 59 5 9 Try.underlying59 Try.underlying5 Try.underlying9 (n := m) (HU.out wr HFR.out).d dc HM.out
      have hcv2 := cv_any (P := Try.prog) (w := wr) 59 5 9 Try.underlying59 Try.underlying5 Try.underlying9 (n := m) (HV.out wr HFR.out).d dd HM.out
      simp only at hcv1 hcv2
      go_wp2_with fail
      first | go_returns | skip
      exact ⟨by first | rfl | simp, HFR.out⟩
theorem new24_any (w : World) : Calls Try.prog 28 #[] w fun e w' => ∃ b, e = .returned (.pointer (some ⟨b, 0, none⟩)) ∧ TS w' b none zeros9 0 0 0 ∧ Frm [] w w' ∧ w.heap.size ≤ b := by
  go_enter Try.func28, Try.ntmps28
  go_wp2_with fail
  first | go_returns | skip
  refine ⟨w.heap.size, rfl, ⟨rfl, Or.inl ⟨rfl, rfl, heap_alloc_new _ _⟩, fun v hv => ?_, fun v hv => ?_⟩, (Frm.refl _ _).alloc _, Nat.le_refl _⟩
  · have : v = rp0 := by unfold zeros9 at hv; exact (List.mem_replicate.1 hv).2
    subst this
    exact ⟨rp0_ok _, by simp [Rp.B, rp0, blk]⟩
  · have : v = rp0 := by unfold zeros9 at hv; exact (List.mem_replicate.1 hv).2
    subst this
    simp [rp0, rs0]
def pickM (c : Int) (n : Int) : Int := (if c < 0 then -(c + 1) else c) % n
theorem int24 {a c : Int} (h : a = c) : Ending.returned (.int .i64 a) = Ending.returned (.int .i64 c) := by rw [h]
theorem pick24_any (c n : Int) (w : World) (hc : -9223372036854775808 ≤ c ∧ c ≤ 9223372036854775807) (hn : 0 < n ∧ n ≤ 9223372036854775807) :
    Calls Try.prog 29 #[.int .i64 c, .int .i64 n] w fun e w' => e = .returned (.int .i64 (pickM c n)) ∧ w' = w := by
  obtain ⟨hc, hc2⟩ := hc
  obtain ⟨hn, hn2⟩ := hn
  by_cases h : c < 0
  · have e : pickM c n = (-(c + 1)) % n := by unfold pickM; rw [if_pos h]
    have hb : 0 ≤ (-(c + 1)) % n ∧ (-(c + 1)) % n < n := ⟨Int.emod_nonneg _ (by omega), Int.emod_lt_of_pos _ hn⟩
    rw [e]
    have h1 : 0 ≤ -(c + 1) := by omega
    have hnb : (n == 0) = false := by simp; omega
    clear e
    go_enter Try.func29, Try.ntmps29
    go_wp2_with fail
    go_returns
    exact ⟨int24 (by rw [← Int.neg_tmod, Int.tmod_eq_emod_of_nonneg h1]), rfl⟩
  · have e : pickM c n = c % n := by unfold pickM; rw [if_neg h]
    have hb : 0 ≤ c % n ∧ c % n < n := ⟨Int.emod_nonneg _ (by omega), Int.emod_lt_of_pos _ hn⟩
    rw [e]
    have h1 : 0 ≤ c := by omega
    have hnb : (n == 0) = false := by simp; omega
    clear e
    go_enter Try.func29, Try.ntmps29
    go_wp2_with fail
    go_returns
    exact ⟨rfl, rfl⟩
theorem pickM_bd (c n : Int) (hn : 0 < n) : 0 ≤ pickM c n ∧ pickM c n < n := ⟨Int.emod_nonneg _ (by omega), Int.emod_lt_of_pos _ hn⟩
end Go.Proofs.Ytbgochkmplacaaa
