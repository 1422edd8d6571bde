/- A session's table: Keep. -/
import Derived.Test.YtbgochkmplacaaaSsG
import Derived.Deep.RegionHeld3
namespace Go.Proofs.Ytbgochkmplacaaa
open Go.RowKit Go.Lib
set_option maxRecDepth 100000

theorem rowsR_set : ∀ (l : List Rp) (i : Nat) (v : Rp), i < l.length → (((((((rowsR l).set (i * 7) (.int .i64 v.x.s)).set (i * 7 + 1) (.int .i64 v.x.id)).set (i * 7 + 2) (.int .i64 v.x.er)).set (i * 7 + 3) (.int .i64 v.x.nu)).set (i * 7 + 4) (.string v.x.tx)).set (i * 7 + 5) (.slice v.lp v.x.ss.length v.lc)).set (i * 7 + 6) (.slice v.dp v.x.ds.length v.dc) = rowsR (l.set i v)
  | [], i, v, h => by simp at h
  | x :: l, 0, v, _ => by simp [rowsR, Rp.row]
  | x :: l, i + 1, v, h => by
    have ih := rowsR_set l i v (by simpa using h)
    rw [show (i + 1) * 7 = i * 7 + 7 by omega]
    simp [rowsR, Rp.row] at ih ⊢
    exact ih
/-- One place, another reply. -/
theorem TS.put {w : World} {b g k : Nat} {vs : List Rp} {f a r : Int} (h : TS w b (some g) vs f a r) (hk : k < 9) (v : Rp) (hv : RpOk w v) (hB : ∀ i ∈ v.B, i ∉ foot24 b (some g) ∧ i < w.heap.size) (hi : 0 ≤ v.x.id ∧ v.x.id ≤ 1073741824) :
    TS (((((((w.setCell ⟨g, k * 7, none⟩ (.int .i64 v.x.s)).setCell ⟨g, k * 7 + 1, none⟩ (.int .i64 v.x.id)).setCell ⟨g, k * 7 + 2, none⟩ (.int .i64 v.x.er)).setCell ⟨g, k * 7 + 3, none⟩ (.int .i64 v.x.nu)).setCell ⟨g, k * 7 + 4, none⟩ (.string v.x.tx)).setCell ⟨g, k * 7 + 5, none⟩ (.slice v.lp v.x.ss.length v.lc)).setCell ⟨g, k * 7 + 6, none⟩ (.slice v.dp v.x.ds.length v.dc)) b (some g) (vs.set k v) f a r ∧
    Frm [g] w (((((((w.setCell ⟨g, k * 7, none⟩ (.int .i64 v.x.s)).setCell ⟨g, k * 7 + 1, none⟩ (.int .i64 v.x.id)).setCell ⟨g, k * 7 + 2, none⟩ (.int .i64 v.x.er)).setCell ⟨g, k * 7 + 3, none⟩ (.int .i64 v.x.nu)).setCell ⟨g, k * 7 + 4, none⟩ (.string v.x.tx)).setCell ⟨g, k * 7 + 5, none⟩ (.slice v.lp v.x.ss.length v.lc)).setCell ⟨g, k * 7 + 6, none⟩ (.slice v.dp v.x.ds.length v.dc)) := by
  obtain ⟨p1, p2, p3⟩ := h.places
  have h1 := heap_setCell_same w g (k * 7) _ _ (.int .i64 v.x.s) p3
  have h2 := heap_setCell_same _ g (k * 7 + 1) _ _ (.int .i64 v.x.id) h1
  have h3 := heap_setCell_same _ g (k * 7 + 2) _ _ (.int .i64 v.x.er) h2
  have h4 := heap_setCell_same _ g (k * 7 + 3) _ _ (.int .i64 v.x.nu) h3
  have h5 := heap_setCell_same _ g (k * 7 + 4) _ _ (.string v.x.tx) h4
  have h6 := heap_setCell_same _ g (k * 7 + 5) _ _ (.slice v.lp v.x.ss.length v.lc) h5
  have h7 := heap_setCell_same _ g (k * 7 + 6) _ _ (.slice v.dp v.x.ds.length v.dc) h6
  simp only [List.setIfInBounds_toArray] at h7
  rw [rowsR_set vs k v (by rw [h.ln]; exact hk)] at h7
  have hf := (((((((Frm.refl [g] w).setCell ⟨g, k * 7, none⟩ (.int .i64 v.x.s) (by simp)).setCell ⟨g, k * 7 + 1, none⟩ (.int .i64 v.x.id) (by simp)).setCell ⟨g, k * 7 + 2, none⟩ (.int .i64 v.x.er) (by simp)).setCell ⟨g, k * 7 + 3, none⟩ (.int .i64 v.x.nu) (by simp)).setCell ⟨g, k * 7 + 4, none⟩ (.string v.x.tx) (by simp)).setCell ⟨g, k * 7 + 5, none⟩ (.slice v.lp v.x.ss.length v.lc) (by simp)).setCell ⟨g, k * 7 + 6, none⟩ (.slice v.dp v.x.ds.length v.dc) (by simp)
  refine ⟨⟨by rw [List.length_set]; exact h.ln, Or.inr ⟨g, rfl, p1, hf.heap p2 (by simpa using fun e => p1 e.symm), h7⟩, fun u hu => ?_, fun u hu => ?_⟩, hf⟩
  · have hz := hf.size
    rcases List.mem_or_eq_of_mem_set hu with hm | rfl
    · exact ⟨(h.ok u hm).1.kept hf (fun i hi hm2 => by rw [List.mem_singleton] at hm2; exact ((h.ok u hm).2 i hi).1 (by simp [foot24, hm2])), fun i hi => ⟨((h.ok u hm).2 i hi).1, by have := ((h.ok u hm).2 i hi).2; omega⟩⟩
    · exact ⟨hv.kept hf (fun i hi hm2 => by rw [List.mem_singleton] at hm2; exact (hB i hi).1 (by simp [foot24, hm2])), fun i hi => ⟨(hB i hi).1, by have := (hB i hi).2; omega⟩⟩
  · rcases List.mem_or_eq_of_mem_set hu with hm | rfl
    · exact h.ib u hm
    · exact hi
/-- What Keep leaves. -/
def KeepP (w : World) (b : Nat) (pl : Option Nat) (vs : List Rp) (f a r : Int) (x : Rs) (e : Ending) (w' : World) : Prop :=
  ∃ pl' vs', e = .returned (.int .i64 (chk24 vs x.s x.id 1)) ∧ TS w' b pl' vs' (if chk24 vs x.s x.id 1 = 0 then IntKind.i64.wrap (f + 1) else f) a (if chk24 vs x.s x.id 1 ≠ 0 then IntKind.i64.wrap (r + 1) else r) ∧ Frm (foot24 b pl) w w' ∧ Nx w pl pl' ∧
    (chk24 vs x.s x.id 1 ≠ 0 → vs' = vs) ∧ (chk24 vs x.s x.id 1 = 0 → ∃ v', v'.x = x ∧ vs' = vs.set x.s.toNat v' ∧ ∀ k ∈ v'.B, w.heap.size ≤ k)
theorem chk24_zero {vs : List Rp} {s id more : Int} (h : chk24 vs s id more = 0) : (1 ≤ s ∧ s ≤ 8 ∧ 1 ≤ id ∧ id ≤ 1073741824) ∧ last24 vs s + more ≤ id := by
  unfold chk24 at h
  split at h
  · omega
  · rename_i hn
    simp only [Classical.not_not] at hn
    split at h
    · omega
    · exact ⟨hn, by omega⟩
set_option maxHeartbeats 12800000 in
theorem keep_any (b : Nat) (pl : Option Nat) (vs : List Rp) (f a r : Int) (v : Rp) (w : World) (h : TS w b pl vs f a r) (hv : ∀ W, Frm (foot24 b pl) w W → RpOk W v) :
    Calls Try.prog 35 #[.pointer (some ⟨b, 0, none⟩), v.agg] w (KeepP w b pl vs f a r v.x) := by
  have HV := hid hv
  obtain ⟨⟨s, id, er, nu, tx, ss, ds⟩, lp, lc, dp, dc⟩ := v
  obtain ⟨PO, hPO⟩ : ∃ PO : Ending → World → Prop, KeepP w b pl vs f a r ⟨s, id, er, nu, tx, ss, ds⟩ = PO := ⟨_, rfl⟩
  obtain ⟨C, hC⟩ : ∃ q, chk24 vs s id 1 = q := ⟨_, rfl⟩
  have HP1 : Hid (∀ pl' r' w', C ≠ 0 → r' = IntKind.i64.wrap (r + 1) → TS w' b pl' vs f a r' → Frm (foot24 b pl) w w' → Nx w pl pl' → PO (.returned (.int .i64 C)) w') := hid (fun pl' r' w' h1 h2 h3 h4 h5 => by
    rw [← hPO]
    refine ⟨pl', vs, by rw [hC], ?_, h4, h5, fun _ => rfl, fun h => absurd (hC ▸ h) h1⟩
    simp only [hC]
    rw [if_neg h1, if_pos h1, ← h2]
    exact h3)
  have HP2 : Hid (∀ pl' f' v' w', C = 0 → f' = IntKind.i64.wrap (f + 1) → v'.x = ⟨s, id, er, nu, tx, ss, ds⟩ → TS w' b pl' (vs.set s.toNat v') f' a r → Frm (foot24 b pl) w w' → Nx w pl pl' → (∀ k ∈ v'.B, w.heap.size ≤ k) → PO (.returned (.int .i64 0)) w') := hid (fun pl' f' v' w' h1 h2 h0 h3 h4 h5 h6 => by
    rw [← hPO]
    refine ⟨pl', vs.set s.toNat v', by rw [hC, h1], ?_, h4, h5, fun h => absurd (hC.symm ▸ h1) (by simpa using h), fun _ => ⟨v', h0, rfl, h6⟩⟩
    simp only [hC, h1]
    rw [if_pos trivial, if_neg (by simp), ← h2]
    exact h3)
  unfold Rp.agg
  simp only
  rw [hPO]
  obtain ⟨n, hn⟩ : ∃ q, ss.length = q := ⟨_, rfl⟩
  obtain ⟨m, hm⟩ : ∃ q, ds.length = q := ⟨_, rfl⟩
  have HCP := hid (fun W (hf : Frm (foot24 b pl) w W) => copyOf_any ⟨⟨s, id, er, nu, tx, ss, ds⟩, lp, lc, dp, dc⟩ W (hv W hf))
  unfold Rp.agg at HCP
  simp only at HCP
  rw [hn, hm] at HCP ⊢
  obtain ⟨bx, hbx⟩ : ∃ q, w.heap.size = q := ⟨_, rfl⟩
  obtain ⟨w0, hw0⟩ : ∃ q, w.alloc (.cells #[.int .i64 s, .int .i64 id, .int .i64 er, .int .i64 nu, .string tx, .slice lp n lc, .slice dp m dc] 61) = q := ⟨_, rfl⟩
  have hf0 : Frm [] w w0 := by rw [← hw0]; exact (Frm.refl _ _).alloc _
  have hr0 : w0.heap[bx]? = some (.cells #[.int .i64 s, .int .i64 id, .int .i64 er, .int .i64 nu, .string tx, .slice lp n lc, .slice dp m dc] 61 (0, 0)) := by rw [← hw0]; exact heap_alloc_to _ _ hbx
  have HR0 := hid hr0
  have HF0 := hid hf0
  have HW0 := hid hw0
  have HBX := hid hbx
  have HBL : Hid (∀ k ∈ foot24 b pl, k < bx) := hid (by rw [← hbx]; exact h.low)
  have HBV : Hid (∀ v ∈ vs, ∀ k ∈ v.B, k < bx) := hid (by rw [← hbx]; exact fun v hv k hk => ((h.ok v hv).2 k hk).2)
  have HCK := hid (check24_any b pl vs f a r s id 1 w0 (h.k0 hf0) (by omega))
  rw [hC] at HCK
  have HC := hid hC
  have x0 : w0.cell? ⟨bx, 0, none⟩ = some (.int .i64 s) := by rw [cell_of_row _ _ _ _ _ _ hr0]; rfl
  have x1 : w0.cell? ⟨bx, 1, none⟩ = some (.int .i64 id) := by rw [cell_of_row _ _ _ _ _ _ hr0]; rfl
  clear hPO h hv hf0 hw0 hbx hr0 hC hn hm
  go_enter Try.func35, Try.ntmps35
  go_upto_region 1 with fail
  rw [HBX.out, HW0.out]
  clear HW0
  go_wp2_with fail
  refine HCK.out.mono ?_
  rintro e w1 ⟨p1, rfl, ht1, hf1, hx1⟩
  have HT1 := hid ht1
  have HF1 := hid ((HF0.out.mono (by simp)).trans hf1 (fun k hk _ => hk))
  have HX1 : Hid (Nx w pl p1) := hid (by
    rcases hx1 with h | ⟨h, g, h2, h3⟩
    · exact Or.inl h
    · exact Or.inr ⟨h, g, h2, by have := HF0.out.size; omega⟩)
  have HN1 : Hid (bx ∉ foot24 b p1) := hid (fun hm => by
    rcases hx1.foot bx hm with h | h
    · have := HBL.out bx h; omega
    · have := lt_of_heap HR0.out; omega)
  have HR1 := hid (hf1.heap HR0.out (fun hm => by have := HBL.out bx hm; omega))
  clear ht1 hf1 hx1 HCK HR0 x0 x1
  by_cases hC0 : C = 0
  · subst hC0
    obtain ⟨⟨hs1, hs8, hi1, hi2⟩, hlast⟩ := chk24_zero HC.out
    obtain ⟨k, rfl⟩ : ∃ k : Nat, s = k := ⟨s.toNat, by omega⟩
    have HID : Hid (0 ≤ id ∧ id ≤ 1073741824) := hid ⟨by omega, hi2⟩
    clear hi1 hi2 hlast
    have x0 : w1.cell? ⟨bx, 0, none⟩ = some (.int .i64 (k : Int)) := by rw [cell_of_row _ _ _ _ _ _ HR1.out]; rfl
    have x1 : w1.cell? ⟨bx, 1, none⟩ = some (.int .i64 id) := by rw [cell_of_row _ _ _ _ _ _ HR1.out]; rfl
    have x2 : w1.cell? ⟨bx, 2, none⟩ = some (.int .i64 er) := by rw [cell_of_row _ _ _ _ _ _ HR1.out]; rfl
    have x3 : w1.cell? ⟨bx, 3, none⟩ = some (.int .i64 nu) := by rw [cell_of_row _ _ _ _ _ _ HR1.out]; rfl
    have x4 : w1.cell? ⟨bx, 4, none⟩ = some (.string tx) := by rw [cell_of_row _ _ _ _ _ _ HR1.out]; rfl
    have x5 : w1.cell? ⟨bx, 5, none⟩ = some (.slice lp n lc) := by rw [cell_of_row _ _ _ _ _ _ HR1.out]; rfl
    have x6 : w1.cell? ⟨bx, 6, none⟩ = some (.slice dp m dc) := by rw [cell_of_row _ _ _ _ _ _ HR1.out]; rfl
    have HKP := hid (kept_any b p1 vs f a r w1.drew (HT1.out.k0 (Frm.refl [] w1).drew))
    have HFD : Hid (Frm (foot24 b pl) w w1.drew) := hid HF1.out.drew
    have HFK : Hid (∀ W, Frm (foot24 b p1) w1.drew W → Frm (foot24 b pl) w W) := hid (fun W hf => frm24 HFD.out HX1.out hf)
    have HS0 : Hid (World.cell? w1.drew ⟨bx, 0, none⟩ = some (.int .i64 (k : Int)) ∧ World.cell? w1.drew ⟨bx, 1, none⟩ = some (.int .i64 id) ∧ World.cell? w1.drew ⟨bx, 2, none⟩ = some (.int .i64 er) ∧ World.cell? w1.drew ⟨bx, 3, none⟩ = some (.int .i64 nu) ∧ World.cell? w1.drew ⟨bx, 4, none⟩ = some (.string tx) ∧ World.cell? w1.drew ⟨bx, 5, none⟩ = some (.slice lp n lc) ∧ World.cell? w1.drew ⟨bx, 6, none⟩ = some (.slice dp m dc)) := hid ⟨x0, x1, x2, x3, x4, x5, x6⟩
    have HKS : Hid (∀ (T : List Nat) (W W' : World), bx ∉ T → (World.cell? W ⟨bx, 0, none⟩ = some (.int .i64 (k : Int)) ∧ World.cell? W ⟨bx, 1, none⟩ = some (.int .i64 id) ∧ World.cell? W ⟨bx, 2, none⟩ = some (.int .i64 er) ∧ World.cell? W ⟨bx, 3, none⟩ = some (.int .i64 nu) ∧ World.cell? W ⟨bx, 4, none⟩ = some (.string tx) ∧ World.cell? W ⟨bx, 5, none⟩ = some (.slice lp n lc) ∧ World.cell? W ⟨bx, 6, none⟩ = some (.slice dp m dc)) → Frm T W W' → (World.cell? W' ⟨bx, 0, none⟩ = some (.int .i64 (k : Int)) ∧ World.cell? W' ⟨bx, 1, none⟩ = some (.int .i64 id) ∧ World.cell? W' ⟨bx, 2, none⟩ = some (.int .i64 er) ∧ World.cell? W' ⟨bx, 3, none⟩ = some (.int .i64 nu) ∧ World.cell? W' ⟨bx, 4, none⟩ = some (.string tx) ∧ World.cell? W' ⟨bx, 5, none⟩ = some (.slice lp n lc) ∧ World.cell? W' ⟨bx, 6, none⟩ = some (.slice dp m dc))) := hid (fun T W W' hn hs hf => by
      obtain ⟨h0, h1, h2, h3, h4, h5, h6⟩ := hs
      exact ⟨(hf.cell (World.block_lt_of_cell? W _ h0) hn).trans h0, (hf.cell (World.block_lt_of_cell? W _ h1) hn).trans h1, (hf.cell (World.block_lt_of_cell? W _ h2) hn).trans h2, (hf.cell (World.block_lt_of_cell? W _ h3) hn).trans h3, (hf.cell (World.block_lt_of_cell? W _ h4) hn).trans h4, (hf.cell (World.block_lt_of_cell? W _ h5) hn).trans h5, (hf.cell (World.block_lt_of_cell? W _ h6) hn).trans h6⟩)
    have HKS0 : Hid (∀ (W W' : World), (World.cell? W ⟨bx, 0, none⟩ = some (.int .i64 (k : Int)) ∧ World.cell? W ⟨bx, 1, none⟩ = some (.int .i64 id) ∧ World.cell? W ⟨bx, 2, none⟩ = some (.int .i64 er) ∧ World.cell? W ⟨bx, 3, none⟩ = some (.int .i64 nu) ∧ World.cell? W ⟨bx, 4, none⟩ = some (.string tx) ∧ World.cell? W ⟨bx, 5, none⟩ = some (.slice lp n lc) ∧ World.cell? W ⟨bx, 6, none⟩ = some (.slice dp m dc)) → Frm [] W W' → (World.cell? W' ⟨bx, 0, none⟩ = some (.int .i64 (k : Int)) ∧ World.cell? W' ⟨bx, 1, none⟩ = some (.int .i64 id) ∧ World.cell? W' ⟨bx, 2, none⟩ = some (.int .i64 er) ∧ World.cell? W' ⟨bx, 3, none⟩ = some (.int .i64 nu) ∧ World.cell? W' ⟨bx, 4, none⟩ = some (.string tx) ∧ World.cell? W' ⟨bx, 5, none⟩ = some (.slice lp n lc) ∧ World.cell? W' ⟨bx, 6, none⟩ = some (.slice dp m dc))) := hid (fun W W' hs hf => HKS.out [] W W' (by simp) hs hf)
    have HKS1 : Hid (∀ (W' : World), Frm (foot24 b p1) w1.drew W' → (World.cell? W' ⟨bx, 0, none⟩ = some (.int .i64 (k : Int)) ∧ World.cell? W' ⟨bx, 1, none⟩ = some (.int .i64 id) ∧ World.cell? W' ⟨bx, 2, none⟩ = some (.int .i64 er) ∧ World.cell? W' ⟨bx, 3, none⟩ = some (.int .i64 nu) ∧ World.cell? W' ⟨bx, 4, none⟩ = some (.string tx) ∧ World.cell? W' ⟨bx, 5, none⟩ = some (.slice lp n lc) ∧ World.cell? W' ⟨bx, 6, none⟩ = some (.slice dp m dc))) := hid (fun W' hf => HKS.out _ _ W' HN1.out HS0.out hf)
    have hk9 : (k : Int) < 9 := by omega
    have HGX : Hid (∀ g, Nx w1.drew p1 (some g) → bx ≠ g) := hid (fun g hx e => by
      subst e
      rcases hx.foot bx (by simp [foot24]) with h | h
      · exact HN1.out h
      · have h1 := lt_of_heap HR1.out
        have h2 : w1.drew.heap.size = w1.heap.size := rfl
        omega)
    have HKC : Hid (∀ (g : Nat) (W : World) (v0 v1 v2 v3 v4 v5 v6 : Value), bx ≠ g → (World.cell? W ⟨bx, 0, none⟩ = some (.int .i64 (k : Int)) ∧ World.cell? W ⟨bx, 1, none⟩ = some (.int .i64 id) ∧ World.cell? W ⟨bx, 2, none⟩ = some (.int .i64 er) ∧ World.cell? W ⟨bx, 3, none⟩ = some (.int .i64 nu) ∧ World.cell? W ⟨bx, 4, none⟩ = some (.string tx) ∧ World.cell? W ⟨bx, 5, none⟩ = some (.slice lp n lc) ∧ World.cell? W ⟨bx, 6, none⟩ = some (.slice dp m dc)) → (World.cell? ((((((((W.setCell ⟨g, k * 7, none⟩ v0).setCell ⟨g, k * 7 + 1, none⟩ v1).setCell ⟨g, k * 7 + 2, none⟩ v2).setCell ⟨g, k * 7 + 3, none⟩ v3).setCell ⟨g, k * 7 + 4, none⟩ v4).setCell ⟨g, k * 7 + 5, none⟩ v5).setCell ⟨g, k * 7 + 6, none⟩ v6)) ⟨bx, 0, none⟩ = some (.int .i64 (k : Int)) ∧ World.cell? ((((((((W.setCell ⟨g, k * 7, none⟩ v0).setCell ⟨g, k * 7 + 1, none⟩ v1).setCell ⟨g, k * 7 + 2, none⟩ v2).setCell ⟨g, k * 7 + 3, none⟩ v3).setCell ⟨g, k * 7 + 4, none⟩ v4).setCell ⟨g, k * 7 + 5, none⟩ v5).setCell ⟨g, k * 7 + 6, none⟩ v6)) ⟨bx, 1, none⟩ = some (.int .i64 id) ∧ World.cell? ((((((((W.setCell ⟨g, k * 7, none⟩ v0).setCell ⟨g, k * 7 + 1, none⟩ v1).setCell ⟨g, k * 7 + 2, none⟩ v2).setCell ⟨g, k * 7 + 3, none⟩ v3).setCell ⟨g, k * 7 + 4, none⟩ v4).setCell ⟨g, k * 7 + 5, none⟩ v5).setCell ⟨g, k * 7 + 6, none⟩ v6)) ⟨bx, 2, none⟩ = some (.int .i64 er) ∧ World.cell? ((((((((W.setCell ⟨g, k * 7, none⟩ v0).setCell ⟨g, k * 7 + 1, none⟩ v1).setCell ⟨g, k * 7 + 2, none⟩ v2).setCell ⟨g, k * 7 + 3, none⟩ v3).setCell ⟨g, k * 7 + 4, none⟩ v4).setCell ⟨g, k * 7 + 5, none⟩ v5).setCell ⟨g, k * 7 + 6, none⟩ v6)) ⟨bx, 3, none⟩ = some (.int .i64 nu) ∧ World.cell? ((((((((W.setCell ⟨g, k * 7, none⟩ v0).setCell ⟨g, k * 7 + 1, none⟩ v1).setCell ⟨g, k * 7 + 2, none⟩ v2).setCell ⟨g, k * 7 + 3, none⟩ v3).setCell ⟨g, k * 7 + 4, none⟩ v4).setCell ⟨g, k * 7 + 5, none⟩ v5).setCell ⟨g, k * 7 + 6, none⟩ v6)) ⟨bx, 4, none⟩ = some (.string tx) ∧ World.cell? ((((((((W.setCell ⟨g, k * 7, none⟩ v0).setCell ⟨g, k * 7 + 1, none⟩ v1).setCell ⟨g, k * 7 + 2, none⟩ v2).setCell ⟨g, k * 7 + 3, none⟩ v3).setCell ⟨g, k * 7 + 4, none⟩ v4).setCell ⟨g, k * 7 + 5, none⟩ v5).setCell ⟨g, k * 7 + 6, none⟩ v6)) ⟨bx, 5, none⟩ = some (.slice lp n lc) ∧ World.cell? ((((((((W.setCell ⟨g, k * 7, none⟩ v0).setCell ⟨g, k * 7 + 1, none⟩ v1).setCell ⟨g, k * 7 + 2, none⟩ v2).setCell ⟨g, k * 7 + 3, none⟩ v3).setCell ⟨g, k * 7 + 4, none⟩ v4).setCell ⟨g, k * 7 + 5, none⟩ v5).setCell ⟨g, k * 7 + 6, none⟩ v6)) ⟨bx, 6, none⟩ = some (.slice dp m dc))) := hid (fun g W v0 v1 v2 v3 v4 v5 v6 hn hs => by
      refine HKS.out [g] W _ (by simpa using hn) hs ?_
      exact (((((((Frm.refl [g] W).setCell _ _ (by simp)).setCell _ _ (by simp)).setCell _ _ (by simp)).setCell _ _ (by simp)).setCell _ _ (by simp)).setCell _ _ (by simp)).setCell _ _ (by simp))
    have HLN : Hid (k < vs.length ∧ ∀ g, g ∈ foot24 b p1 → g ≠ bx) := hid ⟨by rw [HT1.out.ln]; omega, fun g hg e => HN1.out (e ▸ hg)⟩
    have HRV : Hid (∀ W g, TS W b (some g) vs f a r → ∃ u : Rp, (W.cell? ⟨g, k * 7, none⟩ = some (.int .i64 u.x.s) ∧ W.cell? ⟨g, k * 7 + 1, none⟩ = some (.int .i64 u.x.id) ∧ W.cell? ⟨g, k * 7 + 2, none⟩ = some (.int .i64 u.x.er) ∧ W.cell? ⟨g, k * 7 + 3, none⟩ = some (.int .i64 u.x.nu) ∧ W.cell? ⟨g, k * 7 + 4, none⟩ = some (.string u.x.tx) ∧ W.cell? ⟨g, k * 7 + 5, none⟩ = some (.slice u.lp u.x.ss.length u.lc) ∧ W.cell? ⟨g, k * 7 + 6, none⟩ = some (.slice u.dp u.x.ds.length u.dc)) ∧ ∀ j, W.frozen? ⟨g, j, none⟩ = false) := hid (fun W g ht => by
      obtain ⟨u, hu⟩ : ∃ u, vs[k]? = some u := ⟨_, List.getElem?_eq_getElem HLN.out.1⟩
      exact ⟨u, ⟨ht.at hu 0 _ rfl, ht.at hu 1 _ rfl, ht.at hu 2 _ rfl, ht.at hu 3 _ rfl, ht.at hu 4 _ rfl, ht.at hu 5 _ rfl, ht.at hu 6 _ rfl⟩, fun j => frozen_of_row _ _ _ _ _ ht.places.2.2⟩)
    clear HF1
    go_wp2_with fail
    go_upto_region 5 with fail
    go_region_held3 (fun W : World => W.cell? ⟨bx, 0, none⟩ = some (.int .i64 (k : Int)) ∧ W.cell? ⟨bx, 1, none⟩ = some (.int .i64 id) ∧ W.cell? ⟨bx, 2, none⟩ = some (.int .i64 er) ∧ W.cell? ⟨bx, 3, none⟩ = some (.int .i64 nu) ∧ W.cell? ⟨bx, 4, none⟩ = some (.string tx) ∧ W.cell? ⟨bx, 5, none⟩ = some (.slice lp n lc) ∧ W.cell? ⟨bx, 6, none⟩ = some (.slice dp m dc)) (first | (with_reducible exact HS0.out) | (with_reducible exact HS5.out) | (with_reducible exact HS6.out) | (with_reducible exact HKC.out _ _ _ _ _ _ _ _ _ HG5.out HS6.out)) (first | ((with_reducible refine HKP.out.mono ?_); rintro e w5 ⟨g, rfl, ht5, hf5, hx5⟩; have HT5 := hid ht5; have HS5 := hid (HKS1.out w5 hf5); have HG5 := hid (HGX.out g hx5); have HC5 := hid (HCP.out w5 (HFK.out w5 hf5)); clear ht5) | ((with_reducible refine HC5.out.mono ?_); rintro e w6 ⟨v6, rfl, hx6, hr6, hf6, hb6⟩; have HT6 := hid (HT5.out.k0 hf6); have HS6 := hid (HKS0.out w5 w6 HS5.out hf6); obtain ⟨u, ⟨q0, q1, q2, q3, q4, q5, q6⟩, qz⟩ := HRV.out w6 g HT6.out; have z0 := qz (k * 7); have z1 := qz (k * 7 + 1); have z2 := qz (k * 7 + 2); have z3 := qz (k * 7 + 3); have z4 := qz (k * 7 + 4); have z5 := qz (k * 7 + 5); have z6 := qz (k * 7 + 6)))
    all_goals (
      obtain ⟨xv, lp6, lc6, dp6, dc6⟩ := v6
      simp only at hx6
      subst hx6
      have hF6 : Frm (foot24 b pl) w w6 := frm24 HFD.out HX1.out (hf5.trans hf6 (by simp))
      have hX5 : Nx w pl (some g) := HX1.out.trans HFD.out.size hx5
      obtain ⟨t7, f7⟩ := HT6.out.put (k := k) (by omega) ⟨⟨(k : Int), id, er, nu, tx, ss, ds⟩, lp6, lc6, dp6, dc6⟩ hr6 (fun i hi => ⟨fun hm => by have h1 := (hb6 i hi).1; have h2 := HT5.out.low i hm; omega, (hb6 i hi).2⟩) HID.out
      simp only at t7 f7
      have HT7 := hid t7
      have HF7 := hid (frm24 hF6 hX5 (f7.mono (fun i hi _ => by rw [List.mem_singleton] at hi; simp [foot24, hi])))
      have HX7 := hid hX5
      have HB7 : Hid (∀ i ∈ (⟨⟨(k : Int), id, er, nu, tx, ss, ds⟩, lp6, lc6, dp6, dc6⟩ : Rp).B, w.heap.size ≤ i) := hid (fun i hi => by have h1 := (hb6 i hi).1; have h2 := (frm24 HFD.out HX1.out hf5).size; omega)
      obtain ⟨w7, hw7⟩ : ∃ q, (((((((w6.setCell ⟨g, k * 7, none⟩ (.int .i64 (k : Int))).setCell ⟨g, k * 7 + 1, none⟩ (.int .i64 id)).setCell ⟨g, k * 7 + 2, none⟩ (.int .i64 er)).setCell ⟨g, k * 7 + 3, none⟩ (.int .i64 nu)).setCell ⟨g, k * 7 + 4, none⟩ (.string tx)).setCell ⟨g, k * 7 + 5, none⟩ (.slice lp6 ss.length lc6)).setCell ⟨g, k * 7 + 6, none⟩ (.slice dp6 ds.length dc6)) = q := ⟨_, rfl⟩
      have HW7 := hid hw7
      rw [hw7] at HT7 HF7 t7 ⊢
      obtain ⟨c4, c5, c6, cz⟩ := t7.cells
      have HAD := hid (addI ⟨b, 4, none⟩ f 1 w7 c4 (cz 4))
      obtain ⟨t8, f8⟩ := t7.fresh (IntKind.i64.wrap (f + 1))
      have HT8 := hid t8
      have HF8 := hid (frm24 HF7.out HX7.out (f8.mono (fun k hk _ => by rw [List.mem_singleton] at hk; simp [foot24, hk])))
      clear hF6 hX5 t7 f7 hw7 c4 c5 c6 cz t8 f8 hf5 hf6 hr6 hb6 hx5 q0 q1 q2 q3 q4 q5 q6 z0 z1 z2 z3 z4 z5 z6 qz
      go_wp2_with fail
      refine HAD.out.mono ?_
      rintro e w8 ⟨rfl, rfl⟩
      go_wp2_with fail
      first | go_returns | skip
      exact HP2.out (some g) _ ⟨⟨(k : Int), id, er, nu, tx, ss, ds⟩, lp6, lc6, dp6, dc6⟩ _ (by first | trivial | rfl) rfl rfl (by simpa using HT8.out) HF8.out HX7.out HB7.out)
  · have hb : (C != 0) = true := by simpa using hC0
    obtain ⟨c4, c5, c6, cz⟩ := HT1.out.cells
    have HAD := hid (addI ⟨b, 6, none⟩ r 1 w1 c6 (cz 6))
    obtain ⟨t3, f3⟩ := HT1.out.refused (IntKind.i64.wrap (r + 1))
    have HT3 := hid t3
    have HF3 := hid (frm24 HF1.out HX1.out (f3.mono (fun k hk _ => by rw [List.mem_singleton] at hk; simp [foot24, hk])))
    clear c4 c5 c6 cz t3 f3
    go_wp2_with fail
    refine HAD.out.mono ?_
    rintro e w' ⟨rfl, rfl⟩
    go_wp2_with fail
    first | go_returns | skip
    exact HP1.out p1 _ _ hC0 rfl HT3.out HF3.out HX1.out
end Go.Proofs.Ytbgochkmplacaaa
