/- A session's table: Clone. -/
import Derived.Test.YtbgochkmplacaaaSsQ
namespace Go.Proofs.Ytbgochkmplacaaa
open Go.RowKit Go.Lib
set_option maxRecDepth 100000

theorem storeI (p : Addr) (x y : Int) (w : World) (hc : w.cell? p = some (.int .i64 x)) (hz : w.frozen? p = false) :
    Calls Try.prog 51 #[.pointer (some p), .int .i64 y] w fun e w' => e = .returned (.tuple #[]) ∧ w' = w.setCell p (.int .i64 y) := by
  have hl := run_call_store (P := Try.prog) Try.func71 (by kernel_rfl) (by kernel_rfl) (by kernel_rfl) (by kernel_rfl) (k := .i64) (y := y) hc hz
  go_enter Try.func51, Try.ntmps51
  go_wp2_with fail
  first | go_returns | skip
  exact ⟨rfl, rfl⟩
/-- What Clone leaves: two tables that keep the same. -/
def CloneP (w : World) (b : Nat) (pl : Option Nat) (vs : List Rp) (f a r : Int) (e : Ending) (w' : World) : Prop :=
  ∃ g bc pc us, e = .returned (.pointer (some ⟨bc, 0, none⟩)) ∧ TS w' b (some g) vs f a r ∧ TS w' bc pc us f a r ∧ (∀ i : Nat, i < 9 → (us.getD i rp0).x = (vs.getD i rp0).x) ∧ Frm (foot24 b pl) w w' ∧ Nx w pl (some g) ∧
    (∀ k ∈ foot24 bc pc, w.heap.size ≤ k ∧ k ∉ foot24 b (some g)) ∧ (∀ u ∈ us, ∀ k ∈ u.B, w.heap.size ≤ k ∧ k ∉ foot24 b (some g))
set_option maxHeartbeats 12800000 in
theorem clone24_any (b : Nat) (pl : Option Nat) (vs : List Rp) (f a r : Int) (w : World) (h : TS w b pl vs f a r) :
    Calls Try.prog 30 #[.pointer (some ⟨b, 0, none⟩)] w (CloneP w b pl vs f a r) := by
  obtain ⟨PO, hPO⟩ : ∃ PO : Ending → World → Prop, CloneP w b pl vs f a r = PO := ⟨_, rfl⟩
  rw [hPO]
  have HP : Hid (∀ g bc pc us w', TS w' b (some g) vs f a r → TS w' bc pc us f a r → (∀ i : Nat, i < 9 → (us.getD i rp0).x = (vs.getD i rp0).x) → Frm (foot24 b pl) w w' → Nx w pl (some g) → (∀ k ∈ foot24 bc pc, w.heap.size ≤ k ∧ k ∉ foot24 b (some g)) → (∀ u ∈ us, ∀ k ∈ u.B, w.heap.size ≤ k ∧ k ∉ foot24 b (some g)) → PO (.returned (.pointer (some ⟨bc, 0, none⟩))) w') := hid (fun g bc pc us w' h1 h2 h3 h4 h5 h6 h7 => by rw [← hPO]; exact ⟨g, bc, pc, us, rfl, h1, h2, h3, h4, h5, h6, h7⟩)
  have H := hid h
  have HNW := hid (new24_any w)
  clear h hPO
  go_enter Try.func30, Try.ntmps30
  go_wp2_with fail
  refine HNW.out.mono ?_
  rintro e w1 ⟨bc, rfl, hc1, hf1, hb1⟩
  have HK := hid (kept_any b pl vs f a r w1 (H.out.k0 hf1))
  have HC1 := hid hc1
  have HF01 := hid hf1
  have HB1 := hid hb1
  clear hc1 hf1 hb1 HNW
  go_wp2_with fail
  refine HK.out.mono ?_
  rintro e w2 ⟨gg, rfl, ht2, hf2, hx2⟩
  have HBL : Hid (∀ k ∈ foot24 b pl, k < w.heap.size) := hid H.out.low
  have HBC : Hid (bc < w1.heap.size) := hid (HC1.out.low bc (by simp [foot24]))
  have HZ1 := hid HF01.out.size
  have HBN : Hid (bc ∉ foot24 b (some gg)) := hid (fun hm => by
    rcases hx2.foot bc hm with h | h
    · have := HBL.out bc h; have := HB1.out; omega
    · have := HBC.out; omega)
  have HBV : Hid (∀ v ∈ vs, bc ∉ v.B) := hid (fun v hv hm => by have := ((H.out.ok v hv).2 bc hm).2; have := HB1.out; omega)
  have HT2 := hid ht2
  have HF2 : Hid (Frm (foot24 b pl) w w2) := hid ((HF01.out.mono (by simp)).trans hf2 (fun k hk _ => hk))
  have HX2 : Hid (Nx w pl (some gg)) := hid (by
    rcases hx2 with h | ⟨h, g, h2, h3⟩
    · exact Or.inl h
    · exact Or.inr ⟨h, g, h2, by have := HZ1.out; omega⟩)
  have HC2 : Hid (TS w2 bc none zeros9 0 0 0) := hid (HC1.out.kept hf2 (fun k hk hm => by simp [foot24] at hk; subst hk; have := HBL.out k hm; have := HB1.out; omega) (fun v hv => by
    have : v = rp0 := by unfold zeros9 at hv; exact (List.mem_replicate.1 hv).2
    subst this; simp [Rp.B, rp0, blk]))
  have HZ2 : Hid (w.heap.size ≤ w2.heap.size ∧ bc < w2.heap.size) := hid ⟨HF2.out.size, HC2.out.low bc (by simp [foot24])⟩
  have HTW : Hid (∀ W, Frm (foot24 bc none) w2 W → TS W b (some gg) vs f a r) := hid (fun W hf => HT2.out.kept hf (fun k hk hm => by simp [foot24] at hm; subst hm; exact HBN.out hk) (fun v hv k hk hm => by simp [foot24] at hm; subst hm; exact HBV.out v hv hk))
  clear ht2 hf2 hx2 HK HC1
  go_wp2_with fail
  go_loopw [10] (fun i wr => ∃ (t : Nat) (pc : Option Nat) (us : List Rp), t ≤ 9 ∧ i = .int .i64 (t : Int) ∧ Hid (TS wr bc pc us 0 0 0 ∧ Frm (foot24 bc none) w2 wr ∧ Nx w2 none pc ∧ (∀ i : Nat, i < t → (us.getD i rp0).x = (vs.getD i rp0).x) ∧ ∀ u ∈ us, ∀ k ∈ u.B, w2.heap.size ≤ k)) (fun i _ => 9 - (intOf i).toNat)
  case atStart => exact ⟨0, none, zeros9, by omega, rfl, hid ⟨HC2.out, Frm.refl _ _, Or.inl rfl, by omega, fun v hv => by
    have : v = rp0 := by unfold zeros9 at hv; exact (List.mem_replicate.1 hv).2
    subst this; simp [Rp.B, rp0, blk]⟩⟩
  case round =>
    clear HC2
    obtain ⟨t, pc, us, ht, rfl, hin⟩ := hrel
    by_cases hlt : t < 9
    · have ht9 : (t : Int) < 9 := by omega
      obtain ⟨v, hv⟩ : ∃ v, vs[t]? = some v := ⟨_, List.getElem?_eq_getElem (by rw [HT2.out.ln]; exact hlt)⟩
      have htr := HTW.out wr hin.out.2.1
      have HVX : Hid ((vs.getD t rp0).x = v.x) := hid (by simp [hv])
      have HOK := hid (fun W (hf : Frm (foot24 bc none) w2 W) => ((HTW.out W hf).ok v (List.mem_of_getElem? hv)).1)
      have HID := hid (HT2.out.ib v (List.mem_of_getElem? hv))
      have HVV := hid hv
      obtain ⟨⟨s, id, er, nu, tx, ss, ds⟩, lp, lc, dp, dc⟩ := v
      have HCP := hid (fun W (hf : Frm (foot24 bc none) w2 W) => copyOf_any ⟨⟨s, id, er, nu, tx, ss, ds⟩, lp, lc, dp, dc⟩ W (HOK.out W hf))
      unfold Rp.agg at HCP
      simp only at HCP HID HVX
      have q0 : wr.cell? ⟨gg, t * 7, none⟩ = some (.int .i64 s) := htr.at hv 0 _ rfl
      have q1 : wr.cell? ⟨gg, t * 7 + 1, none⟩ = some (.int .i64 id) := htr.at hv 1 _ rfl
      have q2 : wr.cell? ⟨gg, t * 7 + 2, none⟩ = some (.int .i64 er) := htr.at hv 2 _ rfl
      have q3 : wr.cell? ⟨gg, t * 7 + 3, none⟩ = some (.int .i64 nu) := htr.at hv 3 _ rfl
      have q4 : wr.cell? ⟨gg, t * 7 + 4, none⟩ = some (.string tx) := htr.at hv 4 _ rfl
      have q5 : wr.cell? ⟨gg, t * 7 + 5, none⟩ = some (.slice lp ss.length lc) := htr.at hv 5 _ rfl
      have q6 : wr.cell? ⟨gg, t * 7 + 6, none⟩ = some (.slice dp ds.length dc) := htr.at hv 6 _ rfl
      obtain ⟨n, hn⟩ : ∃ q, ss.length = q := ⟨_, rfl⟩
      obtain ⟨m, hm⟩ : ∃ q, ds.length = q := ⟨_, rfl⟩
      rw [hn, hm] at HCP
      rw [hn] at q5
      rw [hm] at q6
      have HNM := hid (And.intro hn hm)
      obtain ⟨bx, hbx⟩ : ∃ q, wr.heap.size = q := ⟨_, rfl⟩
      obtain ⟨w3, hw3⟩ : ∃ q, wr.alloc (.cells #[.int .i64 s, .int .i64 id, .int .i64 er, .int .i64 nu, .string tx, .slice lp n lc, .slice dp m dc] 61) = q := ⟨_, rfl⟩
      have h3 : Frm [] wr w3 := by rw [← hw3]; exact (Frm.refl _ _).alloc _
      have HR1 : Hid (w3.heap[bx]? = some (.cells #[.int .i64 s, .int .i64 id, .int .i64 er, .int .i64 nu, .string tx, .slice lp n lc, .slice dp m dc] 61 (0, 0))) := hid (by rw [← hw3]; exact heap_alloc_to _ _ hbx)
      have x0 : w3.cell? ⟨bx, 0, none⟩ = some (.int .i64 s) := by rw [cell_of_row _ _ _ _ _ _ HR1.out]; rfl
      have x1 : w3.cell? ⟨bx, 1, none⟩ = some (.int .i64 id) := by rw [cell_of_row _ _ _ _ _ _ HR1.out]; rfl
      have x2 : w3.cell? ⟨bx, 2, none⟩ = some (.int .i64 er) := by rw [cell_of_row _ _ _ _ _ _ HR1.out]; rfl
      have x3 : w3.cell? ⟨bx, 3, none⟩ = some (.int .i64 nu) := by rw [cell_of_row _ _ _ _ _ _ HR1.out]; rfl
      have x4 : w3.cell? ⟨bx, 4, none⟩ = some (.string tx) := by rw [cell_of_row _ _ _ _ _ _ HR1.out]; rfl
      have x5 : w3.cell? ⟨bx, 5, none⟩ = some (.slice lp n lc) := by rw [cell_of_row _ _ _ _ _ _ HR1.out]; rfl
      have x6 : w3.cell? ⟨bx, 6, none⟩ = some (.slice dp m dc) := by rw [cell_of_row _ _ _ _ _ _ HR1.out]; rfl
      have HT1 := hid (hin.out.1.k0 h3)
      have HF1 := hid (hin.out.2.1.trans h3 (by simp))
      have HX1 := hid hin.out.2.2.1
      have HEQ := hid hin.out.2.2.2
      have HN1 : Hid (bx ∉ foot24 bc pc) := hid (fun hm => by have := hin.out.1.low bx hm; omega)
      have HBX := hid hbx
      have HW3 := hid hw3
      clear hn hm hbx hw3 h3 hin hv htr HOK
      go_upto_region 5 with fail
      rw [HBX.out, HW3.out]
      clear HW3 q0 q1 q2 q3 q4 q5 q6 HBX
      have HKP := hid (kept_any bc pc us 0 0 0 w3.drew (HT1.out.k0 (Frm.refl [] w3).drew))
      have HFD : Hid (Frm (foot24 bc none) w2 w3.drew) := hid HF1.out.drew
      have HFK : Hid (∀ W, Frm (foot24 bc pc) w3.drew W → Frm (foot24 bc none) w2 W) := hid (fun W hf => frm24 HFD.out HX1.out hf)
      have HS0 : Hid (World.cell? w3.drew ⟨bx, 0, none⟩ = some (.int .i64 s) ∧ World.cell? w3.drew ⟨bx, 1, none⟩ = some (.int .i64 id) ∧ World.cell? w3.drew ⟨bx, 2, none⟩ = some (.int .i64 er) ∧ World.cell? w3.drew ⟨bx, 3, none⟩ = some (.int .i64 nu) ∧ World.cell? w3.drew ⟨bx, 4, none⟩ = some (.string tx) ∧ World.cell? w3.drew ⟨bx, 5, none⟩ = some (.slice lp n lc) ∧ World.cell? w3.drew ⟨bx, 6, none⟩ = some (.slice dp m dc)) := hid ⟨x0, x1, x2, x3, x4, x5, x6⟩
      have HKS : Hid (∀ (T : List Nat) (W W' : World), bx ∉ T → (World.cell? W ⟨bx, 0, none⟩ = some (.int .i64 s) ∧ World.cell? W ⟨bx, 1, none⟩ = some (.int .i64 id) ∧ World.cell? W ⟨bx, 2, none⟩ = some (.int .i64 er) ∧ World.cell? W ⟨bx, 3, none⟩ = some (.int .i64 nu) ∧ World.cell? W ⟨bx, 4, none⟩ = some (.string tx) ∧ World.cell? W ⟨bx, 5, none⟩ = some (.slice lp n lc) ∧ World.cell? W ⟨bx, 6, none⟩ = some (.slice dp m dc)) → Frm T W W' → (World.cell? W' ⟨bx, 0, none⟩ = some (.int .i64 s) ∧ World.cell? W' ⟨bx, 1, none⟩ = some (.int .i64 id) ∧ World.cell? W' ⟨bx, 2, none⟩ = some (.int .i64 er) ∧ World.cell? W' ⟨bx, 3, none⟩ = some (.int .i64 nu) ∧ World.cell? W' ⟨bx, 4, none⟩ = some (.string tx) ∧ World.cell? W' ⟨bx, 5, none⟩ = some (.slice lp n lc) ∧ World.cell? W' ⟨bx, 6, none⟩ = some (.slice dp m dc))) := hid (fun T W W' hn hs hf => by
        obtain ⟨h0, h1, h2, h3, h4, h5, h6⟩ := hs
        exact ⟨(hf.cell (World.block_lt_of_cell? W _ h0) hn).trans h0, (hf.cell (World.block_lt_of_cell? W _ h1) hn).trans h1, (hf.cell (World.block_lt_of_cell? W _ h2) hn).trans h2, (hf.cell (World.block_lt_of_cell? W _ h3) hn).trans h3, (hf.cell (World.block_lt_of_cell? W _ h4) hn).trans h4, (hf.cell (World.block_lt_of_cell? W _ h5) hn).trans h5, (hf.cell (World.block_lt_of_cell? W _ h6) hn).trans h6⟩)
      have HKS0 : Hid (∀ (W W' : World), (World.cell? W ⟨bx, 0, none⟩ = some (.int .i64 s) ∧ World.cell? W ⟨bx, 1, none⟩ = some (.int .i64 id) ∧ World.cell? W ⟨bx, 2, none⟩ = some (.int .i64 er) ∧ World.cell? W ⟨bx, 3, none⟩ = some (.int .i64 nu) ∧ World.cell? W ⟨bx, 4, none⟩ = some (.string tx) ∧ World.cell? W ⟨bx, 5, none⟩ = some (.slice lp n lc) ∧ World.cell? W ⟨bx, 6, none⟩ = some (.slice dp m dc)) → Frm [] W W' → (World.cell? W' ⟨bx, 0, none⟩ = some (.int .i64 s) ∧ World.cell? W' ⟨bx, 1, none⟩ = some (.int .i64 id) ∧ World.cell? W' ⟨bx, 2, none⟩ = some (.int .i64 er) ∧ World.cell? W' ⟨bx, 3, none⟩ = some (.int .i64 nu) ∧ World.cell? W' ⟨bx, 4, none⟩ = some (.string tx) ∧ World.cell? W' ⟨bx, 5, none⟩ = some (.slice lp n lc) ∧ World.cell? W' ⟨bx, 6, none⟩ = some (.slice dp m dc))) := hid (fun W W' hs hf => HKS.out [] W W' (by simp) hs hf)
      have HKS1 : Hid (∀ (W' : World), Frm (foot24 bc pc) w3.drew W' → (World.cell? W' ⟨bx, 0, none⟩ = some (.int .i64 s) ∧ World.cell? W' ⟨bx, 1, none⟩ = some (.int .i64 id) ∧ World.cell? W' ⟨bx, 2, none⟩ = some (.int .i64 er) ∧ World.cell? W' ⟨bx, 3, none⟩ = some (.int .i64 nu) ∧ World.cell? W' ⟨bx, 4, none⟩ = some (.string tx) ∧ World.cell? W' ⟨bx, 5, none⟩ = some (.slice lp n lc) ∧ World.cell? W' ⟨bx, 6, none⟩ = some (.slice dp m dc))) := hid (fun W' hf => HKS.out _ _ W' HN1.out HS0.out hf)
      have HGX : Hid (∀ g, Nx w3.drew pc (some g) → bx ≠ g) := hid (fun g hx e => by
        subst e
        rcases hx.foot bx (by simp [foot24]) with h | h
        · exact HN1.out h
        · have h1 := lt_of_heap HR1.out
          have h2 : w3.drew.heap.size = w3.heap.size := rfl
          omega)
      have HKC : Hid (∀ (g : Nat) (W : World) (v0 v1 v2 v3 v4 v5 v6 : Value), bx ≠ g → (World.cell? W ⟨bx, 0, none⟩ = some (.int .i64 s) ∧ World.cell? W ⟨bx, 1, none⟩ = some (.int .i64 id) ∧ World.cell? W ⟨bx, 2, none⟩ = some (.int .i64 er) ∧ World.cell? W ⟨bx, 3, none⟩ = some (.int .i64 nu) ∧ World.cell? W ⟨bx, 4, none⟩ = some (.string tx) ∧ World.cell? W ⟨bx, 5, none⟩ = some (.slice lp n lc) ∧ World.cell? W ⟨bx, 6, none⟩ = some (.slice dp m dc)) → (World.cell? ((((((((W.setCell ⟨g, t * 7, none⟩ v0).setCell ⟨g, t * 7 + 1, none⟩ v1).setCell ⟨g, t * 7 + 2, none⟩ v2).setCell ⟨g, t * 7 + 3, none⟩ v3).setCell ⟨g, t * 7 + 4, none⟩ v4).setCell ⟨g, t * 7 + 5, none⟩ v5).setCell ⟨g, t * 7 + 6, none⟩ v6)) ⟨bx, 0, none⟩ = some (.int .i64 s) ∧ World.cell? ((((((((W.setCell ⟨g, t * 7, none⟩ v0).setCell ⟨g, t * 7 + 1, none⟩ v1).setCell ⟨g, t * 7 + 2, none⟩ v2).setCell ⟨g, t * 7 + 3, none⟩ v3).setCell ⟨g, t * 7 + 4, none⟩ v4).setCell ⟨g, t * 7 + 5, none⟩ v5).setCell ⟨g, t * 7 + 6, none⟩ v6)) ⟨bx, 1, none⟩ = some (.int .i64 id) ∧ World.cell? ((((((((W.setCell ⟨g, t * 7, none⟩ v0).setCell ⟨g, t * 7 + 1, none⟩ v1).setCell ⟨g, t * 7 + 2, none⟩ v2).setCell ⟨g, t * 7 + 3, none⟩ v3).setCell ⟨g, t * 7 + 4, none⟩ v4).setCell ⟨g, t * 7 + 5, none⟩ v5).setCell ⟨g, t * 7 + 6, none⟩ v6)) ⟨bx, 2, none⟩ = some (.int .i64 er) ∧ World.cell? ((((((((W.setCell ⟨g, t * 7, none⟩ v0).setCell ⟨g, t * 7 + 1, none⟩ v1).setCell ⟨g, t * 7 + 2, none⟩ v2).setCell ⟨g, t * 7 + 3, none⟩ v3).setCell ⟨g, t * 7 + 4, none⟩ v4).setCell ⟨g, t * 7 + 5, none⟩ v5).setCell ⟨g, t * 7 + 6, none⟩ v6)) ⟨bx, 3, none⟩ = some (.int .i64 nu) ∧ World.cell? ((((((((W.setCell ⟨g, t * 7, none⟩ v0).setCell ⟨g, t * 7 + 1, none⟩ v1).setCell ⟨g, t * 7 + 2, none⟩ v2).setCell ⟨g, t * 7 + 3, none⟩ v3).setCell ⟨g, t * 7 + 4, none⟩ v4).setCell ⟨g, t * 7 + 5, none⟩ v5).setCell ⟨g, t * 7 + 6, none⟩ v6)) ⟨bx, 4, none⟩ = some (.string tx) ∧ World.cell? ((((((((W.setCell ⟨g, t * 7, none⟩ v0).setCell ⟨g, t * 7 + 1, none⟩ v1).setCell ⟨g, t * 7 + 2, none⟩ v2).setCell ⟨g, t * 7 + 3, none⟩ v3).setCell ⟨g, t * 7 + 4, none⟩ v4).setCell ⟨g, t * 7 + 5, none⟩ v5).setCell ⟨g, t * 7 + 6, none⟩ v6)) ⟨bx, 5, none⟩ = some (.slice lp n lc) ∧ World.cell? ((((((((W.setCell ⟨g, t * 7, none⟩ v0).setCell ⟨g, t * 7 + 1, none⟩ v1).setCell ⟨g, t * 7 + 2, none⟩ v2).setCell ⟨g, t * 7 + 3, none⟩ v3).setCell ⟨g, t * 7 + 4, none⟩ v4).setCell ⟨g, t * 7 + 5, none⟩ v5).setCell ⟨g, t * 7 + 6, none⟩ v6)) ⟨bx, 6, none⟩ = some (.slice dp m dc))) := hid (fun g W v0 v1 v2 v3 v4 v5 v6 hn hs => by
        refine HKS.out [g] W _ (by simpa using hn) hs ?_
        exact (((((((Frm.refl [g] W).setCell _ _ (by simp)).setCell _ _ (by simp)).setCell _ _ (by simp)).setCell _ _ (by simp)).setCell _ _ (by simp)).setCell _ _ (by simp)).setCell _ _ (by simp))
      have HLN : Hid (t < us.length) := hid (by rw [HT1.out.ln]; omega)
      have HRV : Hid (∀ W g, TS W bc (some g) us 0 0 0 → ∃ u : Rp, (W.cell? ⟨g, t * 7, none⟩ = some (.int .i64 u.x.s) ∧ W.cell? ⟨g, t * 7 + 1, none⟩ = some (.int .i64 u.x.id) ∧ W.cell? ⟨g, t * 7 + 2, none⟩ = some (.int .i64 u.x.er) ∧ W.cell? ⟨g, t * 7 + 3, none⟩ = some (.int .i64 u.x.nu) ∧ W.cell? ⟨g, t * 7 + 4, none⟩ = some (.string u.x.tx) ∧ W.cell? ⟨g, t * 7 + 5, none⟩ = some (.slice u.lp u.x.ss.length u.lc) ∧ W.cell? ⟨g, t * 7 + 6, none⟩ = some (.slice u.dp u.x.ds.length u.dc)) ∧ ∀ j, W.frozen? ⟨g, j, none⟩ = false) := hid (fun W g ht => by
        obtain ⟨u, hu⟩ : ∃ u, us[t]? = some u := ⟨_, List.getElem?_eq_getElem HLN.out⟩
        exact ⟨u, ⟨ht.at hu 0 _ rfl, ht.at hu 1 _ rfl, ht.at hu 2 _ rfl, ht.at hu 3 _ rfl, ht.at hu 4 _ rfl, ht.at hu 5 _ rfl, ht.at hu 6 _ rfl⟩, fun j => frozen_of_row _ _ _ _ _ ht.places.2.2⟩)
      clear HF1
      go_region_held3 (fun W : World => W.cell? ⟨bx, 0, none⟩ = some (.int .i64 s) ∧ W.cell? ⟨bx, 1, none⟩ = some (.int .i64 id) ∧ W.cell? ⟨bx, 2, none⟩ = some (.int .i64 er) ∧ W.cell? ⟨bx, 3, none⟩ = some (.int .i64 nu) ∧ W.cell? ⟨bx, 4, none⟩ = some (.string tx) ∧ W.cell? ⟨bx, 5, none⟩ = some (.slice lp n lc) ∧ W.cell? ⟨bx, 6, none⟩ = some (.slice dp m dc)) (first | (with_reducible exact HS0.out) | (with_reducible exact HS5.out) | (with_reducible exact HS6.out) | (with_reducible exact HKC.out _ _ _ _ _ _ _ _ _ HG5.out HS6.out)) (first | ((with_reducible refine HKP.out.mono ?_); rintro e w5 ⟨g, rfl, ht5, hf5, hx5⟩; have HT5 := hid ht5; have HS5 := hid (HKS1.out w5 hf5); have HG5 := hid (HGX.out g hx5); have HC5 := hid (HCP.out w5 (HFK.out w5 hf5)); clear ht5) | ((with_reducible refine HC5.out.mono ?_); rintro e w6 ⟨v6, rfl, hx6, hr6, hf6, hb6⟩; have HT6 := hid (HT5.out.k0 hf6); have HS6 := hid (HKS0.out w5 w6 HS5.out hf6); obtain ⟨u, ⟨q0, q1, q2, q3, q4, q5, q6⟩, qz⟩ := HRV.out w6 g HT6.out; have z0 := qz (t * 7); have z1 := qz (t * 7 + 1); have z2 := qz (t * 7 + 2); have z3 := qz (t * 7 + 3); have z4 := qz (t * 7 + 4); have z5 := qz (t * 7 + 5); have z6 := qz (t * 7 + 6)))
      all_goals (
        obtain ⟨xv, lp6, lc6, dp6, dc6⟩ := v6
        simp only at hx6
        subst hx6
        have hF6 : Frm (foot24 bc none) w2 w6 := frm24 HFD.out HX1.out (hf5.trans hf6 (by simp))
        have hX5 : Nx w2 none (some g) := HX1.out.trans HFD.out.size hx5
        obtain ⟨t7, f7⟩ := HT6.out.put (k := t) hlt ⟨⟨s, id, er, nu, tx, ss, ds⟩, lp6, lc6, dp6, dc6⟩ hr6 (fun i hi => ⟨fun hm => by have h1 := (hb6 i hi).1; have h2 := HT5.out.low i hm; omega, (hb6 i hi).2⟩) HID.out
        simp only at t7 f7
        have HIN7 : Hid (TS (((((((w6.setCell ⟨g, t * 7, none⟩ (.int .i64 s)).setCell ⟨g, t * 7 + 1, none⟩ (.int .i64 id)).setCell ⟨g, t * 7 + 2, none⟩ (.int .i64 er)).setCell ⟨g, t * 7 + 3, none⟩ (.int .i64 nu)).setCell ⟨g, t * 7 + 4, none⟩ (.string tx)).setCell ⟨g, t * 7 + 5, none⟩ (.slice lp6 ss.length lc6)).setCell ⟨g, t * 7 + 6, none⟩ (.slice dp6 ds.length dc6)) bc (some g) (us.set t ⟨⟨s, id, er, nu, tx, ss, ds⟩, lp6, lc6, dp6, dc6⟩) 0 0 0 ∧ Frm (foot24 bc none) w2 (((((((w6.setCell ⟨g, t * 7, none⟩ (.int .i64 s)).setCell ⟨g, t * 7 + 1, none⟩ (.int .i64 id)).setCell ⟨g, t * 7 + 2, none⟩ (.int .i64 er)).setCell ⟨g, t * 7 + 3, none⟩ (.int .i64 nu)).setCell ⟨g, t * 7 + 4, none⟩ (.string tx)).setCell ⟨g, t * 7 + 5, none⟩ (.slice lp6 ss.length lc6)).setCell ⟨g, t * 7 + 6, none⟩ (.slice dp6 ds.length dc6)) ∧ Nx w2 none (some g) ∧ (∀ i : Nat, i < t + 1 → ((us.set t (⟨⟨s, id, er, nu, tx, ss, ds⟩, lp6, lc6, dp6, dc6⟩ : Rp)).getD i rp0).x = (vs.getD i rp0).x) ∧ ∀ u ∈ us.set t (⟨⟨s, id, er, nu, tx, ss, ds⟩, lp6, lc6, dp6, dc6⟩ : Rp), ∀ k ∈ u.B, w2.heap.size ≤ k) := hid (by
          refine ⟨t7, frm24 hF6 hX5 (f7.mono (fun i hi _ => by rw [List.mem_singleton] at hi; simp [foot24, hi])), hX5, fun i hi => ?_, fun u hu k hk => ?_⟩
          · rw [set_at HT1.out.ln hlt]
            by_cases e : t = i
            · subst e; rw [if_pos rfl, HVX.out]
            · rw [if_neg e]; exact HEQ.out.1 i (by omega)
          · rcases List.mem_or_eq_of_mem_set hu with h | rfl
            · exact HEQ.out.2 u h k hk
            · have h1 := (hb6 k hk).1; have h2 := (frm24 HFD.out HX1.out hf5).size; omega)
        obtain ⟨w7, hw7⟩ : ∃ q, (((((((w6.setCell ⟨g, t * 7, none⟩ (.int .i64 s)).setCell ⟨g, t * 7 + 1, none⟩ (.int .i64 id)).setCell ⟨g, t * 7 + 2, none⟩ (.int .i64 er)).setCell ⟨g, t * 7 + 3, none⟩ (.int .i64 nu)).setCell ⟨g, t * 7 + 4, none⟩ (.string tx)).setCell ⟨g, t * 7 + 5, none⟩ (.slice lp6 ss.length lc6)).setCell ⟨g, t * 7 + 6, none⟩ (.slice dp6 ds.length dc6)) = q := ⟨_, rfl⟩
        rw [hw7] at HIN7 ⊢
        clear hF6 hX5 t7 f7 hw7 hf5 hf6 hr6 hb6 hx5 q0 q1 q2 q3 q4 q5 q6 z0 z1 z2 z3 z4 z5 z6 qz
        go_wp2_with fail
        go_roundw
        case rel => exact ⟨t + 1, some g, _, by omega, by go_num, HIN7⟩
        case measure => first | (simp [intOf]; done) | (simp [intOf]; omega))
    · obtain rfl : t = 9 := by omega
      have HRD := hid hin.out
      have HA7 := hid hin.out.1
      have HF7 := hid hin.out.2.1
      have HL0 := hid (loadI ⟨b, 4, none⟩ f wr.drew (HTW.out wr.drew HF7.out.drew).cells.1)
      have HU0 := hid (storeI ⟨bc, 4, none⟩ 0 f wr.drew (HA7.out.k0 (Frm.refl [] wr).drew).cells.1 ((HA7.out.k0 (Frm.refl [] wr).drew).cells.2.2.2 4))
      have HD0 := hid ((HA7.out.k0 (Frm.refl [] wr).drew).fresh f)
      have HE0 := hid (HF7.out.drew.trans HD0.out.2 (fun k hk _ => by rw [List.mem_singleton] at hk; simp [foot24, hk]))
      go_upto_region 7 with fail
      go_region_held3 (fun _ : World => True) (first | trivial) (first | ((with_reducible refine HL0.out.mono ?_); rintro e w' ⟨rfl, rfl⟩) | ((with_reducible refine HU0.out.mono ?_); rintro e w' ⟨rfl, rfl⟩))
      obtain ⟨wx0, hwx0⟩ : ∃ q, wr.drew.setCell ⟨bc, 4, none⟩ (.int .i64 f) = q := ⟨_, rfl⟩
      rw [hwx0] at HD0 HE0
      rw [show (wr.setCell ⟨bc, 4, none⟩ (.int .i64 f)).drew = wx0 from hwx0]
      have HA8 := hid HD0.out.1
      have HF8 := hid HE0.out
      clear HL0 HU0 HD0 HE0 hwx0
      have HL1 := hid (loadI ⟨b, 5, none⟩ a wx0.drew (HTW.out wx0.drew HF8.out.drew).cells.2.1)
      have HU1 := hid (storeI ⟨bc, 5, none⟩ 0 a wx0.drew (HA8.out.k0 (Frm.refl [] wx0).drew).cells.2.1 ((HA8.out.k0 (Frm.refl [] wx0).drew).cells.2.2.2 5))
      have HD1 := hid ((HA8.out.k0 (Frm.refl [] wx0).drew).again a)
      have HE1 := hid (HF8.out.drew.trans HD1.out.2 (fun k hk _ => by rw [List.mem_singleton] at hk; simp [foot24, hk]))
      go_upto_region 8 with fail
      go_region_held3 (fun _ : World => True) (first | trivial) (first | ((with_reducible refine HL1.out.mono ?_); rintro e w' ⟨rfl, rfl⟩) | ((with_reducible refine HU1.out.mono ?_); rintro e w' ⟨rfl, rfl⟩))
      obtain ⟨wx1, hwx1⟩ : ∃ q, wx0.drew.setCell ⟨bc, 5, none⟩ (.int .i64 a) = q := ⟨_, rfl⟩
      rw [hwx1] at HD1 HE1
      rw [show (wx0.setCell ⟨bc, 5, none⟩ (.int .i64 a)).drew = wx1 from hwx1]
      have HA9 := hid HD1.out.1
      have HF9 := hid HE1.out
      clear HL1 HU1 HD1 HE1 hwx1
      have HL2 := hid (loadI ⟨b, 6, none⟩ r wx1.drew (HTW.out wx1.drew HF9.out.drew).cells.2.2.1)
      have HU2 := hid (storeI ⟨bc, 6, none⟩ 0 r wx1.drew (HA9.out.k0 (Frm.refl [] wx1).drew).cells.2.2.1 ((HA9.out.k0 (Frm.refl [] wx1).drew).cells.2.2.2 6))
      have HD2 := hid ((HA9.out.k0 (Frm.refl [] wx1).drew).refused r)
      have HE2 := hid (HF9.out.drew.trans HD2.out.2 (fun k hk _ => by rw [List.mem_singleton] at hk; simp [foot24, hk]))
      go_upto_region 9 with fail
      go_region_held3 (fun _ : World => True) (first | trivial) (first | ((with_reducible refine HL2.out.mono ?_); rintro e w' ⟨rfl, rfl⟩) | ((with_reducible refine HU2.out.mono ?_); rintro e w' ⟨rfl, rfl⟩))
      obtain ⟨wx2, hwx2⟩ : ∃ q, wx1.drew.setCell ⟨bc, 6, none⟩ (.int .i64 r) = q := ⟨_, rfl⟩
      rw [hwx2] at HD2 HE2
      rw [show (wx1.setCell ⟨bc, 6, none⟩ (.int .i64 r)).drew = wx2 from hwx2]
      have HA10 := hid HD2.out.1
      have HF10 := hid HE2.out
      clear HL2 HU2 HD2 HE2 hwx2
      go_wp2_with fail
      first | go_returns | skip
      exact HP.out gg bc pc us wx2 (HTW.out wx2 HF10.out) HA10.out HRD.out.2.2.2.1 (HF2.out.trans HF10.out (fun k hk hkl => by simp [foot24] at hk; subst hk; have := HB1.out; omega)) HX2.out (fun k hk => by
        rcases HRD.out.2.2.1.foot k hk with h | h
        · simp [foot24] at h; subst h; exact ⟨HB1.out, HBN.out⟩
        · exact ⟨by have := HZ2.out.1; omega, fun hm => by have := HT2.out.low k hm; omega⟩) (fun u hu k hk => by
        have h := HRD.out.2.2.2.2 u hu k hk
        exact ⟨by have := HZ2.out.1; omega, fun hm => by have := HT2.out.low k hm; omega⟩)
end Go.Proofs.Ytbgochkmplacaaa
