/- The law's awake. -/
import Derived.Test.YtbgochkmplacaaaSsI
import Derived.BigQuiet
namespace Go.Proofs.Ytbgochkmplacaaa
open Go.RowKit Go.Lib
set_option maxRecDepth 100000

theorem loadI (p : Addr) (x : Int) (w : World) (hc : w.cell? p = some (.int .i64 x)) :
    Calls Try.prog 52 #[.pointer (some p)] w fun e w' => e = .returned (.int .i64 x) ∧ w' = w := by
  have hl := run_call_load (P := Try.prog) Try.func72 (by kernel_rfl) (by kernel_rfl) (by kernel_rfl) .i64 (by kernel_rfl) hc
  go_enter Try.func52, Try.ntmps52
  go_wp2_with fail
  first | go_returns | skip
  exact ⟨rfl, rfl⟩
set_option maxHeartbeats 3200000 in
theorem counts_any (b : Nat) (pl : Option Nat) (vs : List Rp) (f a r : Int) (w : World) (h : TS w b pl vs f a r) :
    Calls Try.prog 48 #[.pointer (some ⟨b, 0, none⟩)] w fun e w' => e = .returned (.tuple #[.int .i64 f, .int .i64 a, .int .i64 r]) ∧ Frm [] w w' := by
  have H4 := hid (fun k => loadI ⟨b, 4, none⟩ f (w.drewN k) h.cells.1)
  have H5 := hid (fun k => loadI ⟨b, 5, none⟩ a (w.drewN k) h.cells.2.1)
  have H6 := hid (fun k => loadI ⟨b, 6, none⟩ r (w.drewN k) h.cells.2.2.1)
  have HF := hid (fun k => (Frm.refl [] w).drewN k)
  clear h
  go_enter Try.func48, Try.ntmps48
  go_upto_region 1 with fail
  go_quiet ((go_at_call 52; first | (with_reducible exact Calls.quiet_of_same (H4.out _)) | (with_reducible exact Calls.quiet_of_same (H5.out _)) | (with_reducible exact Calls.quiet_of_same (H6.out _))))
  go_wp2_with fail
  first | go_returns | skip
  exact ⟨rfl, HF.out _⟩
/-- A reply without lists. -/
def rpE (s id : Int) (tx : ByteArray) : Rp := ⟨⟨s, id, 0, 0, tx, [], []⟩, none, 0, none, 0⟩
theorem rpE_ok (s id : Int) (tx : ByteArray) (w : World) : RpOk w (rpE s id tx) := ⟨Or.inl rfl, Or.inl rfl, fun _ _ => rfl, fun _ _ => rfl, by simp [rpE], by simp [rpE]⟩
def txA : ByteArray := { data := #[97] }
theorem last_set {v : Rp} (h : v.x = (rpE 1 5 txA).x) : last24 (zeros9.set 1 v) 1 = 5 ∧ (zeros9.set 1 v).getD 1 rp0 = v := by
  have e : (zeros9.set 1 v).getD 1 rp0 = v := rfl
  refine ⟨?_, e⟩
  unfold last24
  rw [if_pos (by omega), show (1 : Int).toNat = 1 from rfl, e, h]
  rfl
theorem look_set {v : Rp} (h : v.x = (rpE 1 5 txA).x) : look24 (zeros9.set 1 v) 1 5 = (v.x, true, 0) ∧ look24 (zeros9.set 1 v) 1 4 = (rs0, false, 241) ∧ chk24 (zeros9.set 1 v) 1 5 1 = 241 ∧ chk24 (zeros9.set 1 v) 9 5 1 = 240 := by
  obtain ⟨h1, h2⟩ := last_set h
  refine ⟨?_, ?_, ?_, ?_⟩
  · unfold look24 chk24
    rw [h1, show (1 : Int).toNat = 1 from rfl, h2]
    simp
  · unfold look24 chk24
    rw [h1]
    simp
  · unfold chk24
    rw [h1]
    simp
  · unfold chk24
    simp
set_option maxHeartbeats 12800000 in
theorem awake24_any (w : World) : Calls Try.prog 27 #[] w fun e w' => e = .returned (.bool true) ∧ Frm [] w w' := by
  have HNW := hid (fun W => new24_any W)
  have HLK := hid (fun b pl vs f a r s id W h => look_any b pl vs f a r s id W h)
  have HKE := hid (fun b pl vs f a r v W h hv => keep_any b pl vs f a r v W h hv)
  go_enter Try.func27, Try.ntmps27
  go_wp2_with fail
  refine (HNW.out _).mono ?_
  rintro e w1 ⟨b, rfl, ht1, hf1, hb1⟩
  have HB : Hid (w.heap.size ≤ b) := hid hb1
  have HF1 := hid hf1
  have HL1 := hid (HLK.out b none zeros9 0 0 0 1 5 w1 ht1)
  rw [show LookP w1 b none zeros9 0 0 0 1 5 = fun e w' => ∃ pl' v, e = .returned (.tuple #[v.agg, .bool false, .int .i64 0]) ∧ v.x = rs0 ∧ RpOk w' v ∧ (∀ k ∈ v.B, w1.heap.size ≤ k ∧ k ∉ foot24 b pl') ∧ TS w' b pl' zeros9 0 0 0 ∧ Frm (foot24 b none) w1 w' ∧ Nx w1 none pl' from rfl] at HL1
  clear hb1 hf1 ht1
  go_wp2_with fail
  refine HL1.out.mono ?_
  rintro e w2 ⟨p2, v2, rfl, _, _, _, ht2, hf2, hn2⟩
  have HT2 := hid (fun o => ht2.k0 ((Frm.refl [] w2).alloc o))
  have HF2 : Hid (∀ o, Frm [] w (w2.alloc o)) := hid (fun o => (HF1.out.trans hf2 (fun k hk hkl => by simp [foot24] at hk; have := HB.out; omega)).alloc o)
  have HN2 : Hid (∀ k ∈ foot24 b p2, w.heap.size ≤ k) := hid (fun k hk => (hn2.foot k hk).elim (fun h => by simp [foot24] at h; have := HB.out; omega) (fun h => by have := HF1.out.size; omega))
  unfold Rp.agg
  clear ht2 hf2 hn2 HL1 HNW HF1
  go_wp2_with fail
  refine (HKE.out b p2 zeros9 0 0 0 (rpE 1 5 txA) _ (HT2.out _) (fun W _ => rpE_ok _ _ _ W)).mono ?_
  rintro e w3 ⟨p3, vs3, rfl, ht3, hf3, hn3, _, h0⟩
  have hck : chk24 zeros9 (rpE 1 5 txA).x.s (rpE 1 5 txA).x.id 1 = 0 := rfl
  rw [hck] at ht3 ⊢
  obtain ⟨v3, hx3, rfl, hb3⟩ := h0 hck
  rw [show (rpE 1 5 txA).x.s.toNat = 1 from rfl] at ht3
  obtain ⟨k1, k2, k3, k4⟩ := look_set hx3
  have HX3 := hid hx3
  have HK1 := hid k1
  have HK2 := hid k2
  have HK3 := hid k3
  have HK4 := hid k4
  obtain ⟨vs, hvs⟩ : ∃ q, zeros9.set 1 v3 = q := ⟨_, rfl⟩
  have HLA := hid (last_set hx3).1
  rw [hvs] at ht3 HK1 HK2 HK3 HK4 HLA
  have HT3 : Hid (TS w3 b p3 vs 1 0 0) := hid ht3
  have HF3 : Hid (Frm [] w w3) := hid ((HF2.out _).trans hf3 (fun k hk hkl => by have := HN2.out k hk; omega))
  have HN3 : Hid (∀ k ∈ foot24 b p3, w.heap.size ≤ k) := hid (fun k hk => (hn3.foot k hk).elim (HN2.out k) (fun h => by have := (HF2.out (.cells #[] 0)).size; simp at this h; omega))
  clear hck h0 hb3 hx3 k1 k2 k3 k4 hvs ht3 hf3 hn3 HT2 HF2 HN2
  have HL3 := hid (HLK.out b p3 vs 1 0 0 1 5 w3 HT3.out)
  unfold LookP at HL3
  rw [HK1.out] at HL3
  go_wp2_with fail
  refine HL3.out.mono ?_
  rintro e w4 ⟨p4, v4, rfl, hx4, _, _, ht4, hf4, hn4⟩
  have HT4 : Hid (∀ o, TS (w4.alloc o) b p4 vs 1 1 0) := hid (fun o => (show TS w4 b p4 vs 1 1 0 from ht4).k0 ((Frm.refl [] w4).alloc o))
  have HF4 : Hid (∀ o, Frm [] w (w4.alloc o)) := hid (fun o => (HF3.out.trans hf4 (fun k hk hkl => by have := HN3.out k hk; omega)).alloc o)
  have HN4 : Hid (∀ k ∈ foot24 b p4, w.heap.size ≤ k) := hid (fun k hk => (hn4.foot k hk).elim (HN3.out k) (fun h => by have := HF3.out.size; omega))
  have HTX : Hid (v4.x.tx = txA) := hid (by rw [hx4]; show v3.x.tx = txA; rw [HX3.out]; rfl)
  have HFT4 : Hid (∀ k ∈ foot24 b p4, k < w4.heap.size) := hid ht4.low
  unfold Rp.agg
  simp only
  clear ht4 hf4 hn4 hx4 HL3 HF3 HT3 HN3
  obtain ⟨bx, hbx⟩ : ∃ q, w4.heap.size = q := ⟨_, rfl⟩
  obtain ⟨w5, hw5⟩ : ∃ q, w4.alloc (.cells #[.int .i64 v4.x.s, .int .i64 v4.x.id, .int .i64 v4.x.er, .int .i64 v4.x.nu, .string v4.x.tx, .slice v4.lp v4.x.ss.length v4.lc, .slice v4.dp v4.x.ds.length v4.dc] 61) = q := ⟨_, rfl⟩
  have HT5 : Hid (TS w5 b p4 vs 1 1 0) := hid (hw5 ▸ HT4.out _)
  have HF5 : Hid (Frm [] w w5) := hid (hw5 ▸ HF4.out _)
  have HR5 : Hid (w5.heap[bx]? = some (.cells #[.int .i64 v4.x.s, .int .i64 v4.x.id, .int .i64 v4.x.er, .int .i64 v4.x.nu, .string v4.x.tx, .slice v4.lp v4.x.ss.length v4.lc, .slice v4.dp v4.x.ds.length v4.dc] 61 (0, 0))) := hid (by rw [← hw5]; exact heap_alloc_to _ _ hbx)
  have HBX : Hid (bx ∉ foot24 b p4) := hid (fun hm => by have := HFT4.out bx hm; omega)
  have HW5 := hid hw5
  have HBB := hid hbx
  have HL5 := hid (HLK.out b p4 vs 1 1 0 1 4 w5 HT5.out)
  unfold LookP at HL5
  rw [HK2.out] at HL5
  clear hw5 hbx HT4 HF4 HFT4
  go_upto_region 7 with fail
  rw [HBB.out, HW5.out]
  clear HW5 HBB
  go_wp2_with fail
  refine HL5.out.mono ?_
  rintro e w6 ⟨p6, v6, rfl, _, _, _, ht6, hf6, hn6⟩
  have HT6 : Hid (∀ o, TS (w6.alloc o) b p6 vs 1 1 1) := hid (fun o => (show TS w6 b p6 vs 1 1 1 from ht6).k0 ((Frm.refl [] w6).alloc o))
  have HF6 : Hid (∀ o, Frm [] w (w6.alloc o)) := hid (fun o => (HF5.out.trans hf6 (fun k hk hkl => by have := HN4.out k hk; omega)).alloc o)
  have HN6 : Hid (∀ k ∈ foot24 b p6, w.heap.size ≤ k) := hid (fun k hk => (hn6.foot k hk).elim (HN4.out k) (fun h => by have := HF5.out.size; omega))
  have HR6 : Hid (∀ o, (w6.alloc o).heap[bx]? = some (.cells #[.int .i64 v4.x.s, .int .i64 v4.x.id, .int .i64 v4.x.er, .int .i64 v4.x.nu, .string v4.x.tx, .slice v4.lp v4.x.ss.length v4.lc, .slice v4.dp v4.x.ds.length v4.dc] 61 (0, 0))) := hid (fun o => ((Frm.refl [] w6).alloc o).heap (hf6.heap HR5.out HBX.out) (by simp))
  have HBX6 : Hid (bx ∉ foot24 b p6) := hid (fun hm => (hn6.foot bx hm).elim HBX.out (fun h => by have := lt_of_heap HR5.out; omega))
  unfold Rp.agg
  simp only
  clear ht6 hf6 hn6 HL5 HT5 HF5 HR5 HN4 HBX
  go_wp2_with fail
  refine (HKE.out b p6 vs 1 1 1 (rpE 1 5 ByteArray.empty) _ (HT6.out _) (fun W _ => rpE_ok _ _ _ W)).mono ?_
  rintro e w7 ⟨p7, vs7, rfl, ht7, hf7, hn7, hsame, _⟩
  have hck : chk24 vs (rpE 1 5 ByteArray.empty).x.s (rpE 1 5 ByteArray.empty).x.id 1 = 241 := HK3.out
  rw [hck] at ht7 hsame ⊢
  obtain rfl : vs7 = vs := hsame (by omega)
  have HT7 : Hid (TS w7 b p7 vs7 1 1 2) := hid ht7
  have HF7 : Hid (Frm [] w w7) := hid ((HF6.out _).trans hf7 (fun k hk hkl => by have := HN6.out k hk; omega))
  have HN7 : Hid (∀ k ∈ foot24 b p7, w.heap.size ≤ k) := hid (fun k hk => (hn7.foot k hk).elim (HN6.out k) (fun h => by have := (HF6.out (.cells #[] 0)).size; simp at this h; omega))
  have HR7 := hid (hf7.heap (HR6.out _) HBX6.out)
  have HBX7 : Hid (bx ∉ foot24 b p7) := hid (fun hm => (hn7.foot bx hm).elim HBX6.out (fun h => by have := lt_of_heap (HR6.out (.cells #[] 0)); simp at this h; omega))
  clear hck hsame ht7 hf7 hn7 HT6 HF6 HN6 HR6 HBX6
  go_wp2_with fail
  refine (HKE.out b p7 vs7 1 1 2 (rpE 9 5 ByteArray.empty) _ HT7.out (fun W _ => rpE_ok _ _ _ W)).mono ?_
  rintro e w8 ⟨p8, vs8, rfl, ht8, hf8, hn8, hsame, _⟩
  have hck : chk24 vs7 (rpE 9 5 ByteArray.empty).x.s (rpE 9 5 ByteArray.empty).x.id 1 = 240 := HK4.out
  rw [hck] at ht8 hsame ⊢
  obtain rfl : vs8 = vs7 := hsame (by omega)
  have HT8 : Hid (TS w8 b p8 vs8 1 1 3) := hid ht8
  have HF8 : Hid (Frm [] w w8) := hid (HF7.out.trans hf8 (fun k hk hkl => by have := HN7.out k hk; omega))
  have HN8 : Hid (∀ k ∈ foot24 b p8, w.heap.size ≤ k) := hid (fun k hk => (hn8.foot k hk).elim (HN7.out k) (fun h => by have := HF7.out.size; omega))
  have HR8 := hid (hf8.heap HR7.out HBX7.out)
  clear hck hsame ht8 hf8 hn8 HT7 HF7 HN7 HR7 HBX7
  go_wp2_with fail
  refine (counts_any b p8 vs8 1 1 3 w8 HT8.out).mono ?_
  rintro e w9 ⟨rfl, hf9⟩
  have HT9 := hid (HT8.out.k0 hf9)
  have HF9 := hid (HF8.out.trans hf9 (by simp))
  have y4 : w9.cell? ⟨bx, 4, none⟩ = some (.string txA) := by rw [cell_of_row _ _ _ _ _ _ (hf9.heap HR8.out (by simp)), ← HTX.out]; rfl
  have HLS := hid (last_any b p8 vs8 1 1 3 1 w9 HT9.out)
  rw [HLA.out] at HLS
  clear hf9 HT8 HF8 HR8
  unfold txA at y4
  go_wp2_with fail
  refine HLS.out.mono ?_
  rintro e w10 ⟨p10, rfl, _, hf10, _⟩
  have HF10 := hid (HF9.out.trans hf10 (fun k hk hkl => by have := HN8.out k hk; omega))
  go_wp2_with fail
  first | go_returns | skip
  exact ⟨rfl, HF10.out⟩
end Go.Proofs.Ytbgochkmplacaaa
