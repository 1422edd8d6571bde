/- A session's table: Look. -/
import Derived.Test.YtbgochkmplacaaaSsF
namespace Go.Proofs.Ytbgochkmplacaaa
open Go.RowKit Go.Lib
set_option maxRecDepth 100000

/-- What Look tells: what the reply says, whether there is one, why not. -/
def look24 (vs : List Rp) (s id : Int) : Rs × Bool × Int := if chk24 vs s id 0 ≠ 0 then (rs0, false, chk24 vs s id 0) else if last24 vs s < id then (rs0, false, 0) else ((vs.getD s.toNat rp0).x, true, 0)
/-- What Look leaves. -/
def LookP (w : World) (b : Nat) (pl : Option Nat) (vs : List Rp) (f a r s id : Int) (e : Ending) (w' : World) : Prop :=
  ∃ pl' v, e = .returned (.tuple #[v.agg, .bool (look24 vs s id).2.1, .int .i64 (look24 vs s id).2.2]) ∧ v.x = (look24 vs s id).1 ∧ RpOk w' v ∧ (∀ k ∈ v.B, w.heap.size ≤ k ∧ k ∉ foot24 b pl') ∧
    TS w' b pl' vs f (if (look24 vs s id).2.1 then IntKind.i64.wrap (a + 1) else a) (if (look24 vs s id).2.2 ≠ 0 then IntKind.i64.wrap (r + 1) else r) ∧ Frm (foot24 b pl) w w' ∧ Nx w pl pl'
/-- As LookP, and the reply's lists are its own. -/
def LookO (w : World) (b : Nat) (pl : Option Nat) (vs : List Rp) (f a r s id : Int) (e : Ending) (w' : World) : Prop :=
  ∃ pl' v, e = .returned (.tuple #[v.agg, .bool (look24 vs s id).2.1, .int .i64 (look24 vs s id).2.2]) ∧ v.x = (look24 vs s id).1 ∧ RpOk w' v ∧ (∀ k ∈ v.B, w.heap.size ≤ k ∧ k ∉ foot24 b pl') ∧
    TS w' b pl' vs f (if (look24 vs s id).2.1 then IntKind.i64.wrap (a + 1) else a) (if (look24 vs s id).2.2 ≠ 0 then IntKind.i64.wrap (r + 1) else r) ∧ Frm (foot24 b pl) w w' ∧ Nx w pl pl' ∧ RpOwn w' v
set_option maxHeartbeats 12800000 in
theorem lookO_any (b : Nat) (pl : Option Nat) (vs : List Rp) (f a r s id : Int) (w : World) (h : TS w b pl vs f a r) :
    Calls Try.prog 34 #[.pointer (some ⟨b, 0, none⟩), .int .i64 s, .int .i64 id] w (LookO w b pl vs f a r s id) := by
  obtain ⟨PO, hPO⟩ : ∃ PO : Ending → World → Prop, LookO w b pl vs f a r s id = PO := ⟨_, rfl⟩
  rw [hPO]
  have HP : Hid (∀ pl' (v : Rp) is E a' r' w', look24 vs s id = (v.x, is, E) → a' = (if is then IntKind.i64.wrap (a + 1) else a) → r' = (if E ≠ 0 then IntKind.i64.wrap (r + 1) else r) → RpOk w' v → (∀ k ∈ v.B, w.heap.size ≤ k ∧ k ∉ foot24 b pl') → TS w' b pl' vs f a' r' → Frm (foot24 b pl) w w' → Nx w pl pl' → RpOwn w' v → PO (.returned (.tuple #[v.agg, .bool is, .int .i64 E])) w') := hid (fun pl' v is E a' r' w' h1 h2 h3 h4 h5 h6 h7 h8 h9 => by
    rw [← hPO]
    refine ⟨pl', v, ?_, ?_, h4, h5, ?_, h7, h8, h9⟩
    · rw [h1]
    · rw [h1]
    · rw [h1, ← h2, ← h3]; exact h6)
  have hbl : b < w.heap.size := h.low b (by simp [foot24])
  obtain ⟨rb, hrb⟩ : ∃ q, w.heap.size = q := ⟨_, rfl⟩
  obtain ⟨w0, hw0⟩ : ∃ q, w.alloc (.cells #[.int .i64 0, .int .i64 0, .int .i64 0, .int .i64 0, .string { data := #[] }, .slice none 0 0, .slice none 0 0] 61) = q := ⟨_, rfl⟩
  have hf0 : Frm [] w w0 := by rw [← hw0]; exact (Frm.refl _ _).alloc _
  have hr0 : w0.heap[rb]? = some (.cells #[.int .i64 0, .int .i64 0, .int .i64 0, .int .i64 0, .string { data := #[] }, .slice none 0 0, .slice none 0 0] 61 (0, 0)) := by rw [← hw0]; exact heap_alloc_to _ _ hrb
  have HR0 := hid hr0
  have HF0 := hid hf0
  have HW0 := hid hw0
  have HRB := hid hrb
  have HBL : Hid (∀ k ∈ foot24 b pl, k < rb) := hid (by rw [← hrb]; exact h.low)
  have HBV : Hid (∀ v ∈ vs, ∀ k ∈ v.B, k < rb) := hid (by rw [← hrb]; exact fun v hv k hk => ((h.ok v hv).2 k hk).2)
  have HCK := hid (check24_any b pl vs f a r s id 0 w0 (h.k0 hf0) (by omega))
  obtain ⟨C, hC⟩ : ∃ q, chk24 vs s id 0 = q := ⟨_, rfl⟩
  have HC := hid hC
  rw [hC] at HCK
  clear hPO h hf0 hw0 hrb hr0 hC hbl
  go_enter Try.func34, Try.ntmps34
  go_upto_region 1 with fail
  rw [HRB.out, HW0.out]
  clear HW0
  go_wp2_with fail
  refine HCK.out.mono ?_
  rintro e w1 ⟨p1, rfl, ht1, hf1, hx1⟩
  have HT1 := hid ht1
  have HF1 := hid ((HF0.out.mono (by simp)).trans hf1 (fun k hk _ => hk))
  have HX1 : Hid (Nx w pl p1) := hid (by
    rcases hx1 with h | ⟨h, g, h2, h3⟩
    · exact Or.inl h
    · exact Or.inr ⟨h, g, h2, by have := HF0.out.size; omega⟩)
  have HN1 : Hid (rb ∉ foot24 b p1) := hid (fun hm => by
    rcases hx1.foot rb hm with h | h
    · have := HBL.out rb h; omega
    · have := lt_of_heap HR0.out; omega)
  have HR1 := hid (hf1.heap HR0.out (fun hm => by have := HBL.out rb hm; omega))
  clear ht1 hf1 hx1 HCK HR0
  by_cases hC0 : C = 0
  · subst hC0
    have HLA := hid (last_any b p1 vs f a r s w1 HT1.out)
    obtain ⟨l, hl⟩ : ∃ q, last24 vs s = q := ⟨_, rfl⟩
    rw [hl] at HLA
    have HLL := hid hl
    clear hl
    go_wp2_with fail
    refine HLA.out.mono ?_
    rintro e w2 ⟨p2, rfl, ht2, hf2, hx2⟩
    have HT2 := hid ht2
    have HF2 := hid (frm24 HF1.out HX1.out hf2)
    have HX2 := hid (HX1.out.trans HF1.out.size hx2)
    have HN2 : Hid (rb ∉ foot24 b p2) := hid (fun hm => by
      rcases hx2.foot rb hm with h | h
      · exact HN1.out h
      · have := lt_of_heap HR1.out; omega)
    have HR2 := hid (hf2.heap HR1.out HN1.out)
    clear ht2 hf2 hx2 HLA HT1 HF1 HX1 HN1 HR1
    by_cases hlt : l < id
    · have HLK : Hid (look24 vs s id = (rs0, false, 0)) := hid (by unfold look24; rw [HC.out, HLL.out, if_neg (by simp), if_pos hlt])
      go_upto_region 6 with fail
      have yy0 : w2.cell? ⟨rb, 0, none⟩ = some (.int .i64 0) := by rw [cell_of_row _ _ _ _ _ _ HR2.out]; rfl
      have zz0 := frozen_of_row w2 rb 0 _ _ HR2.out
      have yy1 : w2.cell? ⟨rb, 1, none⟩ = some (.int .i64 0) := by rw [cell_of_row _ _ _ _ _ _ HR2.out]; rfl
      have zz1 := frozen_of_row w2 rb 1 _ _ HR2.out
      have yy2 : w2.cell? ⟨rb, 2, none⟩ = some (.int .i64 0) := by rw [cell_of_row _ _ _ _ _ _ HR2.out]; rfl
      have zz2 := frozen_of_row w2 rb 2 _ _ HR2.out
      have yy3 : w2.cell? ⟨rb, 3, none⟩ = some (.int .i64 0) := by rw [cell_of_row _ _ _ _ _ _ HR2.out]; rfl
      have zz3 := frozen_of_row w2 rb 3 _ _ HR2.out
      have yy4 : w2.cell? ⟨rb, 4, none⟩ = some (.string { data := #[] }) := by rw [cell_of_row _ _ _ _ _ _ HR2.out]; rfl
      have zz4 := frozen_of_row w2 rb 4 _ _ HR2.out
      have yy5 : w2.cell? ⟨rb, 5, none⟩ = some (.slice none 0 0) := by rw [cell_of_row _ _ _ _ _ _ HR2.out]; rfl
      have zz5 := frozen_of_row w2 rb 5 _ _ HR2.out
      have yy6 : w2.cell? ⟨rb, 6, none⟩ = some (.slice none 0 0) := by rw [cell_of_row _ _ _ _ _ _ HR2.out]; rfl
      have zz6 := frozen_of_row w2 rb 6 _ _ HR2.out
      go_wp2_with fail
      obtain ⟨h4, f4⟩ := sets_row rb 61 [(0, .int .i64 0), (1, .int .i64 0), (2, .int .i64 0), (3, .int .i64 0), (4, .string { data := #[] }), (5, .slice none 0 0), (6, .slice none 0 0)] w2 _ HR2.out
      simp only [List.foldl, List.setIfInBounds_toArray, List.set_cons_zero, List.set_cons_succ] at h4
      obtain ⟨wz, hwz⟩ : ∃ wz, sets w2 rb [(0, .int .i64 0), (1, .int .i64 0), (2, .int .i64 0), (3, .int .i64 0), (4, .string { data := #[] }), (5, .slice none 0 0), (6, .slice none 0 0)] = wz := ⟨_, rfl⟩
      rw [hwz] at h4 f4
      have hwz' : (((((((w2.setCell ⟨rb, 0, none⟩ (.int .i64 0)).setCell ⟨rb, 1, none⟩ (.int .i64 0)).setCell ⟨rb, 2, none⟩ (.int .i64 0)).setCell ⟨rb, 3, none⟩ (.int .i64 0)).setCell ⟨rb, 4, none⟩ (.string { data := #[] })).setCell ⟨rb, 5, none⟩ (.slice none 0 0)).setCell ⟨rb, 6, none⟩ (.slice none 0 0)) = wz := hwz
      rw [hwz']
      have gg0 : wz.cell? ⟨rb, 0, none⟩ = some (.int .i64 0) := by rw [cell_of_row wz _ _ _ _ _ h4]; rfl
      have gg1 : wz.cell? ⟨rb, 1, none⟩ = some (.int .i64 0) := by rw [cell_of_row wz _ _ _ _ _ h4]; rfl
      have gg2 : wz.cell? ⟨rb, 2, none⟩ = some (.int .i64 0) := by rw [cell_of_row wz _ _ _ _ _ h4]; rfl
      have gg3 : wz.cell? ⟨rb, 3, none⟩ = some (.int .i64 0) := by rw [cell_of_row wz _ _ _ _ _ h4]; rfl
      have gg4 : wz.cell? ⟨rb, 4, none⟩ = some (.string { data := #[] }) := by rw [cell_of_row wz _ _ _ _ _ h4]; rfl
      have gg5 : wz.cell? ⟨rb, 5, none⟩ = some (.slice none 0 0) := by rw [cell_of_row wz _ _ _ _ _ h4]; rfl
      have gg6 : wz.cell? ⟨rb, 6, none⟩ = some (.slice none 0 0) := by rw [cell_of_row wz _ _ _ _ _ h4]; rfl
      have hTZ := HT2.out.kept f4 (fun k hk hm => by simp at hm; subst hm; exact HN2.out hk) (fun v hv k hk hm => by simp at hm; have := HBV.out v hv k hk; omega)
      have hFZ : Frm (foot24 b pl) w wz := HF2.out.trans f4 (fun k hk hkl => by simp at hk; have := HRB.out; omega)
      exact bodyPost_ret (v := .tuple #[.agg #[.int .i64 0, .int .i64 0, .int .i64 0, .int .i64 0, .string { data := #[] }, .slice none 0 0, .slice none 0 0], .bool false, .int .i64 0]) (by simp [results, Try.results34, go_sem, gg0, gg1, gg2, gg3, gg4, gg5, gg6]) rfl (HP.out p2 rp0 false 0 a r wz HLK.out rfl rfl (rp0_ok _) (by simp [Rp.B, rp0, blk]) hTZ hFZ HX2.out (rp0_own _))
    · have hs8 : 1 ≤ s ∧ s ≤ 8 := by
        have h0 := HC.out
        unfold chk24 at h0
        split at h0
        · omega
        · rename_i hn; simp only [Classical.not_not] at hn; omega
      obtain ⟨m, rfl⟩ : ∃ m : Nat, s = m := ⟨s.toNat, by omega⟩
      obtain ⟨v, hv⟩ : ∃ v, vs[m]? = some v := ⟨_, List.getElem?_eq_getElem (by rw [HT2.out.ln]; omega)⟩
      have HLK : Hid (look24 vs (m : Int) id = (v.x, true, 0)) := hid (by unfold look24; rw [HC.out, HLL.out, if_neg (by simp), if_neg hlt]; simp [hv])
      have HVV := hid hv
      obtain ⟨c4, c5, c6, cz⟩ := HT2.out.cells
      have HAD := hid (addI ⟨b, 5, none⟩ a 1 w2 c5 (cz 5))
      obtain ⟨t3, f3⟩ := HT2.out.again (IntKind.i64.wrap (a + 1))
      obtain ⟨a1, ha1⟩ : ∃ q, IntKind.i64.wrap (a + 1) = q := ⟨_, rfl⟩
      rw [ha1] at HAD t3 f3
      have HA1 := hid ha1
      obtain ⟨w3, hw3⟩ : ∃ q, w2.setCell ⟨b, 5, none⟩ (.int .i64 a1) = q := ⟨_, rfl⟩
      rw [hw3] at HAD t3 f3
      have HKP := hid (kept_any b p2 vs f a1 r w3 t3)
      have HF3 := hid (frm24 HF2.out HX2.out (f3.mono (fun k hk _ => by simp at hk; simp [foot24, hk])))
      have HSZ3 : Hid (w2.heap.size ≤ w3.heap.size) := hid f3.size
      have HR3 := hid (f3.heap HR2.out (fun hm => by simp at hm; exact HN2.out (by simp [foot24, hm])))
      obtain ⟨hs1, hs2⟩ := hs8
      clear hv c4 c5 c6 cz t3 f3 ha1 hw3 HT2 HF2 HR2
      go_wp2_with fail
      refine HAD.out.mono ?_
      rintro e w' ⟨rfl, rfl⟩
      go_wp2_with fail
      refine HKP.out.mono ?_
      rintro e w4 ⟨g, rfl, ht4, hf4, hx4⟩
      have HT4 := hid ht4
      have HF4 := hid (frm24 HF3.out HX2.out hf4)
      have HX4 := hid (HX2.out.trans HF3.out.size hx4)
      have HN4 : Hid (rb ∉ foot24 b (some g)) := hid (fun hm => by
        rcases hx4.foot rb hm with h | h
        · exact HN2.out h
        · have := lt_of_heap HR3.out; omega)
      have HR4 := hid (hf4.heap HR3.out HN2.out)
      have q0 : w4.cell? ⟨g, m * 7, none⟩ = some (.int .i64 v.x.s) := ht4.at HVV.out 0 _ rfl
      have q1 : w4.cell? ⟨g, m * 7 + 1, none⟩ = some (.int .i64 v.x.id) := ht4.at HVV.out 1 _ rfl
      have q2 : w4.cell? ⟨g, m * 7 + 2, none⟩ = some (.int .i64 v.x.er) := ht4.at HVV.out 2 _ rfl
      have q3 : w4.cell? ⟨g, m * 7 + 3, none⟩ = some (.int .i64 v.x.nu) := ht4.at HVV.out 3 _ rfl
      have q4 : w4.cell? ⟨g, m * 7 + 4, none⟩ = some (.string v.x.tx) := ht4.at HVV.out 4 _ rfl
      have q5 : w4.cell? ⟨g, m * 7 + 5, none⟩ = some (.slice v.lp v.x.ss.length v.lc) := ht4.at HVV.out 5 _ rfl
      have q6 : w4.cell? ⟨g, m * 7 + 6, none⟩ = some (.slice v.dp v.x.ds.length v.dc) := ht4.at HVV.out 6 _ rfl
      have HCP := hid (copyOfO_any v w4 (HT4.out.ok v (List.mem_of_getElem? HVV.out)).1)
      unfold Rp.agg at HCP
      clear ht4 hf4 hx4 HKP HF3 HR3
      go_wp2_with fail
      refine HCP.out.mono ?_
      rintro e w5 ⟨v5, rfl, hx5, hr5, hf5, hb5, ho5⟩
      have HT5 := hid (HT4.out.k0 hf5)
      have HF5 := hid (HF4.out.trans hf5 (by simp))
      have HR5 := hid (hf5.heap HR4.out (by simp))
      have HX5 := hid hx5
      have HO5 := hid hr5
      have HB5 := hid hb5
      have HOW5 := hid ho5
      have HSZ4 : Hid (rb < w4.heap.size ∧ (∀ k ∈ foot24 b (some g), k < w4.heap.size) ∧ w.heap.size ≤ w4.heap.size) := hid ⟨lt_of_heap HR4.out, HT4.out.low, HF4.out.size⟩
      obtain ⟨⟨s5, id5, er5, nu5, tx5, ss5, ds5⟩, lp5, lc5, dp5, dc5⟩ := v5
      simp only
      clear hx5 hr5 hf5 hb5 ho5 HCP q0 q1 q2 q3 q4 q5 q6 HT4 HF4 HR4
      have yy0 : w5.cell? ⟨rb, 0, none⟩ = some (.int .i64 0) := by rw [cell_of_row _ _ _ _ _ _ HR5.out]; rfl
      have zz0 := frozen_of_row w5 rb 0 _ _ HR5.out
      have yy1 : w5.cell? ⟨rb, 1, none⟩ = some (.int .i64 0) := by rw [cell_of_row _ _ _ _ _ _ HR5.out]; rfl
      have zz1 := frozen_of_row w5 rb 1 _ _ HR5.out
      have yy2 : w5.cell? ⟨rb, 2, none⟩ = some (.int .i64 0) := by rw [cell_of_row _ _ _ _ _ _ HR5.out]; rfl
      have zz2 := frozen_of_row w5 rb 2 _ _ HR5.out
      have yy3 : w5.cell? ⟨rb, 3, none⟩ = some (.int .i64 0) := by rw [cell_of_row _ _ _ _ _ _ HR5.out]; rfl
      have zz3 := frozen_of_row w5 rb 3 _ _ HR5.out
      have yy4 : w5.cell? ⟨rb, 4, none⟩ = some (.string { data := #[] }) := by rw [cell_of_row _ _ _ _ _ _ HR5.out]; rfl
      have zz4 := frozen_of_row w5 rb 4 _ _ HR5.out
      have yy5 : w5.cell? ⟨rb, 5, none⟩ = some (.slice none 0 0) := by rw [cell_of_row _ _ _ _ _ _ HR5.out]; rfl
      have zz5 := frozen_of_row w5 rb 5 _ _ HR5.out
      have yy6 : w5.cell? ⟨rb, 6, none⟩ = some (.slice none 0 0) := by rw [cell_of_row _ _ _ _ _ _ HR5.out]; rfl
      have zz6 := frozen_of_row w5 rb 6 _ _ HR5.out
      go_wp2_with fail
      obtain ⟨h4, f4⟩ := sets_row rb 61 [(0, .int .i64 s5), (1, .int .i64 id5), (2, .int .i64 er5), (3, .int .i64 nu5), (4, .string tx5), (5, .slice lp5 ss5.length lc5), (6, .slice dp5 ds5.length dc5)] w5 _ HR5.out
      simp only [List.foldl, List.setIfInBounds_toArray, List.set_cons_zero, List.set_cons_succ] at h4
      obtain ⟨wz, hwz⟩ : ∃ wz, sets w5 rb [(0, .int .i64 s5), (1, .int .i64 id5), (2, .int .i64 er5), (3, .int .i64 nu5), (4, .string tx5), (5, .slice lp5 ss5.length lc5), (6, .slice dp5 ds5.length dc5)] = wz := ⟨_, rfl⟩
      rw [hwz] at h4 f4
      have hwz' : (((((((w5.setCell ⟨rb, 0, none⟩ (.int .i64 s5)).setCell ⟨rb, 1, none⟩ (.int .i64 id5)).setCell ⟨rb, 2, none⟩ (.int .i64 er5)).setCell ⟨rb, 3, none⟩ (.int .i64 nu5)).setCell ⟨rb, 4, none⟩ (.string tx5)).setCell ⟨rb, 5, none⟩ (.slice lp5 ss5.length lc5)).setCell ⟨rb, 6, none⟩ (.slice dp5 ds5.length dc5)) = wz := hwz
      rw [hwz']
      have gg0 : wz.cell? ⟨rb, 0, none⟩ = some (.int .i64 s5) := by rw [cell_of_row wz _ _ _ _ _ h4]; rfl
      have gg1 : wz.cell? ⟨rb, 1, none⟩ = some (.int .i64 id5) := by rw [cell_of_row wz _ _ _ _ _ h4]; rfl
      have gg2 : wz.cell? ⟨rb, 2, none⟩ = some (.int .i64 er5) := by rw [cell_of_row wz _ _ _ _ _ h4]; rfl
      have gg3 : wz.cell? ⟨rb, 3, none⟩ = some (.int .i64 nu5) := by rw [cell_of_row wz _ _ _ _ _ h4]; rfl
      have gg4 : wz.cell? ⟨rb, 4, none⟩ = some (.string tx5) := by rw [cell_of_row wz _ _ _ _ _ h4]; rfl
      have gg5 : wz.cell? ⟨rb, 5, none⟩ = some (.slice lp5 ss5.length lc5) := by rw [cell_of_row wz _ _ _ _ _ h4]; rfl
      have gg6 : wz.cell? ⟨rb, 6, none⟩ = some (.slice dp5 ds5.length dc5) := by rw [cell_of_row wz _ _ _ _ _ h4]; rfl
      have hTZ := HT5.out.kept f4 (fun k hk hm => by simp at hm; subst hm; exact HN4.out hk) (fun v hv k hk hm => by simp at hm; have := HBV.out v hv k hk; omega)
      have hFZ : Frm (foot24 b pl) w wz := HF5.out.trans f4 (fun k hk hkl => by simp at hk; have := HRB.out; omega)
      have hBZ : ∀ k ∈ (⟨⟨s5, id5, er5, nu5, tx5, ss5, ds5⟩, lp5, lc5, dp5, dc5⟩ : Rp).B, k ≠ rb ∧ w.heap.size ≤ k ∧ k ∉ foot24 b (some g) := fun k hk => by
        have h1 := (HB5.out k hk).1
        have h2 := HSZ4.out
        exact ⟨by omega, by omega, fun hm => by have := h2.2.1 k hm; omega⟩
      have hOZ := HO5.out.kept f4 (fun k hk hm => by simp at hm; exact (hBZ k hk).1 hm)
      have hfin := HP.out (some g) ⟨⟨s5, id5, er5, nu5, tx5, ss5, ds5⟩, lp5, lc5, dp5, dc5⟩ true 0 a1 r wz (by rw [HLK.out, ← HX5.out]) HA1.out.symm rfl hOZ (fun k hk => (hBZ k hk).2) hTZ hFZ HX4.out (HOW5.out.kept f4 (fun k hk hm => by simp at hm; exact (hBZ k hk).1 hm))
      exact bodyPost_ret (v := .tuple #[.agg #[.int .i64 s5, .int .i64 id5, .int .i64 er5, .int .i64 nu5, .string tx5, .slice lp5 ss5.length lc5, .slice dp5 ds5.length dc5], .bool true, .int .i64 0]) (by simp [results, Try.results34, go_sem, gg0, gg1, gg2, gg3, gg4, gg5, gg6]) rfl (hfin)
  · have hb : (C != 0) = true := by simpa using hC0
    have HLK : Hid (look24 vs s id = (rs0, false, C)) := hid (by unfold look24; rw [HC.out, if_pos hC0])
    obtain ⟨c4, c5, c6, cz⟩ := HT1.out.cells
    have HAD := hid (addI ⟨b, 6, none⟩ r 1 w1 c6 (cz 6))
    obtain ⟨t3, f3⟩ := HT1.out.refused (IntKind.i64.wrap (r + 1))
    obtain ⟨r1, ha1⟩ : ∃ q, IntKind.i64.wrap (r + 1) = q := ⟨_, rfl⟩
    rw [ha1] at HAD t3 f3
    have HA1 : Hid (r1 = if C ≠ 0 then IntKind.i64.wrap (r + 1) else r) := hid (by rw [if_pos hC0, ha1])
    obtain ⟨w3, hw3⟩ : ∃ q, w1.setCell ⟨b, 6, none⟩ (.int .i64 r1) = q := ⟨_, rfl⟩
    rw [hw3] at HAD t3 f3
    have HT3 := hid t3
    have HF3 := hid (frm24 HF1.out HX1.out (f3.mono (fun k hk _ => by simp at hk; simp [foot24, hk])))
    have HR3 := hid (f3.heap HR1.out (fun hm => by simp at hm; exact HN1.out (by simp [foot24, hm])))
    clear c4 c5 c6 cz t3 f3 ha1 hw3 hC0
    go_wp2_with fail
    refine HAD.out.mono ?_
    rintro e w' ⟨rfl, rfl⟩
    have yy0 : w'.cell? ⟨rb, 0, none⟩ = some (.int .i64 0) := by rw [cell_of_row _ _ _ _ _ _ HR3.out]; rfl
    have zz0 := frozen_of_row w' rb 0 _ _ HR3.out
    have yy1 : w'.cell? ⟨rb, 1, none⟩ = some (.int .i64 0) := by rw [cell_of_row _ _ _ _ _ _ HR3.out]; rfl
    have zz1 := frozen_of_row w' rb 1 _ _ HR3.out
    have yy2 : w'.cell? ⟨rb, 2, none⟩ = some (.int .i64 0) := by rw [cell_of_row _ _ _ _ _ _ HR3.out]; rfl
    have zz2 := frozen_of_row w' rb 2 _ _ HR3.out
    have yy3 : w'.cell? ⟨rb, 3, none⟩ = some (.int .i64 0) := by rw [cell_of_row _ _ _ _ _ _ HR3.out]; rfl
    have zz3 := frozen_of_row w' rb 3 _ _ HR3.out
    have yy4 : w'.cell? ⟨rb, 4, none⟩ = some (.string { data := #[] }) := by rw [cell_of_row _ _ _ _ _ _ HR3.out]; rfl
    have zz4 := frozen_of_row w' rb 4 _ _ HR3.out
    have yy5 : w'.cell? ⟨rb, 5, none⟩ = some (.slice none 0 0) := by rw [cell_of_row _ _ _ _ _ _ HR3.out]; rfl
    have zz5 := frozen_of_row w' rb 5 _ _ HR3.out
    have yy6 : w'.cell? ⟨rb, 6, none⟩ = some (.slice none 0 0) := by rw [cell_of_row _ _ _ _ _ _ HR3.out]; rfl
    have zz6 := frozen_of_row w' rb 6 _ _ HR3.out
    go_wp2_with fail
    obtain ⟨h4, f4⟩ := sets_row rb 61 [(0, .int .i64 0), (1, .int .i64 0), (2, .int .i64 0), (3, .int .i64 0), (4, .string { data := #[] }), (5, .slice none 0 0), (6, .slice none 0 0)] w' _ HR3.out
    simp only [List.foldl, List.setIfInBounds_toArray, List.set_cons_zero, List.set_cons_succ] at h4
    obtain ⟨wz, hwz⟩ : ∃ wz, sets w' rb [(0, .int .i64 0), (1, .int .i64 0), (2, .int .i64 0), (3, .int .i64 0), (4, .string { data := #[] }), (5, .slice none 0 0), (6, .slice none 0 0)] = wz := ⟨_, rfl⟩
    rw [hwz] at h4 f4
    have hwz' : (((((((w'.setCell ⟨rb, 0, none⟩ (.int .i64 0)).setCell ⟨rb, 1, none⟩ (.int .i64 0)).setCell ⟨rb, 2, none⟩ (.int .i64 0)).setCell ⟨rb, 3, none⟩ (.int .i64 0)).setCell ⟨rb, 4, none⟩ (.string { data := #[] })).setCell ⟨rb, 5, none⟩ (.slice none 0 0)).setCell ⟨rb, 6, none⟩ (.slice none 0 0)) = wz := hwz
    rw [hwz']
    have gg0 : wz.cell? ⟨rb, 0, none⟩ = some (.int .i64 0) := by rw [cell_of_row wz _ _ _ _ _ h4]; rfl
    have gg1 : wz.cell? ⟨rb, 1, none⟩ = some (.int .i64 0) := by rw [cell_of_row wz _ _ _ _ _ h4]; rfl
    have gg2 : wz.cell? ⟨rb, 2, none⟩ = some (.int .i64 0) := by rw [cell_of_row wz _ _ _ _ _ h4]; rfl
    have gg3 : wz.cell? ⟨rb, 3, none⟩ = some (.int .i64 0) := by rw [cell_of_row wz _ _ _ _ _ h4]; rfl
    have gg4 : wz.cell? ⟨rb, 4, none⟩ = some (.string { data := #[] }) := by rw [cell_of_row wz _ _ _ _ _ h4]; rfl
    have gg5 : wz.cell? ⟨rb, 5, none⟩ = some (.slice none 0 0) := by rw [cell_of_row wz _ _ _ _ _ h4]; rfl
    have gg6 : wz.cell? ⟨rb, 6, none⟩ = some (.slice none 0 0) := by rw [cell_of_row wz _ _ _ _ _ h4]; rfl
    have hTZ := HT3.out.kept f4 (fun k hk hm => by simp at hm; subst hm; exact HN1.out hk) (fun v hv k hk hm => by simp at hm; have := HBV.out v hv k hk; omega)
    have hFZ : Frm (foot24 b pl) w wz := HF3.out.trans f4 (fun k hk hkl => by simp at hk; have := HRB.out; omega)
    exact bodyPost_ret (v := .tuple #[.agg #[.int .i64 0, .int .i64 0, .int .i64 0, .int .i64 0, .string { data := #[] }, .slice none 0 0, .slice none 0 0], .bool false, .int .i64 C]) (by simp [results, Try.results34, go_sem, gg0, gg1, gg2, gg3, gg4, gg5, gg6]) rfl (HP.out p1 rp0 false C a r1 wz HLK.out rfl HA1.out (rp0_ok _) (by simp [Rp.B, rp0, blk]) hTZ hFZ HX1.out (rp0_own _))
theorem look_any (b : Nat) (pl : Option Nat) (vs : List Rp) (f a r s id : Int) (w : World) (h : TS w b pl vs f a r) :
    Calls Try.prog 34 #[.pointer (some ⟨b, 0, none⟩), .int .i64 s, .int .i64 id] w (LookP w b pl vs f a r s id) :=
  (lookO_any b pl vs f a r s id w h).mono (fun _ _ ⟨p, v, h1, h2, h3, h4, h5, h6, h7, _⟩ => ⟨p, v, h1, h2, h3, h4, h5, h6, h7⟩)
end Go.Proofs.Ytbgochkmplacaaa
