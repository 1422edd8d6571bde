/- The document's sets: Add. -/
import Derived.Test.YtkbppkimpefilaaRhD
namespace Go.Proofs.Ytkbppkimpefilaa
open Go.RowKit Go.Lib
set_option maxRecDepth 100000

/-- What the document's Add answers and leaves. -/
def RAddP (l : List Sp) (x : Sp) (E : Int) (l' : List Sp) : Prop :=
  ((¬ May9 x ∨ MeetsP l x) ∧ E = 90 ∧ l' = l) ∨ (May9 x ∧ ¬ MeetsP l x ∧ ∃ l1, Norm 0 l1 ∧ (∀ n, Mem9 l1 n ↔ Mem9 l n ∨ (x.a ≤ n ∧ n < x.e)) ∧ ((l1.length ≤ 4096 ∧ E = 0 ∧ l' = l1) ∨ (4096 < l1.length ∧ E = 2 ∧ l' = l)))
theorem RAddP.as {l l' k' : List Sp} {x : Sp} {E E' : Int} (h : AddP l x E l') (h' : RAddP l x E' k') : E' = E ∧ k' = l' := by
  rcases h with ⟨a1, rfl, rfl⟩ | ⟨a1, a2, l1, _, a3, a4, a5⟩ <;> rcases h' with ⟨b1, rfl, rfl⟩ | ⟨b1, b2, l2, b3, b4, b5⟩
  · exact ⟨rfl, rfl⟩
  · exact (a1.elim (fun h => h b1) b2).elim
  · exact (b1.elim (fun h => h a1) a2).elim
  · obtain rfl : l1 = l2 := norm_same a3 b3 (fun n => by rw [a4, b4])
    rcases a5 with ⟨c1, rfl, rfl⟩ | ⟨c1, rfl, rfl⟩ <;> rcases b5 with ⟨d1, rfl, rfl⟩ | ⟨d1, rfl, rfl⟩ <;> first | exact ⟨rfl, rfl⟩ | omega
set_option maxHeartbeats 6400000 in
theorem radd_any (rb : Nat) (p : Option Addr) (c : Nat) (l : List Sp) (x : Sp) (w : World) (h : RRef w rb p c l) (hN : Norm 0 l) (hl : l.length ≤ 4096) (hx : x.In) :
    Calls Try.prog 55 #[.pointer (some ⟨rb, 0, none⟩), .agg #[.int .i64 x.a, .int .i64 x.m]] w fun e w' => ∃ E l' p' c', e = .returned (.int .i64 E) ∧ RAddP l x E l' ∧ RRef w' rb p' c' l' ∧ Norm 0 l' ∧ l'.length ≤ 4096 ∧ Frm [rb] w w' ∧ ∀ k ∈ blk p', k ∈ blk p ∨ w.heap.size ≤ k := by
  obtain ⟨PO, hPO⟩ : ∃ PO : Ending → World → Prop, (fun e w' => ∃ E l' p' c', e = .returned (.int .i64 E) ∧ RAddP l x E l' ∧ RRef w' rb p' c' l' ∧ Norm 0 l' ∧ l'.length ≤ 4096 ∧ Frm [rb] w w' ∧ ∀ k ∈ blk p', k ∈ blk p ∨ w.heap.size ≤ k) = PO := ⟨_, rfl⟩
  rw [hPO]
  have HP : Hid (∀ E l' p' c' w', RAddP l x E l' → RRef w' rb p' c' l' → Norm 0 l' → l'.length ≤ 4096 → Frm [rb] w w' → (∀ k ∈ blk p', k ∈ blk p ∨ w.heap.size ≤ k) → PO (.returned (.int .i64 E)) w') := hid (fun E l' p' c' w' h1 h2 h3 h4 h5 h6 => by rw [← hPO]; exact ⟨E, l', p', c', rfl, h1, h2, h3, h4, h5, h6⟩)
  obtain ⟨w1, hw1⟩ : ∃ q, w.alloc (.cells #[.int .i64 x.a, .int .i64 x.m] 39) = q := ⟨_, rfl⟩
  obtain ⟨bx, hbx⟩ : ∃ q, w.heap.size = q := ⟨_, rfl⟩
  have hf1 : Frm [] w w1 := by rw [← hw1]; exact (Frm.refl _ _).alloc _
  have g1 : w1.heap[bx]? = some (.cells #[.int .i64 x.a, .int .i64 x.m] 39 (0, 0)) := by rw [← hw1]; exact heap_alloc_to _ _ hbx
  have HWK : Hid (∀ W, Frm [] w1 W → W.cell? ⟨bx, 0, none⟩ = some (.int .i64 x.a) ∧ W.cell? ⟨bx, 1, none⟩ = some (.int .i64 x.m)) := hid (fun W hf => by
    have := hf.heap g1 (by simp)
    constructor <;> (rw [cell_of_row _ _ _ _ _ _ this]; rfl))
  have HMB := hid (may9_any x hx w1)
  have HW1 := hid hw1
  have HBX := hid hbx
  have HF1 := hid hf1
  have HR := hid (h.k0 hf1)
  have HN := hid hN
  have HL := hid hl
  have HSM := hid (lt_of_heap h.row)
  obtain ⟨c0, c1⟩ := HWK.out w1 (Frm.refl _ _)
  have HNO : Hid ((¬ May9 x ∨ MeetsP l x) → ∀ w', Frm [] w1 w' → PO (.returned (.int .i64 90)) w') := hid (fun h1 w' hf => HP.out 90 l p c w' (Or.inl ⟨h1, rfl, rfl⟩) (HR.out.k0 hf) HN.out HL.out ((HF1.out.trans hf (by simp)).mono (by simp)) (fun k hk => Or.inl hk))
  clear h hN hw1 hbx hf1 g1 hPO hx hl
  go_enter Try.func55, Try.ntmps55
  go_upto_region 1 with fail
  rw [HBX.out, HW1.out]
  go_wp2_with fail
  refine HMB.out.mono ?_
  rintro e w2 ⟨rfl, hf2⟩
  obtain ⟨k0, k1⟩ := HWK.out w2 hf2
  have HF2 := hid hf2
  have HR2 := hid (HR.out.k0 hf2)
  clear hf2 c0 c1 HMB
  by_cases hmay : May9 x
  · have hd : decide (May9 x) = true := decide_eq_true hmay
    have HMA := hid hmay
    have HIN := hid (fun W (hW : RRef W rb p c l) => in9_any rb p c l x W hW HN.out (by have := HL.out; omega) hmay)
    have HHI := hid (meets9_in HN.out hmay)
    clear hmay
    rw [hd]
    clear hd
    obtain ⟨z, hz⟩ : ∃ q, inL x l = q := ⟨_, rfl⟩
    rw [hz] at HHI HIN
    clear hz
    go_wp2_with fail
    refine (HIN.out _ HR2.out).mono ?_
    rintro e w3 ⟨rfl, hf3⟩
    have HF3 := hid (HF2.out.trans hf3 (by simp))
    have HR3 := hid (HR2.out.k0 hf3)
    obtain ⟨m0, m1⟩ := HWK.out w3 HF3.out
    clear hf3 k0 k1 HIN
    by_cases hzp : 0 < z
    · have HV := hid (HHI.out.1 hzp)
      go_wp2_with fail
      first | go_returns | skip
      exact HNO.out (Or.inr HV.out) _ HF3.out
    · have HNM := hid (fun h => hzp (HHI.out.2 h))
      have hr := HR3.out.cell
      obtain ⟨L, hL⟩ : ∃ q, l.length = q := ⟨_, rfl⟩
      rw [hL] at hr
      have HLL := hid hL
      have HWI := hid (fun W (hf : Frm [] w3 W) => with9_any p L c l x W (by have := (HR3.out.k0 hf).own; rw [HLL.out] at this; exact this) HN.out (by rw [← HLL.out]; exact HL.out) HMA.out)
      clear hL
      have HFD : Hid (Frm [] w3 w3.drew) := hid (Frm.refl [] w3).drew
      have HWD := hid (HWI.out w3.drew HFD.out)
      have HKS : Hid (∀ W W' : World, (W.cell? ⟨rb, 0, none⟩ = some (.slice p L c) ∧ W.cell? ⟨bx, 0, none⟩ = some (.int .i64 x.a) ∧ W.cell? ⟨bx, 1, none⟩ = some (.int .i64 x.m) ∧ Frm [] w3 W) → Frm [] W W' → (W'.cell? ⟨rb, 0, none⟩ = some (.slice p L c) ∧ W'.cell? ⟨bx, 0, none⟩ = some (.int .i64 x.a) ∧ W'.cell? ⟨bx, 1, none⟩ = some (.int .i64 x.m) ∧ Frm [] w3 W')) := hid (fun W W' hs hf => by
        have kc : ∀ q v, W.cell? q = some v → W'.cell? q = some v := fun q v hv => (hf.cell (World.block_lt_of_cell? W _ hv) (by simp)).trans hv
        exact ⟨kc _ _ hs.1, kc _ _ hs.2.1, kc _ _ hs.2.2.1, hs.2.2.2.trans hf (by simp)⟩)
      clear HWI
      go_upto_region 4 with fail
      go_region_held3 (fun W => W.cell? ⟨rb, 0, none⟩ = some (.slice p L c) ∧ W.cell? ⟨bx, 0, none⟩ = some (.int .i64 x.a) ∧ W.cell? ⟨bx, 1, none⟩ = some (.int .i64 x.m) ∧ Frm [] w3 W) (first | (exact ⟨hr, m0, m1, HFD.out⟩) | (exact HKS.out _ _ (by assumption) (by assumption))) (((with_reducible refine HWD.out.mono ?_); rintro e w5 ⟨p', m, c', rfl, ho5, hf5, hb5, hm5⟩))
      all_goals (
        have hh := (show _ ∧ _ ∧ _ ∧ Frm [] w3 w5 by assumption).2.2.2
        have HH := hid (HF3.out.trans hh (by simp))
        have HO5 := hid ho5
        have HB5 := hid hb5
        have HM5 := hid hm5
        have HWO := hid (withR_ok (x := x) HN.out HMA.out.1 HMA.out.2.1 (by have := HMA.out; unfold May9 at this; have hxe : x.e = x.a + x.m := rfl; omega) (fun n a b hm => HNM.out ⟨HMA.out, n, a, b, hm⟩))
        have HR5 := hid (HR.out.k0 HH.out)
        have z0 : w5.frozen? ⟨rb, 0, none⟩ = false := frozen_of_row _ _ 0 _ _ HR5.out.row
        clear hh ho5 hb5 hm5 hf5 HKS HFD HWD
        by_cases hlong : (4096 : Int) < (m : Int)
        · have HT : Hid (RAddP l x 2 l) := hid (Or.inr ⟨HMA.out, HNM.out, _, HWO.out.1, HWO.out.2, Or.inr ⟨by rw [HO5.out.2]; omega, rfl, rfl⟩⟩)
          go_wp2_with fail
          first | go_returns | skip
          exact HP.out 2 l p c w5 HT.out HR5.out HN.out HL.out ((HF1.out.trans HH.out (by simp)).mono (by simp)) (fun k hk => Or.inl hk)
        · have HNB : Hid (∀ k ∈ blk p', w.heap.size ≤ k ∧ k ≠ rb) := hid (fun k hk => by
            have q1 : w3.heap.size ≤ k := HB5.out k hk
            have q2 := HF3.out.size
            have q3 := HF1.out.size
            have q4 := HSM.out
            exact ⟨by omega, by omega⟩)
          have HT : Hid (RAddP l x 0 (withR l x false)) := hid (Or.inr ⟨HMA.out, HNM.out, _, HWO.out.1, HWO.out.2, Or.inl ⟨by rw [HO5.out.2]; omega, rfl, rfl⟩⟩)
          go_wp2_with fail
          first | go_returns | skip
          have hfs := (Frm.refl [rb] w5).setCell ⟨rb, 0, none⟩ (.slice p' m c') (by simp)
          refine HP.out 0 _ p' c' _ HT.out ⟨?_, ?_, fun h => (HNB.out rb h).2 rfl⟩ HWO.out.1 (by rw [HO5.out.2]; omega) (((HF1.out.trans HH.out (by simp)).mono (by simp)).trans hfs (by simp)) (fun k hk => Or.inr (HNB.out k hk).1)
          · rw [heap_setCell_same _ _ 0 _ _ _ HR5.out.row, HO5.out.2]; rfl
          · have hq := HO5.out.kept hfs (fun k hk hm => by simp at hm; exact (HNB.out k hk).2 hm)
            rw [HO5.out.2]; exact hq)
  · have hd : decide (May9 x) = false := decide_eq_false hmay
    have HV := hid hmay
    clear hmay
    rw [hd]
    clear hd
    go_wp2_with fail
    first | go_returns | skip
    exact HNO.out (Or.inl HV.out) _ HF2.out
end Go.Proofs.Ytkbppkimpefilaa
