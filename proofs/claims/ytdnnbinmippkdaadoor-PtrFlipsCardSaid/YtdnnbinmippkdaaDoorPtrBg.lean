/- SameLabel against a nought label; what was decoded lies in its types' bounds. -/
import Derived.Test.YtdnnbinmippkdaaDoorPtrBf
import Derived.Test.YtdnnbinmippkdaaDoorPtrY
namespace Go.Proofs.YtdnnbinmippkdaaDoor
open Go.RowKit
set_option maxRecDepth 100000

set_option maxHeartbeats 1600000 in
theorem sameZ_any (a b : LabV) (w : World) (ha : a.ok w) (hb : b.ok w) (hs : b.same zeroL) :
    Calls Tryd.prog 17 #[.agg a.arr, .agg b.arr] w fun e w' => ∃ B, e = .returned (.bool B) ∧ Frm [] w w' := by
  obtain ⟨e1, e2, e3, e4, e5⟩ := hs
  have h1 : Frm [] w (w.alloc (.cells a.arr 37)) := (Frm.refl _ _).alloc _
  have h2 : Frm [] (w.alloc (.cells a.arr 37)) ((w.alloc (.cells a.arr 37)).alloc (.cells b.arr 37)) := (Frm.refl _ _).alloc _
  have hra := h2.heap (heap_alloc_new w (.cells a.arr 37)) (by simp)
  have hrb : ((w.alloc (.cells a.arr 37)).alloc (.cells b.arr 37)).heap[w.heap.size + 1]? = some (.cells b.arr 37 (0, 0)) := heap_alloc_to _ _ (by simp)
  have hf := h1.trans h2 (by simp)
  obtain ⟨ab, hab⟩ : ∃ ab, w.heap.size = ab := ⟨_, rfl⟩
  obtain ⟨w0, hw0⟩ : ∃ w0, (w.alloc (.cells a.arr 37)).alloc (.cells b.arr 37) = w0 := ⟨_, rfl⟩
  rw [hw0] at hf
  rw [hw0, hab] at hra
  rw [hw0, hab] at hrb
  obtain ⟨q0, q1, q2, q3⟩ := lb_row hra
  obtain ⟨r0, r1, r2, r3⟩ := lb_row hrb
  have HRA := hid hra
  have HRB := hid hrb
  have HF := hid hf
  have hle := ha.le
  have hmx := ha.mx
  have hle2 := hb.le
  have hmx2 := hb.mx
  rw [e1] at r0
  rw [e2] at r1 hle2
  rw [e3] at r2
  rw [e4] at r3
  have HE2 := hid e2
  unfold zeroL at r0 r1 r2 r3 hle2
  dsimp only at r0 r1 r2 r3 hle2
  unfold LabV.arr at hw0 ⊢
  clear h1 h2 hra hrb hf ha hb e1 e2 e3 e4 e5
  by_cases g1 : a.pool = 0
  case neg =>
    have hb1 : (a.pool != 0) = true := by simpa using g1
    go_enter Tryd.func17, Tryd.ntmps17
    go_wp2_with fail
    go_returns
    exact ⟨_, rfl, HF.out⟩
  by_cases g2 : a.top = 0
  case neg =>
    have hb1 : (a.top != 0) = true := by simpa using g2
    have hb0 : (a.pool != 0) = false := by simpa using g1
    clear g1 g2
    go_enter Tryd.func17, Tryd.ntmps17
    go_wp2_with fail
    go_returns
    exact ⟨_, rfl, HF.out⟩
  by_cases g3 : a.place = 0
  case neg =>
    have hb2 : (a.place != 0) = true := by simpa using g3
    have hb1 : (a.top != 0) = false := by simpa using g2
    have hb0 : (a.pool != 0) = false := by simpa using g1
    clear g1 g2 g3
    go_enter Tryd.func17, Tryd.ntmps17
    go_wp2_with fail
    go_returns
    exact ⟨_, rfl, HF.out⟩
  have hb2 : (a.place != 0) = false := by simpa using g3
  have hb1 : (a.top != 0) = false := by simpa using g2
  have hb0 : (a.pool != 0) = false := by simpa using g1
  by_cases g4 : a.n = 0
  case neg =>
    have hb3 : ((a.n : Int) != ((0 : Nat) : Int)) = true := by simpa using g4
    have hb4 : ((a.n : Int) != 0) = true := by simpa using g4
    clear g1 g2 g3 g4
    go_enter Tryd.func17, Tryd.ntmps17
    go_wp2_with fail
    go_returns
    exact ⟨_, rfl, HF.out⟩
  rw [g4] at q1 hle hw0 ⊢
  have HN := hid g4
  clear g1 g2 g3 g4
  go_enter Tryd.func17, Tryd.ntmps17
  go_wp2_with fail
  clear q0 q2 q3 r0 r2 r3 hw0 hab
  go_loopw [5] (fun i wr => i = .int .i64 0 ∧ Hid (Frm [] w0 wr)) (fun _ _ => 0)
  case atStart => exact ⟨rfl, hid (Frm.refl _ _)⟩
  case round =>
    obtain ⟨rfl, hf⟩ := hrel
    have k1 : wr.cell? ⟨ab, 1, none⟩ = some (.slice a.p 0 a.c) := by have h := (lb_row (hf.out.heap HRA.out (by simp))).2.1; rwa [HN.out] at h
    go_wp2_with fail
    go_returns
    exact ⟨_, rfl, HF.out.trans hf.out (by simp)⟩
theorem zero9_ok : zero9.ok := ⟨by decide, by decide, by decide, by decide, by decide⟩
theorem zero12_ok : zero12.ok := ⟨by decide, by decide, by decide, zero9_ok⟩
theorem decP_ok {bs : List Int} (hb : ∀ z ∈ bs, 0 ≤ z ∧ z < 256) : (decP bs).1.ok := by
  by_cases h : (decP bs).2 = 0
  · exact (ptrB_decP hb h).1
  · unfold decP at h ⊢
    split
    · exact zero9_ok
    split
    · exact zero9_ok
    split
    · rename_i h1 h2 h3
      rw [if_neg h1, if_neg h2, if_pos h3] at h
      exact absurd rfl h
    · exact zero9_ok
theorem decU_ok {bs : List Int} (hb : ∀ z ∈ bs, 0 ≤ z ∧ z < 256) : (decU bs).1.ok := by
  by_cases h : (decU bs).2 = 0
  · exact (sealB_decU hb h).1
  · unfold decU at h ⊢
    split
    · exact zero12_ok
    split
    · exact zero12_ok
    rename_i h1 h2
    rw [if_neg h1, if_neg h2] at h
    unfold decBU at h ⊢
    split
    · exact zero12_ok
    split
    · exact zero12_ok
    split
    · rename_i h3 h4 h5
      rw [if_neg h3, if_neg h4, if_pos h5] at h
      exact absurd rfl h
    · exact zero12_ok
/-- Encoding and decoding again, in one shape for both answers. -/
theorem backP (p : P9) (hp : p.ok) : ((checkP p = 0 → (decP (if checkP p = 0 then ptrB p else [])).1 = p ∧ (decP (if checkP p = 0 then ptrB p else [])).2 = 0 ∧ (if checkP p = 0 then ptrB p else []).length = 64) ∧ (checkP p ≠ 0 → (if checkP p = 0 then ptrB p else []).length = 0)) := by
  refine ⟨fun h => ?_, fun h => by rw [if_neg h]; rfl⟩
  rw [if_pos h, decP_ptrB p hp h]
  exact ⟨rfl, rfl, ptrB_length p⟩
theorem backU (u : U12) (hu : u.ok) : ((checkU u = 0 → (decU (if checkU u = 0 then sealB (uberB u) else [])).1 = u ∧ (decU (if checkU u = 0 then sealB (uberB u) else [])).2 = 0 ∧ (if checkU u = 0 then sealB (uberB u) else []).length = 128) ∧ (checkU u ≠ 0 → (if checkU u = 0 then sealB (uberB u) else []).length = 0)) := by
  refine ⟨fun h => ?_, fun h => by rw [if_neg h]; rfl⟩
  rw [if_pos h, decU_sealB u hu h]
  exact ⟨rfl, rfl, by rw [sealB_length, uberB_length]⟩
theorem backL (l : LabV) (w : World) (hl : l.ok w) : ((checkL l = 0 → (decL (if checkL l = 0 then sealB (labB l) else [])).1.same l ∧ (decL (if checkL l = 0 then sealB (labB l) else [])).2 = 0 ∧ (if checkL l = 0 then sealB (labB l) else []).length = 128) ∧ (checkL l ≠ 0 → (decL (if checkL l = 0 then sealB (labB l) else [])).1 = zeroL ∧ (if checkL l = 0 then sealB (labB l) else []).length = 0)) := by
  refine ⟨fun h => ?_, fun h => by rw [if_neg h]; exact ⟨rfl, rfl⟩⟩
  rw [if_pos h]
  obtain ⟨h1, h2⟩ := decL_sealB l w hl h
  exact ⟨h2, h1, by rw [sealB_length, labB_length (checkL_ok hl h).n]⟩
theorem LabV.same.symm {a b : LabV} (h : a.same b) : b.same a := ⟨h.1.symm, h.2.1.symm, h.2.2.1.symm, h.2.2.2.1.symm, h.2.2.2.2.symm⟩
theorem LabV.same.trans {a b c : LabV} (h : a.same b) (k : b.same c) : a.same c := ⟨h.1.trans k.1, h.2.1.trans k.2.1, h.2.2.1.trans k.2.2.1, h.2.2.2.1.trans k.2.2.2.1, h.2.2.2.2.trans k.2.2.2.2⟩
end Go.Proofs.YtdnnbinmippkdaaDoor
