/- Contracts of package ptr: Decode of a pointer; open. -/
import Derived.Test.YtdnnbinmippkdaaDoorPtrN
namespace Go.Proofs.YtdnnbinmippkdaaDoor
open Go.RowKit
set_option maxRecDepth 100000

set_option maxHeartbeats 1600000 in
theorem decode_any (ad : Option Addr) (n c : Nat) (bs : List Int) (w : World) (hn : bs.length = n) (hl : n ≤ 140737488355328) (hrd : Rd w ad bs) (hb : ∀ z ∈ bs, 0 ≤ z ∧ z < 256) :
    Calls Tryd.prog 24 #[.slice ad n c] w fun e w' => e = .returned (.tuple #[.agg (decP bs).1.arr, .int .i64 (decP bs).2]) ∧ Frm [] w w' := by
  have hT := fun W (h : Rd W ad bs) => takePtr_any ad n c bs W hn hl h hb
  obtain ⟨R, hR⟩ : ∃ R, decP bs = R := ⟨_, rfl⟩
  rw [hR] at hT ⊢
  obtain ⟨p, err⟩ := R
  unfold P9.arr at hT ⊢
  dsimp only at hT ⊢
  have HT := hid hT
  have HRD := hid hrd
  have HROW := hid (heap_alloc_new w (.cells #[.int .i64 0, .int .i64 0, .int .i64 0, .int .u64 0, .int .i64 0, .int .u64 0, .int .u64 0, .int .u64 0, .int .u64 0] 26))
  have HFA : Hid (Frm [] w (w.alloc (.cells #[.int .i64 0, .int .i64 0, .int .i64 0, .int .u64 0, .int .i64 0, .int .u64 0, .int .u64 0, .int .u64 0, .int .u64 0] 26))) := hid ((Frm.refl _ _).alloc _)
  clear hT hR hrd hn hb
  go_enter Tryd.func24, Tryd.ntmps24
  go_wp2_with fail
  obtain ⟨rb, hrb⟩ : ∃ rb, w.heap.size = rb := ⟨_, rfl⟩
  obtain ⟨wa, hwa⟩ : ∃ wa, w.alloc (.cells #[.int .i64 0, .int .i64 0, .int .i64 0, .int .u64 0, .int .i64 0, .int .u64 0, .int .u64 0, .int .u64 0, .int .u64 0] 26) = wa := ⟨_, rfl⟩
  rw [hwa] at HFA
  rw [hwa, hrb] at HROW
  rw [hwa, hrb]
  have HRB := hid hrb
  clear hwa hrb
  refine (HT.out wa (HRD.out.kept HFA.out (by simp))).mono ?_
  rintro e w1 ⟨rfl, hf1⟩
  have HR1 := hid (hf1.heap HROW.out (by simp))
  have HF1 := hid (HFA.out.trans hf1 (by simp))
  obtain ⟨y0, y1, y2, y3, y4, y5, y6, y7, y8⟩ := ptr_row (p := zero9) HR1.out
  obtain ⟨z0, z1, z2, z3, z4, z5, z6, z7, z8⟩ := ptr_froz (p := zero9) HR1.out
  clear hf1 HROW HFA
  go_wp2_with fail
  show bodyPost _ _ _ _ _ (st9 w1 rb p)
  obtain ⟨h9, f9⟩ := st9_row p zero9 HR1.out
  obtain ⟨wz, hwz⟩ : ∃ wz, st9 w1 rb p = wz := ⟨_, rfl⟩
  rw [hwz] at h9 f9 ⊢
  obtain ⟨g0, g1, g2, g3, g4, g5, g6, g7, g8⟩ := ptr_row (p := p) h9
  clear hwz
  exact bodyPost_ret (v := .tuple #[.agg #[.int .i64 p.top, .int .i64 p.at_, .int .i64 p.bytes, .int .u64 p.birth, .int .i64 p.kind, .int .u64 p.sa, .int .u64 p.sb, .int .u64 p.sc, .int .u64 p.sd], .int .i64 err]) (by simp [results, Tryd.results24, go_sem, g0, g1, g2, g3, g4, g5, g6, g7, g8]) rfl ⟨rfl, HF1.out.trans f9 (fun i hi hl => by simp at hi; have := HRB.out; omega)⟩
end Go.Proofs.YtdnnbinmippkdaaDoor
