/- The document's sets: Clone. -/
import Derived.Test.YtbgochkmplacaaaRhF
namespace Go.Proofs.Ytbgochkmplacaaa
open Go.RowKit Go.Lib
set_option maxRecDepth 100000

set_option maxHeartbeats 3200000 in
theorem rclone_any (rb : Nat) (p : Option Addr) (c : Nat) (l : List Sp) (w : World) (h : RRef w rb p c l) (hl : l.length ≤ 1000000) :
    Calls Try.prog 22 #[.pointer (some ⟨rb, 0, none⟩)] w fun e w' => ∃ s' p' c', e = .returned (.pointer (some ⟨s', 0, none⟩)) ∧ RRef w' s' p' c' l ∧ Frm [] w w' ∧ w.heap.size ≤ s' ∧ ∀ k ∈ blk p', w.heap.size ≤ k := by
  have HR := hid h
  have x0 := h.cell
  obtain ⟨L, hL⟩ : ∃ q, l.length = q := ⟨_, rfl⟩
  rw [hL] at x0 hl
  have HL := hid hL
  have hu : Try.prog.underlying 27 = some (.slice 31) := Try.underlying27
  have HOW : Hid (∀ W : World, W.ownsRow 0 31 2 (.slice none 0 0) 0 (rowS [])) := hid (fun W => ⟨rfl, Or.inl ⟨rfl, rfl⟩⟩)
  have HLN : Hid ((rowS l).length = L * 2) := hid (by rw [rowS_len, HL.out])
  have HRV := hid (fun W (hf : Frm [] w W) => (HR.out.own.kept hf (by simp)).rv)
  have HFB : Hid (∀ (p' : Option Addr) (c' : Nat) (W W' : World), Frm [] w W → W'.ownsRow 0 31 2 (.slice p' L c') L (rowS [] ++ rowS l) → Frm [] W W' → (∀ k ∈ blk p', W.heap.size ≤ k) → ∀ L', L' = L → RRef (W'.alloc (.cells #[.slice p' L' c'] 29)) W'.heap.size p' c' l ∧ Frm [] w (W'.alloc (.cells #[.slice p' L' c'] 29)) ∧ w.heap.size ≤ W'.heap.size ∧ ∀ k ∈ blk p', w.heap.size ≤ k) := hid (fun p' c' W W' hf ho hf2 hb L' hLL => by
    subst hLL
    have ho' : OwnS W' p' L' c' l := ⟨by simpa [rowS] using ho, HL.out⟩
    have hft := hf.trans hf2 (by simp)
    refine ⟨⟨by rw [HL.out]; exact heap_alloc_new _ _, by rw [HL.out]; exact ho'.kept ((Frm.refl [] W').alloc _) (by simp), fun hm => by have := ownsRow_low ho'.1 _ hm; omega⟩, hft.alloc _, hft.size, fun k hk => ?_⟩
    have := hb k hk
    have := hf.size
    omega)
  have HNIL : Hid (p = none → c = 0) := hid (fun hp => (h.own.nil hp).2)
  clear h hL
  go_enter Try.func22, Try.ntmps22
  go_wp2_with (at_builtin; refine wpList_appV rfl _ _ 27 rfl 31 2 16 _ hu infoSp rfl (by decide) none 0 0 (rowS []) rfl (HOW.out _) p L c (rowS l) rfl HLN.out (fun _ h => HNIL.out h) (HRV.out _ (by first | exact Frm.refl _ _ | exact (Frm.refl _ _).drew | exact (Frm.refl _ _).alloc _ )) (rowS_one _) (by unfold maxLen; omega) (by omega) ?_)
  intro p2 c2 w2 ho2 hf2 hb2
  have HFIN := hid (HFB.out p2 c2 _ w2 (by first | exact Frm.refl _ _ | exact (Frm.refl _ _).drew) ho2.out (by have := hf2.out; simpa [blk] using this) (fun k hk => by have := hb2.out k hk; simpa [blk] using this) L rfl)
  clear ho2 hf2 hb2
  go_wp2_with fail
  first | go_returns | skip
  first | exact ⟨_, p2, c2, rfl, HFIN.out⟩ | exact ⟨_, p2, c2, by simp, HFIN.out⟩
end Go.Proofs.Ytbgochkmplacaaa
