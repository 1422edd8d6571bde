/- The document's sets: Has, Meets. -/
import Derived.Test.YtkbppkimpefilaaRhC
namespace Go.Proofs.Ytkbppkimpefilaa
open Go.RowKit Go.Lib
set_option maxRecDepth 100000

theorem meets9_in {l : List Sp} {x : Sp} (hN : Norm 0 l) (hx : May9 x) : (0 < inL x l ↔ MeetsP l x) :=
  ⟨fun h => ⟨hx, (inL_pos hN).1 h⟩, fun h => (inL_pos hN).2 h.2⟩
set_option maxHeartbeats 6400000 in
theorem rmeets_any (rb : Nat) (p : Option Addr) (c : Nat) (l : List Sp) (x : Sp) (w : World) (h : RRef w rb p c l) (hN : Norm 0 l) (hl : l.length ≤ 1000000) (hx : x.In) :
    Calls Try.prog 106 #[.pointer (some ⟨rb, 0, none⟩), .agg #[.int .i64 x.a, .int .i64 x.m]] w fun e w' => ∃ b, e = .returned (.bool b) ∧ (b = true ↔ MeetsP l x) ∧ Frm [] w w' := by
  obtain ⟨PO, hPO⟩ : ∃ PO : Ending → World → Prop, (fun e w' => ∃ b, e = .returned (.bool b) ∧ (b = true ↔ MeetsP l x) ∧ Frm [] w w') = PO := ⟨_, rfl⟩
  rw [hPO]
  have HP : Hid (∀ b w', (b = true ↔ MeetsP l x) → Frm [] w w' → PO (.returned (.bool b)) w') := hid (fun b w' h1 h2 => by rw [← hPO]; exact ⟨b, rfl, h1, h2⟩)
  obtain ⟨w1, hw1⟩ : ∃ q, w.alloc (.cells #[.int .i64 x.a, .int .i64 x.m] 39) = q := ⟨_, rfl⟩
  obtain ⟨bx, hbx⟩ : ∃ q, w.heap.size = q := ⟨_, rfl⟩
  have hf1 : Frm [] w w1 := by rw [← hw1]; exact (Frm.refl _ _).alloc _
  have g1 : w1.heap[bx]? = some (.cells #[.int .i64 x.a, .int .i64 x.m] 39 (0, 0)) := by rw [← hw1]; exact heap_alloc_to _ _ hbx
  have c0 : w1.cell? ⟨bx, 0, none⟩ = some (.int .i64 x.a) := by rw [cell_of_row _ _ _ _ _ _ g1]; rfl
  have c1 : w1.cell? ⟨bx, 1, none⟩ = some (.int .i64 x.m) := by rw [cell_of_row _ _ _ _ _ _ g1]; rfl
  have HMB := hid (may9_any x hx w1)
  have HW1 := hid hw1
  have HBX := hid hbx
  have HF1 := hid hf1
  have HR := hid (h.k0 hf1)
  have HN := hid hN
  clear h hN hw1 hbx hf1 g1 hPO hx
  go_enter Try.func106, Try.ntmps106
  go_upto_region 1 with fail
  rw [HBX.out, HW1.out]
  go_wp2_with fail
  refine HMB.out.mono ?_
  rintro e w2 ⟨rfl, hf2⟩
  have k0 : w2.cell? ⟨bx, 0, none⟩ = some (.int .i64 x.a) := (hf2.cell (World.block_lt_of_cell? w1 _ c0) (by simp)).trans c0
  have k1 : w2.cell? ⟨bx, 1, none⟩ = some (.int .i64 x.m) := (hf2.cell (World.block_lt_of_cell? w1 _ c1) (by simp)).trans c1
  have HF2 := hid (HF1.out.trans hf2 (by simp))
  have HR2 := hid (HR.out.k0 hf2)
  clear hf2 c0 c1 HMB
  by_cases hmay : May9 x
  · have hd : decide (May9 x) = true := decide_eq_true hmay
    have HIN := hid (fun W (hW : RRef W rb p c l) => in9_any rb p c l x W hW HN.out hl hmay)
    have HHI := hid (meets9_in HN.out hmay)
    clear hmay
    rw [hd]
    clear hd
    obtain ⟨z, hz⟩ : ∃ q, inL x l = q := ⟨_, rfl⟩
    rw [hz] at HHI HIN
    clear hz
    go_wp2_with fail
    refine (HIN.out _ HR2.out).mono ?_
    rintro e w3 ⟨rfl, hf3⟩
    have HH := hid (HF2.out.trans hf3 (by simp))
    clear hf3 k0 k1 HIN
    go_wp2_with fail
    first | go_returns | skip
    exact HP.out _ _ (by rw [← HHI.out]; simp) HH.out
  · have hd : decide (May9 x) = false := decide_eq_false hmay
    have HV : Hid (false = true ↔ MeetsP l x) := hid ⟨fun h => by simp at h, fun h => absurd h.1 hmay⟩
    clear hmay
    rw [hd]
    clear hd
    go_wp2_with fail
    first | go_returns | skip
    exact HP.out _ _ HV.out HF2.out
end Go.Proofs.Ytkbppkimpefilaa
