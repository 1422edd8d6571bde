/- The chapter's example of layer 2's laws, walked. -/
import Derived.Test.YtcnochabdhdlnaaDoorSumJ
import Derived.Lib.SlBytesConst
namespace Go.Proofs.YtcnochabdhdlnaaDoor
open Go.RowKit
set_option maxRecDepth 100000

theorem rd_mark16 {w : World} {zs : List Int} {E : TypeId} {fr : Nat × Nat} : Rd (w.alloc (.cells (bv zs).toArray E fr)) (some ⟨w.heap.size, 0, none⟩) zs := by
  refine Or.inr ⟨w.heap.size, 0, rfl, fun i hi => ?_⟩
  rw [Nat.zero_add, World.cell?_alloc_mark]
  simpa using bv_get hi
theorem s4_of (s : S4) (a b c d : Int) (h : (s.a == a && s.b == b && s.c == c && s.d == d) = true) : s = ⟨a, b, c, d⟩ := by
  simp only [Bool.and_eq_true, beq_iff_eq] at h
  obtain ⟨⟨⟨h1, h2⟩, h3⟩, h4⟩ := h
  cases s
  simp_all
theorem fl_ex : fletch [1, 0, 0, 0, 2] = ⟨3, 4, 5, 6⟩ := s4_of _ _ _ _ _ (by kernel_rfl)
theorem hex_ex : strOfNums (hexL ⟨13436514500253700074, 4702110809750118947, 12683088330831133340, 12975151322591401389⟩) = ⟨#[98, 97, 55, 56, 49, 54, 98, 102, 56, 102, 48, 49, 99, 102, 101, 97, 52, 49, 52, 49, 52, 48, 100, 101, 53, 100, 97, 101, 50, 50, 50, 51, 98, 48, 48, 51, 54, 49, 97, 51, 57, 54, 49, 55, 55, 97, 57, 99, 98, 52, 49, 48, 102, 102, 54, 49, 102, 50, 48, 48, 49, 53, 97, 100]⟩ := by decide +kernel
set_option maxHeartbeats 1600000 in
theorem awake2_any (w : World) (hpr : Primes w) :
    Calls Tryd.prog 8 #[] w fun e w' => e = .returned (.bool true) ∧ Frm [] w w' := by
  have HPR := hid hpr
  have HOF : Hid (∀ (b : Nat) (W : World), W.heap[b]? = some (.cells #[.int .u8 1, .int .u8 0, .int .u8 0, .int .u8 0, .int .u8 2] 5 (0, 0)) → Calls Tryd.prog 10 #[.int .i64 1, .slice (some ⟨b, 0, none⟩) 5 5] W fun e w' => e = .returned (.tuple #[.agg #[.int .u64 3, .int .u64 4, .int .u64 5, .int .u64 6], .int .i64 0]) ∧ Frm [] W w') := hid (fun b W h => by
    have := of_fl (some ⟨b, 0, none⟩) 5 5 [1, 0, 0, 0, 2] W rfl (by omega) (by omega) (own_of_block (E := 5) (zs := [1, 0, 0, 0, 2]) h (by simp [maxLen])).rd (by simp)
    rw [fl_ex] at this
    exact this)
  have HCK : Hid (∀ (b : Nat) (W : World), W.heap[b]? = some (.cells #[.int .u8 1, .int .u8 0, .int .u8 0, .int .u8 0, .int .u8 2] 5 (0, 0)) → Calls Tryd.prog 14 #[.int .i64 1, .agg #[.int .u64 3, .int .u64 4, .int .u64 5, .int .u64 6], .slice (some ⟨b, 0, none⟩) 5 5] W fun e w' => e = .returned (.bool true) ∧ Frm [] W w') := hid (fun b W h => by
    have := check_fl ⟨3, 4, 5, 6⟩ (some ⟨b, 0, none⟩) 5 5 [1, 0, 0, 0, 2] W rfl (by omega) (by omega) (own_of_block (E := 5) (zs := [1, 0, 0, 0, 2]) h (by simp [maxLen])).rd (by simp)
    rw [fl_ex] at this
    exact this)
  have HSH : Hid (∀ (b : Nat) (W : World), Rd W (some ⟨b, 0, none⟩) [97, 98, 99] → Primes W → Calls Tryd.prog 10 #[.int .i64 2, .slice (some ⟨b, 0, none⟩) 3 3] W fun e w' => e = .returned (.tuple #[.agg #[.int .u64 13436514500253700074, .int .u64 4702110809750118947, .int .u64 12683088330831133340, .int .u64 12975151322591401389], .int .i64 0]) ∧ Frm [] W w') := hid (fun b W h hp => by
    have := of_sha (some ⟨b, 0, none⟩) 3 3 [97, 98, 99] W rfl (by omega) h (by simp) hp
    rw [sha_abc] at this
    exact this)
  have HPT : Hid (∀ (W : World), Calls Tryd.prog 15 #[.agg #[.int .u64 13436514500253700074, .int .u64 4702110809750118947, .int .u64 12683088330831133340, .int .u64 12975151322591401389]] W fun e w' => e = .returned (.string ⟨#[98, 97, 55, 56, 49, 54, 98, 102, 56, 102, 48, 49, 99, 102, 101, 97, 52, 49, 52, 49, 52, 48, 100, 101, 53, 100, 97, 101, 50, 50, 50, 51, 98, 48, 48, 51, 54, 49, 97, 51, 57, 54, 49, 55, 55, 97, 57, 99, 98, 52, 49, 48, 102, 102, 54, 49, 102, 50, 48, 48, 49, 53, 97, 100]⟩) ∧ Frm [] W w') := hid (fun W => by
    have := print_any ⟨13436514500253700074, 4702110809750118947, 12683088330831133340, 12975151322591401389⟩ W (by simp [S4.ok])
    rw [hex_ex] at this
    exact this)
  have hcx : ∀ (W : World) (S : Array Value) (T : TypeId) (C : Array Value) (n c : Nat), (convert 22 22 (.slice (some ⟨W.heap.size + 1, 0, none⟩) n c)).run Tryd.prog ((W.alloc (.cells S T)).alloc (.cells C 5)) = .ok (.slice (some ⟨W.heap.size + 1, 0, none⟩) n c) ((W.alloc (.cells S T)).alloc (.cells C 5 (C.size, C.size + 1))) := fun W S T C n c => by
    have h := Lib.run_convert_bytes_const (P := Tryd.prog) (W.alloc (.cells S T)) 22 5 C n c Tryd.underlying22 Tryd.underlying5
    rwa [show (W.alloc (.cells S T)).heap.size = W.heap.size + 1 by simp] at h
  clear hpr
  go_enter Tryd.func8, Tryd.ntmps8
  go_wp2_with fail
  refine (HOF.out _ _ (heap_alloc_new _ _)).mono ?_
  rintro e w1 ⟨rfl, hf1⟩
  have HF1 := hid (((Frm.refl [] w).alloc (.cells #[.int .u8 1, .int .u8 0, .int .u8 0, .int .u8 0, .int .u8 2] 5)).trans hf1 (by simp))
  clear hf1
  go_wp2_with fail
  have hrd3 : Rd ((w1.alloc (.cells #[.int .u64 3, .int .u64 4, .int .u64 5, .int .u64 6] 25)).alloc (.cells #[.int .u8 97, .int .u8 98, .int .u8 99] 5 (3, 4))) (some ⟨w1.heap.size + 1, 0, none⟩) [97, 98, 99] := by
    have h := rd_mark16 (w := w1.alloc (.cells #[.int .u64 3, .int .u64 4, .int .u64 5, .int .u64 6] 25)) (zs := [97, 98, 99]) (E := 5) (fr := (3, 4))
    rwa [show (w1.alloc (.cells #[.int .u64 3, .int .u64 4, .int .u64 5, .int .u64 6] 25)).heap.size = w1.heap.size + 1 by simp] at h
  have hfs : Frm [] w1 (w1.alloc (.cells #[.int .u64 3, .int .u64 4, .int .u64 5, .int .u64 6] 25)) := (Frm.refl _ _).alloc _
  have hfb : Frm [] (w1.alloc (.cells #[.int .u64 3, .int .u64 4, .int .u64 5, .int .u64 6] 25)) ((w1.alloc (.cells #[.int .u64 3, .int .u64 4, .int .u64 5, .int .u64 6] 25)).alloc (.cells #[.int .u8 97, .int .u8 98, .int .u8 99] 5 (3, 4))) := (Frm.refl _ _).alloc _
  have hrow := hfb.heap (heap_alloc_new w1 (.cells #[.int .u64 3, .int .u64 4, .int .u64 5, .int .u64 6] 25)) (by simp)
  have hF3 := (HF1.out.trans hfs (by simp)).trans hfb (by simp)
  refine (HSH.out _ _ hrd3 (HPR.out.kept hF3)).mono ?_
  rintro e w2 ⟨rfl, hf2⟩
  have hrow2 := hf2.heap hrow (by simp)
  have HF2 := hid (hF3.trans hf2 (by simp))
  obtain ⟨b1, hb1⟩ : ∃ b1, w1.heap.size = b1 := ⟨_, rfl⟩
  rw [hb1] at hrow2 ⊢
  have hlt2 : b1 < w2.heap.size := lt_of_heap hrow2
  have e0 : w2.cell? ⟨b1, 0, none⟩ = some (.int .u64 3) := by rw [cell_of_row w2 _ _ _ _ _ hrow2]; rfl
  have e1 : w2.cell? ⟨b1, 1, none⟩ = some (.int .u64 4) := by rw [cell_of_row w2 _ _ _ _ _ hrow2]; rfl
  have e2 : w2.cell? ⟨b1, 2, none⟩ = some (.int .u64 5) := by rw [cell_of_row w2 _ _ _ _ _ hrow2]; rfl
  have e3 : w2.cell? ⟨b1, 3, none⟩ = some (.int .u64 6) := by rw [cell_of_row w2 _ _ _ _ _ hrow2]; rfl
  have HROW := hid hrow2
  clear hrd3 hfs hfb hrow hF3 hf2 hrow2 hb1
  go_wp2_with fail
  have hga : Frm [] w2 (w2.alloc (.cells #[.int .u64 13436514500253700074, .int .u64 4702110809750118947, .int .u64 12683088330831133340, .int .u64 12975151322591401389] 25)) := (Frm.refl _ _).alloc _
  have hgb : Frm [] (w2.alloc (.cells #[.int .u64 13436514500253700074, .int .u64 4702110809750118947, .int .u64 12683088330831133340, .int .u64 12975151322591401389] 25)) ((w2.alloc (.cells #[.int .u64 13436514500253700074, .int .u64 4702110809750118947, .int .u64 12683088330831133340, .int .u64 12975151322591401389] 25)).alloc (.cells #[.int .u8 1, .int .u8 0, .int .u8 0, .int .u8 0, .int .u8 2] 5)) := (Frm.refl _ _).alloc _
  have hby : ((w2.alloc (.cells #[.int .u64 13436514500253700074, .int .u64 4702110809750118947, .int .u64 12683088330831133340, .int .u64 12975151322591401389] 25)).alloc (.cells #[.int .u8 1, .int .u8 0, .int .u8 0, .int .u8 0, .int .u8 2] 5)).heap[w2.heap.size + 1]? = some (.cells #[.int .u8 1, .int .u8 0, .int .u8 0, .int .u8 0, .int .u8 2] 5 (0, 0)) := heap_alloc_to _ _ (by simp)
  have hs2 := hgb.heap (heap_alloc_new w2 (.cells #[.int .u64 13436514500253700074, .int .u64 4702110809750118947, .int .u64 12683088330831133340, .int .u64 12975151322591401389] 25)) (by simp)
  have hgab := hga.trans hgb (by simp)
  refine (HCK.out _ _ hby).mono ?_
  rintro e w4 ⟨rfl, hf4⟩
  have hr1 := hf4.heap (hgab.heap HROW.out (by simp)) (by simp)
  have hr2 := hf4.heap hs2 (by simp)
  have HF4 := hid ((HF2.out.trans hgab (by simp)).trans hf4 (by simp))
  obtain ⟨b2, hb2⟩ : ∃ b2, w2.heap.size = b2 := ⟨_, rfl⟩
  rw [hb2] at hr2 ⊢
  clear e0 e1 e2 e3 hga hgb hby hs2 hgab hf4 hb2 hlt2
  have e0 : w4.cell? ⟨b1, 0, none⟩ = some (.int .u64 3) := by rw [cell_of_row w4 _ _ _ _ _ hr1]; rfl
  have e1 : w4.cell? ⟨b1, 1, none⟩ = some (.int .u64 4) := by rw [cell_of_row w4 _ _ _ _ _ hr1]; rfl
  have e2 : w4.cell? ⟨b1, 2, none⟩ = some (.int .u64 5) := by rw [cell_of_row w4 _ _ _ _ _ hr1]; rfl
  have e3 : w4.cell? ⟨b1, 3, none⟩ = some (.int .u64 6) := by rw [cell_of_row w4 _ _ _ _ _ hr1]; rfl
  have g0 : w4.cell? ⟨b2, 0, none⟩ = some (.int .u64 13436514500253700074) := by rw [cell_of_row w4 _ _ _ _ _ hr2]; rfl
  have g1 : w4.cell? ⟨b2, 1, none⟩ = some (.int .u64 4702110809750118947) := by rw [cell_of_row w4 _ _ _ _ _ hr2]; rfl
  have g2 : w4.cell? ⟨b2, 2, none⟩ = some (.int .u64 12683088330831133340) := by rw [cell_of_row w4 _ _ _ _ _ hr2]; rfl
  have g3 : w4.cell? ⟨b2, 3, none⟩ = some (.int .u64 12975151322591401389) := by rw [cell_of_row w4 _ _ _ _ _ hr2]; rfl
  clear hr1 hr2
  go_wp2_with fail
  refine (HPT.out w4).mono ?_
  rintro e w5 ⟨rfl, hf5⟩
  have HF5 := hid (HF4.out.trans hf5 (by simp))
  clear hf5
  go_wp2_with fail
  go_returns
  exact ⟨by first | rfl | simp, HF5.out⟩
end Go.Proofs.YtcnochabdhdlnaaDoor
