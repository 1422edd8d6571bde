/- Contracts of layer 2's texts: the document's Parse. -/
import Derived.Test.YtcnochabdhdlnaaDoorSumR
import Derived.Lib.Bytes
namespace Go.Proofs.YtcnochabdhdlnaaDoor
open Go.RowKit
set_option maxRecDepth 100000

theorem strOfNums_toInj {xs ys : List Int} (h : (strOfNums xs).toList = (strOfNums ys).toList) : strOfNums xs = strOfNums ys := by
  rw [Lib.strOfNums_toList, Lib.strOfNums_toList] at h
  have h2 : (strOfNums xs).data.toList = (strOfNums ys).data.toList := h
  have h3 := Array.toList_inj.1 h2
  cases hs : strOfNums xs
  cases ht : strOfNums ys
  rw [hs, ht] at h3
  simp only at h3
  rw [h3]
theorem str_tx (B : ByteArray) : strOfNums (tx B) = B := by
  cases B with
  | mk d => simp [strOfNums, tx, Function.comp_def]
theorem ba_inj {A B : ByteArray} (h : A.toList = B.toList) : A = B := by
  rw [← str_tx A, ← str_tx B] at h ⊢
  exact strOfNums_toInj h
theorem numF_bd (cs : List Int) (t : Nat) : OkN (numF cs t) := by
  cases t with
  | zero => exact ⟨by simp [numF], by simp [numF]⟩
  | succ t =>
    unfold numF
    constructor
    · show 0 ≤ _ % 18446744073709551616; omega
    · show _ % 18446744073709551616 < _; omega
/-- The four numbers that the document takes of a text. -/
def NS (B : ByteArray) : S4 := ⟨numF (tx (B.extract 0 16)) 16, numF (tx (B.extract 16 32)) 16, numF (tx (B.extract 32 48)) 16, numF (tx (B.extract 48 64)) 16⟩
/-- What the document's Parse answers. -/
def PostRP (B : ByteArray) (w : World) (e : Ending) (w' : World) : Prop :=
  Frm [] w w' ∧ ((B.size = 64 ∧ strOfNums (hexL (NS B)) = B ∧ e = .returned (.tuple #[.agg (NS B).arr, .int .i64 0])) ∨ (¬ (B.size = 64 ∧ strOfNums (hexL (NS B)) = B) ∧ e = .returned (.tuple #[.agg Z4.arr, .int .i64 21])))
theorem refParse_short (B : ByteArray) (w : World) (h64 : ¬ B.size = 64) :
    Calls Tryd.prog 17 #[.string B] w (PostRP B w) := by
  have hb : ¬ (B.size : Int) = 64 := by omega
  have HP : Hid (PostRP B w (.returned (.tuple #[.agg #[.int .u64 0, .int .u64 0, .int .u64 0, .int .u64 0], .int .i64 21])) (w.alloc (.cells #[.int .u64 0, .int .u64 0, .int .u64 0, .int .u64 0] 25))) := hid ⟨(Frm.refl _ _).alloc _, Or.inr ⟨fun h => h64 h.1, rfl⟩⟩
  clear h64
  go_enter Tryd.func17, Tryd.ntmps17
  go_wp2_with fail
  go_returns
  exact HP.out
set_option maxHeartbeats 6400000 in
theorem refParse_any (B : ByteArray) (w : World) (h64 : B.size = 64) :
    Calls Tryd.prog 17 #[.string B] w (PostRP B w) := by
  have HNS : Hid (NS B = ⟨numF (tx (B.extract 0 16)) 16, numF (tx (B.extract 16 32)) 16, numF (tx (B.extract 32 48)) 16, numF (tx (B.extract 48 64)) 16⟩) := hid rfl
  have H64 := hid h64
  have hb : (B.size : Int) = 64 := by omega
  have HNB : Hid (∀ a b W, Calls Tryd.prog 27 #[.string (B.extract a b)] W fun e w' => e = .returned (.int .u64 (numF (tx (B.extract a b)) (B.extract a b).size)) ∧ w' = W) := hid (fun a b W => number_any _ (by rw [ByteArray.size_extract]; omega) W)
  go_enter Tryd.func17, Tryd.ntmps17
  go_wp2_with fail
  have hrow := heap_alloc_new w (.cells #[.int .u64 0, .int .u64 0, .int .u64 0, .int .u64 0] 25)
  have hf0 : Frm [] w (w.alloc (.cells #[.int .u64 0, .int .u64 0, .int .u64 0, .int .u64 0] 25)) := (Frm.refl _ _).alloc _
  obtain ⟨w1, hw1⟩ : ∃ w1, w.alloc (.cells #[.int .u64 0, .int .u64 0, .int .u64 0, .int .u64 0] 25) = w1 := ⟨_, rfl⟩
  obtain ⟨x, hx⟩ : ∃ x, w.heap.size = x := ⟨_, rfl⟩
  have hsz : w1.heap.size = x + 1 := by rw [← hw1, ← hx]; simp
  rw [hw1, hx] at hrow
  rw [hw1] at hf0
  rw [hw1, hx]
  have HROW := hid hrow
  have HF0 := hid hf0
  have HXX := hid hx
  have hlt : x < w1.heap.size := by omega
  have q0 : w1.cell? ⟨x, 0, none⟩ = some (.int .u64 0) := by rw [cell_of_row w1 _ _ _ _ _ hrow]; rfl
  have q1 : w1.cell? ⟨x, 1, none⟩ = some (.int .u64 0) := by rw [cell_of_row w1 _ _ _ _ _ hrow]; rfl
  clear hrow hf0 hw1 hx
  go_region_held3 (fun w' => w'.cell? ⟨x, 0, none⟩ = some (.int .u64 0) ∧ w'.cell? ⟨x, 1, none⟩ = some (.int .u64 0)) (first | (exact ⟨q0, q1⟩) | go_keep) (((with_reducible refine (HNB.out _ _ _).mono ?_); rintro e w5 ⟨rfl, rfl⟩))
  all_goals
    generalize hN0 : numF (tx (B.extract 0 16)) 16 = m0 at HNS ⊢
    generalize hN1 : numF (tx (B.extract 16 32)) 16 = m1 at HNS ⊢
    generalize hN2 : numF (tx (B.extract 32 48)) 16 = m2 at HNS ⊢
    generalize hN3 : numF (tx (B.extract 48 64)) 16 = m3 at HNS ⊢
    have hok : (⟨m0, m1, m2, m3⟩ : S4).ok := ⟨hN0 ▸ numF_bd _ _, hN1 ▸ numF_bd _ _, hN2 ▸ numF_bd _ _, hN3 ▸ numF_bd _ _⟩
    clear hN0 hN1 hN2 hN3 HNB
    have hfd : Frm [] w1 (w1.alloc (.cells #[.int .u64 m0, .int .u64 m1, .int .u64 m2, .int .u64 m3] 25)).drew := ((Frm.refl _ _).alloc _).drew
    have hr2 : (w1.alloc (.cells #[.int .u64 m0, .int .u64 m1, .int .u64 m2, .int .u64 m3] 25)).drew.heap[w1.heap.size]? = some (.cells #[.int .u64 m0, .int .u64 m1, .int .u64 m2, .int .u64 m3] 25 (0, 0)) := heap_alloc_new w1 _
    obtain ⟨w2, hw2⟩ : ∃ w2, (w1.alloc (.cells #[.int .u64 m0, .int .u64 m1, .int .u64 m2, .int .u64 m3] 25)).drew = w2 := ⟨_, rfl⟩
    obtain ⟨b2, hb2⟩ : ∃ b2, x + 1 = b2 := ⟨_, rfl⟩
    rw [hw2] at hfd hr2 ⊢
    rw [hsz, hb2] at hr2
    rw [hb2]
    have hrx := hfd.heap HROW.out (by simp)
    clear q0 q1 hw2 hb2 hlt hsz
    have e0 : w2.cell? ⟨b2, 0, none⟩ = some (.int .u64 m0) := by rw [cell_of_row w2 _ _ _ _ _ hr2]; rfl
    have e1 : w2.cell? ⟨b2, 1, none⟩ = some (.int .u64 m1) := by rw [cell_of_row w2 _ _ _ _ _ hr2]; rfl
    have e2 : w2.cell? ⟨b2, 2, none⟩ = some (.int .u64 m2) := by rw [cell_of_row w2 _ _ _ _ _ hr2]; rfl
    have e3 : w2.cell? ⟨b2, 3, none⟩ = some (.int .u64 m3) := by rw [cell_of_row w2 _ _ _ _ _ hr2]; rfl
    have HPR := hid (refPrint_any ⟨m0, m1, m2, m3⟩ w2 hok)
    have HF2 := hid (HF0.out.trans hfd (by simp))
    have HR2 := hid hr2
    have HRX := hid hrx
    clear hok hfd hr2 hrx
    go_wp2_with fail
    refine HPR.out.mono ?_
    rintro e w3 ⟨rfl, hf3⟩
    have HF3 := hid (HF2.out.trans hf3 (by simp))
    have hr3 := hf3.heap HR2.out (by simp)
    have hx3 := hf3.heap HRX.out (by simp)
    clear e0 e1 e2 e3
    have e0 : w3.cell? ⟨b2, 0, none⟩ = some (.int .u64 m0) := by rw [cell_of_row w3 _ _ _ _ _ hr3]; rfl
    have e1 : w3.cell? ⟨b2, 1, none⟩ = some (.int .u64 m1) := by rw [cell_of_row w3 _ _ _ _ _ hr3]; rfl
    have e2 : w3.cell? ⟨b2, 2, none⟩ = some (.int .u64 m2) := by rw [cell_of_row w3 _ _ _ _ _ hr3]; rfl
    have e3 : w3.cell? ⟨b2, 3, none⟩ = some (.int .u64 m3) := by rw [cell_of_row w3 _ _ _ _ _ hr3]; rfl
    have o0 : w3.cell? ⟨x, 0, none⟩ = some (.int .u64 0) := by rw [cell_of_row w3 _ _ _ _ _ hx3]; rfl
    have f0 : w3.frozen? ⟨x, 0, none⟩ = false := frozen_of_row w3 _ 0 _ _ hx3
    have o1 : w3.cell? ⟨x, 1, none⟩ = some (.int .u64 0) := by rw [cell_of_row w3 _ _ _ _ _ hx3]; rfl
    have f1 : w3.frozen? ⟨x, 1, none⟩ = false := frozen_of_row w3 _ 1 _ _ hx3
    have o2 : w3.cell? ⟨x, 2, none⟩ = some (.int .u64 0) := by rw [cell_of_row w3 _ _ _ _ _ hx3]; rfl
    have f2 : w3.frozen? ⟨x, 2, none⟩ = false := frozen_of_row w3 _ 2 _ _ hx3
    have o3 : w3.cell? ⟨x, 3, none⟩ = some (.int .u64 0) := by rw [cell_of_row w3 _ _ _ _ _ hx3]; rfl
    have f3 : w3.frozen? ⟨x, 3, none⟩ = false := frozen_of_row w3 _ 3 _ _ hx3
    obtain ⟨PB, hPB⟩ : ∃ PB, strOfNums (hexL ⟨m0, m1, m2, m3⟩) = PB := ⟨_, rfl⟩
    have HPB : Hid (strOfNums (hexL (NS B)) = PB) := hid (by rw [HNS.out, hPB])
    rw [hPB]
    clear hPB
    by_cases heq : PB = B
    · have hd : (PB.toList == B.toList) = true := by simp [heq]
      have HS4 := hid (set4 (y0 := .int .u64 m0) (y1 := .int .u64 m1) (y2 := .int .u64 m2) (y3 := .int .u64 m3) hx3)
      have HEQ := hid heq
      clear hr3 hx3 hf3 heq
      go_wp2_with fail
      obtain ⟨h4, f4⟩ := HS4.out
      obtain ⟨wz, hwz⟩ : ∃ wz, (((w3.setCell ⟨x, 0, none⟩ (.int .u64 m0)).setCell ⟨x, 1, none⟩ (.int .u64 m1)).setCell ⟨x, 2, none⟩ (.int .u64 m2)).setCell ⟨x, 3, none⟩ (.int .u64 m3) = wz := ⟨_, rfl⟩
      rw [hwz] at h4 f4 ⊢
      have g0 : wz.cell? ⟨x, 0, none⟩ = some (.int .u64 m0) := by rw [cell_of_row wz _ _ _ _ _ h4]; rfl
      have g1 : wz.cell? ⟨x, 1, none⟩ = some (.int .u64 m1) := by rw [cell_of_row wz _ _ _ _ _ h4]; rfl
      have g2 : wz.cell? ⟨x, 2, none⟩ = some (.int .u64 m2) := by rw [cell_of_row wz _ _ _ _ _ h4]; rfl
      have g3 : wz.cell? ⟨x, 3, none⟩ = some (.int .u64 m3) := by rw [cell_of_row wz _ _ _ _ _ h4]; rfl
      refine bodyPost_ret (v := .tuple #[.agg #[.int .u64 m0, .int .u64 m1, .int .u64 m2, .int .u64 m3], .int .i64 0]) (by simp [results, Tryd.results17, go_sem, g0, g1, g2, g3]) rfl ⟨HF3.out.trans f4 (fun i hi hl => by simp at hi; have := HXX.out; omega), Or.inl ⟨H64.out, by rw [HPB.out, HEQ.out], by rw [HNS.out]; rfl⟩⟩
    · have hd : (PB.toList == B.toList) = false := beq_false_of_ne (fun h => heq (ba_inj h))
      have HS4 := hid (set4 (y0 := .int .u64 0) (y1 := .int .u64 0) (y2 := .int .u64 0) (y3 := .int .u64 0) hx3)
      have HEQ := hid heq
      clear hr3 hx3 hf3 heq
      go_wp2_with fail
      obtain ⟨h4, f4⟩ := HS4.out
      obtain ⟨wz, hwz⟩ : ∃ wz, (((w3.setCell ⟨x, 0, none⟩ (.int .u64 0)).setCell ⟨x, 1, none⟩ (.int .u64 0)).setCell ⟨x, 2, none⟩ (.int .u64 0)).setCell ⟨x, 3, none⟩ (.int .u64 0) = wz := ⟨_, rfl⟩
      rw [hwz] at h4 f4 ⊢
      have g0 : wz.cell? ⟨x, 0, none⟩ = some (.int .u64 0) := by rw [cell_of_row wz _ _ _ _ _ h4]; rfl
      have g1 : wz.cell? ⟨x, 1, none⟩ = some (.int .u64 0) := by rw [cell_of_row wz _ _ _ _ _ h4]; rfl
      have g2 : wz.cell? ⟨x, 2, none⟩ = some (.int .u64 0) := by rw [cell_of_row wz _ _ _ _ _ h4]; rfl
      have g3 : wz.cell? ⟨x, 3, none⟩ = some (.int .u64 0) := by rw [cell_of_row wz _ _ _ _ _ h4]; rfl
      refine bodyPost_ret (v := .tuple #[.agg #[.int .u64 0, .int .u64 0, .int .u64 0, .int .u64 0], .int .i64 21]) (by simp [results, Tryd.results17, go_sem, g0, g1, g2, g3]) rfl ⟨HF3.out.trans f4 (fun i hi hl => by simp at hi; have := HXX.out; omega), Or.inr ⟨fun h => HEQ.out (by rw [← HPB.out]; exact h.2), rfl⟩⟩
end Go.Proofs.YtcnochabdhdlnaaDoor
