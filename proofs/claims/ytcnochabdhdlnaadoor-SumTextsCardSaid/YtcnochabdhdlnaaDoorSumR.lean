/- Contracts of layer 2's texts: Parse. -/
import Derived.Test.YtcnochabdhdlnaaDoorSumQ
namespace Go.Proofs.YtcnochabdhdlnaaDoor
open Go.RowKit
set_option maxRecDepth 100000

def okC (c : Int) : Prop := (48 ≤ c ∧ c ≤ 57) ∨ (97 ≤ c ∧ c ≤ 102)
def vD (c : Int) : Int := if 48 ≤ c ∧ c ≤ 57 then c - 48 else if 97 ≤ c ∧ c ≤ 102 then c - 87 else 0
/-- The four numbers behind so many signs. -/
def pS (cs : List Int) : Nat → List Int
  | 0 => [0, 0, 0, 0]
  | t + 1 => (pS cs t).set (t / 16) (bits .or .u64 (IntKind.u64.wrap (zA (pS cs t) (t / 16) * 16)) (vD (zA cs t)))
theorem pS_length (cs : List Int) (t : Nat) : (pS cs t).length = 4 := by
  induction t with
  | zero => rfl
  | succ t ih => simp [pS, ih]
def listS (l : List Int) : S4 := ⟨zA l 0, zA l 1, zA l 2, zA l 3⟩
def uv (l : List Int) : List Value := l.map (fun z => Value.int .u64 z)
def good (B : ByteArray) : Prop := B.size = 64 ∧ ∀ i, i < 64 → okC (zA (tx B) i)
/-- What Parse answers. -/
def PostPa (B : ByteArray) (w : World) (e : Ending) (w' : World) : Prop :=
  Frm [] w w' ∧ ((good B ∧ e = .returned (.tuple #[.agg (listS (pS (tx B) 64)).arr, .int .i64 0])) ∨ (¬ good B ∧ e = .returned (.tuple #[.agg Z4.arr, .int .i64 21])))
structure StP (w0 w : World) (x y : Nat) (l : List Int) : Prop where
  h0 : w.heap[x]? = some (.cells #[.int .u64 0, .int .u64 0, .int .u64 0, .int .u64 0] 25 (0, 0))
  h1 : w.heap[y]? = some (.cells (uv l).toArray 52 (0, 0))
  len : l.length = 4
  hx : w0.heap.size = x
  hy : x + 1 = y
  fr : Frm [] w0 w
theorem StP.set {w0 w : World} {x y : Nat} {l : List Int} (h : StP w0 w x y l) (t : Nat) (z : Int) : StP w0 (w.setCell ⟨y, t, none⟩ (.int .u64 z)) x y (l.set t z) := by
  have f : Frm [y] w (w.setCell ⟨y, t, none⟩ (.int .u64 z)) := (Frm.refl _ _).setCell _ _ (by simp)
  have e := h.hy
  have e2 := h.hx
  refine ⟨f.heap h.h0 (by simp; omega), ?_, by simp [h.len], e2, e, h.fr.trans f (fun i hi hl => by simp at hi; omega)⟩
  rw [heap_setCell_same w y t _ _ _ h.h1]
  congr 2
  apply Array.ext'
  simp [uv, List.map_set]
theorem StP.at {w0 w : World} {x y : Nat} {l : List Int} (h : StP w0 w x y l) (t : Nat) (ht : t < 4) : w.cell? ⟨y, t, none⟩ = some (.int .u64 (zA l t)) := by
  rw [cell_of_row w _ _ _ _ _ h.h1]
  have := h.len
  simp [uv, zA, List.getD_eq_getElem?_getD, show t < l.length by omega]
theorem digit_ok (c : Int) (w : World) (hc : 0 ≤ c ∧ c < 256) (h : okC c) :
    Calls Tryd.prog 26 #[.int .u8 c] w fun e w' => e = .returned (.tuple #[.int .u64 (vD c), .bool true]) ∧ w' = w := by
  have h1 := digit_any c w hc
  rw [decide_eq_true (show (48 ≤ c ∧ c ≤ 57) ∨ (97 ≤ c ∧ c ≤ 102) from h)] at h1
  exact h1
theorem digit_no (c : Int) (w : World) (hc : 0 ≤ c ∧ c < 256) (h : ¬ okC c) :
    Calls Tryd.prog 26 #[.int .u8 c] w fun e w' => e = .returned (.tuple #[.int .u64 (vD c), .bool false]) ∧ w' = w := by
  have h1 := digit_any c w hc
  rw [decide_eq_false (show ¬ ((48 ≤ c ∧ c ≤ 57) ∨ (97 ≤ c ∧ c ≤ 102)) from h)] at h1
  exact h1
set_option maxHeartbeats 3200000 in
theorem parse_any (B : ByteArray) (w : World) :
    Calls Tryd.prog 16 #[.string B] w (PostPa B w) := by
  by_cases h64 : B.size = 64
  case neg =>
    have hb : ¬ (B.size : Int) = 64 := by omega
    have hng : ¬ good B := fun h => h64 h.1
    have HP : Hid (PostPa B w (.returned (.tuple #[.agg #[.int .u64 0, .int .u64 0, .int .u64 0, .int .u64 0], .int .i64 21])) (w.alloc (.cells #[.int .u64 0, .int .u64 0, .int .u64 0, .int .u64 0] 25))) := hid ⟨(Frm.refl _ _).alloc _, Or.inr ⟨hng, rfl⟩⟩
    clear hng
    go_enter Tryd.func16, Tryd.ntmps16
    go_wp2_with fail
    go_returns
    exact HP.out
  have hb : (B.size : Int) = 64 := by omega
  have H64 := hid h64
  have hfa : Frm [] w (w.alloc (.cells #[.int .u64 0, .int .u64 0, .int .u64 0, .int .u64 0] 25)) := (Frm.refl _ _).alloc _
  have hfb : Frm [] (w.alloc (.cells #[.int .u64 0, .int .u64 0, .int .u64 0, .int .u64 0] 25)) ((w.alloc (.cells #[.int .u64 0, .int .u64 0, .int .u64 0, .int .u64 0] 25)).alloc (.cells #[.int .u64 0, .int .u64 0, .int .u64 0, .int .u64 0] 52)) := (Frm.refl _ _).alloc _
  have HST : Hid (StP w ((w.alloc (.cells #[.int .u64 0, .int .u64 0, .int .u64 0, .int .u64 0] 25)).alloc (.cells #[.int .u64 0, .int .u64 0, .int .u64 0, .int .u64 0] 52)) w.heap.size (w.heap.size + 1) [0, 0, 0, 0]) := hid ⟨hfb.heap (heap_alloc_new _ _) (by simp), heap_alloc_to _ _ (by simp), rfl, rfl, rfl, hfa.trans hfb (by simp)⟩
  clear hfa hfb h64
  go_enter Tryd.func16, Tryd.ntmps16
  go_wp2_with fail
  obtain ⟨y, hy⟩ : ∃ y, w.heap.size + 1 = y := ⟨_, rfl⟩
  obtain ⟨x, hx⟩ : ∃ x, w.heap.size = x := ⟨_, rfl⟩
  rw [hy, hx] at HST
  rw [hy, hx]
  clear hx hy
  go_loopw [12] (fun i wr => ∃ t : Nat, t ≤ 64 ∧ i = .int .i64 t ∧ Hid (∀ i, i < t → okC (zA (tx B) i)) ∧ Hid (StP w wr x y (pS (tx B) t))) (fun i _ => 64 - (intOf i).toNat)
  case atStart => exact ⟨0, by omega, rfl, hid (by omega), HST⟩
  case round =>
    clear HST
    obtain ⟨t, ht, rfl, hok, hst⟩ := hrel
    by_cases hlt : t < 64
    · have hlB : t < B.size := by have := H64.out; omega
      have hget := tx_get B t hlB
      have hbb := B[t].toNat_lt
      have hc : (0 : Int) ≤ (B[t].toNat : Int) ∧ (B[t].toNat : Int) < 256 := by omega
      have t0 : (0 : Int) ≤ (t : Int) := by omega
      have t1 : (t : Int) < 64 := by omega
      have HF := hid hst.out.fr
      have HXX := hid hst.out.hx
      by_cases hv : okC (B[t].toNat : Int)
      · have HDG := hid (digit_ok _ wr hc hv)
        have hpn : pS (tx B) (t + 1) = (pS (tx B) t).set (t / 16) (bits .or .u64 (IntKind.u64.wrap (zA (pS (tx B) t) (t / 16) * 16)) (vD (B[t].toNat : Int))) := by rw [pS, hget]
        have HOK2 : Hid (∀ i, i < t + 1 → okC (zA (tx B) i)) := hid (fun i hi => by
          by_cases h : i = t
          · subst h; rw [hget]; exact hv
          · exact hok.out i (by omega))
        have cq := hst.out.at (t / 16) (by omega)
        have fq : wr.frozen? ⟨y, t / 16, none⟩ = false := frozen_of_row wr _ _ _ _ hst.out.h1
        obtain ⟨l, hl⟩ : ∃ l, pS (tx B) t = l := ⟨_, rfl⟩
        rw [hl] at hpn hst cq
        have HPN := hid hpn
        obtain ⟨nn, hnn⟩ : ∃ nn, zA l (t / 16) = nn := ⟨_, rfl⟩
        rw [hnn] at cq
        have HNN := hid hnn
        have d0 : (0 : Int) ≤ (t : Int) / 16 := by omega
        have d1 : (t : Int) / 16 < 4 := by omega
        have d2 : ((t : Int) / 16).toNat = t / 16 := by omega
        clear hpn hl hnn hget hbb hc hv hok
        go_wp2_with fail
        refine HDG.out.mono ?_
        rintro e w5 ⟨rfl, rfl⟩
        go_wp2_with fail
        go_roundw
        case rel => exact ⟨t + 1, by omega, by go_num, HOK2, hid (by rw [HPN.out, HNN.out]; exact hst.out.set (t / 16) _)⟩
        case measure => simp [intOf]; omega
      · have HDG := hid (digit_no _ wr hc hv)
        have HNG : Hid (¬ good B) := hid (fun h => hv (by rw [← hget]; exact h.2 t hlt))
        have o0 : wr.cell? ⟨x, 0, none⟩ = some (.int .u64 0) := by rw [cell_of_row wr _ _ _ _ _ hst.out.h0]; rfl
        have f0 : wr.frozen? ⟨x, 0, none⟩ = false := frozen_of_row wr _ 0 _ _ hst.out.h0
        have o1 : wr.cell? ⟨x, 1, none⟩ = some (.int .u64 0) := by rw [cell_of_row wr _ _ _ _ _ hst.out.h0]; rfl
        have f1 : wr.frozen? ⟨x, 1, none⟩ = false := frozen_of_row wr _ 1 _ _ hst.out.h0
        have o2 : wr.cell? ⟨x, 2, none⟩ = some (.int .u64 0) := by rw [cell_of_row wr _ _ _ _ _ hst.out.h0]; rfl
        have f2 : wr.frozen? ⟨x, 2, none⟩ = false := frozen_of_row wr _ 2 _ _ hst.out.h0
        have o3 : wr.cell? ⟨x, 3, none⟩ = some (.int .u64 0) := by rw [cell_of_row wr _ _ _ _ _ hst.out.h0]; rfl
        have f3 : wr.frozen? ⟨x, 3, none⟩ = false := frozen_of_row wr _ 3 _ _ hst.out.h0
        have HS4 := hid (set4 (y0 := .int .u64 0) (y1 := .int .u64 0) (y2 := .int .u64 0) (y3 := .int .u64 0) hst.out.h0)
        clear hget hbb hc hv hok hst
        go_wp2_with fail
        refine HDG.out.mono ?_
        rintro e w5 ⟨rfl, rfl⟩
        go_wp2_with fail
        obtain ⟨h4, f4⟩ := HS4.out
        obtain ⟨wz, hwz⟩ : ∃ wz, (((w5.setCell ⟨x, 0, none⟩ (.int .u64 0)).setCell ⟨x, 1, none⟩ (.int .u64 0)).setCell ⟨x, 2, none⟩ (.int .u64 0)).setCell ⟨x, 3, none⟩ (.int .u64 0) = wz := ⟨_, rfl⟩
        rw [hwz] at h4 f4 ⊢
        have g0 : wz.cell? ⟨x, 0, none⟩ = some (.int .u64 0) := by rw [cell_of_row wz _ _ _ _ _ h4]; rfl
        have g1 : wz.cell? ⟨x, 1, none⟩ = some (.int .u64 0) := by rw [cell_of_row wz _ _ _ _ _ h4]; rfl
        have g2 : wz.cell? ⟨x, 2, none⟩ = some (.int .u64 0) := by rw [cell_of_row wz _ _ _ _ _ h4]; rfl
        have g3 : wz.cell? ⟨x, 3, none⟩ = some (.int .u64 0) := by rw [cell_of_row wz _ _ _ _ _ h4]; rfl
        refine bodyPost_ret (v := .tuple #[.agg #[.int .u64 0, .int .u64 0, .int .u64 0, .int .u64 0], .int .i64 21]) (by simp [results, Tryd.results16, go_sem, g0, g1, g2, g3]) rfl ⟨HF.out.trans f4 (fun i hi hl => by simp at hi; have := HXX.out; omega), Or.inr ⟨HNG.out, rfl⟩⟩
    · obtain rfl : t = 64 := by omega
      rw [show ((64 : Nat) : Int) = 64 from rfl]
      have HG : Hid (good B) := hid ⟨H64.out, hok.out⟩
      have HF := hid hst.out.fr
      have HXX := hid hst.out.hx
      have n0 := hst.out.at 0 (by omega)
      have n1 := hst.out.at 1 (by omega)
      have n2 := hst.out.at 2 (by omega)
      have n3 := hst.out.at 3 (by omega)
      have o0 : wr.cell? ⟨x, 0, none⟩ = some (.int .u64 0) := by rw [cell_of_row wr _ _ _ _ _ hst.out.h0]; rfl
      have f0 : wr.frozen? ⟨x, 0, none⟩ = false := frozen_of_row wr _ 0 _ _ hst.out.h0
      have o1 : wr.cell? ⟨x, 1, none⟩ = some (.int .u64 0) := by rw [cell_of_row wr _ _ _ _ _ hst.out.h0]; rfl
      have f1 : wr.frozen? ⟨x, 1, none⟩ = false := frozen_of_row wr _ 1 _ _ hst.out.h0
      have o2 : wr.cell? ⟨x, 2, none⟩ = some (.int .u64 0) := by rw [cell_of_row wr _ _ _ _ _ hst.out.h0]; rfl
      have f2 : wr.frozen? ⟨x, 2, none⟩ = false := frozen_of_row wr _ 2 _ _ hst.out.h0
      have o3 : wr.cell? ⟨x, 3, none⟩ = some (.int .u64 0) := by rw [cell_of_row wr _ _ _ _ _ hst.out.h0]; rfl
      have f3 : wr.frozen? ⟨x, 3, none⟩ = false := frozen_of_row wr _ 3 _ _ hst.out.h0
      obtain ⟨l, hl⟩ : ∃ l, pS (tx B) 64 = l := ⟨_, rfl⟩
      rw [hl] at n0 n1 n2 n3
      have HL := hid hl
      have HS4 := hid (set4 (y0 := .int .u64 (zA l 0)) (y1 := .int .u64 (zA l 1)) (y2 := .int .u64 (zA l 2)) (y3 := .int .u64 (zA l 3)) hst.out.h0)
      clear hl hok hst hlt
      go_wp2_with fail
      obtain ⟨h4, f4⟩ := HS4.out
      obtain ⟨wz, hwz⟩ : ∃ wz, (((wr.setCell ⟨x, 0, none⟩ (.int .u64 (zA l 0))).setCell ⟨x, 1, none⟩ (.int .u64 (zA l 1))).setCell ⟨x, 2, none⟩ (.int .u64 (zA l 2))).setCell ⟨x, 3, none⟩ (.int .u64 (zA l 3)) = wz := ⟨_, rfl⟩
      rw [hwz] at h4 f4 ⊢
      have g0 : wz.cell? ⟨x, 0, none⟩ = some (.int .u64 (zA l 0)) := by rw [cell_of_row wz _ _ _ _ _ h4]; rfl
      have g1 : wz.cell? ⟨x, 1, none⟩ = some (.int .u64 (zA l 1)) := by rw [cell_of_row wz _ _ _ _ _ h4]; rfl
      have g2 : wz.cell? ⟨x, 2, none⟩ = some (.int .u64 (zA l 2)) := by rw [cell_of_row wz _ _ _ _ _ h4]; rfl
      have g3 : wz.cell? ⟨x, 3, none⟩ = some (.int .u64 (zA l 3)) := by rw [cell_of_row wz _ _ _ _ _ h4]; rfl
      refine bodyPost_ret (v := .tuple #[.agg #[.int .u64 (zA l 0), .int .u64 (zA l 1), .int .u64 (zA l 2), .int .u64 (zA l 3)], .int .i64 0]) (by simp [results, Tryd.results16, go_sem, g0, g1, g2, g3]) rfl ⟨HF.out.trans f4 (fun i hi hl => by simp at hi; have := HXX.out; omega), Or.inl ⟨HG.out, by rw [HL.out]; rfl⟩⟩
end Go.Proofs.YtcnochabdhdlnaaDoor
