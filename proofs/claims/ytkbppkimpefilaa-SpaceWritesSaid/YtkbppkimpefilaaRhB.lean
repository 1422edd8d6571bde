/- The document's sets: the small functions. -/
import Derived.Test.YtkbppkimpefilaaRhA
namespace Go.Proofs.Ytkbppkimpefilaa
open Go.RowKit Go.Lib
set_option maxRecDepth 100000

set_option maxHeartbeats 3200000 in
theorem may9_any (y : Sp) (h : y.In) (w : World) : Calls Try.prog 85 #[.agg #[.int .i64 y.a, .int .i64 y.m]] w fun e w' => e = .returned (.bool (decide (May9 y))) ∧ Frm [] w w' := by
  obtain ⟨⟨h1, h2⟩, h3, h4⟩ := h
  obtain ⟨a, m⟩ := y
  simp only at h1 h2 h3 h4
  obtain ⟨PO, hPO⟩ : ∃ PO : Ending → World → Prop, (fun e w' => e = .returned (.bool (decide (May9 ⟨a, m⟩))) ∧ Frm [] w w') = PO := ⟨_, rfl⟩
  rw [hPO]
  have HP : Hid (∀ b w', (b = true ↔ May9 ⟨a, m⟩) → Frm [] w w' → PO (.returned (.bool b)) w') := hid (fun b w' h1 h2 => by
    rw [← hPO]
    refine ⟨?_, h2⟩
    have : b = decide (May9 ⟨a, m⟩) := by by_cases h : May9 ⟨a, m⟩ <;> cases b <;> simp_all
    rw [this])
  clear hPO
  go_enter Try.func85, Try.ntmps85
  by_cases c1 : 0 ≤ a
  · by_cases c2 : 1 ≤ m
    · by_cases c3 : a ≤ 1099511627776
      · by_cases c4 : m ≤ 1099511627776 - a
        · go_wp2_with fail
          first | go_returns | skip
          exact HP.out _ _ ⟨fun _ => ⟨c1, c2, by show m ≤ 1099511627776; omega, by show a ≤ 1099511627776 - m; omega⟩, fun _ => rfl⟩ ((Frm.refl _ _).alloc _)
        · go_wp2_with fail
          first | go_returns | skip
          exact HP.out _ _ ⟨fun h => by simp at h, fun h => absurd h.2.2.2 (by show ¬ a ≤ 1099511627776 - m; omega)⟩ ((Frm.refl _ _).alloc _)
      · go_wp2_with fail
        first | go_returns | skip
        exact HP.out _ _ ⟨fun h => by simp at h, fun h => by obtain ⟨q1, q2, q3, q4⟩ := h; simp only at q1 q2 q3 q4; omega⟩ ((Frm.refl _ _).alloc _)
    · go_wp2_with fail
      first | go_returns | skip
      exact HP.out _ _ ⟨fun h => by simp at h, fun h => absurd h.2.1 (by show ¬ 1 ≤ m; omega)⟩ ((Frm.refl _ _).alloc _)
  · go_wp2_with fail
    first | go_returns | skip
    exact HP.out _ _ ⟨fun h => by simp at h, fun h => absurd h.1 (by show ¬ 0 ≤ a; omega)⟩ ((Frm.refl _ _).alloc _)
set_option maxHeartbeats 6400000 in
theorem common_any (y z : Sp) (hy : y.Fits) (hz : z.Fits) (w : World) : Calls Try.prog 93 #[.agg #[.int .i64 y.a, .int .i64 y.m], .agg #[.int .i64 z.a, .int .i64 z.m]] w fun e w' => e = .returned (.int .i64 (cm9 y z)) ∧ Frm [] w w' := by
  obtain ⟨a1, a2, a3, a4⟩ := hy
  obtain ⟨b1, b2, b3, b4⟩ := hz
  obtain ⟨ya, ym⟩ := y
  obtain ⟨za, zm⟩ := z
  simp only at a1 a2 a3 a4 b1 b2 b3 b4
  obtain ⟨PO, hPO⟩ : ∃ PO : Ending → World → Prop, (fun e w' => e = .returned (.int .i64 (cm9 ⟨ya, ym⟩ ⟨za, zm⟩)) ∧ Frm [] w w') = PO := ⟨_, rfl⟩
  rw [hPO]
  have HP : Hid (∀ v w', cm9 ⟨ya, ym⟩ ⟨za, zm⟩ = v → Frm [] w w' → PO (.returned (.int .i64 v)) w') := hid (fun v w' h1 h2 => by rw [← hPO]; exact ⟨by rw [h1], h2⟩)
  have hcm : cm9 ⟨ya, ym⟩ ⟨za, zm⟩ = if min (ya + ym) (za + zm) < max ya za then 0 else min (ya + ym) (za + zm) - max ya za := rfl
  have HCM := hid hcm
  have HF : Hid (Frm [] w ((w.alloc (.cells #[.int .i64 ya, .int .i64 ym] 39)).alloc (.cells #[.int .i64 za, .int .i64 zm] 39))) := hid (((Frm.refl _ _).alloc _).alloc _)
  clear hPO hcm
  go_enter Try.func93, Try.ntmps93
  by_cases c1 : ya < za <;> by_cases c2 : za + zm < ya + ym
  · by_cases c3 : za + zm < za
    · have HV : Hid (cm9 ⟨ya, ym⟩ ⟨za, zm⟩ = 0) := hid (by rw [HCM.out]; split <;> omega)
      go_wp2_with fail
      first | go_returns | skip
      exact HP.out _ _ HV.out HF.out
    · have HV : Hid (cm9 ⟨ya, ym⟩ ⟨za, zm⟩ = za + zm - za) := hid (by rw [HCM.out]; split <;> omega)
      go_wp2_with fail
      first | go_returns | skip
      exact HP.out _ _ HV.out HF.out
  · by_cases c3 : ya + ym < za
    · have HV : Hid (cm9 ⟨ya, ym⟩ ⟨za, zm⟩ = 0) := hid (by rw [HCM.out]; split <;> omega)
      go_wp2_with fail
      first | go_returns | skip
      exact HP.out _ _ HV.out HF.out
    · have HV : Hid (cm9 ⟨ya, ym⟩ ⟨za, zm⟩ = ya + ym - za) := hid (by rw [HCM.out]; split <;> omega)
      go_wp2_with fail
      first | go_returns | skip
      exact HP.out _ _ HV.out HF.out
  · by_cases c3 : za + zm < ya
    · have HV : Hid (cm9 ⟨ya, ym⟩ ⟨za, zm⟩ = 0) := hid (by rw [HCM.out]; split <;> omega)
      go_wp2_with fail
      first | go_returns | skip
      exact HP.out _ _ HV.out HF.out
    · have HV : Hid (cm9 ⟨ya, ym⟩ ⟨za, zm⟩ = za + zm - ya) := hid (by rw [HCM.out]; split <;> omega)
      go_wp2_with fail
      first | go_returns | skip
      exact HP.out _ _ HV.out HF.out
  · by_cases c3 : ya + ym < ya
    · have HV : Hid (cm9 ⟨ya, ym⟩ ⟨za, zm⟩ = 0) := hid (by rw [HCM.out]; split <;> omega)
      go_wp2_with fail
      first | go_returns | skip
      exact HP.out _ _ HV.out HF.out
    · have HV : Hid (cm9 ⟨ya, ym⟩ ⟨za, zm⟩ = ya + ym - ya) := hid (by rw [HCM.out]; split <;> omega)
      go_wp2_with fail
      first | go_returns | skip
      exact HP.out _ _ HV.out HF.out
/-- A set of the document's. -/
structure RRef (w : World) (rb : Nat) (p : Option Addr) (c : Nat) (l : List Sp) : Prop where
  row : w.heap[rb]? = some (.cells #[.slice p l.length c] 46 (0, 0))
  own : OwnS w p l.length c l
  ap : rb ∉ blk p
theorem RRef.kept {w w' : World} {rb : Nat} {p : Option Addr} {c : Nat} {l : List Sp} {T : List Nat} (h : RRef w rb p c l) (hf : Frm T w w') (hs : rb ∉ T) (hp : ∀ k ∈ blk p, k ∉ T) : RRef w' rb p c l := ⟨hf.heap h.row hs, h.own.kept hf hp, h.ap⟩
theorem RRef.k0 {w w' : World} {rb : Nat} {p : Option Addr} {c : Nat} {l : List Sp} (h : RRef w rb p c l) (hf : Frm [] w w') : RRef w' rb p c l := h.kept hf (by simp) (by simp)
theorem RRef.cell {w : World} {rb : Nat} {p : Option Addr} {c : Nat} {l : List Sp} (h : RRef w rb p c l) : w.cell? ⟨rb, 0, none⟩ = some (.slice p l.length c) := by rw [cell_of_row _ _ _ _ _ _ h.row]; rfl
theorem cm9_comm (a b : Sp) : cm9 a b = cm9 b a := by
  unfold cm9
  rw [show min a.e b.e = min b.e a.e by omega, show max a.a b.a = max b.a a.a by omega]
theorem inL_app (x : Sp) : ∀ (a b : List Sp), inL x (a ++ b) = inL x a + inL x b
  | [], b => by simp [inL]
  | y :: a, b => by simp only [List.cons_append, inL, inL_app x a b]; omega
theorem inL_take {x : Sp} {l : List Sp} {t : Nat} {y : Sp} (h : l[t]? = some y) : inL x (l.take (t + 1)) = inL x (l.take t) + cm9 y x := by
  obtain ⟨hlt, rfl⟩ := List.getElem?_eq_some_iff.1 h
  rw [List.take_succ_eq_append_getElem hlt, inL_app]
  simp [inL]
theorem Norm.takeN {l : List Sp} {lo : Int} (h : Norm lo l) (t : Nat) : Norm lo (l.take t) := ((norm_app (l.take t) (l.drop t) lo).1 (by rw [List.take_append_drop]; exact h)).1
set_option maxHeartbeats 6400000 in
theorem in9_any (rb : Nat) (p : Option Addr) (c : Nat) (l : List Sp) (x : Sp) (w : World) (h : RRef w rb p c l) (hN : Norm 0 l) (hl : l.length ≤ 1000000) (hx : May9 x) :
    Calls Try.prog 92 #[.pointer (some ⟨rb, 0, none⟩), .agg #[.int .i64 x.a, .int .i64 x.m]] w fun e w' => e = .returned (.int .i64 (inL x l)) ∧ Frm [] w w' := by
  obtain ⟨w1, hw1⟩ : ∃ q, w.alloc (.cells #[.int .i64 x.a, .int .i64 x.m] 39) = q := ⟨_, rfl⟩
  obtain ⟨bx, hbx⟩ : ∃ q, w.heap.size = q := ⟨_, rfl⟩
  have hf1 : Frm [] w w1 := by rw [← hw1]; exact (Frm.refl _ _).alloc _
  have g1 : w1.heap[bx]? = some (.cells #[.int .i64 x.a, .int .i64 x.m] 39 (0, 0)) := by rw [← hw1]; exact heap_alloc_to _ _ hbx
  have HR := hid (h.k0 hf1)
  have HG := hid g1
  have HF := hid hf1
  have HW1 := hid hw1
  have HBX := hid hbx
  have HN := hid hN
  have HX := hid hx
  obtain ⟨L, hL⟩ : ∃ q, l.length = q := ⟨_, rfl⟩
  rw [hL] at hl
  have HL := hid hL
  clear h hN hw1 hbx hf1 g1 hx hL
  go_enter Try.func92, Try.ntmps92
  go_upto_region 1 with fail
  rw [HBX.out, HW1.out]
  go_wp2_with fail
  go_loopw [6, 5] (fun i s5 wr => ∃ t : Nat, ∃ z : Int, t ≤ L ∧ i = .int .i64 (t : Int) ∧ s5 = .int .i64 z ∧ Hid (z = inL x (l.take t)) ∧ Hid (Frm [] w1 wr)) (fun i _ _ => L - (intOf i).toNat)
  case atStart => exact ⟨0, 0, Nat.zero_le _, rfl, rfl, hid (by simp [inL]), hid (Frm.refl _ _)⟩
  case round =>
    obtain ⟨t, z, ht, rfl, rfl, hz, hin⟩ := hrel
    have x0 := (HR.out.k0 hin.out).cell
    rw [HL.out] at x0
    by_cases hlt : t < L
    · have t1 : (t : Int) < (L : Int) := by omega
      obtain ⟨y, hy⟩ : ∃ y, l[t]? = some y := ⟨_, List.getElem?_eq_getElem (by have := HL.out; omega)⟩
      obtain ⟨g, hg, y0, y1⟩ := (HR.out.k0 hin.out).own.at hy
      subst hg
      have gx := hin.out.heap HG.out (by simp)
      have k0 : wr.cell? ⟨bx, 0, none⟩ = some (.int .i64 x.a) := by rw [cell_of_row _ _ _ _ _ _ gx]; rfl
      have k1 : wr.cell? ⟨bx, 1, none⟩ = some (.int .i64 x.m) := by rw [cell_of_row _ _ _ _ _ _ gx]; rfl
      have HC := hid (fun W => common_any y x (HN.out.fits hy) HX.out.fits W)
      have hzb := inL_bound (x := x) (HN.out.takeN (t + 1))
      have hzc := inL_bound (x := x) (HN.out.takeN t)
      have hmx := HX.out
      unfold May9 at hmx
      have hxe : x.e = x.a + x.m := rfl
      have HZ : Hid (z + cm9 y x = inL x (l.take (t + 1))) := hid (by rw [inL_take hy, hz.out])
      have hsum : IntKind.i64.wrap (z + cm9 y x) = z + cm9 y x := by rw [HZ.out, IntKind.wrap_i64]; omega
      have HSUM := hid hsum
      have HFD : Hid (Frm [] wr wr.drew) := hid (Frm.refl [] wr).drew
      obtain ⟨cc, hcc⟩ : ∃ q, cm9 y x = q := ⟨_, rfl⟩
      rw [hcc] at HC HZ HSUM
      have hcs : IntKind.i64.wrap (z + cc) = z + cc := HSUM.out
      have HKS : Hid (∀ W W' : World, (W.cell? ⟨rb, 0, none⟩ = some (.slice (some ⟨g, 0, none⟩) L c) ∧ W.cell? ⟨g, t * 2, none⟩ = some (.int .i64 y.a) ∧ W.cell? ⟨g, t * 2 + 1, none⟩ = some (.int .i64 y.m) ∧ W.cell? ⟨bx, 0, none⟩ = some (.int .i64 x.a) ∧ W.cell? ⟨bx, 1, none⟩ = some (.int .i64 x.m) ∧ Frm [] wr W) → Frm [] W W' → (W'.cell? ⟨rb, 0, none⟩ = some (.slice (some ⟨g, 0, none⟩) L c) ∧ W'.cell? ⟨g, t * 2, none⟩ = some (.int .i64 y.a) ∧ W'.cell? ⟨g, t * 2 + 1, none⟩ = some (.int .i64 y.m) ∧ W'.cell? ⟨bx, 0, none⟩ = some (.int .i64 x.a) ∧ W'.cell? ⟨bx, 1, none⟩ = some (.int .i64 x.m) ∧ Frm [] wr W')) := hid (fun W W' hs hf => by
        have kc : ∀ q v, W.cell? q = some v → W'.cell? q = some v := fun q v hv => (hf.cell (World.block_lt_of_cell? W _ hv) (by simp)).trans hv
        exact ⟨kc _ _ hs.1, kc _ _ hs.2.1, kc _ _ hs.2.2.1, kc _ _ hs.2.2.2.1, kc _ _ hs.2.2.2.2.1, hs.2.2.2.2.2.trans hf (by simp)⟩)
      clear hy gx hzb hzc hmx hxe hsum hcc hcs
      go_upto_region 5 with fail
      go_region_held3 (fun W => W.cell? ⟨rb, 0, none⟩ = some (.slice (some ⟨g, 0, none⟩) L c) ∧ W.cell? ⟨g, t * 2, none⟩ = some (.int .i64 y.a) ∧ W.cell? ⟨g, t * 2 + 1, none⟩ = some (.int .i64 y.m) ∧ W.cell? ⟨bx, 0, none⟩ = some (.int .i64 x.a) ∧ W.cell? ⟨bx, 1, none⟩ = some (.int .i64 x.m) ∧ Frm [] wr W) (first | (exact ⟨x0, y0, y1, k0, k1, HFD.out⟩) | (exact HKS.out _ _ (by assumption) (by assumption))) (((with_reducible refine (HC.out _).mono ?_); rintro e w5 ⟨rfl, hf5⟩))
      all_goals (
        have hh := (show _ ∧ _ ∧ _ ∧ _ ∧ _ ∧ Frm [] wr w5 by assumption).2.2.2.2.2
        have HH := hid (hin.out.trans hh (by simp))
        clear hh
        try rw [HSUM.out]
        go_wp2_with fail
        go_roundw
        case rel => exact ⟨t + 1, z + cc, by omega, by go_num, by first | rfl | rw [HSUM.out], HZ, HH⟩
        case measure => simp [intOf]; omega)
    · obtain rfl : L = t := by omega
      have HFIN : Hid (z = inL x l) := hid (by rw [hz.out, List.take_of_length_le (by rw [HL.out]; exact Nat.le_refl _)])
      have HFF := hid (HF.out.trans hin.out (by simp))
      go_wp2_with fail
      go_returns
      exact ⟨by rw [HFIN.out]; rfl, HFF.out⟩
end Go.Proofs.Ytkbppkimpefilaa
