/- The program's sets: New, Meets, Has. -/
import Derived.Test.YtkbppkimpefilaaRgE
namespace Go.Proofs.Ytkbppkimpefilaa
open Go.RowKit Go.Lib
set_option maxRecDepth 100000

def MeetsP (l : List Sp) (x : Sp) : Prop := May9 x ∧ ∃ n, x.a ≤ n ∧ n < x.e ∧ Mem9 l n
def HasP (l : List Sp) (x : Sp) : Prop := May9 x ∧ ∀ n, x.a ≤ n → n < x.e → Mem9 l n
theorem May9.fits {x : Sp} (h : May9 x) : x.Fits := by
  obtain ⟨h1, h2, h3, h4⟩ := h
  exact ⟨by omega, by omega, by omega, by omega⟩
set_option maxHeartbeats 1600000 in
theorem new9_any (w : World) : Calls Try.prog 51 #[] w fun e w' => ∃ sb, e = .returned (.pointer (some ⟨sb, 0, none⟩)) ∧ RSet w' sb none 0 [] ∧ Frm [] w w' ∧ w.heap.size ≤ sb := by
  go_enter Try.func51, Try.ntmps51
  go_wp2_with fail
  go_returns
  exact ⟨w.heap.size, rfl, ⟨heap_alloc_new _ _, ⟨⟨rfl, Or.inl ⟨rfl, rfl⟩⟩, rfl⟩, by simp [blk]⟩, (Frm.refl _ _).alloc _, Nat.le_refl _⟩
set_option maxHeartbeats 6400000 in
theorem meets_any (sb : Nat) (p : Option Addr) (c : Nat) (l : List Sp) (x : Sp) (w : World) (h : RSet w sb p c l) (hN : Norm 0 l) (hl : l.length ≤ 1000000) (hx : x.In) :
    Calls Try.prog 87 #[.pointer (some ⟨sb, 0, none⟩), .agg #[.int .i64 x.a, .int .i64 x.m]] w fun e w' => ∃ b, e = .returned (.bool b) ∧ (b = true ↔ MeetsP l x) ∧ Frm [] w w' := by
  obtain ⟨PO, hPO⟩ : ∃ PO : Ending → World → Prop, (fun e w' => ∃ b, e = .returned (.bool b) ∧ (b = true ↔ MeetsP l x) ∧ Frm [] w w') = PO := ⟨_, rfl⟩
  rw [hPO]
  have HP : Hid (∀ b w', (b = true ↔ MeetsP l x) → Frm [] w w' → PO (.returned (.bool b)) w') := hid (fun b w' h1 h2 => by rw [← hPO]; exact ⟨b, rfl, h1, h2⟩)
  obtain ⟨w1, hw1⟩ : ∃ q, w.alloc (.cells #[.int .i64 x.a, .int .i64 x.m] 39) = q := ⟨_, rfl⟩
  obtain ⟨bx, hbx⟩ : ∃ q, w.heap.size = q := ⟨_, rfl⟩
  have hf1 : Frm [] w w1 := by rw [← hw1]; exact (Frm.refl _ _).alloc _
  have g1 : w1.heap[bx]? = some (.cells #[.int .i64 x.a, .int .i64 x.m] 39 (0, 0)) := by rw [← hw1]; exact heap_alloc_to _ _ hbx
  have c0 : w1.cell? ⟨bx, 0, none⟩ = some (.int .i64 x.a) := by rw [cell_of_row _ _ _ _ _ _ g1]; rfl
  have c1 : w1.cell? ⟨bx, 1, none⟩ = some (.int .i64 x.m) := by rw [cell_of_row _ _ _ _ _ _ g1]; rfl
  have HMB := hid (mayBe_any x hx w1)
  have HW1 := hid hw1
  have HBX := hid hbx
  have HF1 := hid hf1
  have HR := hid (h.k0 hf1)
  have HN := hid hN
  have HX := hid hx
  clear h hN hw1 hbx hf1 g1 hPO hx
  go_enter Try.func87, Try.ntmps87
  go_upto_region 1 with fail
  rw [HBX.out, HW1.out]
  go_wp2_with fail
  refine HMB.out.mono ?_
  rintro e w2 ⟨rfl, hf2⟩
  have k0 : w2.cell? ⟨bx, 0, none⟩ = some (.int .i64 x.a) := (hf2.cell (World.block_lt_of_cell? w1 _ c0) (by simp)).trans c0
  have k1 : w2.cell? ⟨bx, 1, none⟩ = some (.int .i64 x.m) := (hf2.cell (World.block_lt_of_cell? w1 _ c1) (by simp)).trans c1
  have HF2 := hid (HF1.out.trans hf2 (by simp))
  have HR2 := hid (HR.out.k0 hf2)
  clear hf2 c0 c1 HMB
  by_cases hmay : May9 x
  · have hd : decide (May9 x) = true := decide_eq_true hmay
    have HM := hid hmay
    have HBH := hid (behind_any sb p c l x.a w2 HR2.out HN.out hl)
    clear hmay
    rw [hd]
    clear hd
    go_wp2_with fail
    refine HBH.out.mono ?_
    rintro e w3 ⟨k, rfl, hb, hf3⟩
    have HB := hid hb
    have HF3 := hid (HF2.out.trans hf3 (by simp))
    have m0 : w3.cell? ⟨bx, 0, none⟩ = some (.int .i64 x.a) := (hf3.cell (World.block_lt_of_cell? w2 _ k0) (by simp)).trans k0
    have m1 : w3.cell? ⟨bx, 1, none⟩ = some (.int .i64 x.m) := (hf3.cell (World.block_lt_of_cell? w2 _ k1) (by simp)).trans k1
    have x0 := (HR2.out.k0 hf3).cell
    have HR3 := hid (HR2.out.k0 hf3)
    obtain ⟨L, hL⟩ : ∃ q, l.length = q := ⟨_, rfl⟩
    rw [hL] at x0 hl
    have HL := hid hL
    clear hb hf3 k0 k1 hL HBH
    by_cases hlt : k < L
    · have t1 : (k : Int) < (L : Int) := by omega
      obtain ⟨y, hy⟩ : ∃ y, l[k]? = some y := ⟨_, List.getElem?_eq_getElem (by rw [HL.out]; exact hlt)⟩
      obtain ⟨g, hg, y0, y1⟩ := HR3.out.own.at hy
      subst hg
      have HY := hid hy
      have HEX := hid (fun W => end_any x HM.out.fits W)
      have HEY := hid (fun W => end_any y (HN.out.fits hy) W)
      have HF3D := hid HF3.out.drew
      obtain ⟨xe, hxe⟩ : ∃ q, x.e = q := ⟨_, rfl⟩
      obtain ⟨ye, hye⟩ : ∃ q, y.e = q := ⟨_, rfl⟩
      rw [hxe] at HEX
      rw [hye] at HEY
      have HXE := hid hxe
      have HYE := hid hye
      clear hy hxe hye
      have HKS : Hid (∀ W W' : World, (W.cell? ⟨sb, 0, none⟩ = some (.slice (some ⟨g, 0, none⟩) L c) ∧ W.cell? ⟨g, k * 2, none⟩ = some (.int .i64 y.a) ∧ W.cell? ⟨g, k * 2 + 1, none⟩ = some (.int .i64 y.m) ∧ W.cell? ⟨bx, 0, none⟩ = some (.int .i64 x.a) ∧ W.cell? ⟨bx, 1, none⟩ = some (.int .i64 x.m) ∧ Frm [] w W) → Frm [] W W' → (W'.cell? ⟨sb, 0, none⟩ = some (.slice (some ⟨g, 0, none⟩) L c) ∧ W'.cell? ⟨g, k * 2, none⟩ = some (.int .i64 y.a) ∧ W'.cell? ⟨g, k * 2 + 1, none⟩ = some (.int .i64 y.m) ∧ W'.cell? ⟨bx, 0, none⟩ = some (.int .i64 x.a) ∧ W'.cell? ⟨bx, 1, none⟩ = some (.int .i64 x.m) ∧ Frm [] w W')) := hid (fun W W' hs hf => by
        have kc : ∀ q v, W.cell? q = some v → W'.cell? q = some v := fun q v hv => (hf.cell (World.block_lt_of_cell? W _ hv) (by simp)).trans hv
        exact ⟨kc _ _ hs.1, kc _ _ hs.2.1, kc _ _ hs.2.2.1, kc _ _ hs.2.2.2.1, kc _ _ hs.2.2.2.2.1, hs.2.2.2.2.2.trans hf (by simp)⟩)
      have hiff : decide (y.a < xe) = true ↔ MeetsP l x := by
        rw [decide_eq_true_iff]
        constructor
        · intro h
          exact ⟨HM.out, (meets9_iff HN.out HM.out HB.out).1 ⟨y, HY.out, by rw [HXE.out]; exact h⟩⟩
        · rintro ⟨_, h⟩
          obtain ⟨z, hz, h2⟩ := (meets9_iff HN.out HM.out HB.out).2 h
          rw [HY.out] at hz; cases hz
          rw [HXE.out] at h2; exact h2
      have HIFF := hid hiff
      clear hiff
      go_upto_region 4 with fail
      go_region_held3 (fun W => W.cell? ⟨sb, 0, none⟩ = some (.slice (some ⟨g, 0, none⟩) L c) ∧ W.cell? ⟨g, k * 2, none⟩ = some (.int .i64 y.a) ∧ W.cell? ⟨g, k * 2 + 1, none⟩ = some (.int .i64 y.m) ∧ W.cell? ⟨bx, 0, none⟩ = some (.int .i64 x.a) ∧ W.cell? ⟨bx, 1, none⟩ = some (.int .i64 x.m) ∧ Frm [] w W) (first | (exact ⟨x0, y0, y1, m0, m1, HF3D.out⟩) | (exact HKS.out _ _ (by assumption) (by assumption))) (first | ((with_reducible refine (HEX.out _).mono ?_); rintro e w5 ⟨rfl, hf5⟩) | ((with_reducible refine (HEY.out _).mono ?_); rintro e w6 ⟨rfl, hf6⟩))
      all_goals (
        have hh := (show _ ∧ _ ∧ _ ∧ _ ∧ _ ∧ Frm [] w w5 by assumption).2.2.2.2.2
        have HH := hid hh
        clear hh
        go_wp2_with fail
        first | go_returns | skip
        exact HP.out _ _ HIFF.out HH.out)
    · obtain rfl : k = L := by have := HB.out.1; have := HL.out; omega
      have hno : (false = true) ↔ MeetsP l x := by
        constructor
        · intro h; cases h
        · rintro ⟨_, h⟩
          obtain ⟨z, hz, _⟩ := (meets9_iff HN.out HM.out HB.out).2 h
          have := (List.getElem?_eq_some_iff.1 hz).1
          have := HL.out
          omega
      have HNO := hid hno
      clear hno
      go_upto_region 4 with fail
      go_quiet (fail)
      go_wp2_with fail
      first | go_returns | skip
      exact HP.out _ _ HNO.out (HF3.out.drewN _)
  · have hd : decide (May9 x) = false := decide_eq_false hmay
    rw [hd]
    have HNM : Hid ((false = true) ↔ MeetsP l x) := hid ⟨fun h => (by cases h), fun h => absurd h.1 hmay⟩
    clear hd hmay
    go_wp2_with fail
    first | go_returns | skip
    exact HP.out _ _ HNM.out HF2.out
set_option maxHeartbeats 6400000 in
theorem has_any (sb : Nat) (p : Option Addr) (c : Nat) (l : List Sp) (x : Sp) (w : World) (h : RSet w sb p c l) (hN : Norm 0 l) (hl : l.length ≤ 1000000) (hx : x.In) :
    Calls Try.prog 91 #[.pointer (some ⟨sb, 0, none⟩), .agg #[.int .i64 x.a, .int .i64 x.m]] w fun e w' => ∃ b, e = .returned (.bool b) ∧ (b = true ↔ HasP l x) ∧ Frm [] w w' := by
  obtain ⟨PO, hPO⟩ : ∃ PO : Ending → World → Prop, (fun e w' => ∃ b, e = .returned (.bool b) ∧ (b = true ↔ HasP l x) ∧ Frm [] w w') = PO := ⟨_, rfl⟩
  rw [hPO]
  have HP : Hid (∀ b w', (b = true ↔ HasP l x) → Frm [] w w' → PO (.returned (.bool b)) w') := hid (fun b w' h1 h2 => by rw [← hPO]; exact ⟨b, rfl, h1, h2⟩)
  obtain ⟨w1, hw1⟩ : ∃ q, w.alloc (.cells #[.int .i64 x.a, .int .i64 x.m] 39) = q := ⟨_, rfl⟩
  obtain ⟨bx, hbx⟩ : ∃ q, w.heap.size = q := ⟨_, rfl⟩
  have hf1 : Frm [] w w1 := by rw [← hw1]; exact (Frm.refl _ _).alloc _
  have g1 : w1.heap[bx]? = some (.cells #[.int .i64 x.a, .int .i64 x.m] 39 (0, 0)) := by rw [← hw1]; exact heap_alloc_to _ _ hbx
  have c0 : w1.cell? ⟨bx, 0, none⟩ = some (.int .i64 x.a) := by rw [cell_of_row _ _ _ _ _ _ g1]; rfl
  have c1 : w1.cell? ⟨bx, 1, none⟩ = some (.int .i64 x.m) := by rw [cell_of_row _ _ _ _ _ _ g1]; rfl
  have HMB := hid (mayBe_any x hx w1)
  have HW1 := hid hw1
  have HBX := hid hbx
  have HF1 := hid hf1
  have HR := hid (h.k0 hf1)
  have HN := hid hN
  have HX := hid hx
  clear h hN hw1 hbx hf1 g1 hPO hx
  go_enter Try.func91, Try.ntmps91
  go_upto_region 1 with fail
  rw [HBX.out, HW1.out]
  go_wp2_with fail
  refine HMB.out.mono ?_
  rintro e w2 ⟨rfl, hf2⟩
  have k0 : w2.cell? ⟨bx, 0, none⟩ = some (.int .i64 x.a) := (hf2.cell (World.block_lt_of_cell? w1 _ c0) (by simp)).trans c0
  have k1 : w2.cell? ⟨bx, 1, none⟩ = some (.int .i64 x.m) := (hf2.cell (World.block_lt_of_cell? w1 _ c1) (by simp)).trans c1
  have HF2 := hid (HF1.out.trans hf2 (by simp))
  have HR2 := hid (HR.out.k0 hf2)
  clear hf2 c0 c1 HMB
  by_cases hmay : May9 x
  · have hd : decide (May9 x) = true := decide_eq_true hmay
    have HM := hid hmay
    have HBH := hid (behind_any sb p c l x.a w2 HR2.out HN.out hl)
    clear hmay
    rw [hd]
    clear hd
    go_wp2_with fail
    refine HBH.out.mono ?_
    rintro e w3 ⟨k, rfl, hb, hf3⟩
    have HB := hid hb
    have HF3 := hid (HF2.out.trans hf3 (by simp))
    have m0 : w3.cell? ⟨bx, 0, none⟩ = some (.int .i64 x.a) := (hf3.cell (World.block_lt_of_cell? w2 _ k0) (by simp)).trans k0
    have m1 : w3.cell? ⟨bx, 1, none⟩ = some (.int .i64 x.m) := (hf3.cell (World.block_lt_of_cell? w2 _ k1) (by simp)).trans k1
    have x0 := (HR2.out.k0 hf3).cell
    have HR3 := hid (HR2.out.k0 hf3)
    obtain ⟨L, hL⟩ : ∃ q, l.length = q := ⟨_, rfl⟩
    rw [hL] at x0 hl
    have HL := hid hL
    clear hb hf3 k0 k1 hL HBH
    by_cases hlt : k < L
    · have t1 : (k : Int) < (L : Int) := by omega
      obtain ⟨y, hy⟩ : ∃ y, l[k]? = some y := ⟨_, List.getElem?_eq_getElem (by rw [HL.out]; exact hlt)⟩
      obtain ⟨g, hg, y0, y1⟩ := HR3.out.own.at hy
      subst hg
      have HY := hid hy
      have HEX := hid (fun W => end_any x HM.out.fits W)
      have HEY := hid (fun W => end_any y (HN.out.fits hy) W)
      have HF3D := hid HF3.out.drew
      obtain ⟨xe, hxe⟩ : ∃ q, x.e = q := ⟨_, rfl⟩
      obtain ⟨ye, hye⟩ : ∃ q, y.e = q := ⟨_, rfl⟩
      rw [hxe] at HEX
      rw [hye] at HEY
      have HXE := hid hxe
      have HYE := hid hye
      clear hy hxe hye
      have HKS : Hid (∀ W W' : World, (W.cell? ⟨sb, 0, none⟩ = some (.slice (some ⟨g, 0, none⟩) L c) ∧ W.cell? ⟨g, k * 2, none⟩ = some (.int .i64 y.a) ∧ W.cell? ⟨g, k * 2 + 1, none⟩ = some (.int .i64 y.m) ∧ W.cell? ⟨bx, 0, none⟩ = some (.int .i64 x.a) ∧ W.cell? ⟨bx, 1, none⟩ = some (.int .i64 x.m) ∧ Frm [] w W) → Frm [] W W' → (W'.cell? ⟨sb, 0, none⟩ = some (.slice (some ⟨g, 0, none⟩) L c) ∧ W'.cell? ⟨g, k * 2, none⟩ = some (.int .i64 y.a) ∧ W'.cell? ⟨g, k * 2 + 1, none⟩ = some (.int .i64 y.m) ∧ W'.cell? ⟨bx, 0, none⟩ = some (.int .i64 x.a) ∧ W'.cell? ⟨bx, 1, none⟩ = some (.int .i64 x.m) ∧ Frm [] w W')) := hid (fun W W' hs hf => by
        have kc : ∀ q v, W.cell? q = some v → W'.cell? q = some v := fun q v hv => (hf.cell (World.block_lt_of_cell? W _ hv) (by simp)).trans hv
        exact ⟨kc _ _ hs.1, kc _ _ hs.2.1, kc _ _ hs.2.2.1, kc _ _ hs.2.2.2.1, kc _ _ hs.2.2.2.2.1, hs.2.2.2.2.2.trans hf (by simp)⟩)
      by_cases hle : y.a ≤ x.a
      · have hiff : decide (xe ≤ ye) = true ↔ HasP l x := by
          rw [decide_eq_true_iff]
          constructor
          · intro h
            exact ⟨HM.out, (has9_iff HN.out HM.out HB.out).1 ⟨y, HY.out, hle, by rw [HXE.out, HYE.out]; exact h⟩⟩
          · rintro ⟨_, h⟩
            obtain ⟨z, hz, _, h2⟩ := (has9_iff HN.out HM.out HB.out).2 h
            rw [HY.out] at hz; cases hz
            rw [HXE.out, HYE.out] at h2; exact h2
        have HIFF := hid hiff
        clear hiff
        go_upto_region 4 with fail
        go_region_held3 (fun W => W.cell? ⟨sb, 0, none⟩ = some (.slice (some ⟨g, 0, none⟩) L c) ∧ W.cell? ⟨g, k * 2, none⟩ = some (.int .i64 y.a) ∧ W.cell? ⟨g, k * 2 + 1, none⟩ = some (.int .i64 y.m) ∧ W.cell? ⟨bx, 0, none⟩ = some (.int .i64 x.a) ∧ W.cell? ⟨bx, 1, none⟩ = some (.int .i64 x.m) ∧ Frm [] w W) (first | (exact ⟨x0, y0, y1, m0, m1, HF3D.out⟩) | (exact HKS.out _ _ (by assumption) (by assumption))) (first | ((with_reducible refine (HEX.out _).mono ?_); rintro e w5 ⟨rfl, hf5⟩) | ((with_reducible refine (HEY.out _).mono ?_); rintro e w6 ⟨rfl, hf6⟩))
        all_goals (
          have hh := (show _ ∧ _ ∧ _ ∧ _ ∧ _ ∧ Frm [] w w6 by assumption).2.2.2.2.2
          have HH := hid hh
          clear hh
          go_wp2_with fail
          first | go_returns | skip
          exact HP.out _ _ HIFF.out HH.out)
      · have hno : (false = true) ↔ HasP l x := by
          constructor
          · intro h; cases h
          · rintro ⟨_, h⟩
            obtain ⟨z, hz, h2, _⟩ := (has9_iff HN.out HM.out HB.out).2 h
            rw [HY.out] at hz; cases hz
            exact absurd h2 hle
        have HNO := hid hno
        have hb : decide (y.a ≤ x.a) = false := decide_eq_false hle
        clear hno hle
        go_upto_region 4 with fail
        go_quiet (fail)
        go_wp2_with fail
        first | go_returns | skip
        exact HP.out _ _ HNO.out (HF3.out.drewN _)
    · obtain rfl : k = L := by have := HB.out.1; have := HL.out; omega
      have hno : (false = true) ↔ HasP l x := by
        constructor
        · intro h; cases h
        · rintro ⟨_, h⟩
          obtain ⟨z, hz, _⟩ := (has9_iff HN.out HM.out HB.out).2 h
          have := (List.getElem?_eq_some_iff.1 hz).1
          have := HL.out
          omega
      have HNO := hid hno
      clear hno
      go_upto_region 4 with fail
      go_quiet (fail)
      go_wp2_with fail
      first | go_returns | skip
      exact HP.out _ _ HNO.out (HF3.out.drewN _)
  · have hd : decide (May9 x) = false := decide_eq_false hmay
    rw [hd]
    have HNM : Hid ((false = true) ↔ HasP l x) := hid ⟨fun h => (by cases h), fun h => absurd h.1 hmay⟩
    clear hd hmay
    go_wp2_with fail
    first | go_returns | skip
    exact HP.out _ _ HNM.out HF2.out
end Go.Proofs.Ytkbppkimpefilaa
