/- The document's sets: one span more. -/
import Derived.Test.YtkbppkimpefilaaRhB
namespace Go.Proofs.Ytkbppkimpefilaa
open Go.RowKit Go.Lib
set_option maxRecDepth 100000

structure WS (w wr : World) (pk : Option Addr) (nk ck : Nat) (ks : List Sp) (bx : Nat) (x : Sp) : Prop where
  fr : Frm [] w wr
  ow : OwnS wr pk nk ck ks
  nb : ∀ k ∈ blk pk, w.heap.size ≤ k ∧ k ≠ bx
  vx : wr.heap[bx]? = some (.cells #[.int .i64 x.a, .int .i64 x.m] 39 (0, 0))
  bn : w.heap.size ≤ bx
section
variable {w wr w' : World} {pk : Option Addr} {nk ck : Nat} {ks : List Sp} {bx : Nat} {x : Sp}
theorem WS.k0 (h : WS w wr pk nk ck ks bx x) (hf : Frm [] wr w') : WS w w' pk nk ck ks bx x := ⟨h.fr.trans hf (by simp), h.ow.kept hf (by simp), h.nb, hf.heap h.vx (by simp), h.bn⟩
theorem WS.set (h : WS w wr pk nk ck ks bx x) {x' : Sp} (hf : Frm [bx] wr w') (hv : w'.heap[bx]? = some (.cells #[.int .i64 x'.a, .int .i64 x'.m] 39 (0, 0))) : WS w w' pk nk ck ks bx x' :=
  ⟨h.fr.trans hf (fun k hk hkl => by simp at hk; subst hk; have := h.bn; omega), h.ow.kept hf (fun k hk hm => by simp at hm; exact (h.nb k hk).2 hm), h.nb, hv, h.bn⟩
theorem WS.app (h : WS w wr pk nk ck ks bx x) {wa : World} (ha : Frm [] wr wa) {ys : List Sp} {m : Nat} (hm : ys.length = m) {p2 : Option Addr} {c2 : Nat} (ho : w'.ownsRow 0 39 2 (.slice p2 (nk + m) c2) (nk + m) (rowS ks ++ rowS ys)) (hf : Frm (blk pk) wa w') (hb : ∀ k ∈ blk p2, k ∈ blk pk ∨ wa.heap.size ≤ k) : WS w w' p2 (nk + m) c2 (ks ++ ys) bx x := by
  have h1 := h.k0 ha
  refine ⟨h1.fr.trans hf (fun k hk hkl => by have := (h.nb k hk).1; omega), ⟨by rw [rowS_app]; exact ho, by rw [List.length_append, h.ow.2, hm]⟩, fun k hk => ?_, hf.heap h1.vx (fun hj => (h.nb _ hj).2 rfl), h.bn⟩
  rcases hb k hk with h2 | h2
  · exact h.nb k h2
  · have := h1.fr.size; have := lt_of_heap h1.vx; exact ⟨by omega, by omega⟩
theorem WS.x0 (h : WS w wr pk nk ck ks bx x) : wr.cell? ⟨bx, 0, none⟩ = some (.int .i64 x.a) ∧ wr.cell? ⟨bx, 1, none⟩ = some (.int .i64 x.m) := by
  constructor <;> (rw [cell_of_row _ _ _ _ _ _ h.vx]; rfl)
end
def XOk (x : Sp) : Prop := 0 ≤ x.a ∧ 1 ≤ x.m ∧ x.a + x.m ≤ 1099511627776
set_option maxHeartbeats 12800000 in
theorem with9_any (p : Option Addr) (n c : Nat) (l : List Sp) (x : Sp) (w : World) (h : OwnS w p n c l) (hN : Norm 0 l) (hl : n ≤ 4096) (hx : May9 x) :
    Calls Try.prog 94 #[.slice p n c, .agg #[.int .i64 x.a, .int .i64 x.m]] w fun e w' => ∃ (p' : Option Addr) (m c' : Nat), e = .returned (.slice p' m c') ∧ OwnS w' p' m c' (withR l x false) ∧ Frm [] w w' ∧ (∀ k ∈ blk p', w.heap.size ≤ k) ∧ m ≤ 10000 := by
  obtain ⟨w1, hw1⟩ : ∃ q, w.alloc (.cells #[.int .i64 x.a, .int .i64 x.m] 39) = q := ⟨_, rfl⟩
  obtain ⟨bx, hbx⟩ : ∃ q, w.heap.size = q := ⟨_, rfl⟩
  have hf1 : Frm [] w w1 := by rw [← hw1]; exact (Frm.refl _ _).alloc _
  have g1 : w1.heap[bx]? = some (.cells #[.int .i64 x.a, .int .i64 x.m] 39 (0, 0)) := by rw [← hw1]; exact heap_alloc_to _ _ hbx
  have HST : Hid (WS w w1 none 0 0 [] bx x) := hid ⟨hf1, ⟨⟨rfl, Or.inl ⟨rfl, rfl⟩⟩, rfl⟩, by simp [blk], g1, by omega⟩
  have HXK : Hid (XOk x) := hid (by unfold May9 at hx; unfold XOk; omega)
  have HO := hid h
  have HN := hid hN
  have HW1 := hid hw1
  have HBX := hid hbx
  clear h hN hw1 hbx hf1 g1 hx
  go_enter Try.func94, Try.ntmps94
  go_upto_region 1 with fail
  rw [HBX.out, HW1.out]
  go_wp2_with fail
  go_loopw [7, 8, 6, 5] (fun i s8 s6 s5 wr => ∃ (t : Nat) (d : Bool) (pk : Option Addr) (nk ck : Nat) (ks : List Sp) (v : Sp), t ≤ n ∧ nk ≤ 2 * t ∧ i = .int .i64 (t : Int) ∧ s6 = .bool d ∧ s5 = .slice pk nk ck ∧ Hid (WS w wr pk nk ck ks bx v ∧ XOk v ∧ withR l x false = ks ++ withR (l.drop t) v d)) (fun i _ _ _ _ => n - (intOf i).toNat)
  case atStart => exact ⟨0, false, none, 0, 0, [], x, Nat.zero_le _, by omega, rfl, rfl, rfl, hid ⟨HST.out, HXK.out, rfl⟩⟩
  case round =>
    clear HST HXK
    obtain ⟨t, d, pk, nk, ck, ks, v, ht, hnk, rfl, rfl, rfl, hin⟩ := hrel
    by_cases hlt : t < n
    · have t1 : (t : Int) < (n : Int) := by omega
      obtain ⟨y, hy⟩ : ∃ y, l[t]? = some y := ⟨_, List.getElem?_eq_getElem (by have := HO.out.2; omega)⟩
      obtain ⟨g, hg, y0, y1⟩ := (HO.out.kept hin.out.1.fr (by simp)).at hy
      subst hg
      obtain ⟨w5, hw5⟩ : ∃ q, wr.alloc (.cells #[.int .i64 y.a, .int .i64 y.m] 39) = q := ⟨_, rfl⟩
      obtain ⟨by_, hby⟩ : ∃ q, wr.heap.size = q := ⟨_, rfl⟩
      have hf5 : Frm [] wr w5 := by rw [← hw5]; exact (Frm.refl _ _).alloc _
      have g5 : w5.heap[by_]? = some (.cells #[.int .i64 y.a, .int .i64 y.m] 39 (0, 0)) := by rw [← hw5]; exact heap_alloc_to _ _ hby
      have c0 : w5.cell? ⟨by_, 0, none⟩ = some (.int .i64 y.a) := by rw [cell_of_row _ _ _ _ _ _ g5]; rfl
      have c1 : w5.cell? ⟨by_, 1, none⟩ = some (.int .i64 y.m) := by rw [cell_of_row _ _ _ _ _ _ g5]; rfl
      have HS5 := hid (hin.out.1.k0 hf5)
      obtain ⟨x0, x1⟩ := HS5.out.x0
      have hbne : by_ ≠ bx := by have := lt_of_heap hin.out.1.vx; omega
      have hdrop : l.drop t = y :: l.drop (t + 1) := by
        obtain ⟨hq, rfl⟩ := List.getElem?_eq_some_iff.1 hy
        exact List.drop_eq_getElem_cons hq
      have hyn := HN.out.at hy
      have hye : y.e = y.a + y.m := rfl
      have hve : v.e = v.a + v.m := rfl
      have HWR := hin.out.2.2
      rw [hdrop] at HWR
      simp only [withR] at HWR
      have HWR := hid HWR
      have HXV := hid hin.out.2.1
      obtain ⟨v1, v2, v3⟩ := hin.out.2.1
      have hyb : 0 ≤ y.a ∧ 1 ≤ y.m ∧ y.a + y.m ≤ 1099511627776 := by omega
      obtain ⟨yb1, yb2, yb3⟩ := hyb
      have HW5 := hid hw5
      have HBY := hid hby
      have HYE := hid hye
      have HVE := hid hve
      clear hw5 hby hf5 g5 hy hyn hye hve hdrop hin
      go_upto_region 8 with fail
      rw [HBY.out, HW5.out]
      clear HBY HW5 y0 y1
      by_cases c2 : y.a + y.m = v.a
      · have HA : Hid (withR l x false = ks ++ withR (l.drop (t + 1)) ⟨y.a, y.m + v.m⟩ d) := hid (by rw [HWR.out, if_pos (by rw [HYE.out]; exact c2)])
        have HXN : Hid (XOk ⟨y.a, y.m + v.m⟩) := hid (by unfold XOk; simp only; omega)
        have z0 : w5.frozen? ⟨bx, 0, none⟩ = false := frozen_of_row _ _ 0 _ _ HS5.out.vx
        have z1 : w5.frozen? ⟨bx, 1, none⟩ = false := frozen_of_row _ _ 1 _ _ HS5.out.vx
        have z2 : (w5.setCell ⟨bx, 0, none⟩ (.int .i64 y.a)).frozen? ⟨bx, 1, none⟩ = false := frozen_of_row _ _ 1 _ _ (heap_setCell_same _ _ 0 _ _ _ HS5.out.vx)
        have z3 : (w5.setCell ⟨bx, 0, none⟩ (.int .i64 y.a)).cell? ⟨bx, 1, none⟩ = some (.int .i64 v.m) := by rw [cell_of_row _ _ _ _ _ _ (heap_setCell_same _ _ 0 _ _ _ HS5.out.vx)]; rfl
        have HSN : Hid (WS w ((w5.setCell ⟨bx, 0, none⟩ (.int .i64 y.a)).setCell ⟨bx, 1, none⟩ (.int .i64 (y.m + v.m))) pk nk ck ks bx ⟨y.a, y.m + v.m⟩) := hid (HS5.out.set (((Frm.refl [bx] _).setCell _ _ (by simp)).setCell _ _ (by simp)) (by rw [heap_setCell_same _ _ 1 _ _ _ (heap_setCell_same _ _ 0 _ _ _ HS5.out.vx)]; rfl))
        have b2 : (y.a + y.m == v.a) = true := by simp [c2]
        clear c2
        go_wp2_with fail
        go_roundw
        case rel => exact ⟨t + 1, d, pk, nk, ck, ks, ⟨y.a, y.m + v.m⟩, by omega, by omega, by go_num, rfl, rfl, hid ⟨HSN.out, HXN.out, HA.out⟩⟩
        case measure => simp [intOf]; omega
      · have b2 : (y.a + y.m == v.a) = false := by simp [c2]
        have HN2 : Hid (¬ y.e = v.a) := hid (by rw [HYE.out]; exact c2)
        clear c2
        by_cases c3 : v.a + v.m = y.a
        · have HA : Hid (withR l x false = ks ++ withR (l.drop (t + 1)) ⟨v.a, v.m + y.m⟩ d) := hid (by rw [HWR.out, if_neg HN2.out, if_pos (by rw [HVE.out]; exact c3)])
          have HXN : Hid (XOk ⟨v.a, v.m + y.m⟩) := hid (by unfold XOk; simp only; omega)
          have z0 : w5.frozen? ⟨bx, 0, none⟩ = false := frozen_of_row _ _ 0 _ _ HS5.out.vx
          have z1 : w5.frozen? ⟨bx, 1, none⟩ = false := frozen_of_row _ _ 1 _ _ HS5.out.vx
          have z2 : (w5.setCell ⟨bx, 0, none⟩ (.int .i64 v.a)).frozen? ⟨bx, 1, none⟩ = false := frozen_of_row _ _ 1 _ _ (heap_setCell_same _ _ 0 _ _ _ HS5.out.vx)
          have z3 : (w5.setCell ⟨bx, 0, none⟩ (.int .i64 v.a)).cell? ⟨bx, 1, none⟩ = some (.int .i64 v.m) := by rw [cell_of_row _ _ _ _ _ _ (heap_setCell_same _ _ 0 _ _ _ HS5.out.vx)]; rfl
          have HSN : Hid (WS w ((w5.setCell ⟨bx, 0, none⟩ (.int .i64 v.a)).setCell ⟨bx, 1, none⟩ (.int .i64 (v.m + y.m))) pk nk ck ks bx ⟨v.a, v.m + y.m⟩) := hid (HS5.out.set (((Frm.refl [bx] _).setCell _ _ (by simp)).setCell _ _ (by simp)) (by rw [heap_setCell_same _ _ 1 _ _ _ (heap_setCell_same _ _ 0 _ _ _ HS5.out.vx)]; rfl))
          have b3 : (v.a + v.m == y.a) = true := by simp [c3]
          clear c3
          go_wp2_with fail
          go_roundw
          case rel => exact ⟨t + 1, d, pk, nk, ck, ks, ⟨v.a, v.m + y.m⟩, by omega, by omega, by go_num, rfl, rfl, hid ⟨HSN.out, HXN.out, HA.out⟩⟩
          case measure => simp [intOf]; omega
        · have b3 : (v.a + v.m == y.a) = false := by simp [c3]
          have HN3 : Hid (¬ v.e = y.a) := hid (by rw [HVE.out]; exact c3)
          clear c3
          by_cases c4 : v.a < y.a ∧ d = false
          · have HA : Hid (withR l x false = (ks ++ [v, y]) ++ withR (l.drop (t + 1)) v true) := hid (by rw [HWR.out, if_neg HN2.out, if_neg HN3.out, if_pos c4]; simp)
            obtain ⟨c4', rfl⟩ := c4
            have c5 : y.a > v.a := c4'
            have HOW := hid (ownsRow_kept HS5.out.ow.1 ((Frm.refl [] w5).alloc (.cells #[.int .i64 v.a, .int .i64 v.m, .int .i64 y.a, .int .i64 y.m] 39)) (by simp))
            have HRV := hid (rv_block (heap_alloc_new w5 (.cells #[.int .i64 v.a, .int .i64 v.m, .int .i64 y.a, .int .i64 y.m] 39)))
            go_wp2_with (at_builtin; refine wpList_appV rfl _ _ 43 rfl 39 2 16 _ Try.underlying43 infoSp rfl (by decide) pk nk ck (rowS ks) rfl HOW.out (some ⟨w5.heap.size, 0, none⟩) 2 2 [.int .i64 v.a, .int .i64 v.m, .int .i64 y.a, .int .i64 y.m] rfl rfl (by simp) HRV.out (by intro u hu; simp at hu; rcases hu with rfl | rfl | rfl | rfl <;> rfl) (by unfold maxLen; omega) (by omega) ?_)
            intro p6 c6 w6 ho6 hf6 hb6
            have HO6 := hid (HS5.out.app ((Frm.refl [] w5).alloc _) (ys := [v, y]) rfl ho6.out hf6.out (fun k hk => by have := hb6.out k hk; simpa using this))
            clear ho6 hf6 hb6
            go_wp2_with fail
            go_roundw
            case rel => exact ⟨t + 1, true, p6, nk + 2, c6, ks ++ [v, y], v, by omega, by omega, by go_num, rfl, rfl, hid ⟨HO6.out, HXV.out, HA.out⟩⟩
            case measure => simp [intOf]; omega
          · have HA : Hid (withR l x false = (ks ++ [y]) ++ withR (l.drop (t + 1)) v d) := hid (by rw [HWR.out, if_neg HN2.out, if_neg HN3.out, if_neg c4]; simp)
            have HOW := hid (ownsRow_kept HS5.out.ow.1 ((Frm.refl [] w5).alloc (.cells #[.int .i64 y.a, .int .i64 y.m] 39)) (by simp))
            have HRV := hid (rv_block (heap_alloc_new w5 (.cells #[.int .i64 y.a, .int .i64 y.m] 39)))
            have hsplit : (decide (v.a < y.a) = false) ∨ (decide (v.a < y.a) = true ∧ d = true) := by
              by_cases q : v.a < y.a
              · right
                refine ⟨decide_eq_true q, ?_⟩
                cases d with
                | true => rfl
                | false => exact absurd ⟨q, rfl⟩ c4
              · exact Or.inl (decide_eq_false q)
            clear c4
            rcases hsplit with q | ⟨q, rfl⟩
            all_goals (
              go_wp2_with (at_builtin; refine wpList_appV rfl _ _ 43 rfl 39 2 16 _ Try.underlying43 infoSp rfl (by decide) pk nk ck (rowS ks) rfl HOW.out (some ⟨w5.heap.size, 0, none⟩) 1 1 [.int .i64 y.a, .int .i64 y.m] rfl rfl (by simp) HRV.out (by intro u hu; simp at hu; rcases hu with rfl | rfl <;> rfl) (by unfold maxLen; omega) (by omega) ?_)
              intro p6 c6 w6 ho6 hf6 hb6
              have HO6 := hid (HS5.out.app ((Frm.refl [] w5).alloc _) (ys := [y]) rfl ho6.out hf6.out (fun k hk => by have := hb6.out k hk; simpa using this))
              clear ho6 hf6 hb6
              go_wp2_with fail
              go_roundw
              case rel => exact ⟨t + 1, _, p6, nk + 1, c6, ks ++ [y], v, by omega, by omega, by go_num, rfl, rfl, hid ⟨HO6.out, HXV.out, HA.out⟩⟩
              case measure => simp [intOf]; omega)
    · obtain rfl : n = t := by omega
      have hdrop : l.drop n = [] := List.drop_eq_nil_of_le (by rw [HO.out.2]; exact Nat.le_refl _)
      have HWR := hin.out.2.2
      rw [hdrop] at HWR
      cases d with
      | true =>
        have HFIN : Hid (OwnS wr pk nk ck (withR l x false) ∧ Frm [] w wr ∧ (∀ k ∈ blk pk, w.heap.size ≤ k) ∧ nk ≤ 10000) := hid ⟨by rw [HWR]; have hq := hin.out.1.ow; simpa [withR] using hq, hin.out.1.fr, fun k hk => (hin.out.1.nb k hk).1, by omega⟩
        clear HWR hdrop
        go_wp2_with fail
        first | go_returns | skip
        exact ⟨pk, nk, ck, rfl, HFIN.out⟩
      | false =>
        obtain ⟨x0, x1⟩ := hin.out.1.x0
        have HOW := hid (ownsRow_kept hin.out.1.ow.1 ((Frm.refl [] wr).alloc (.cells #[.int .i64 v.a, .int .i64 v.m] 39)) (by simp))
        have HRV := hid (rv_block (heap_alloc_new wr (.cells #[.int .i64 v.a, .int .i64 v.m] 39)))
        have HWH : Hid (withR l x false = ks ++ [v]) := hid (by rw [HWR]; rfl)
        clear HWR hdrop
        go_wp2_with (at_builtin; refine wpList_appV rfl _ _ 43 rfl 39 2 16 _ Try.underlying43 infoSp rfl (by decide) pk nk ck (rowS ks) rfl HOW.out (some ⟨wr.heap.size, 0, none⟩) 1 1 [.int .i64 v.a, .int .i64 v.m] rfl rfl (by simp) HRV.out (by intro u hu; simp at hu; rcases hu with rfl | rfl <;> rfl) (by unfold maxLen; omega) (by omega) ?_)
        intro p6 c6 w6 ho6 hf6 hb6
        have HO6 := hid (hin.out.1.app ((Frm.refl [] wr).alloc _) (ys := [v]) rfl ho6.out hf6.out (fun k hk => by have := hb6.out k hk; simpa using this))
        have HFIN : Hid (OwnS w6 p6 (nk + 1) c6 (withR l x false) ∧ Frm [] w w6 ∧ (∀ k ∈ blk p6, w.heap.size ≤ k) ∧ nk + 1 ≤ 10000) := hid ⟨by rw [HWH.out]; exact HO6.out.ow, HO6.out.fr, fun k hk => (HO6.out.nb k hk).1, by omega⟩
        clear ho6 hf6 hb6
        go_wp2_with fail
        first | go_returns | skip
        exact ⟨p6, nk + 1, c6, rfl, HFIN.out⟩
end Go.Proofs.Ytkbppkimpefilaa
