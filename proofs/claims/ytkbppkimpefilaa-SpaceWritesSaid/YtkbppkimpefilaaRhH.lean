/- The document's sets: Remove. -/
import Derived.Test.YtkbppkimpefilaaRhG
namespace Go.Proofs.Ytkbppkimpefilaa
open Go.RowKit Go.Lib
set_option maxRecDepth 100000

/-- What the document's Remove answers and leaves. -/
def RRemP (l : List Sp) (x : Sp) (E : Int) (l' : List Sp) : Prop :=
  (¬ HasP l x ∧ E = 90 ∧ l' = l) ∨ (HasP l x ∧ ∃ l1, Norm 0 l1 ∧ (∀ n, Mem9 l1 n ↔ Mem9 l n ∧ ¬ (x.a ≤ n ∧ n < x.e)) ∧ ((l1.length ≤ 4096 ∧ E = 0 ∧ l' = l1) ∨ (4096 < l1.length ∧ E = 2 ∧ l' = l)))
theorem RRemP.as {l l' k' : List Sp} {x : Sp} {E E' : Int} (h : RemP l x E l') (h' : RRemP l x E' k') : E' = E ∧ k' = l' := by
  rcases h with ⟨a1, rfl, rfl⟩ | ⟨a1, l1, _, a3, a4, a5⟩ <;> rcases h' with ⟨b1, rfl, rfl⟩ | ⟨b1, l2, b3, b4, b5⟩
  · exact ⟨rfl, rfl⟩
  · exact (a1 b1).elim
  · exact (b1 a1).elim
  · obtain rfl : l1 = l2 := norm_same a3 b3 (fun n => by rw [a4, b4])
    rcases a5 with ⟨c1, rfl, rfl⟩ | ⟨c1, rfl, rfl⟩ <;> rcases b5 with ⟨d1, rfl, rfl⟩ | ⟨d1, rfl, rfl⟩ <;> first | exact ⟨rfl, rfl⟩ | omega
/-- What is left of one span. -/
def leftR (x y : Sp) : List Sp := if cm9 x y = 0 then [y] else (if y.a < x.a then [⟨y.a, x.a - y.a⟩] else []) ++ (if x.e < y.e then [⟨x.e, y.e - x.e⟩] else [])
theorem remR_app (x : Sp) : ∀ (a b : List Sp), remR x (a ++ b) = remR x a ++ remR x b
  | [], b => rfl
  | y :: a, b => by simp only [List.cons_append, remR, remR_app x a b, List.append_assoc]
theorem remR_take {x : Sp} {l : List Sp} {t : Nat} {y : Sp} (h : l[t]? = some y) : remR x (l.take (t + 1)) = remR x (l.take t) ++ leftR x y := by
  obtain ⟨hlt, rfl⟩ := List.getElem?_eq_some_iff.1 h
  rw [List.take_succ_eq_append_getElem hlt, remR_app]
  simp [remR, leftR]
set_option maxHeartbeats 12800000 in
theorem rrem_any (rb : Nat) (p : Option Addr) (c : Nat) (l : List Sp) (x : Sp) (w : World) (h : RRef w rb p c l) (hN : Norm 0 l) (hl : l.length ≤ 4096) (hx : x.In) :
    Calls Try.prog 54 #[.pointer (some ⟨rb, 0, none⟩), .agg #[.int .i64 x.a, .int .i64 x.m]] w fun e w' => ∃ E l' p' c', e = .returned (.int .i64 E) ∧ RRemP l x E l' ∧ RRef w' rb p' c' l' ∧ Norm 0 l' ∧ l'.length ≤ 4096 ∧ Frm [rb] w w' ∧ ∀ k ∈ blk p', k ∈ blk p ∨ w.heap.size ≤ k := by
  obtain ⟨PO, hPO⟩ : ∃ PO : Ending → World → Prop, (fun e w' => ∃ E l' p' c', e = .returned (.int .i64 E) ∧ RRemP l x E l' ∧ RRef w' rb p' c' l' ∧ Norm 0 l' ∧ l'.length ≤ 4096 ∧ Frm [rb] w w' ∧ ∀ k ∈ blk p', k ∈ blk p ∨ w.heap.size ≤ k) = PO := ⟨_, rfl⟩
  rw [hPO]
  have HP : Hid (∀ E l' p' c' w', RRemP l x E l' → RRef w' rb p' c' l' → Norm 0 l' → l'.length ≤ 4096 → Frm [rb] w w' → (∀ k ∈ blk p', k ∈ blk p ∨ w.heap.size ≤ k) → PO (.returned (.int .i64 E)) w') := hid (fun E l' p' c' w' h1 h2 h3 h4 h5 h6 => by rw [← hPO]; exact ⟨E, l', p', c', rfl, h1, h2, h3, h4, h5, h6⟩)
  obtain ⟨w1, hw1⟩ : ∃ q, w.alloc (.cells #[.int .i64 x.a, .int .i64 x.m] 39) = q := ⟨_, rfl⟩
  obtain ⟨bx, hbx⟩ : ∃ q, w.heap.size = q := ⟨_, rfl⟩
  have hf1 : Frm [] w w1 := by rw [← hw1]; exact (Frm.refl _ _).alloc _
  have g1 : w1.heap[bx]? = some (.cells #[.int .i64 x.a, .int .i64 x.m] 39 (0, 0)) := by rw [← hw1]; exact heap_alloc_to _ _ hbx
  have HWK : Hid (∀ W, Frm [] w1 W → W.cell? ⟨bx, 0, none⟩ = some (.int .i64 x.a) ∧ W.cell? ⟨bx, 1, none⟩ = some (.int .i64 x.m)) := hid (fun W hf => by
    have := hf.heap g1 (by simp)
    constructor <;> (rw [cell_of_row _ _ _ _ _ _ this]; rfl))
  have HMB := hid (may9_any x hx w1)
  have HW1 := hid hw1
  have HBX := hid hbx
  have HG1 := hid g1
  have HF1 := hid hf1
  have HR := hid (h.k0 hf1)
  have HRW := hid h
  have HN := hid hN
  have HL := hid hl
  have HSM := hid (lt_of_heap h.row)
  obtain ⟨c0, c1⟩ := HWK.out w1 (Frm.refl _ _)
  have HNO : Hid (¬ HasP l x → ∀ w', Frm [] w1 w' → PO (.returned (.int .i64 90)) w') := hid (fun h1 w' hf => HP.out 90 l p c w' (Or.inl ⟨h1, rfl, rfl⟩) (HR.out.k0 hf) HN.out HL.out ((HF1.out.trans hf (by simp)).mono (by simp)) (fun k hk => Or.inl hk))
  clear h hN hw1 hbx hf1 g1 hPO hx hl
  go_enter Try.func54, Try.ntmps54
  go_upto_region 1 with fail
  rw [HBX.out, HW1.out]
  go_wp2_with fail
  refine HMB.out.mono ?_
  rintro e w2 ⟨rfl, hf2⟩
  obtain ⟨k0, k1⟩ := HWK.out w2 hf2
  have HF2 := hid hf2
  have HR2 := hid (HR.out.k0 hf2)
  clear hf2 c0 c1 HMB
  by_cases hmay : May9 x
  · have hd : decide (May9 x) = true := decide_eq_true hmay
    have HMA := hid hmay
    have HIN := hid (fun W (hW : RRef W rb p c l) => in9_any rb p c l x W hW HN.out (by have := HL.out; omega) hmay)
    have HHI := hid (has9_in HN.out hmay)
    have hmay' := hmay
    unfold May9 at hmay'
    obtain ⟨u1, u2, u3, u4⟩ := hmay'
    clear hmay
    rw [hd]
    clear hd
    obtain ⟨z, hz⟩ : ∃ q, inL x l = q := ⟨_, rfl⟩
    have HIND := hid (HIN.out w2.drew (HR2.out.k0 (Frm.refl [] w2).drew))
    rw [hz] at HHI HIND
    have HFD : Hid (Frm [] w2 w2.drew) := hid (Frm.refl [] w2).drew
    have HKS : Hid (∀ W W' : World, (W.cell? ⟨bx, 0, none⟩ = some (.int .i64 x.a) ∧ W.cell? ⟨bx, 1, none⟩ = some (.int .i64 x.m) ∧ Frm [] w2 W) → Frm [] W W' → (W'.cell? ⟨bx, 0, none⟩ = some (.int .i64 x.a) ∧ W'.cell? ⟨bx, 1, none⟩ = some (.int .i64 x.m) ∧ Frm [] w2 W')) := hid (fun W W' hs hf => by
      have kc : ∀ q v, W.cell? q = some v → W'.cell? q = some v := fun q v hv => (hf.cell (World.block_lt_of_cell? W _ hv) (by simp)).trans hv
      exact ⟨kc _ _ hs.1, kc _ _ hs.2.1, hs.2.2.trans hf (by simp)⟩)
    clear hz HIN
    go_upto_region 3 with fail
    go_region_held3 (fun W => W.cell? ⟨bx, 0, none⟩ = some (.int .i64 x.a) ∧ W.cell? ⟨bx, 1, none⟩ = some (.int .i64 x.m) ∧ Frm [] w2 W) (first | (exact ⟨k0, k1, HFD.out⟩) | (exact HKS.out _ _ (by assumption) (by assumption))) (((with_reducible refine HIND.out.mono ?_); rintro e w5 ⟨rfl, hf5⟩))
    all_goals (
      have hh := (show _ ∧ _ ∧ Frm [] w2 w5 by assumption)
      obtain ⟨m0, m1, hh⟩ := hh
      have HH := hid (HF2.out.trans hh (by simp))
      clear hh hf5 HKS HFD HIND
      by_cases hzp : z < x.m
      · have HV : Hid (¬ HasP l x) := hid (fun hq => by have := HHI.out.1.2 hq; omega)
        go_wp2_with fail
        first | go_returns | skip
        exact HNO.out HV.out _ HH.out
      · have HV : Hid (HasP l x) := hid (HHI.out.1.1 (by have := HHI.out.2; omega))
        go_wp2_with fail
        have HST : Hid (WS w w5 none 0 0 [] bx x) := hid ⟨HF1.out.trans HH.out (by simp), ⟨⟨rfl, Or.inl ⟨rfl, rfl⟩⟩, rfl⟩, by simp [blk], HH.out.heap HG1.out (by simp), by have := HBX.out; omega⟩
        obtain ⟨L, hL⟩ : ∃ q, l.length = q := ⟨_, rfl⟩
        have HLL := hid hL
        have hL4 : L ≤ 4096 := by rw [← hL]; exact HL.out
        have HWO := hid (remR_ok (x := x) u2 HN.out)
        clear hL hzp HH
        go_loopw [7, 8, 6] (fun i s8 s6 wr => ∃ (t : Nat) (pk : Option Addr) (nk ck : Nat) (ks : List Sp), t ≤ L ∧ nk ≤ 2 * t ∧ i = .int .i64 (t : Int) ∧ s6 = .slice pk nk ck ∧ Hid (WS w wr pk nk ck ks bx x) ∧ Hid (ks = remR x (l.take t))) (fun i _ _ _ => L - (intOf i).toNat)
        case atStart => exact ⟨0, none, 0, 0, [], Nat.zero_le _, by omega, rfl, rfl, HST, hid rfl⟩
        case round =>
          clear HST
          obtain ⟨t, pk, nk, ck, ks, ht, hnk, rfl, rfl, hws, HKSS⟩ := hrel
          have q0 := (HRW.out.k0 hws.out.fr).cell
          rw [HLL.out] at q0
          by_cases hlt : t < L
          · have t1 : (t : Int) < (L : Int) := by omega
            obtain ⟨y, hy⟩ : ∃ y, l[t]? = some y := ⟨_, List.getElem?_eq_getElem (by have := HLL.out; omega)⟩
            obtain ⟨g, hg, y0, y1⟩ := (HRW.out.k0 hws.out.fr).own.at hy
            subst hg
            obtain ⟨w6, hw6⟩ : ∃ q, wr.alloc (.cells #[.int .i64 y.a, .int .i64 y.m] 39) = q := ⟨_, rfl⟩
            obtain ⟨by_, hby⟩ : ∃ q, wr.heap.size = q := ⟨_, rfl⟩
            have hf6 : Frm [] wr w6 := by rw [← hw6]; exact (Frm.refl _ _).alloc _
            have g6 : w6.heap[by_]? = some (.cells #[.int .i64 y.a, .int .i64 y.m] 39 (0, 0)) := by rw [← hw6]; exact heap_alloc_to _ _ hby
            have c0 : w6.cell? ⟨by_, 0, none⟩ = some (.int .i64 y.a) := by rw [cell_of_row _ _ _ _ _ _ g6]; rfl
            have c1 : w6.cell? ⟨by_, 1, none⟩ = some (.int .i64 y.m) := by rw [cell_of_row _ _ _ _ _ _ g6]; rfl
            have HS6 := hid (hws.out.k0 hf6)
            have HNBY : Hid (by_ ∉ blk pk) := hid (fun hm => by have := ownsRow_low hws.out.ow.1 _ hm; omega)
            obtain ⟨x0, x1⟩ := HS6.out.x0
            have HG6 := hid g6
            have HW6 := hid hw6
            have HBY := hid hby
            have HTK := hid (remR_take (x := x) hy)
            have hyn := HN.out.at hy
            have hye : y.e = y.a + y.m := rfl
            have hxe : x.e = x.a + x.m := rfl
            have hyb : 0 ≤ y.a ∧ 1 ≤ y.m ∧ y.a + y.m ≤ 1099511627776 := by omega
            obtain ⟨yb1, yb2, yb3⟩ := hyb
            have HYE := hid hye
            have HXE := hid hxe
            have HC := hid (common_any x y HMA.out.fits (HN.out.fits hy) w6)
            obtain ⟨cc, hcc⟩ : ∃ q, cm9 x y = q := ⟨_, rfl⟩
            rw [hcc] at HC
            have HCC := hid hcc
            clear hw6 hby hf6 g6 hy hyn hye hxe hcc hws
            go_upto_region 9 with fail
            rw [HBY.out, HW6.out]
            clear HBY HW6 y0 y1 q0
            go_wp2_with fail
            refine HC.out.mono ?_
            rintro e w7 ⟨rfl, hf7⟩
            have HS7 := hid (HS6.out.k0 hf7)
            have g7 := hf7.heap HG6.out (by simp)
            have HG7 := hid g7
            clear c0 c1 x0 x1 hf7 HC
            obtain ⟨x0, x1⟩ := HS7.out.x0
            have c0 : w7.cell? ⟨by_, 0, none⟩ = some (.int .i64 y.a) := by rw [cell_of_row _ _ _ _ _ _ g7]; rfl
            have c1 : w7.cell? ⟨by_, 1, none⟩ = some (.int .i64 y.m) := by rw [cell_of_row _ _ _ _ _ _ g7]; rfl
            clear g7
            by_cases hc0 : cc = 0
            · subst hc0
              have HOW8 := hid (ownsRow_kept HS7.out.ow.1 ((Frm.refl [] w7).alloc (.cells #[.int .i64 (y.a), .int .i64 (y.m)] 39)) (by simp))
              have HRV8 := hid (rv_block (heap_alloc_new w7 (.cells #[.int .i64 (y.a), .int .i64 (y.m)] 39)))
              go_wp2_with (at_builtin; refine wpList_appV rfl _ _ 43 rfl 39 2 16 _ Try.underlying43 infoSp rfl (by decide) pk (nk) ck (rowS (ks)) rfl HOW8.out (some ⟨w7.heap.size, 0, none⟩) 1 1 [.int .i64 (y.a), .int .i64 (y.m)] rfl rfl (by simp) HRV8.out (by intro u hu; simp at hu; rcases hu with rfl | rfl <;> rfl) (by unfold maxLen; omega) (by omega) ?_)
              intro p8 c8 w8 ho8 hf8 hb8
              have HO8 := hid (HS7.out.app ((Frm.refl [] w7).alloc _) (ys := [⟨y.a, y.m⟩]) rfl ho8.out hf8.out (fun k hk => by have := hb8.out k hk; simpa using this))
              clear ho8 hf8 hb8
              have HKN : Hid (ks ++ [y] = remR x (l.take (t + 1))) := hid (by rw [HTK.out, ← HKSS.out]; unfold leftR; rw [if_pos HCC.out])
              go_wp2_with fail
              go_roundw
              case rel => exact ⟨t + 1, p8, nk + 1, c8, ks ++ [y], by omega, by omega, by go_num, rfl, HO8, HKN⟩
              case measure => simp [intOf]; omega
            · have hcb : (cc == 0) = false := by simp [hc0]
              have HC0 : Hid (¬ cm9 x y = 0) := hid (by rw [HCC.out]; exact hc0)
              clear hc0
              by_cases hl : y.a < x.a
              · have hl' : x.a > y.a := hl
                have HOW8 := hid (ownsRow_kept HS7.out.ow.1 ((Frm.refl [] w7).alloc (.cells #[.int .i64 (y.a), .int .i64 (x.a - y.a)] 39)) (by simp))
                have HRV8 := hid (rv_block (heap_alloc_new w7 (.cells #[.int .i64 (y.a), .int .i64 (x.a - y.a)] 39)))
                go_wp2_with (at_builtin; refine wpList_appV rfl _ _ 43 rfl 39 2 16 _ Try.underlying43 infoSp rfl (by decide) pk (nk) ck (rowS (ks)) rfl HOW8.out (some ⟨w7.heap.size, 0, none⟩) 1 1 [.int .i64 (y.a), .int .i64 (x.a - y.a)] rfl rfl (by simp) HRV8.out (by intro u hu; simp at hu; rcases hu with rfl | rfl <;> rfl) (by unfold maxLen; omega) (by omega) ?_)
                intro p8 c8 w8 ho8 hf8 hb8
                have HO8 := hid (HS7.out.app ((Frm.refl [] w7).alloc _) (ys := [⟨y.a, x.a - y.a⟩]) rfl ho8.out hf8.out (fun k hk => by have := hb8.out k hk; simpa using this))
                have g8 := hf8.out.heap (((Frm.refl [] w7).alloc _).heap HG7.out (by simp)) HNBY.out
                obtain ⟨x0, x1⟩ := HO8.out.x0
                have c0 : w8.cell? ⟨by_, 0, none⟩ = some (.int .i64 y.a) := by rw [cell_of_row _ _ _ _ _ _ g8]; rfl
                have c1 : w8.cell? ⟨by_, 1, none⟩ = some (.int .i64 y.m) := by rw [cell_of_row _ _ _ _ _ _ g8]; rfl
                clear ho8 hf8 hb8 g8
                by_cases hr : x.a + x.m < y.a + y.m
                · have hr' : y.a + y.m > x.a + x.m := hr
                  have HOW9 := hid (ownsRow_kept HO8.out.ow.1 ((Frm.refl [] w8).alloc (.cells #[.int .i64 (x.a + x.m), .int .i64 (y.a + y.m - x.a - x.m)] 39)) (by simp))
                  have HRV9 := hid (rv_block (heap_alloc_new w8 (.cells #[.int .i64 (x.a + x.m), .int .i64 (y.a + y.m - x.a - x.m)] 39)))
                  go_wp2_with (at_builtin; refine wpList_appV rfl _ _ 43 rfl 39 2 16 _ Try.underlying43 infoSp rfl (by decide) p8 (nk + 1) c8 (rowS (ks ++ [⟨y.a, x.a - y.a⟩])) rfl HOW9.out (some ⟨w8.heap.size, 0, none⟩) 1 1 [.int .i64 (x.a + x.m), .int .i64 (y.a + y.m - x.a - x.m)] rfl rfl (by simp) HRV9.out (by intro u hu; simp at hu; rcases hu with rfl | rfl <;> rfl) (by unfold maxLen; omega) (by omega) ?_)
                  intro p9 c9 w9 ho9 hf9 hb9
                  have HO9 := hid (HO8.out.app ((Frm.refl [] w8).alloc _) (ys := [⟨x.a + x.m, y.a + y.m - x.a - x.m⟩]) rfl ho9.out hf9.out (fun k hk => by have := hb9.out k hk; simpa using this))
                  clear ho9 hf9 hb9
                  have HKN : Hid (ks ++ [⟨y.a, x.a - y.a⟩] ++ [⟨x.a + x.m, y.a + y.m - x.a - x.m⟩] = remR x (l.take (t + 1))) := hid (by rw [HTK.out, ← HKSS.out]; unfold leftR; rw [if_neg HC0.out, if_pos (by omega), HXE.out, HYE.out, if_pos (by omega), show y.a + y.m - (x.a + x.m) = y.a + y.m - x.a - x.m by omega]; simp)
                  go_wp2_with fail
                  go_roundw
                  case rel => exact ⟨t + 1, p9, nk + 1 + 1, c9, ks ++ [⟨y.a, x.a - y.a⟩] ++ [⟨x.a + x.m, y.a + y.m - x.a - x.m⟩], by omega, by omega, by go_num, rfl, HO9, HKN⟩
                  case measure => simp [intOf]; omega
                · have hr' : ¬ y.a + y.m > x.a + x.m := hr
                  have HKN : Hid (ks ++ [⟨y.a, x.a - y.a⟩] = remR x (l.take (t + 1))) := hid (by rw [HTK.out, ← HKSS.out]; unfold leftR; rw [if_neg HC0.out, if_pos (by omega), HXE.out, HYE.out, if_neg (by omega)]; simp)
                  go_wp2_with fail
                  go_roundw
                  case rel => exact ⟨t + 1, p8, nk + 1, c8, ks ++ [⟨y.a, x.a - y.a⟩], by omega, by omega, by go_num, rfl, HO8, HKN⟩
                  case measure => simp [intOf]; omega
              · have hl' : ¬ x.a > y.a := hl
                by_cases hr : x.a + x.m < y.a + y.m
                · have hr' : y.a + y.m > x.a + x.m := hr
                  have HOW8 := hid (ownsRow_kept HS7.out.ow.1 ((Frm.refl [] w7).alloc (.cells #[.int .i64 (x.a + x.m), .int .i64 (y.a + y.m - x.a - x.m)] 39)) (by simp))
                  have HRV8 := hid (rv_block (heap_alloc_new w7 (.cells #[.int .i64 (x.a + x.m), .int .i64 (y.a + y.m - x.a - x.m)] 39)))
                  go_wp2_with (at_builtin; refine wpList_appV rfl _ _ 43 rfl 39 2 16 _ Try.underlying43 infoSp rfl (by decide) pk (nk) ck (rowS (ks)) rfl HOW8.out (some ⟨w7.heap.size, 0, none⟩) 1 1 [.int .i64 (x.a + x.m), .int .i64 (y.a + y.m - x.a - x.m)] rfl rfl (by simp) HRV8.out (by intro u hu; simp at hu; rcases hu with rfl | rfl <;> rfl) (by unfold maxLen; omega) (by omega) ?_)
                  intro p8 c8 w8 ho8 hf8 hb8
                  have HO8 := hid (HS7.out.app ((Frm.refl [] w7).alloc _) (ys := [⟨x.a + x.m, y.a + y.m - x.a - x.m⟩]) rfl ho8.out hf8.out (fun k hk => by have := hb8.out k hk; simpa using this))
                  clear ho8 hf8 hb8
                  have HKN : Hid (ks ++ [⟨x.a + x.m, y.a + y.m - x.a - x.m⟩] = remR x (l.take (t + 1))) := hid (by rw [HTK.out, ← HKSS.out]; unfold leftR; rw [if_neg HC0.out, if_neg (by omega), HXE.out, HYE.out, if_pos (by omega), show y.a + y.m - (x.a + x.m) = y.a + y.m - x.a - x.m by omega]; simp)
                  go_wp2_with fail
                  go_roundw
                  case rel => exact ⟨t + 1, p8, nk + 1, c8, ks ++ [⟨x.a + x.m, y.a + y.m - x.a - x.m⟩], by omega, by omega, by go_num, rfl, HO8, HKN⟩
                  case measure => simp [intOf]; omega
                · have hr' : ¬ y.a + y.m > x.a + x.m := hr
                  have HKN : Hid (ks = remR x (l.take (t + 1))) := hid (by rw [HTK.out, ← HKSS.out]; unfold leftR; rw [if_neg HC0.out, if_neg (by omega), HXE.out, HYE.out, if_neg (by omega)]; simp)
                  go_wp2_with fail
                  go_roundw
                  case rel => exact ⟨t + 1, pk, nk, ck, ks, by omega, by omega, by go_num, rfl, HS7, HKN⟩
                  case measure => simp [intOf]; omega
          · obtain rfl : L = t := by omega
            have HKE : Hid (ks = remR x l) := hid (by rw [HKSS.out, List.take_of_length_le (by rw [HLL.out]; exact Nat.le_refl _)])
            have HR5 := hid (HRW.out.k0 hws.out.fr)
            have HNB : Hid (∀ k ∈ blk pk, w.heap.size ≤ k ∧ k ≠ rb) := hid (fun k hk => by
              have q1 := (hws.out.nb k hk).1
              have q4 := HSM.out
              exact ⟨by omega, by omega⟩)
            have z0 : wr.frozen? ⟨rb, 0, none⟩ = false := frozen_of_row _ _ 0 _ _ HR5.out.row
            by_cases hlong : (4096 : Int) < (nk : Int)
            · have HT : Hid (RRemP l x 2 l) := hid (Or.inr ⟨HV.out, _, HWO.out.1, HWO.out.2, Or.inr ⟨by rw [← HKE.out, hws.out.ow.2]; omega, rfl, rfl⟩⟩)
              go_wp2_with fail
              first | go_returns | skip
              exact HP.out 2 l p c wr HT.out HR5.out HN.out HL.out (hws.out.fr.mono (by simp)) (fun k hk => Or.inl hk)
            · have HT : Hid (RRemP l x 0 ks) := hid (Or.inr ⟨HV.out, _, HWO.out.1, HWO.out.2, Or.inl ⟨by rw [← HKE.out, hws.out.ow.2]; omega, rfl, HKE.out⟩⟩)
              go_wp2_with fail
              first | go_returns | skip
              have hfs := (Frm.refl [rb] wr).setCell ⟨rb, 0, none⟩ (.slice pk nk ck) (by simp)
              refine HP.out 0 _ pk ck _ HT.out ⟨?_, ?_, fun h => (HNB.out rb h).2 rfl⟩ (by rw [HKE.out]; exact HWO.out.1) (by rw [hws.out.ow.2]; omega) ((hws.out.fr.mono (by simp)).trans hfs (by simp)) (fun k hk => Or.inr (HNB.out k hk).1)
              · rw [heap_setCell_same _ _ 0 _ _ _ HR5.out.row, hws.out.ow.2]; rfl
              · have hq := hws.out.ow.kept hfs (fun k hk hm => by simp at hm; exact (HNB.out k hk).2 hm)
                rw [hws.out.ow.2]; exact hq)
  · have hd : decide (May9 x) = false := decide_eq_false hmay
    have HV : Hid (¬ HasP l x) := hid (fun h => hmay h.1)
    clear hmay
    rw [hd]
    clear hd
    go_upto_region 3 with fail
    go_quiet (fail)
    go_wp2_with fail
    first | go_returns | skip
    exact HNO.out HV.out _ (HF2.out.drewN _)
end Go.Proofs.Ytkbppkimpefilaa
