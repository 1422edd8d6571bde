/- The program's sets: Many, All, Clone. -/
import Derived.Test.YtkbppkimpefilaaRgE
namespace Go.Proofs.Ytkbppkimpefilaa
open Go.RowKit Go.Lib
set_option maxRecDepth 100000

def sumM : List Sp → Int
  | [] => 0
  | y :: l => y.m + sumM l
theorem sumM_app : ∀ (a b : List Sp), sumM (a ++ b) = sumM a + sumM b
  | [], b => by simp [sumM]
  | y :: a, b => by simp only [List.cons_append, sumM, sumM_app a b]; omega
theorem sumM_take {l : List Sp} {t : Nat} {y : Sp} (h : l[t]? = some y) : sumM (l.take (t + 1)) = sumM (l.take t) + y.m := by
  obtain ⟨hlt, rfl⟩ := List.getElem?_eq_some_iff.1 h
  rw [List.take_succ_eq_append_getElem hlt, sumM_app]
  simp [sumM]
theorem sumM_bound {l : List Sp} (h : Norm 0 l) : ∀ t : Nat, 0 ≤ sumM (l.take t) ∧ sumM (l.take t) ≤ (t : Int) * 1099511627776 := by
  intro t
  induction t with
  | zero => simp [sumM]
  | succ t ih =>
    by_cases hlt : t < l.length
    · obtain ⟨y, hy⟩ : ∃ y, l[t]? = some y := ⟨_, List.getElem?_eq_getElem hlt⟩
      rw [sumM_take hy]
      have h1 := h.at hy
      unfold Sp.e at h1
      omega
    · rw [show l.take (t + 1) = l.take t by rw [List.take_of_length_le (by omega), List.take_of_length_le (by omega)]]
      omega
set_option maxHeartbeats 3200000 in
theorem many9_any (sb : Nat) (p : Option Addr) (c : Nat) (l : List Sp) (w : World) (h : RSet w sb p c l) (hN : Norm 0 l) (hl : l.length ≤ 4096) :
    Calls Try.prog 44 #[.pointer (some ⟨sb, 0, none⟩)] w fun e w' => e = .returned (.int .i64 (sumM l)) ∧ Frm [] w w' := by
  have HR := hid h
  have HN := hid hN
  have x0 := h.cell
  obtain ⟨L, hL⟩ : ∃ q, l.length = q := ⟨_, rfl⟩
  rw [hL] at x0 hl
  have HL := hid hL
  clear h hN hL
  go_enter Try.func44, Try.ntmps44
  go_wp2_with fail
  go_loopw [11, 5, 3] (fun i s5 s3 wr => ∃ t : Nat, ∃ z : Int, t ≤ L ∧ i = .int .i64 (t : Int) ∧ s3 = .int .i64 z ∧ Hid (z = sumM (l.take t)) ∧ Hid (Frm [] w wr)) (fun i _ _ _ => L - (intOf i).toNat)
  case atStart => exact ⟨0, 0, Nat.zero_le _, rfl, rfl, hid (by simp [sumM]), hid (Frm.refl _ _)⟩
  case round =>
    obtain ⟨t, z, ht, rfl, rfl, hz, hin⟩ := hrel
    by_cases hlt : t < L
    · have t1 : (t : Int) < (L : Int) := by omega
      obtain ⟨y, hy⟩ : ∃ y, l[t]? = some y := ⟨_, List.getElem?_eq_getElem (by have := HL.out; omega)⟩
      obtain ⟨g, hg, y0, y1⟩ := (HR.out.k0 hin.out).own.at hy
      subst hg
      have hb := sumM_bound HN.out t
      rw [← hz.out] at hb
      obtain ⟨hb1, hb2⟩ := hb
      have hye := HN.out.at hy
      have hym : 1 ≤ y.m ∧ y.m ≤ 1099511627776 := by unfold Sp.e at hye; omega
      obtain ⟨hm1, hm2⟩ := hym
      have HF5 : Hid (Frm [] w (wr.alloc (.cells #[.int .i64 y.a, .int .i64 y.m] 39))) := hid (hin.out.alloc _)
      have HZ : Hid (z + y.m = sumM (l.take (t + 1))) := hid (by rw [sumM_take hy, hz.out])
      clear hye hy
      go_wp2_with fail
      go_roundw
      case rel => exact ⟨t + 1, z + y.m, by omega, by go_num, rfl, HZ, HF5⟩
      case measure => simp [intOf]; omega
    · obtain rfl : L = t := by omega
      have HFIN : Hid (z = sumM l) := hid (by rw [hz.out, List.take_of_length_le (by rw [HL.out]; exact Nat.le_refl _)])
      go_wp2_with fail
      go_returns
      exact ⟨by rw [HFIN.out]; rfl, hin.out⟩
set_option maxHeartbeats 3200000 in
theorem clone9_any (p : Option Addr) (c : Nat) (l : List Sp) (n : Nat) (w : World) (h : OwnS w p n c l) (hl : n ≤ 1000000) :
    Calls Try.prog 56 #[.slice p n c] w fun e w' => ∃ p' c', e = .returned (.slice p' n c') ∧ OwnS w' p' n c' l ∧ Frm [] w w' ∧ ∀ k ∈ blk p', w.heap.size ≤ k := by
  have HO := hid h
  have hu : Try.prog.underlying 43 = some (.slice 39) := Try.underlying43
  have hnn : ∀ W : World, (binOp .eql 43 (.slice none 0 0) (.slice none 0 0)).run Try.prog W = .ok (.bool true) W := fun _ => rfl
  have hns : ∀ (a : Addr) (W : World), (binOp .eql 43 (.slice (some a) n c) (.slice none 0 0)).run Try.prog W = .ok (.bool false) W := fun _ _ => rfl
  go_enter Try.func56, Try.ntmps56
  cases p with
  | none =>
    obtain ⟨rfl, rfl⟩ := h.nil rfl
    have hl0 : l = [] := List.eq_nil_of_length_eq_zero h.2
    clear h
    go_wp2_with fail
    first | go_returns | skip
    exact ⟨none, 0, rfl, by rw [hl0]; exact ⟨⟨rfl, Or.inl ⟨rfl, rfl⟩⟩, rfl⟩, Frm.refl _ _, by simp [blk]⟩
  | some a =>
    clear h
    have HOW : Hid ((w.alloc (.cells #[] 39)).ownsRow 0 39 2 (.slice (some ⟨w.heap.size, 0, none⟩) 0 0) 0 (rowS [])) := hid ⟨rfl, Or.inr ⟨w.heap.size, 0, #[], rfl, Nat.zero_le _, heap_alloc_new _ _, Nat.le_refl _, by unfold maxLen; omega, rfl, rfl⟩⟩
    have HRV := hid (HO.out.kept ((Frm.refl [] w).alloc (.cells #[] 39)) (by simp)).rv
    have HLN : Hid ((rowS l).length = n * 2) := hid (by rw [rowS_len, HO.out.2])
    go_upto_region 3 with fail
    go_wp2_with (at_builtin; refine wpList_appV rfl _ _ 43 rfl 39 2 16 _ hu infoSp rfl (by decide) (some ⟨w.heap.size, 0, none⟩) 0 0 (rowS []) rfl HOW.out (some a) n c (rowS l) rfl HLN.out (fun _ h => by cases h) HRV.out (rowS_one _) (by unfold maxLen; omega) (by omega) ?_)
    intro p2 c2 w2 ho2 hf2 hb2
    have HFIN : Hid (OwnS w2 p2 n c2 l ∧ Frm [] w w2 ∧ ∀ k ∈ blk p2, w.heap.size ≤ k) := hid ⟨⟨by have := ho2.out; simpa [rowS] using this, HO.out.2⟩, ((Frm.refl [] w).alloc _).trans hf2.out (fun k hk hkl => by simp [blk] at hk; omega), fun k hk => by
      rcases hb2.out k hk with h | h
      · simp [blk] at h; omega
      · have h2 : w.heap.size + 1 ≤ k := by simpa using h
        omega⟩
    clear ho2 hf2 hb2
    go_wp2_with fail
    first | go_returns | skip
    exact ⟨p2, c2, rfl, HFIN.out⟩
set_option maxHeartbeats 1600000 in
theorem all9_any (sb : Nat) (p : Option Addr) (c : Nat) (l : List Sp) (w : World) (h : RSet w sb p c l) (hl : l.length ≤ 1000000) :
    Calls Try.prog 22 #[.pointer (some ⟨sb, 0, none⟩)] w fun e w' => ∃ p' c', e = .returned (.slice p' l.length c') ∧ OwnS w' p' l.length c' l ∧ Frm [] w w' ∧ ∀ k ∈ blk p', w.heap.size ≤ k := by
  have x0 := h.cell
  have HC := hid (clone9_any p c l l.length w h.own hl)
  obtain ⟨L, hL⟩ : ∃ q, l.length = q := ⟨_, rfl⟩
  rw [hL] at x0 HC ⊢
  clear h hL
  go_enter Try.func22, Try.ntmps22
  go_wp2_with fail
  refine HC.out.mono ?_
  rintro e w2 ⟨p', c', rfl, h1⟩
  have H1 := hid h1
  clear h1 HC
  go_wp2_with fail
  first | go_returns | skip
  exact ⟨p', c', rfl, H1.out⟩
end Go.Proofs.Ytkbppkimpefilaa
