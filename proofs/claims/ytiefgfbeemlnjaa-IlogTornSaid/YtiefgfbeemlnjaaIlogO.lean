/- Contracts of the document's log: told. -/
import Derived.Test.YtiefgfbeemlnjaaIlogN
namespace Go.Proofs.Ytiefgfbeemlnjaa
open Go.RowKit
set_option maxRecDepth 100000

/-- What told answers. -/
def PostT (base next at_ : Nat) (zs : List Int) (w : World) (e : Ending) (w' : World) : Prop :=
  Frm [] w w' ∧ ((e = .returned (.tuple #[.slice none 0 0, .bool false]) ∧ NoRec base next (zs.drop at_)) ∨ ∃ (N : Nat) (p' : Option Addr) (c' : Nat), N ≤ 4096 ∧ at_ + pcs N * 88 ≤ 22528 ∧ ((zs.drop at_).drop 16).take 4 = le N 4 ∧ e = .returned (.tuple #[.slice p' N c', .bool true]) ∧ Own w' 5 (.slice p' N c') (tellB (zs.drop at_) N) ∧ ∀ k ∈ blk p', w.heap.size ≤ k)
set_option maxHeartbeats 800000 in
theorem told_short (b base at_ next : Nat) (zs : List Int) (hn : zs.length = 22528) (hat2 : at_ ≤ 22528) (h : 22528 < at_ + 88) (p : Option Addr) (n c : Nat) (w : World) (hL : IsRef w b base at_ next) :
    Calls Try.prog 77 #[.pointer (some ⟨b, 0, none⟩), .slice p n c] w (PostT base next at_ zs w) := by
  have HP : Hid (PostT base next at_ zs w (.returned (.tuple #[.slice none 0 0, .bool false])) w) := hid ⟨Frm.refl _ _, Or.inl ⟨rfl, noRec_short (by rw [List.length_drop]; omega)⟩⟩
  have h1 : (22528 : Int) < (at_ : Int) + 88 := by omega
  obtain ⟨lb, e0, e1, e2, _⟩ := hL.cells
  clear hL hn h
  go_enter Try.func77, Try.ntmps77
  go_wp2_with fail
  go_returns
  exact HP.out
set_option maxHeartbeats 1600000 in
theorem told_long (b base at_ next : Nat) (g o c N : Nat) (zs : List Int) (hn : zs.length = 22528) (h : at_ + 88 ≤ 22528) (hN : ((zs.drop at_).drop 16).take 4 = le N 4) (hN2 : N < 4294967296) (w : World) (hL : IsRef w b base at_ next) (hrd : Rd w (some ⟨g, o, none⟩) zs) :
    Calls Try.prog 77 #[.pointer (some ⟨b, 0, none⟩), .slice (some ⟨g, o, none⟩) 22528 c] w (PostT base next at_ zs w) := by
  have h1 : ¬ (22528 : Int) < (at_ : Int) + 88 := by omega
  have HL := hid hL
  obtain ⟨lb, e0, e1, e2, _⟩ := hL.cells
  have HCB : Hid (∀ j, j < 4 → w.cell? ⟨g, o + (at_ + 16 + j), none⟩ = some (.int .u8 ((N / 2 ^ (8 * j) % 256 : Nat) : Int))) := hid (fun j hj => by
    rcases hrd with h0 | ⟨g', o', e, hc⟩
    · rw [h0] at hn; simp at hn
    · simp at e; obtain ⟨rfl, rfl⟩ := e
      rw [hc (at_ + 16 + j) (by omega)]
      have h2 := congrArg (fun l => l.getD j 0) hN
      simp only [List.getD_eq_getElem?_getD, List.getElem?_take, List.getElem?_drop, if_pos hj] at h2
      rw [List.getD_eq_getElem?_getD, show at_ + 16 + j = at_ + (16 + j) by omega, h2]
      simp [le, hj])
  have HRD := hid hrd
  have HNN := hid hn
  have HN := hid hN
  clear hL hN hrd hn
  go_enter Try.func77, Try.ntmps77
  go_wp2_with fail
  go_loopw [6, 7] (fun v i wr => ∃ j : Nat, j ≤ 4 ∧ i = .int .i64 (3 - (j : Int)) ∧ v = .int .i64 ((N / 2 ^ (8 * (4 - j)) : Nat) : Int) ∧ wr = w) (fun _ i _ => (intOf i + 1).toNat)
  case atStart => exact ⟨0, by omega, rfl, by rw [Nat.div_eq_of_lt (by omega)]; rfl, rfl⟩
  case round =>
    obtain ⟨j, hj, rfl, rfl, rfl⟩ := hrel
    by_cases hlt : j < 4
    · have hc := HCB.out (3 - j) (by omega)
      have e3 : 2 ^ (8 * (4 - j)) = 2 ^ (8 * (3 - j)) * 256 := by rw [show 8 * (4 - j) = 8 * (3 - j) + 8 by omega, Nat.pow_add]
      have e4 : N / 2 ^ (8 * (4 - j)) = N / 2 ^ (8 * (3 - j)) / 256 := by rw [e3, Nat.div_div_eq_div_mul]
      have e5 : 4 - (j + 1) = 3 - j := by omega
      have hq : N / 2 ^ (8 * (3 - j)) ≤ N := Nat.div_le_self _ _
      have HE5 := hid e5
      rw [e4]
      obtain ⟨q, hqq⟩ : ∃ q, N / 2 ^ (8 * (3 - j)) = q := ⟨_, rfl⟩
      rw [hqq] at hc hq ⊢
      have HQ := hid hqq
      obtain ⟨x, hx⟩ : ∃ x, q % 256 = x := ⟨_, rfl⟩
      obtain ⟨y, hy⟩ : ∃ y, q / 256 = y := ⟨_, rfl⟩
      have hxb : x < 256 := by omega
      have hyb : y ≤ 16777216 := by omega
      have HXY : Hid (256 * y + x = q) := hid (by omega)
      rw [hx] at hc
      rw [hy]
      have l0 : (0 : Int) ≤ 3 - (j : Int) := by omega
      have l3 : (0 : Int) ≤ (at_ : Int) + 16 + (3 - (j : Int)) := by omega
      have l2 : (at_ : Int) + 16 + (3 - (j : Int)) < 22528 := by omega
      have l4 : ((at_ : Int) + 16 + (3 - (j : Int))).toNat = at_ + 16 + (3 - j) := by omega
      clear e3 e4 e5 hqq hx hy hq
      go_wp2_with fail
      go_roundw
      case rel => exact ⟨j + 1, by omega, by go_num, by rw [HE5.out, HQ.out, ← HXY.out]; go_num, trivial⟩
      case measure => simp [intOf]; omega
    · obtain rfl : j = 4 := by omega
      obtain ⟨wo, rfl⟩ : ∃ wo : World, wo = wr := ⟨_, rfl⟩
      have hv : ((N / 2 ^ (8 * (4 - 4)) : Nat) : Int) = (N : Int) := by simp
      rw [hv]
      have hx4 : (3 : Int) - ((4 : Nat) : Int) = -1 := rfl
      rw [hx4]
      clear hlt hv hx4
      go_wp2_with fail
      by_cases hroom : roomB at_ (N : Int) = true
      · have hr := hroom
        simp only [roomB, Bool.and_eq_true, decide_eq_true_eq, Int.toNat_natCast] at hr
        obtain ⟨⟨_, hr1⟩, hr2⟩ := hr
        have hN4 : N ≤ 4096 := by omega
        have HRM := hid hroom
        have HPF : Hid (at_ + pcs N * 88 ≤ 22528) := hid hr2
        have hNm : Hid (N ≤ pcs N * 68) := hid (by unfold pcs; omega)
        clear hroom hr1 hr2
        refine (refRoom_any b base at_ next N _ (by omega) HL.out).mono ?_
        rintro e w1 ⟨rfl, hf1⟩
        rw [HRM.out]
        have HF1 := hid hf1
        have HL1 := hid (HL.out.kept hf1 (by simp))
        clear hf1
        go_wp2_with fail
        go_loopw [9, 10] (fun v i wi => ∃ (j : Nat) (pj : Option Addr) (cj : Nat), j ≤ N ∧ v = .slice pj j cj ∧ i = .int .i64 j ∧ Hid (App wo wi pj j cj (tellB (zs.drop at_) j))) (fun _ i _ => N - (intOf i).toNat)
        case atStart => exact ⟨0, none, 0, Nat.zero_le _, rfl, rfl, hid ⟨by simp [tellB], Own.nil _ _, HF1.out, by simp [blk]⟩⟩
        case round =>
          obtain ⟨j, pj, cj, hj, rfl, rfl, HI⟩ := hrel
          by_cases hlj : j < N
          · obtain ⟨d, hd⟩ : ∃ d, j / 68 = d := ⟨_, rfl⟩
            obtain ⟨r, hr⟩ : ∃ r, j % 68 = r := ⟨_, rfl⟩
            have hjd : j = 68 * d + r := by omega
            have hr68 : r < 68 := by omega
            have hdp : d < pcs N := by have := hNm.out; omega
            have hfit : at_ + 88 * d + 20 + r < 22528 := by have := HPF.out; omega
            have hsu := tellB_succ (zs.drop at_) j
            rw [hd, hr, getD_drop] at hsu
            obtain ⟨z, hz⟩ : ∃ z, zs.getD (at_ + (88 * d + 20 + r)) 0 = z := ⟨_, rfl⟩
            have hc : wr.cell? ⟨g, o + (at_ + 88 * d + 20 + r), none⟩ = some (.int .u8 z) := by
              rcases HRD.out.kept HI.out.frm (by simp) with h0 | ⟨g', o', e, hc⟩
              · have := HNN.out; rw [h0] at this; simp at this
              · simp at e; obtain ⟨rfl, rfl⟩ := e
                rw [hc _ (by rw [HNN.out]; exact hfit), ← hz, show at_ + (88 * d + 20 + r) = at_ + 88 * d + 20 + r by omega]
            rw [hz] at hsu
            have HSU := hid hsu
            have e1 := (HL.out.kept HI.out.frm (by simp)).cells.2.2.1
            have hdi : (j : Int).tdiv 68 = (d : Int) := by rw [Int.tdiv_eq_ediv_of_nonneg (by omega)]; omega
            have hdm : (j : Int).tmod 68 = (r : Int) := by rw [Int.tmod_eq_emod_of_nonneg (by omega)]; omega
            have hdi2 : (j : Int) / 68 = (d : Int) := by omega
            have hdm2 : (j : Int) % 68 = (r : Int) := by omega
            have l3 : (0 : Int) ≤ (at_ : Int) + 88 * (d : Int) + 20 + (r : Int) := by omega
            have l2 : (at_ : Int) + 88 * (d : Int) + 20 + (r : Int) < 22528 := by omega
            have l4 : ((at_ : Int) + 88 * (d : Int) + 20 + (r : Int)).toNat = at_ + 88 * d + 20 + r := by omega
            have hrz : Rd (wr.alloc (.cells #[.int .u8 z] 5)) (some ⟨wr.heap.size, 0, none⟩) [z] :=
              (own_of_block (E := 5) (zs := [z]) (heap_alloc_new wr _) (by simp [maxLen])).rd
            have HRZ := hid hrz
            have HJ := hid (HI.out.call ((Frm.refl [] wr).alloc (.cells #[.int .u8 z] 5)))
            clear hsu hrz hz hd hr hjd
            go_wp2_with (at_builtin; refine wpList_appB rfl _ _ 22 rfl 5 Try.underlying22 infoB pj _ cj (tellB (zs.drop at_) j) rfl HJ.out.len.symm (by rw [HJ.out.len]; exact HJ.out.own) (some ⟨wr.heap.size, 0, none⟩) 1 1 [z] rfl rfl (by simp) HRZ.out (by rw [HJ.out.len]; simp; omega) ?_)
            intro xs p6 c6 x6 hxs ho2 hf2 hfr2
            obtain ⟨hxl, ha2⟩ := HJ.out.put (m := j + 1) hxs.out ho2.out hf2.out (fun k hk => by have := hfr2.out k hk; simpa using this) (by simp)
            have HA6 : Hid (App wo x6 p6 (j + 1) c6 (tellB (zs.drop at_) (j + 1))) := by rw [HSU.out]; exact ha2
            rw [hxl]
            clear ho2 hf2 hfr2 hxl hxs ha2
            go_wp2_with fail
            go_roundw
            case rel => exact ⟨j + 1, p6, c6, by omega, rfl, by go_num, HA6⟩
            case measure => simp [intOf]; omega
          · obtain rfl : j = N := by omega
            have HP : Hid (PostT base next at_ zs wo (.returned (.tuple #[.slice pj j cj, .bool true])) wr) := hid ⟨HI.out.frm, Or.inr ⟨j, pj, cj, hN4, HPF.out, HN.out, rfl, HI.out.own, HI.out.new⟩⟩
            clear hlj
            go_wp2_with fail
            go_returns
            exact HP.out
      · have hr : roomB at_ (N : Int) = false := by simpa using hroom
        have hno : NoRec base next (zs.drop at_) := by
          by_cases h4 : 4096 < N
          · exact noRec_long HN.out hN2 h4
          · refine noRec_cut HN.out hN2 ?_
            rw [List.length_drop, HNN.out]
            have hr2 := hr
            simp only [roomB, Int.toNat_natCast] at hr2
            rw [decide_eq_true (by omega : (0 : Int) ≤ N), decide_eq_true (by omega : (N : Int) ≤ 4096)] at hr2
            simp at hr2
            omega
        have HNO := hid hno
        have HRM := hid hr
        clear hroom hr hno
        refine (refRoom_any b base at_ next N _ (by omega) HL.out).mono ?_
        rintro e w1 ⟨rfl, hf1⟩
        rw [HRM.out]
        have HP : Hid (PostT base next at_ zs wo (.returned (.tuple #[.slice none 0 0, .bool false])) w1) := hid ⟨hf1, Or.inl ⟨rfl, HNO.out⟩⟩
        clear hf1
        go_wp2_with fail
        go_returns
        exact HP.out
theorem told_any (b base at_ next : Nat) (p : Option Addr) (zs : List Int) (c : Nat) (hn : zs.length = 22528) (hat : at_ ≤ 22528) (hz : ∀ z ∈ zs, 0 ≤ z ∧ z < 256) (w : World) (hL : IsRef w b base at_ next) (hrd : Rd w p zs) :
    Calls Try.prog 77 #[.pointer (some ⟨b, 0, none⟩), .slice p 22528 c] w (PostT base next at_ zs w) := by
  by_cases h : 22528 < at_ + 88
  · exact told_short b base at_ next zs hn hat h p 22528 c w hL
  · obtain ⟨g, o, rfl⟩ : ∃ g o, p = some ⟨g, o, none⟩ := by
      rcases hrd with h | ⟨g, o, h, _⟩
      · rw [h] at hn; simp at hn
      · exact ⟨g, o, h⟩
    obtain ⟨N, hN2, hN⟩ := le_four (zs := ((zs.drop at_).drop 16).take 4) (by rw [List.length_take, List.length_drop, List.length_drop]; omega) (fun z hz' => hz z (List.mem_of_mem_drop (List.mem_of_mem_drop (List.mem_of_mem_take hz'))))
    exact told_long b base at_ next g o c N zs hn (by omega) hN.symm hN2 w hL hrd
end Go.Proofs.Ytiefgfbeemlnjaa
