/- Contracts of the document's log: Record, Append. -/
import Derived.Test.YtiefgfbeemlnjaaIlogC
namespace Go.Proofs.Ytiefgfbeemlnjaa
open Go.RowKit
set_option maxRecDepth 100000

/-- Bytes that have come together since a world: nobody else's. -/
structure App (w0 w : World) (p : Option Addr) (n c : Nat) (zs : List Int) : Prop where
  len : zs.length = n
  own : Own w 5 (.slice p n c) zs
  frm : Frm [] w0 w
  new : ∀ k ∈ blk p, w0.heap.size ≤ k
theorem App.call {w0 w w1 : World} {p : Option Addr} {n c : Nat} {zs : List Int} (h : App w0 w p n c zs) (hf : Frm [] w w1) : App w0 w1 p n c zs :=
  ⟨h.len, h.own.kept hf (by simp), h.frm.trans hf (by simp), h.new⟩
theorem App.put {w0 w w2 : World} {p p2 : Option Addr} {n c c2 m : Nat} {zs ys xs : List Int} (h : App w0 w p n c zs) (hxs : xs = zs ++ ys) (ho : Own w2 5 (.slice p2 xs.length c2) xs) (hf : Frm (blk p) w w2) (hfr : ∀ k ∈ blk p2, k ∈ blk p ∨ w.heap.size ≤ k) (hm : n + ys.length = m) : xs.length = m ∧ App w0 w2 p2 m c2 (zs ++ ys) := by
  have hl : xs.length = m := by rw [hxs, List.length_append, h.len, hm]
  refine ⟨hl, by rw [← hxs]; exact hl, by rw [← hxs]; rw [hl] at ho; exact ho, h.frm.trans hf (fun i hi hlt => by have := h.new i hi; omega), fun k hk => ?_⟩
  rcases hfr k hk with h1 | h1
  · exact h.new k h1
  · have := h.frm.size; omega
/-- The bytes of a piece behind its head. -/
def bodyJ (zs : List Int) (k j : Nat) : List Int := (List.range j).map fun i => zs.getD (68 * k + i) 0
theorem bodyJ_length (zs : List Int) (k j : Nat) : (bodyJ zs k j).length = j := by simp [bodyJ]
theorem bodyJ_succ (zs : List Int) (k j : Nat) : bodyJ zs k (j + 1) = bodyJ zs k j ++ [zs.getD (68 * k + j) 0] := by simp [bodyJ, List.range_succ]
theorem body_flat (zs : List Int) (k : Nat) : (zs.drop (k * 68)).take 68 ++ List.replicate (68 - ((zs.drop (k * 68)).take 68).length) 0 = bodyJ zs k 68 := by
  apply List.ext_getElem
  · simp [bodyJ]; omega
  · intro i h1 h2
    simp only [bodyJ, List.getElem_map, List.getElem_range]
    rw [bodyJ_length] at h2
    by_cases h : i < ((zs.drop (k * 68)).take 68).length
    · rw [List.getElem_append_left h, List.getElem_take, List.getElem_drop]
      have h3 : k * 68 + i < zs.length := by simp at h; omega
      rw [List.getD_eq_getElem?_getD, show 68 * k + i = k * 68 + i by omega, List.getElem?_eq_getElem h3]; rfl
    · rw [List.getElem_append_right (by omega), List.getElem_replicate, List.getD_eq_getElem?_getD, List.getElem?_eq_none (by simp at h; omega)]; rfl
theorem pieceB_flat (base next i all : Nat) (zs : List Int) : pieceB base next i all zs = headB base next i all zs.length ++ bodyJ zs i 68 := by
  rw [← body_flat]
  unfold pieceB
  have hh := headB_length base next i all zs.length
  generalize headB base next i all zs.length = H at hh ⊢
  generalize (zs.drop (i * 68)).take 68 = T
  unfold splice
  rw [hh]
  simp only [List.take_zero, List.nil_append, Nat.zero_add, List.drop_replicate]
  rw [← hh, List.take_left, ← List.drop_drop, List.drop_left, List.drop_replicate, List.append_assoc, show 88 - H.length - T.length = 68 - T.length by omega]
set_option maxHeartbeats 3200000 in
theorem refRecord_any (b base next : Nat) (at_ : Int) (p0 : Option Addr) (zs : List Int) (n c0 : Nat) (hnz : zs.length = n) (hb1 : base < 9223372036854775808) (hb2 : next < 9223372036854775808) (h : n ≤ 4096) (w : World) (hL : IsRef w b base at_ next) (hrd : Rd w p0 zs) :
    Calls Try.prog 78 #[.pointer (some ⟨b, 0, none⟩), .slice p0 n c0] w fun e w' => ∃ p' n' c', e = .returned (.slice p' n' c') ∧ n' = pcs n * 88 ∧ Own w' 5 (.slice p' n' c') (recB base next zs) ∧ Frm [] w w' ∧ ∀ k ∈ blk p', w.heap.size ≤ k := by
  have HNZ := hid hnz
  have HL := hid hL
  have HRD := hid hrd
  have hm1 := pcs_le n h
  have hm2 := pcs_pos n
  have hrec : recB base next zs = recT base next (pcs n) zs (pcs n) := by unfold recB; rw [hnz]
  have HREC := hid hrec
  have HPC := hid (refPieces_any n h)
  obtain ⟨m, hm⟩ : ∃ m, pcs n = m := ⟨_, rfl⟩
  rw [hm] at hm1 hm2 HREC HPC ⊢
  clear hnz hL hrd hrec hm
  go_enter Try.func78, Try.ntmps78
  go_wp2_with fail
  refine (HPC.out _).mono ?_
  rintro e w1 ⟨rfl, rfl⟩
  go_wp2_with fail
  go_loopw [5, 7] (fun v i wr => ∃ (t : Nat) (p : Option Addr) (c : Nat), t ≤ m ∧ v = .slice p (t * 88) c ∧ i = .int .i64 t ∧ Hid (App w wr p (t * 88) c (recT base next m zs t))) (fun _ i _ => m - (intOf i).toNat)
  case atStart => exact ⟨0, none, 0, Nat.zero_le _, rfl, rfl, hid ⟨rfl, Own.nil _ _, Frm.refl _ _, by simp [blk]⟩⟩
  case round =>
    obtain ⟨t, p, c, ht, rfl, rfl, HA⟩ := hrel
    by_cases hlt : t < m
    · have htb : t * 88 ≤ 61 * 88 := Nat.mul_le_mul_right _ (by omega)
      obtain ⟨RT, hRT⟩ : ∃ RT, recT base next m zs t = RT := ⟨_, rfl⟩
      have HRT := hid hRT
      rw [hRT] at HA
      clear hRT
      have e0 := (HL.out.kept HA.out.frm (by simp)).cells.2.1
      go_wp2_with fail
      refine (refNum_any base 8 (by omega) (by omega) _).mono ?_
      rintro e y1 ⟨q1, d1, rfl, ho, hf, hk⟩
      have HR1 := hid ho.rd
      have HB1 := hid (HA.out.call hf)
      clear ho hf hk
      go_wp2_with (at_builtin; refine wpList_appB rfl _ _ 22 rfl 5 Try.underlying22 infoB p _ c (RT) rfl HB1.out.len.symm (by rw [HB1.out.len]; exact HB1.out.own) q1 8 d1 (le base 8) rfl (le_length _ _).symm (fun h => absurd (congrArg List.length h) (by simp [le_length])) HR1.out (by rw [HB1.out.len, le_length]; omega) ?_)
      intro xs p1 c1 x1 hxs ho2 hf2 hfr2
      obtain ⟨hxl, ha2⟩ := HB1.out.put (m := t * 88 + 8) hxs.out ho2.out hf2.out hfr2.out (by rw [le_length])
      have HA1 := hid ha2
      rw [hxl]
      obtain ⟨Z1, hZ⟩ : ∃ Z, RT ++ le base 8 = Z := ⟨_, rfl⟩
      have HZ1 := hid hZ
      rw [hZ] at HA1
      clear ho2 hf2 hfr2 hxl hxs ha2 hZ
      have e1 := (HL.out.kept HA1.out.frm (by simp)).cells.2.2.2.1
      go_wp2_with fail
      refine (refNum_any next 4 (by omega) (by omega) _).mono ?_
      rintro e y2 ⟨q2, d2, rfl, ho, hf, hk⟩
      have HR2 := hid ho.rd
      have HB2 := hid (HA1.out.call hf)
      clear ho hf hk
      go_wp2_with (at_builtin; refine wpList_appB rfl _ _ 22 rfl 5 Try.underlying22 infoB p1 _ c1 (Z1) rfl HB2.out.len.symm (by rw [HB2.out.len]; exact HB2.out.own) q2 4 d2 (le next 4) rfl (le_length _ _).symm (fun h => absurd (congrArg List.length h) (by simp [le_length])) HR2.out (by rw [HB2.out.len, le_length]; omega) ?_)
      intro xs p2 c2 x2 hxs ho2 hf2 hfr2
      obtain ⟨hxl, ha2⟩ := HB2.out.put (m := t * 88 + 12) hxs.out ho2.out hf2.out hfr2.out (by rw [le_length])
      have HA2 := hid ha2
      rw [hxl]
      obtain ⟨Z2, hZ⟩ : ∃ Z, Z1 ++ le next 4 = Z := ⟨_, rfl⟩
      have HZ2 := hid hZ
      rw [hZ] at HA2
      clear ho2 hf2 hfr2 hxl hxs ha2 hZ
      go_wp2_with fail
      refine (refNum_any t 2 (by omega) (by omega) _).mono ?_
      rintro e y3 ⟨q3, d3, rfl, ho, hf, hk⟩
      have HR3 := hid ho.rd
      have HB3 := hid (HA2.out.call hf)
      clear ho hf hk
      go_wp2_with (at_builtin; refine wpList_appB rfl _ _ 22 rfl 5 Try.underlying22 infoB p2 _ c2 (Z2) rfl HB3.out.len.symm (by rw [HB3.out.len]; exact HB3.out.own) q3 2 d3 (le t 2) rfl (le_length _ _).symm (fun h => absurd (congrArg List.length h) (by simp [le_length])) HR3.out (by rw [HB3.out.len, le_length]; omega) ?_)
      intro xs p3 c3 x3 hxs ho2 hf2 hfr2
      obtain ⟨hxl, ha2⟩ := HB3.out.put (m := t * 88 + 14) hxs.out ho2.out hf2.out hfr2.out (by rw [le_length])
      have HA3 := hid ha2
      rw [hxl]
      obtain ⟨Z3, hZ⟩ : ∃ Z, Z2 ++ le t 2 = Z := ⟨_, rfl⟩
      have HZ3 := hid hZ
      rw [hZ] at HA3
      clear ho2 hf2 hfr2 hxl hxs ha2 hZ
      go_wp2_with fail
      refine (refNum_any m 2 (by omega) (by omega) _).mono ?_
      rintro e y4 ⟨q4, d4, rfl, ho, hf, hk⟩
      have HR4 := hid ho.rd
      have HB4 := hid (HA3.out.call hf)
      clear ho hf hk
      go_wp2_with (at_builtin; refine wpList_appB rfl _ _ 22 rfl 5 Try.underlying22 infoB p3 _ c3 (Z3) rfl HB4.out.len.symm (by rw [HB4.out.len]; exact HB4.out.own) q4 2 d4 (le m 2) rfl (le_length _ _).symm (fun h => absurd (congrArg List.length h) (by simp [le_length])) HR4.out (by rw [HB4.out.len, le_length]; omega) ?_)
      intro xs p4 c4 x4 hxs ho2 hf2 hfr2
      obtain ⟨hxl, ha2⟩ := HB4.out.put (m := t * 88 + 16) hxs.out ho2.out hf2.out hfr2.out (by rw [le_length])
      have HA4 := hid ha2
      rw [hxl]
      obtain ⟨Z4, hZ⟩ : ∃ Z, Z3 ++ le m 2 = Z := ⟨_, rfl⟩
      have HZ4 := hid hZ
      rw [hZ] at HA4
      clear ho2 hf2 hfr2 hxl hxs ha2 hZ
      go_wp2_with fail
      refine (refNum_any n 4 (by omega) (by omega) _).mono ?_
      rintro e y5 ⟨q5, d5, rfl, ho, hf, hk⟩
      have HR5 := hid ho.rd
      have HB5 := hid (HA4.out.call hf)
      clear ho hf hk
      go_wp2_with (at_builtin; refine wpList_appB rfl _ _ 22 rfl 5 Try.underlying22 infoB p4 _ c4 (Z4) rfl HB5.out.len.symm (by rw [HB5.out.len]; exact HB5.out.own) q5 4 d5 (le n 4) rfl (le_length _ _).symm (fun h => absurd (congrArg List.length h) (by simp [le_length])) HR5.out (by rw [HB5.out.len, le_length]; omega) ?_)
      intro xs p5 c5 x5 hxs ho2 hf2 hfr2
      obtain ⟨hxl, ha2⟩ := HB5.out.put (m := t * 88 + 20) hxs.out ho2.out hf2.out hfr2.out (by rw [le_length])
      have HA5 := hid ha2
      rw [hxl]
      obtain ⟨Z5, hZ⟩ : ∃ Z, Z4 ++ le n 4 = Z := ⟨_, rfl⟩
      have HZ5 := hid hZ
      rw [hZ] at HA5
      clear ho2 hf2 hfr2 hxl hxs ha2 hZ
      go_wp2_with fail
      go_loopw [5, 8] (fun v i wi => ∃ (j : Nat) (pj : Option Addr) (cj : Nat), j ≤ 68 ∧ v = .slice pj (t * 88 + 20 + j) cj ∧ i = .int .i64 (68 * (t : Int) + (j : Int)) ∧ Hid (App w wi pj (t * 88 + 20 + j) cj (Z5 ++ bodyJ zs t j))) (fun _ i _ => 68 - ((intOf i).toNat - 68 * t))
      case atStart => exact ⟨0, p5, c5, Nat.zero_le _, rfl, by simp, by simpa [bodyJ] using HA5⟩
      case round =>
        obtain ⟨j, pj, cj, hj, rfl, rfl, HI⟩ := hrel
        clear HA5
        obtain ⟨ZJ, hZJ⟩ : ∃ ZJ, Z5 ++ bodyJ zs t j = ZJ := ⟨_, rfl⟩
        have HZJ := hid hZJ
        rw [hZJ] at HI
        clear hZJ
        by_cases hlj : j < 68
        · have l1 : 68 * (t : Int) + (j : Int) < 68 * (t : Int) + 68 := by omega
          by_cases hin : 68 * t + j < n
          · have l2 : 68 * (t : Int) + (j : Int) < (n : Int) := by omega
            have l3 : (0 : Int) ≤ 68 * (t : Int) + (j : Int) := by omega
            have l4 : (68 * (t : Int) + (j : Int)).toNat = 68 * t + j := by omega
            obtain ⟨g, o, rfl, hc⟩ : ∃ g o, p0 = some ⟨g, o, none⟩ ∧ wr.cell? ⟨g, o + (68 * t + j), none⟩ = some (.int .u8 (zs.getD (68 * t + j) 0)) := by
              rcases HRD.out.kept HI.out.frm (by simp) with h | ⟨g, o, hp, h⟩
              · have := HNZ.out; rw [h] at this; simp at this; omega
              · exact ⟨g, o, hp, h _ (by rw [HNZ.out]; exact hin)⟩
            have hsu := bodyJ_succ zs t j
            obtain ⟨z, hz⟩ : ∃ z, zs.getD (68 * t + j) 0 = z := ⟨_, rfl⟩
            rw [hz] at hc hsu
            have HSU := hid hsu
            have hrz : Rd (wr.alloc (.cells #[.int .u8 z] 5)) (some ⟨wr.heap.size, 0, none⟩) [z] :=
              (own_of_block (E := 5) (zs := [z]) (heap_alloc_new wr _) (by simp [maxLen])).rd
            have HRZ := hid hrz
            have HJ := hid (HI.out.call ((Frm.refl [] wr).alloc (.cells #[.int .u8 z] 5)))
            clear hsu hrz hz
            go_wp2_with (at_builtin; refine wpList_appB rfl _ _ 22 rfl 5 Try.underlying22 infoB pj _ cj ZJ rfl HJ.out.len.symm (by rw [HJ.out.len]; exact HJ.out.own) (some ⟨wr.heap.size, 0, none⟩) 1 1 [z] rfl rfl (by simp) HRZ.out (by rw [HJ.out.len]; simp; omega) ?_)
            intro xs p6 c6 x6 hxs ho2 hf2 hfr2
            obtain ⟨hxl, ha2⟩ := HJ.out.put (m := t * 88 + 20 + (j + 1)) hxs.out ho2.out hf2.out (fun k hk => by have := hfr2.out k hk; simpa using this) (by simp; omega)
            have HA6 : Hid (App w x6 p6 (t * 88 + 20 + (j + 1)) c6 (Z5 ++ bodyJ zs t (j + 1))) := by rw [HSU.out, ← List.append_assoc, HZJ.out]; exact ha2
            rw [hxl]
            clear ho2 hf2 hfr2 hxl hxs ha2
            go_wp2_with fail
            go_roundw
            case rel => exact ⟨j + 1, p6, c6, by omega, rfl, by go_num, HA6⟩
            case measure => simp [intOf]; omega
          · have l2 : (n : Int) ≤ 68 * (t : Int) + (j : Int) := by omega
            have hz0 : zs.getD (68 * t + j) 0 = 0 := by rw [List.getD_eq_getElem?_getD, List.getElem?_eq_none (by rw [HNZ.out]; omega)]; rfl
            have hsu := bodyJ_succ zs t j
            rw [hz0] at hsu
            have HSU := hid hsu
            have hrz : Rd (wr.alloc (.cells #[.int .u8 0] 5)) (some ⟨wr.heap.size, 0, none⟩) [0] :=
              (own_of_block (E := 5) (zs := [0]) (heap_alloc_new wr _) (by simp [maxLen])).rd
            have HRZ := hid hrz
            have HJ := hid (HI.out.call ((Frm.refl [] wr).alloc (.cells #[.int .u8 0] 5)))
            clear hsu hrz hz0
            go_wp2_with (at_builtin; refine wpList_appB rfl _ _ 22 rfl 5 Try.underlying22 infoB pj _ cj ZJ rfl HJ.out.len.symm (by rw [HJ.out.len]; exact HJ.out.own) (some ⟨wr.heap.size, 0, none⟩) 1 1 [0] rfl rfl (by simp) HRZ.out (by rw [HJ.out.len]; simp; omega) ?_)
            intro xs p6 c6 x6 hxs ho2 hf2 hfr2
            obtain ⟨hxl, ha2⟩ := HJ.out.put (m := t * 88 + 20 + (j + 1)) hxs.out ho2.out hf2.out (fun k hk => by have := hfr2.out k hk; simpa using this) (by simp; omega)
            have HA6 : Hid (App w x6 p6 (t * 88 + 20 + (j + 1)) c6 (Z5 ++ bodyJ zs t (j + 1))) := by rw [HSU.out, ← List.append_assoc, HZJ.out]; exact ha2
            rw [hxl]
            clear ho2 hf2 hfr2 hxl hxs ha2
            go_wp2_with fail
            go_roundw
            case rel => exact ⟨j + 1, p6, c6, by omega, rfl, by go_num, HA6⟩
            case measure => simp [intOf]; omega
        · obtain rfl : j = 68 := by omega
          have HN : Hid (App w wr pj ((t + 1) * 88) cj (recT base next m zs (t + 1))) := by
            have h1 := HI.out
            rw [← HZJ.out] at h1
            rw [show t * 88 + 20 + 68 = (t + 1) * 88 by omega] at h1
            rw [recT_succ, pieceB_flat, HRT.out, HNZ.out]
            rw [← HZ5.out, ← HZ4.out, ← HZ3.out, ← HZ2.out, ← HZ1.out] at h1
            show App w wr pj _ _ _
            simpa [headB, List.append_assoc] using h1
          clear HI
          go_wp2_with fail
          go_roundw
          case rel => exact ⟨t + 1, pj, cj, by omega, by congr 1; omega, by go_num, HN⟩
          case measure => simp [intOf]; omega
    · obtain rfl : t = m := by omega
      clear hlt
      go_wp2_with fail
      go_returns
      exact ⟨p, t * 88, c, rfl, rfl, by rw [HREC.out]; exact HA.out.own, HA.out.frm, HA.out.new⟩
end Go.Proofs.Ytiefgfbeemlnjaa
