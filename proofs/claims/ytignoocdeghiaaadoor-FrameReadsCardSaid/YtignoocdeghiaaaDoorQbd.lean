/- Frames: the document's Answers, AnswerBody, Reply. FrameAnswers for any reply. Inputs as they come in: a reply. -/
import Derived.Test.YtignoocdeghiaaaDoorQbc
import Derived.Test.YtignoocdeghiaaaDoorQas
import Derived.Test.YtignoocdeghiaaaDoorQad
namespace Go.Proofs.YtignoocdeghiaaaDoor
section
open Go.RowKit Go.Lib
set_option maxRecDepth 100000

set_option maxHeartbeats 6400000 in
theorem answers_any (r : Ra) (L : List ByteArray) (w : World) (hL : L.length = r.ln) (hr : RdL w r.lp L) (hln : r.ln ≤ 9223372036854775807) : Calls Tryd.prog 34 #[.agg r.arr] w fun e w' => e = .returned (.bool (decide (MayA r L))) ∧ Frm [] w w' := by
  obtain ⟨PO, hPO⟩ : ∃ PO : Ending → World → Prop, (fun e w' => e = .returned (.bool (decide (MayA r L))) ∧ Frm [] w w') = PO := ⟨_, rfl⟩
  rw [hPO]
  have HP : Hid (∀ x w', (x = true ↔ MayA r L) → Frm [] w w' → PO (.returned (.bool x)) w') := hid (fun x w' h h2 => by rw [← hPO]; exact ⟨by rw [bool_dec h], h2⟩)
  clear hPO
  have HFA := hid ((Frm.refl [] w).alloc (.cells r.arr 32))
  have HROW := hid (heap_alloc_new w (.cells r.arr 32))
  have HRL := hid (hr.kept HFA.out (by simp))
  have HLL := hid hL
  obtain ⟨wa, hwa⟩ : ∃ z, w.alloc (.cells r.arr 32) = z := ⟨_, rfl⟩
  rw [hwa] at HFA HROW HRL
  obtain ⟨bx, hbx⟩ : ∃ z, w.heap.size = z := ⟨_, rfl⟩
  rw [hbx] at HROW
  obtain ⟨q0, q1, q2, q3, q4, q5, q6⟩ := ra_cells HROW.out
  obtain ⟨ses, id, err, num, text, lp, ln, lc, dp, dl, dc⟩ := r
  unfold MayA at HP
  unfold Ra.arr at hwa ⊢
  simp only at HP HRL HLL hwa hln q0 q1 q2 q3 q4 q5 q6 ⊢
  clear HROW hr hL
  go_enter Tryd.func34, Tryd.ntmps34
  by_cases g0 : ses < 0
  case pos =>
    have N := hid g0
    go_wp2_with fail
    first | go_returns | skip
    exact HP.out _ _ ⟨fun h => by simp at h, fun h => by have a := h.1.1; have b := N.out; omega⟩ HFA.out
  by_cases g1 : 8 < ses
  case pos =>
    have N := hid g1
    go_wp2_with fail
    first | go_returns | skip
    exact HP.out _ _ ⟨fun h => by simp at h, fun h => by have a := h.1.2; have b := N.out; omega⟩ HFA.out
  by_cases g2 : id < 0
  case pos =>
    have N := hid g2
    go_wp2_with fail
    first | go_returns | skip
    exact HP.out _ _ ⟨fun h => by simp at h, fun h => by have a := h.2.1.1; have b := N.out; omega⟩ HFA.out
  by_cases g3 : 1073741824 < id
  case pos =>
    have N := hid g3
    go_wp2_with fail
    first | go_returns | skip
    exact HP.out _ _ ⟨fun h => by simp at h, fun h => by have a := h.2.1.2; have b := N.out; omega⟩ HFA.out
  by_cases g4 : err < 0
  case pos =>
    have N := hid g4
    go_wp2_with fail
    first | go_returns | skip
    exact HP.out _ _ ⟨fun h => by simp at h, fun h => by have a := h.2.2.1.1; have b := N.out; omega⟩ HFA.out
  by_cases g5 : 999 < err
  case pos =>
    have N := hid g5
    go_wp2_with fail
    first | go_returns | skip
    exact HP.out _ _ ⟨fun h => by simp at h, fun h => by have a := h.2.2.1.2; have b := N.out; omega⟩ HFA.out
  by_cases g6 : num < 0
  case pos =>
    have N := hid g6
    go_wp2_with fail
    first | go_returns | skip
    exact HP.out _ _ ⟨fun h => by simp at h, fun h => by have a := h.2.2.2.1.1; have b := N.out; omega⟩ HFA.out
  by_cases g7 : 1099511627776 < num
  case pos =>
    have N := hid g7
    go_wp2_with fail
    first | go_returns | skip
    exact HP.out _ _ ⟨fun h => by simp at h, fun h => by have a := h.2.2.2.1.2; have b := N.out; omega⟩ HFA.out
  go_wp2_with fail
  first | rw [hwa] | skip
  first | rw [hbx] | skip
  clear hwa hbx
  go_loopw [3] (fun i wr => ∃ t : Nat, t ≤ ln ∧ i = .int .i64 (t : Int) ∧ Hid (wr = wa ∧ ∀ s ∈ L.take t, s.size ≤ 240)) (fun i _ => ln - (intOf i).toNat)
  case atStart => exact ⟨0, Nat.zero_le _, rfl, hid ⟨rfl, by simp⟩⟩
  case round =>
    obtain ⟨t, ht, rfl, hin⟩ := hrel
    obtain ⟨hw, hsm⟩ := hin.out
    clear hin
    subst wr
    have HSM := hid hsm
    clear hsm
    by_cases hlt : t < ln
    · have t1 : (t : Int) < (ln : Int) := by omega
      obtain ⟨v, hv⟩ : ∃ v, L[t]? = some v := ⟨_, List.getElem?_eq_getElem (by rw [HLL.out]; exact hlt)⟩
      obtain ⟨gl, ol, hlp, hcl⟩ := HRL.out.at hv
      have HV := hid hv
      subst hlp
      clear hv
      by_cases hb : 240 < v.size
      · have hb1 : (240 : Int) < (v.size : Int) := by omega
        have HLG : Hid (longS L) := hid ⟨v, List.mem_of_getElem? HV.out, hb⟩
        clear hb
        go_wp2_with fail
        first | go_returns | skip
        exact HP.out _ _ ⟨fun h => by simp at h, fun h => absurd HLG.out h.2.2.2.2.2.2.1⟩ HFA.out
      · have hb1 : ¬ (240 : Int) < (v.size : Int) := by omega
        have HNX : Hid (∀ x ∈ L.take (t + 1), x.size ≤ 240) := hid (fun x hx => by
          rw [List.take_add_one, HV.out] at hx
          rcases List.mem_append.1 hx with h | h
          · exact HSM.out x h
          · simp at h; subst h; omega)
        clear hb
        go_wp2_with fail
        go_roundw
        case rel => exact ⟨t + 1, by omega, by go_num, hid ⟨trivial, HNX.out⟩⟩
        case measure => first | (simp [intOf]; done) | (simp [intOf]; omega)
    · obtain rfl : t = ln := by omega
      have HNL : Hid (¬ longS L) := hid (fun ⟨x, hx, hb⟩ => by
        have := HSM.out x (by rw [List.take_of_length_le (by rw [HLL.out]; exact Nat.le_refl _)]; exact hx)
        omega)
      by_cases f0 : text.size ≤ 2048
      case neg =>
        have N := hid f0
        have d2 : ¬ (((text.size : Nat) : Int) ≤ 2048) := by omega
        go_wp2_with fail
        first | go_returns | skip
        exact HP.out _ _ ⟨fun h => by simp at h, fun h => absurd h.2.2.2.2.1 N.out⟩ HFA.out
      have e0 : (((text.size : Nat) : Int) ≤ 2048) := by omega
      by_cases f1 : t ≤ 240
      case neg =>
        have N := hid f1
        have d2 : ¬ (((t : Nat) : Int) ≤ 240) := by omega
        go_wp2_with fail
        first | go_returns | skip
        exact HP.out _ _ ⟨fun h => by simp at h, fun h => absurd h.2.2.2.2.2.1 N.out⟩ HFA.out
      have e1 : (((t : Nat) : Int) ≤ 240) := by omega
      by_cases f2 : dl ≤ 4096
      case neg =>
        have N := hid f2
        have d2 : ¬ (((dl : Nat) : Int) ≤ 4096) := by omega
        go_wp2_with fail
        first | go_returns | skip
        exact HP.out _ _ ⟨fun h => by simp at h, fun h => absurd h.2.2.2.2.2.2.2 N.out⟩ HFA.out
      have e2 : (((dl : Nat) : Int) ≤ 4096) := by omega
      have G : Hid ((0 ≤ ses ∧ ses ≤ 8) ∧ (0 ≤ id ∧ id ≤ 1073741824) ∧ (0 ≤ err ∧ err ≤ 999) ∧ (0 ≤ num ∧ num ≤ 1099511627776)) := hid (by omega)
      go_wp2_with fail
      first | go_returns | skip
      exact HP.out _ _ ⟨fun _ => ⟨G.out.1, G.out.2.1, G.out.2.2.1, G.out.2.2.2, f0, f1, HNL.out, f2⟩, fun _ => rfl⟩ HFA.out
set_option maxHeartbeats 12800000 in
theorem answerBody_any (r : Ra) (L : List ByteArray) (ds : List Int) (w : World) (hm : MayA r L) (hL : L.length = r.ln) (hrl : RdL w r.lp L) (hd : Rd w r.dp ds) (hl : ds.length = r.dl) (hn : ds = [] → r.dp = none → r.dc = 0) :
    Calls Tryd.prog 35 #[.agg r.arr] w fun e w' => ∃ p n c, e = .returned (.slice p n c) ∧ BufF w none w' p n c (bodyA r L ds) := by
  obtain ⟨PO, hPO⟩ : ∃ PO : Ending → World → Prop, (fun e w' => ∃ p n c, e = .returned (.slice p n c) ∧ BufF w none w' p n c (bodyA r L ds)) = PO := ⟨_, rfl⟩
  rw [hPO]
  have HP : Hid (∀ p n c w', BufF w none w' p n c (bodyA r L ds) → PO (.returned (.slice p n c)) w') := hid (fun p n c w' h => by rw [← hPO]; exact ⟨p, n, c, rfl, h⟩)
  have HD := hid (fun W (hf : Frm [] w W) => hd.kept hf (by simp))
  have HLD := hid (fun W (hf : Frm [] w W) => hrl.kept hf (by simp))
  have HLLN := hid hL
  have HN := hid hn
  have HL := hid hl
  obtain ⟨w0, hw0⟩ : ∃ z, w.alloc (.cells r.arr 32) = z := ⟨_, rfl⟩
  have hrow := heap_alloc_new w (.cells r.arr 32)
  obtain ⟨bx, hbx⟩ : ∃ z, w.heap.size = z := ⟨_, rfl⟩
  have HF0 : Hid (Frm [] w w0) := hid (by rw [← hw0]; exact (Frm.refl _ _).alloc _)
  rw [hw0, hbx] at hrow
  have HR : Hid (∀ W, Frm [] w0 W → W.heap[bx]? = some (.cells r.arr 32 (0, 0))) := hid (fun W hf => hf.heap hrow (by simp))
  have HW0 := hid hw0
  have HBX := hid hbx
  have HB0 : Hid (BufF w none w0 none 0 0 []) := hid ⟨Own.nil _ _, rfl, HF0.out.mono (by simp), by simp [blk]⟩
  obtain ⟨m0, m1, m2, m3, m4, m5, m6, m7⟩ := hm
  have HSL : Hid (∀ s ∈ L, s.size ≤ 240) := hid (notLong m6)
  obtain ⟨ses, id, err, num, text, lp, ln, lc, dp, dl, dc⟩ := r
  unfold Ra.arr at HR HW0 ⊢
  simp only at HR HW0 HD HLD HLLN HN HL m0 m1 m2 m3 m4 m5 m7 ⊢
  have HRC : Hid (∀ W, Frm [] w0 W → W.cell? ⟨bx, 0, none⟩ = some (.int .i64 ses) ∧ W.cell? ⟨bx, 1, none⟩ = some (.int .i64 id) ∧ W.cell? ⟨bx, 2, none⟩ = some (.int .i64 err) ∧ W.cell? ⟨bx, 3, none⟩ = some (.int .i64 num) ∧ W.cell? ⟨bx, 4, none⟩ = some (.string text) ∧ W.cell? ⟨bx, 5, none⟩ = some (.slice lp ln lc) ∧ W.cell? ⟨bx, 6, none⟩ = some (.slice dp dl dc)) := hid (fun W hf => ra_cells (r := ⟨ses, id, err, num, text, lp, ln, lc, dp, dl, dc⟩) (HR.out W hf))
  clear hPO hd hn hl hw0 hrow hbx hL hrl m6
  go_enter Tryd.func35, Tryd.ntmps35
  go_upto_region 1 with fail
  first | rw [HW0.out] | skip
  first | rw [HBX.out] | skip
  have HB00 : Hid (BufF w0 none w0 none 0 0 []) := hid (BufF.self (Own.nil _ _) rfl)
  have hn0 : 0 ≤ 0 := Nat.le_refl _
  obtain ⟨d0, d1, d2, d3, d4, d5, d6⟩ := HRC.out w0 HB00.out.nil.1
  have HC := hid (refNumF_any none 0 0 [] ses 1 w0 HB00.out.own HB00.out.len (by omega) (by omega) (by omega) (by omega))
  go_wp2_with fail
  refine HC.out.mono ?_
  rintro e w1 ⟨p1, c1, rfl, hb⟩
  obtain ⟨n1, hnn⟩ : ∃ z, 0 + 1 = z := ⟨_, rfl⟩
  rw [hnn] at hb
  try rw [hnn]
  try simp only [Nat.zero_add] at hnn
  try rw [hnn]
  obtain ⟨z1, hz1⟩ : ∃ z, [] ++ le ses 1 = z := ⟨_, rfl⟩
  rw [hz1] at hb
  have hn1 : n1 ≤ 1 := by rw [← hb.len, ← hz1, List.length_append, HB00.out.len, le_length]; omega
  have HB1 : Hid (BufF w0 none w1 p1 n1 c1 z1) := hid (HB00.out.trans hb)
  have HZ1 := hid hz1
  clear hb hz1 HC d0 d1 d2 d3 d4 d5 d6 hnn HB00
  obtain ⟨d0, d1, d2, d3, d4, d5, d6⟩ := HRC.out w1 HB1.out.nil.1
  have HC := hid (refNumF_any p1 n1 c1 z1 id 4 w1 HB1.out.own HB1.out.len (by omega) (by omega) (by omega) (by omega))
  go_wp2_with fail
  refine HC.out.mono ?_
  rintro e w2 ⟨p2, c2, rfl, hb⟩
  obtain ⟨n2, hnn⟩ : ∃ z, n1 + 4 = z := ⟨_, rfl⟩
  rw [hnn] at hb
  try rw [hnn]
  try simp only [Nat.zero_add] at hnn
  try rw [hnn]
  obtain ⟨z2, hz2⟩ : ∃ z, z1 ++ le id 4 = z := ⟨_, rfl⟩
  rw [hz2] at hb
  have hn2 : n2 ≤ 5 := by rw [← hb.len, ← hz2, List.length_append, HB1.out.len, le_length]; omega
  have HB2 : Hid (BufF w0 none w2 p2 n2 c2 z2) := hid (HB1.out.trans hb)
  have HZ2 := hid hz2
  clear hb hz2 HC d0 d1 d2 d3 d4 d5 d6 hnn HB1
  obtain ⟨d0, d1, d2, d3, d4, d5, d6⟩ := HRC.out w2 HB2.out.nil.1
  have HC := hid (refNumF_any p2 n2 c2 z2 err 2 w2 HB2.out.own HB2.out.len (by omega) (by omega) (by omega) (by omega))
  go_wp2_with fail
  refine HC.out.mono ?_
  rintro e w3 ⟨p3, c3, rfl, hb⟩
  obtain ⟨n3, hnn⟩ : ∃ z, n2 + 2 = z := ⟨_, rfl⟩
  rw [hnn] at hb
  try rw [hnn]
  try simp only [Nat.zero_add] at hnn
  try rw [hnn]
  obtain ⟨z3, hz3⟩ : ∃ z, z2 ++ le err 2 = z := ⟨_, rfl⟩
  rw [hz3] at hb
  have hn3 : n3 ≤ 7 := by rw [← hb.len, ← hz3, List.length_append, HB2.out.len, le_length]; omega
  have HB3 : Hid (BufF w0 none w3 p3 n3 c3 z3) := hid (HB2.out.trans hb)
  have HZ3 := hid hz3
  clear hb hz3 HC d0 d1 d2 d3 d4 d5 d6 hnn HB2
  obtain ⟨d0, d1, d2, d3, d4, d5, d6⟩ := HRC.out w3 HB3.out.nil.1
  have HC := hid (refNumF_any p3 n3 c3 z3 num 6 w3 HB3.out.own HB3.out.len (by omega) (by omega) (by omega) (by omega))
  go_wp2_with fail
  refine HC.out.mono ?_
  rintro e w4 ⟨p4, c4, rfl, hb⟩
  obtain ⟨n4, hnn⟩ : ∃ z, n3 + 6 = z := ⟨_, rfl⟩
  rw [hnn] at hb
  try rw [hnn]
  try simp only [Nat.zero_add] at hnn
  try rw [hnn]
  obtain ⟨z4, hz4⟩ : ∃ z, z3 ++ le num 6 = z := ⟨_, rfl⟩
  rw [hz4] at hb
  have hn4 : n4 ≤ 13 := by rw [← hb.len, ← hz4, List.length_append, HB3.out.len, le_length]; omega
  have HB4 : Hid (BufF w0 none w4 p4 n4 c4 z4) := hid (HB3.out.trans hb)
  have HZ4 := hid hz4
  clear hb hz4 HC d0 d1 d2 d3 d4 d5 d6 hnn HB3
  obtain ⟨d0, d1, d2, d3, d4, d5, d6⟩ := HRC.out w4 HB4.out.nil.1
  have HC := hid (refTextF_any p4 n4 c4 z4 text w4 HB4.out.own HB4.out.len (by omega) (by omega))
  go_wp2_with fail
  refine HC.out.mono ?_
  rintro e w5 ⟨p5, n5, c5, rfl, hb⟩
  obtain ⟨z5, hz5⟩ : ∃ z, z4 ++ txF text = z := ⟨_, rfl⟩
  rw [hz5] at hb
  have hn5 : n5 ≤ 2100 := by rw [← hb.len, ← hz5, List.length_append, HB4.out.len, txF_len]; omega
  have HB5 : Hid (BufF w0 none w5 p5 n5 c5 z5) := hid (HB4.out.trans hb)
  have HZ5 := hid hz5
  clear hb hz5 HC d0 d1 d2 d3 d4 d5 d6 HB4
  obtain ⟨d0, d1, d2, d3, d4, d5, d6⟩ := HRC.out w5 HB5.out.nil.1
  have HC := hid (refNumF_any p5 n5 c5 z5 (ln : Int) 2 w5 HB5.out.own HB5.out.len (by omega) (by omega) (by omega) (by omega))
  go_wp2_with fail
  refine HC.out.mono ?_
  rintro e w6 ⟨p6, c6, rfl, hb⟩
  obtain ⟨n6, hnn⟩ : ∃ z, n5 + 2 = z := ⟨_, rfl⟩
  rw [hnn] at hb
  try rw [hnn]
  try simp only [Nat.zero_add] at hnn
  try rw [hnn]
  obtain ⟨z6, hz6⟩ : ∃ z, z5 ++ le (ln : Int) 2 = z := ⟨_, rfl⟩
  rw [hz6] at hb
  have hn6 : n6 ≤ 2110 := by rw [← hb.len, ← hz6, List.length_append, HB5.out.len, le_length]; omega
  have HB6 : Hid (BufF w0 none w6 p6 n6 c6 z6) := hid (HB5.out.trans hb)
  have HZ6 := hid hz6
  clear hb hz6 HC d0 d1 d2 d3 d4 d5 d6 hnn HB5
  obtain ⟨d0, d1, d2, d3, d4, d5, d6⟩ := HRC.out w6 HB6.out.nil.1
  go_wp2_with fail
  go_loopw [3, 4] (fun b i wr => ∃ (t : Nat) (p : Option Addr) (n c : Nat), t ≤ ln ∧ i = .int .i64 (t : Int) ∧ b = .slice p n c ∧ n ≤ 70000 ∧ Hid (BufF w0 none wr p n c (z6 ++ txT L t))) (fun _ i _ => ln - (intOf i).toNat)
  case atStart => exact ⟨0, p6, n6, c6, Nat.zero_le _, rfl, rfl, by omega, hid (by have h := HB6.out; simpa [txT] using h)⟩
  case round =>
    clear d0 d1 d2 d3 d4 d5 d6
    obtain ⟨t, p, n, c, ht, rfl, rfl, hnb, hin⟩ := hrel
    have HB7 := hid hin.out
    have HZ6L : Hid (z6.length = n6) := hid HB6.out.len
    clear hin
    obtain ⟨d0, d1, d2, d3, d4, d5, d6⟩ := HRC.out wr HB7.out.nil.1
    by_cases hlt : t < ln
    · have t1 : (t : Int) < (ln : Int) := by omega
      obtain ⟨v, hv⟩ : ∃ v, L[t]? = some v := ⟨_, List.getElem?_eq_getElem (by rw [HLLN.out]; exact hlt)⟩
      obtain ⟨gl, ol, hlp, hcl⟩ := (HLD.out wr (HF0.out.trans HB7.out.nil.1 (by simp))).at hv
      have hsz : v.size ≤ 240 := HSL.out v (List.mem_of_getElem? hv)
      have hsu : txT L (t + 1) = txT L t ++ txF v := by show txT L t ++ txF (L.getD t ByteArray.empty) = _; rw [List.getD_eq_getElem?_getD, hv]; rfl
      have hlen := txT_len L HSL.out (t + 1)
      have HC := hid (refTextF_any p n c _ v wr HB7.out.own HB7.out.len (by omega) (by omega))
      have HSU := hid hsu
      have HLEN := hid hlen
      subst hlp
      clear hsu hv hlen hsz
      go_wp2_with fail
      refine HC.out.mono ?_
      rintro e w8 ⟨p8, n8, c8, rfl, hb⟩
      have hbn : n8 ≤ 70000 := by
        rw [← hb.len, List.append_assoc, ← HSU.out, List.length_append, HZ6L.out]
        have := HLEN.out
        omega
      have HB8 : Hid (BufF w0 none w8 p8 n8 c8 (z6 ++ txT L (t + 1))) := hid (by
        have h := HB7.out.trans hb
        rw [List.append_assoc] at h
        rw [HSU.out]; exact h)
      clear hb HC hcl d0 d1 d2 d3 d4 d5 d6
      go_wp2_with fail
      go_roundw
      case rel => exact ⟨t + 1, p8, n8, c8, by omega, by go_num, rfl, hbn, HB8⟩
      case measure => first | (simp [intOf]; done) | (simp [intOf]; omega)
    · obtain rfl : t = ln := by omega
      obtain ⟨z7, hz7⟩ : ∃ z, z6 ++ txT L t = z := ⟨_, rfl⟩
      rw [hz7] at HB7
      have HZ7 := hid hz7
      clear hz7 hlt ht HB6 HZ6L d0 d1 d2 d3 d4 d5 d6
      generalize wr = w7 at *
      obtain ⟨d0, d1, d2, d3, d4, d5, d6⟩ := HRC.out w7 HB7.out.nil.1
      have HC := hid (refNumF_any p n c z7 (dl : Int) 2 w7 HB7.out.own HB7.out.len (by omega) (by omega) (by omega) (by omega))
      go_wp2_with fail
      refine HC.out.mono ?_
      rintro e w8 ⟨p8, c8, rfl, hb⟩
      obtain ⟨n8, hnn⟩ : ∃ z, n + 2 = z := ⟨_, rfl⟩
      rw [hnn] at hb
      try rw [hnn]
      try simp only [Nat.zero_add] at hnn
      try rw [hnn]
      obtain ⟨z8, hz8⟩ : ∃ z, z7 ++ le (dl : Int) 2 = z := ⟨_, rfl⟩
      rw [hz8] at hb
      have hn8 : n8 ≤ 70010 := by rw [← hb.len, ← hz8, List.length_append, HB7.out.len, le_length]; omega
      have HB8 : Hid (BufF w0 none w8 p8 n8 c8 z8) := hid (HB7.out.trans hb)
      have HZ8 := hid hz8
      clear hb hz8 HC d0 d1 d2 d3 d4 d5 d6 hnn HB7
      obtain ⟨d0, d1, d2, d3, d4, d5, d6⟩ := HRC.out w8 HB8.out.nil.1
      go_wp2_with (at_builtin; refine wpList_appB rfl _ _ 22 rfl 5 Tryd.underlying22 infoE p8 n8 c8 z8 rfl HB8.out.len.symm (by rw [HB8.out.len]; exact HB8.out.own) dp dl dc ds rfl HL.out.symm HN.out (HD.out _ (HF0.out.trans HB8.out.nil.1 (by simp))) (by rw [HB8.out.len, HL.out]; omega) ?_)
      intro xs p11 c11 w11 hxs ho11 hf11 hfr11
      clear d0 d1 d2 d3 d4 d5 d6
      go_wp2_with fail
      first | go_returns | skip
      have he : xs = bodyA ⟨ses, id, err, num, text, lp, t, lc, dp, dl, dc⟩ L ds := by
        rw [hxs.out, ← HZ8.out, ← HZ7.out, ← HZ6.out, ← HZ5.out, ← HZ4.out, ← HZ3.out, ← HZ2.out, ← HZ1.out]
        unfold bodyA
        simp
      refine HP.out _ _ _ _ ?_
      rw [← he]
      exact HB0.out.trans (HB8.out.trans (⟨ho11.out, rfl, hf11.out, hfr11.out⟩ : BufF w8 p8 w11 p11 xs.length c11 xs))
theorem bodyA_bd23 {r : Ra} {L : List ByteArray} {ds : List Int} (hd : ∀ z ∈ ds, 0 ≤ z ∧ z < 256) : ∀ z ∈ bodyA r L ds, 0 ≤ z ∧ z < 256 := fun z hz => inA_bd (r := r) (L := L) hd z (by unfold inA; exact List.mem_append_right _ hz)
set_option maxHeartbeats 6400000 in
theorem refReply_any (r : Ra) (L : List ByteArray) (ds : List Int) (w : World) (hL : L.length = r.ln) (hln : r.ln ≤ 9223372036854775807) (hrl : RdL w r.lp L) (hd : Rd w r.dp ds) (hl : ds.length = r.dl) (hn : ds = [] → r.dp = none → r.dc = 0) (hz : ∀ z ∈ ds, 0 ≤ z ∧ z < 256) (hv : Vars w) :
    Calls Tryd.prog 13 #[.agg r.arr] w fun e w' => ∃ p n c, e = .returned (.tuple #[.slice p n c, .int .i64 (errA r L)]) ∧ BufF w none w' p n c (frmA r L ds) := by
  obtain ⟨PO, hPO⟩ : ∃ PO : Ending → World → Prop, (fun e w' => ∃ p n c, e = .returned (.tuple #[.slice p n c, .int .i64 (errA r L)]) ∧ BufF w none w' p n c (frmA r L ds)) = PO := ⟨_, rfl⟩
  rw [hPO]
  have HP1 : Hid (¬ MayA r L → ∀ w', Frm [] w w' → PO (.returned (.tuple #[.slice none 0 0, .int .i64 230])) w') := hid (fun h0 w' hf => by
    rw [← hPO]
    have h1 : errA r L = 230 := by unfold errA; rw [if_neg h0]
    have h2 : frmA r L ds = [] := by unfold frmA; rw [if_neg h0]
    rw [h1, h2]
    exact ⟨none, 0, 0, rfl, ⟨Own.nil _ _, rfl, hf.mono (by simp), by simp [blk]⟩⟩)
  have HP2 : Hid (MayA r L → ∀ p n c w', BufF w none w' p n c (frm ([2] ++ bodyA r L ds)) → PO (.returned (.tuple #[.slice p n c, .int .i64 0])) w') := hid (fun h0 p n c w' hb => by
    rw [← hPO]
    have h1 : errA r L = 0 := by unfold errA; rw [if_pos h0]
    have h2 : frmA r L ds = frm ([2] ++ bodyA r L ds) := by unfold frmA inA; rw [if_pos h0]
    rw [h1, h2]
    exact ⟨p, n, c, rfl, hb⟩)
  have HAN := hid (fun W (hf : Frm [] w W) => answers_any r L W hL (hrl.kept hf (by simp)) hln)
  have HBO := hid (fun (hm : MayA r L) W (hf : Frm [] w W) => answerBody_any r L ds W hm hL (hrl.kept hf (by simp)) (hd.kept hf (by simp)) hl hn)
  have HBB := hid (bodyA_bd23 (r := r) (L := L) hz)
  have HBL : Hid (MayA r L → (bodyA r L ds).length ≤ 64300) := hid (fun hm => by
    have h := (inA_len hm hl).2
    unfold inA at h
    rw [List.length_append] at h
    omega)
  have HFA := hid ((Frm.refl [] w).alloc (.cells r.arr 32))
  have hrow := heap_alloc_new w (.cells r.arr 32)
  obtain ⟨wa, hwa⟩ : ∃ z, w.alloc (.cells r.arr 32) = z := ⟨_, rfl⟩
  obtain ⟨bx, hbx⟩ : ∃ z, w.heap.size = z := ⟨_, rfl⟩
  rw [hwa, hbx] at hrow
  rw [hwa] at HFA
  have HRC : Hid (∀ W, Frm [] wa W → W.heap[bx]? = some (.cells r.arr 32 (0, 0))) := hid (fun W hf => hf.heap hrow (by simp))
  have HV := hid (fun W (hf : Frm [] w W) => hv.kept hf)
  have HWA := hid hwa
  have HBX := hid hbx
  obtain ⟨BB, hBB⟩ : ∃ z, bodyA r L ds = z := ⟨_, rfl⟩
  rw [hBB] at HP2 HBO HBB HBL
  clear hPO hL hrl hd hl hn hz hv hrow hwa hbx hBB
  have hcell := fun W hf => ra_cells (HRC.out W hf)
  have HCE := hid hcell
  clear hcell
  by_cases hm : MayA r L
  · simp only [decide_eq_true hm] at HAN
    have HM := hid hm
    have hbl := HBL.out hm
    clear hm
    obtain ⟨ses, id, err, num, text, lp, ln, lc, dp, dl, dc⟩ := r
    unfold Ra.arr at HAN HBO HWA ⊢
    simp only at HAN HBO HWA HCE ⊢
    obtain ⟨d0, d1, d2, d3, d4, d5, d6⟩ := HCE.out wa (Frm.refl _ _)
    go_enter Tryd.func13, Tryd.ntmps13
    go_upto_region 1 with fail
    first | rw [HWA.out] | skip
    first | rw [HBX.out] | skip
    go_wp2_with fail
    refine (HAN.out wa HFA.out).mono ?_
    rintro e w1 ⟨rfl, hf1⟩
    have HF1 := hid hf1
    clear hf1 d0 d1 d2 d3 d4 d5 d6
    obtain ⟨d0, d1, d2, d3, d4, d5, d6⟩ := HCE.out w1 HF1.out
    go_wp2_with fail
    refine (HBO.out HM.out w1 (HFA.out.trans HF1.out (by simp))).mono ?_
    rintro e w2 ⟨p2, n2, c2, rfl, hb2⟩
    have HB2 := hid hb2
    have HF2 : Hid (Frm [] w w2) := hid ((HFA.out.trans HF1.out (by simp)).trans hb2.nil.1 (by simp))
    have HFR := hid (framed_any 2 (by omega) (by omega) p2 n2 c2 BB w2 hb2.own.rd hb2.len (fun _ h => (own_capG hb2.own).2.2 h) HBB.out (by rw [← hb2.len]; omega) (HV.out w2 HF2.out))
    clear hb2 d0 d1 d2 d3 d4 d5 d6
    go_wp2_with fail
    refine HFR.out.mono ?_
    rintro e w3 ⟨p3, n3, c3, rfl, hb3⟩
    have HB3 : Hid (BufF w none w3 p3 n3 c3 (frm ([2] ++ BB))) := hid (BufF.pre HF2.out hb3)
    have hn3 : n3 ≤ 65536 := by rw [← hb3.len, frm_len, List.length_append]; simp; omega
    have hn4 : ¬ (65536 : Int) < (n3 : Int) := by omega
    clear hb3
    go_wp2_with fail
    first | go_returns | skip
    exact HP2.out HM.out _ _ _ _ HB3.out
  · simp only [decide_eq_false hm] at HAN
    have HM := hid hm
    clear hm
    obtain ⟨ses, id, err, num, text, lp, ln, lc, dp, dl, dc⟩ := r
    unfold Ra.arr at HAN HBO HWA ⊢
    simp only at HAN HBO HWA HCE ⊢
    obtain ⟨d0, d1, d2, d3, d4, d5, d6⟩ := HCE.out wa (Frm.refl _ _)
    go_enter Tryd.func13, Tryd.ntmps13
    go_upto_region 1 with fail
    first | rw [HWA.out] | skip
    first | rw [HBX.out] | skip
    go_wp2_with fail
    refine (HAN.out wa HFA.out).mono ?_
    rintro e w1 ⟨rfl, hf1⟩
    have HF1 := hid hf1
    clear hf1 d0 d1 d2 d3 d4 d5 d6
    go_wp2_with fail
    first | go_returns | skip
    exact HP1.out HM.out _ (HFA.out.trans HF1.out (by simp))
end
section
open Go.RowKit Go.Lib
set_option maxRecDepth 100000

set_option maxHeartbeats 12800000 in
theorem answersLaw_any (r : Ra) (L : List ByteArray) (ds : List Int) (w : World) (hL : L.length = r.ln) (hln : r.ln ≤ 9223372036854775807) (hrl : RdL w r.lp L) (hd : Rd w r.dp ds) (hl : ds.length = r.dl) (hn : ds = [] → r.dp = none → r.dc = 0) (hz : ∀ z ∈ ds, 0 ≤ z ∧ z < 256) (hpr : Primes w) (hv : Vars w) :
    Calls Tryd.prog 4 #[.agg r.arr] w fun e w' => e = .returned (.bool true) ∧ Frm [] w w' := by
  obtain ⟨PO, hPO⟩ : ∃ PO : Ending → World → Prop, (fun e w' => e = .returned (.bool true) ∧ Frm [] w w') = PO := ⟨_, rfl⟩
  rw [hPO]
  have HP : Hid (∀ w', Frm [] w w' → PO (.returned (.bool true)) w') := hid (fun w' h => by rw [← hPO]; exact ⟨rfl, h⟩)
  have HAW := hid (fun W (hf : Frm [] w W) => awakeF_any W (hpr.kept hf))
  have HRQ := hid (fun W (hf : Frm [] w W) => (reply_any r L ds W hL (hrl.kept hf (by simp)) (hd.kept hf (by simp)) hl hn hz (hpr.kept hf)).mono (fun e w' h => h.oneA hl))
  have HRR := hid (fun W (hf : Frm [] w W) => refReply_any r L ds W hL hln (hrl.kept hf (by simp)) (hd.kept hf (by simp)) hl hn hz (hv.kept hf))
  have HFA := hid ((Frm.refl [] w).alloc (.cells r.arr 32))
  have hrow := heap_alloc_new w (.cells r.arr 32)
  obtain ⟨wa, hwa⟩ : ∃ z, w.alloc (.cells r.arr 32) = z := ⟨_, rfl⟩
  obtain ⟨bx, hbx⟩ : ∃ z, w.heap.size = z := ⟨_, rfl⟩
  rw [hwa, hbx] at hrow
  rw [hwa] at HFA
  have HRC : Hid (∀ W, Frm [] wa W → W.heap[bx]? = some (.cells r.arr 32 (0, 0))) := hid (fun W hf => hf.heap hrow (by simp))
  have HCE := hid (fun W (hf : Frm [] wa W) => ra_cells (HRC.out W hf))
  have HWA := hid hwa
  have HBX := hid hbx
  obtain ⟨E, hE⟩ : ∃ z, errA r L = z := ⟨_, rfl⟩
  obtain ⟨FR, hFR⟩ : ∃ z, frmA r L ds = z := ⟨_, rfl⟩
  rw [hE, hFR] at HRQ HRR
  clear hPO hL hrl hd hl hn hz hpr hv hrow hwa hbx hE hFR
  obtain ⟨ses, id, err, num, text, lp, ln, lc, dp, dl, dc⟩ := r
  unfold Ra.arr at HRQ HRR HWA ⊢
  simp only at HRQ HRR HWA HCE hln ⊢
  go_enter Tryd.func4, Tryd.ntmps4
  go_upto_region 1 with fail
  first | rw [HWA.out] | skip
  first | rw [HBX.out] | skip
  go_wp2_with fail
  refine (HAW.out wa HFA.out).mono ?_
  rintro e w1 ⟨rfl, hf1⟩
  have HF1 := hid hf1
  clear hf1
  obtain ⟨q0, q1, q2, q3, q4, q5, q6⟩ := HCE.out w1 HF1.out
  go_wp2_with fail
  refine (HRQ.out w1 (HFA.out.trans HF1.out (by simp))).mono ?_
  rintro e w2 ⟨p2, n2, c2, rfl, hn2, ho2, hb2, hf2⟩
  have HF2 : Hid (Frm [] wa w2) := hid (HF1.out.trans hf2 (by simp))
  have HO2 := hid ho2
  have HN2 := hid hn2
  clear hf2 ho2 hn2 hb2 q0 q1 q2 q3 q4 q5 q6
  obtain ⟨q0, q1, q2, q3, q4, q5, q6⟩ := HCE.out w2 HF2.out
  go_wp2_with fail
  refine (HRR.out w2 (HFA.out.trans HF2.out (by simp))).mono ?_
  rintro e w3 ⟨p3, n3, c3, rfl, hb3⟩
  have HF3 : Hid (Frm [] wa w3) := hid (HF2.out.trans hb3.nil.1 (by simp))
  have cv1 := cv_any (P := Tryd.prog) (w := w3) 22 5 9 Tryd.underlying22 Tryd.underlying5 Tryd.underlying9 (HO2.out.kept hb3.nil.1 (by simp)).rd c2 HN2.out
  have cv2 := cv_any (P := Tryd.prog) (w := w3) 22 5 9 Tryd.underlying22 Tryd.underlying5 Tryd.underlying9 hb3.own.rd c3 hb3.len
  clear q0 q1 q2 q3 q4 q5 q6 hb3
  go_wp2_with fail
  first | go_returns | skip
  exact HP.out _ (HFA.out.trans HF3.out (by simp))
end
section
open Go.RowKit Go.ChangeShapes Go.WideShapes Go.Deep
set_option maxRecDepth 100000
theorem list_eachL (P : Nat → ByteArray → Prop) : ∀ n, (∀ i, i < n → ∃ a, P i a) → ∃ l : List ByteArray, l.length = n ∧ ∀ i, i < n → P i (l.getD i ByteArray.empty)
  | 0, _ => ⟨[], rfl, fun i hi => by omega⟩
  | n + 1, h => by
    obtain ⟨l, hl, hp⟩ := list_eachL P n (fun i hi => h i (by omega))
    obtain ⟨a, ha⟩ := h n (by omega)
    refine ⟨l ++ [a], by simp [hl], fun i hi => ?_⟩
    by_cases hin : i < n
    · have := hp i hin
      rw [List.getD_eq_getElem?_getD, List.getElem?_append_left (by omega), ← List.getD_eq_getElem?_getD]
      exact this
    · obtain rfl : i = n := by omega
      rw [List.getD_eq_getElem?_getD, List.getElem?_append_right (by omega), hl, Nat.sub_self]
      exact ha
section
variable {H : Type} {enc : TypeId × Value → H} {W : World}
theorem texts_came {fuel : Nat} {cs : List Value} {x : DataW H × List MemPlace} (h : DataW.trod enc Tryd.prog W 0 (fun _ => true) true fuel 30 cs = some x) :
    ∃ p len cap L, cs = [.slice p len cap] ∧ L.length = len ∧ RdL W p L ∧ len ≤ cap ∧ cap ≤ 9223372036854775807 := by
  have ht1 : Tryd.prog.cellsOf 9 = 1 := by kernel_rfl
  rcases open_slice Tryd.underlying30 h with ⟨hcs, _⟩ | ⟨a, len, cap, m, n, D, Pl, rfl, hb, hl, hm, hmm, rfl, hx⟩
  · exact ⟨none, 0, 0, [], hcs, rfl, Or.inl rfl, by omega, by omega⟩
  · simp only [if_true] at hmm
    subst hmm
    have each : ∀ i, i < len → ∃ s, W.cell? (a.add i) = some (.string s) := by
      intro i hi
      obtain ⟨cs', h1, h2⟩ := hx i (by omega)
      rw [ht1, Nat.mul_one] at h1
      obtain ⟨_, hlen, hcell⟩ := World.cells?_some h1
      obtain ⟨s, e, _⟩ := DataW.trod_string Tryd.underlying9 h2
      subst e
      exact ⟨s, by have := hcell 0 (by omega); simpa [Addr.add] using this⟩
    obtain ⟨L, hLl, hLs⟩ := list_eachL _ len each
    refine ⟨some a, len, _, L, rfl, hLl, ?_, hl, by unfold maxLen at hm; omega⟩
    by_cases h0 : len = 0
    · subst h0
      rw [List.eq_nil_of_length_eq_zero hLl]
      exact Or.inl rfl
    · have hs : a.spot = none := by
        have h1 := hLs 0 (by omega)
        exact spot_of_cell (by simpa [Addr.add] using h1)
      refine Or.inr ⟨a.block, a.off, by obtain ⟨g, o, sp⟩ := a; simp only at hs; subst hs; rfl, fun i u hu => ?_⟩
      have hi := (List.getElem?_eq_some_iff.1 hu).1
      rw [List.length_map, hLl] at hi
      have h1 := hLs i hi
      rw [add_of hs] at h1
      rw [h1]
      rw [List.getElem?_map, List.getElem?_eq_getElem (by omega)] at hu
      rw [List.getD_eq_getElem?_getD, List.getElem?_eq_getElem (by omega)]
      exact hu
theorem rep_came {b0 : Nat} {v : Value} {d : DataW H} {q : List MemPlace} (hv : Value.okWide Tryd.prog W .any b0 32 v) (h : DataW.Trod enc Tryd.prog W 0 (fun _ => true) true 32 v d q) (hw : ∀ n ∈ d.weights Tryd.prog 32, n ≤ reachBytes) :
    ∃ (r : Ra) (L : List ByteArray), v = .agg r.arr ∧ L.length = r.ln ∧ r.ln ≤ 9223372036854775807 ∧ RdL W r.lp L ∧ Came W r.dp r.dl r.dc ∧ r.dl ≤ 140737488351232 := by
  obtain ⟨cs, rfl, hsz⟩ := okWide_struct Tryd.underlying32 hv
  have h10 : Tryd.prog.cellsOf 32 = 7 := by kernel_rfl
  have hs1 : Tryd.prog.cellsOf 22 = 1 := by kernel_rfl
  have hs2 : Tryd.prog.cellsOf 30 = 1 := by kernel_rfl
  have hi1 : Tryd.prog.cellsOf 3 = 1 := by kernel_rfl
  have he1 : Tryd.prog.cellsOf 26 = 1 := by kernel_rfl
  have ht1 : Tryd.prog.cellsOf 9 = 1 := by kernel_rfl
  rw [h10] at hsz
  obtain ⟨fuel, hf⟩ := h
  obtain ⟨xs, n, _, hxe, _, hxl, hF⟩ := DataW.trod_struct Tryd.underlying32 hf
  obtain ⟨l⟩ := cs
  match l, hsz with
  | [c0, c1, c2, c3, c4, c5, c6], _ =>
    have g0 := hF 0 _ rfl
    have g1 := hF 1 _ rfl
    have g2 := hF 2 _ rfl
    have g3 := hF 3 _ rfl
    have g4 := hF 4 _ rfl
    have g5 := hF 5 _ rfl
    have g6 := hF 6 _ rfl
    match xs, hxl with
    | [x0, x1, x2, x3, x4, x5, x6], _ =>
      simp [Value.cells, hs1, hs2, hi1, he1, ht1] at g0 g1 g2 g3 g4 g5 g6
      obtain ⟨z0, e0, _, _⟩ := DataW.trod_int Tryd.underlying3 g0
      obtain ⟨z1, e1, _, _⟩ := DataW.trod_int Tryd.underlying3 g1
      obtain ⟨z2, e2, _, _⟩ := DataW.trod_int Tryd.underlying26 g2
      obtain ⟨z3, e3, _, _⟩ := DataW.trod_int Tryd.underlying3 g3
      obtain ⟨z4, e4, _, _⟩ := DataW.trod_string Tryd.underlying9 g4
      obtain ⟨lp, ln, lc, L, e5, hL, hrl, hlc1, hlc2⟩ := texts_came g5
      obtain ⟨p, len, cap, e6, hc⟩ := came_cells g6
      have hlen := came_len g6 (fun n hn => hw n (by
        rw [(Prod.mk.inj hxe).1]
        simp only [DataW.weights, Tryd.underlying32]
        exact DataW.weights_mem_each (j := 6) rfl rfl n hn)) p len cap e6
      simp only [List.cons.injEq, and_true] at e0 e1 e2 e3 e4 e5 e6
      subst e0 e1 e2 e3 e4 e5 e6
      exact ⟨⟨z0, z1, z2, z3, z4, lp, ln, lc, p, len, cap⟩, L, rfl, hL, by show ln ≤ _; omega, hrl, hc, hlen⟩
end
end
end Go.Proofs.YtignoocdeghiaaaDoor
