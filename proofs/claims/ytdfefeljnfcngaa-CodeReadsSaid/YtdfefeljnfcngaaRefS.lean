/- Contracts of the document's reader (layer 1): numbers. -/
import Derived.Test.YtdfefeljnfcngaaRefR
namespace Go.Proofs.Ytdfefeljnfcngaa
open Go.RowKit
set_option maxRecDepth 100000

set_option maxHeartbeats 400000 in
theorem qvalue_any (p : Option Addr) (c : Nat) (zs : List Int) (hz : ∀ z ∈ zs, 0 ≤ z ∧ z < 256) (hl : zs.length ≤ 8) (w : World) (hrd : Rd w p zs) :
    Calls Try.prog 101 #[.slice p zs.length c] w fun e w' => e = .returned (.int .u64 (leV zs)) ∧ Frm [] w w' := by
  have HR : Hid (∀ i, i < zs.length → ∃ g o, p = some ⟨g, o, none⟩ ∧ w.cell? ⟨g, o + i, none⟩ = some (.int .u8 (zs.getD i 0))) := by
    intro i hi
    rcases hrd with h | ⟨g, o, h1, h2⟩
    · subst h; simp at hi
    · exact ⟨g, o, h1, h2 i hi⟩
  have HZ := hid hz
  clear hrd hz
  go_enter Try.func101, Try.ntmps101
  go_wp2_with fail
  go_loopw [3, 4] (fun v i wr => ∃ j : Nat, j ≤ zs.length ∧ i = .int .i64 ((j : Int) - 1) ∧ v = .int .u64 (leV (zs.drop j)) ∧ Hid (Frm [] w wr)) (fun _ i _ => (intOf i + 1).toNat)
  case atStart => exact ⟨zs.length, Nat.le_refl _, rfl, by rw [List.drop_length]; rfl, Frm.refl _ _⟩
  case round =>
    obtain ⟨j, hj, rfl, rfl, hfr⟩ := hrel
    cases j with
    | zero =>
      go_wp2_with fail
      go_returns
      exact ⟨by rw [List.drop_zero]; rfl, hfr.out⟩
    | succ i =>
      have hlt : i < zs.length := by omega
      obtain ⟨g, o, rfl, hc⟩ := HR.out i hlt
      have hx := HZ.out (zs.getD i 0) (by simp [List.getD, hlt])
      have hdr : leV (zs.drop i) = zs.getD i 0 + 256 * leV (zs.drop (i + 1)) := by
        rw [List.drop_eq_getElem_cons hlt, leV]; simp [List.getD, hlt]
      have HDR := hid hdr
      have hB := leV_bd (zs.drop (i + 1)) (fun z hz => HZ.out z (List.mem_of_mem_drop hz))
      have hpw : (2 : Int) ^ (8 * (zs.drop (i + 1)).length) ≤ 2 ^ 56 := by
        have := Nat.pow_le_pow_right (n := 2) (by decide) (show 8 * (zs.drop (i + 1)).length ≤ 56 by simp only [List.length_drop]; omega)
        exact_mod_cast this
      have hbd : leV (zs.drop (i + 1)) < 72057594037927936 := by have := hB.2; omega
      have hb0 := hB.1
      clear hdr hB hpw
      obtain ⟨x, hxx⟩ : ∃ x, zs.getD i 0 = x := ⟨_, rfl⟩
      rw [hxx] at hc hx HDR
      obtain ⟨v, hv⟩ : ∃ v, leV (zs.drop (i + 1)) = v := ⟨_, rfl⟩
      rw [hv] at hbd hb0 HDR ⊢
      clear hxx hv
      have hc' := (hfr.out.cell (p := ⟨g, o + i, none⟩) (World.block_lt_of_cell? w _ hc) (by simp)).trans hc
      have hi1 : ((i + 1 : Nat) : Int) - 1 = (i : Int) := by omega
      rw [hi1]
      clear hi1
      go_wp2_with fail
      go_roundw
      case rel => exact ⟨i, by omega, rfl, by rw [HDR.out, Int.add_comm], hfr⟩
      case measure => simp [intOf]
theorem numT_bytesT (ls : List Int) (k : Int) (h1 : ¬ k < 1) (h2 : ¬ 8 < k) : numT ls k = (leV (bytesT ls k).1, (bytesT ls k).2.1, (bytesT ls k).2.2) := by
  unfold numT bytesT
  rw [if_neg (show ¬ (k < 1 ∨ 8 < k) by omega), if_neg (show ¬ k < 0 by omega)]
  split <;> rfl
theorem bytesT_of (ls : List Int) (k : Int) : ∃ n, (bytesT ls k).1 = ls.take n ∧ ((bytesT ls k).1.length : Int) ≤ max k 0 := by
  unfold bytesT
  split
  · exact ⟨0, by simp; omega⟩
  · split
    · exact ⟨0, by simp; omega⟩
    · exact ⟨k.toNat, rfl, by simp only [List.length_take]; omega⟩
set_option maxHeartbeats 800000 in
theorem qnum_any (b c pos : Nat) (p : Option Addr) (bs : List Int) (hb : ∀ z ∈ bs, 0 ≤ z ∧ z < 256) (err k : Int) (w : World) (hw : IsQ w b p c bs pos err) (hk : -9223372036854775808 ≤ k) (hk2 : k ≤ 9223372036854775807) :
    Calls Try.prog 66 #[.pointer (some ⟨b, 0, none⟩), .int .i64 k] w fun e w' => e = .returned (.int .u64 (readS 0 pos err (numT (bs.drop pos) k)).1) ∧
      IsQ w' b p c bs (readS 0 pos err (numT (bs.drop pos) k)).2.1 (readS 0 pos err (numT (bs.drop pos) k)).2.2 ∧ Frm [b] w w' := by
  obtain ⟨hlt, hnb, hpos, hlen, c0, c1, c2, f1, f2, _⟩ := hw.cells
  have HW := hid hw
  have HB := hid hb
  clear hw hb
  by_cases he : err = 0
  · subst he
    have hb0 : ((0 : Int) != 0) = false := rfl
    rw [readS_ok]
    by_cases h1 : k < 1 ∨ 8 < k
    · have e : numT (bs.drop pos) k = (0, 0, 1) := by unfold numT; rw [if_pos h1]
      rw [e]
      by_cases h2 : k < 1
      · clear h1
        go_enter Try.func66, Try.ntmps66
        go_wp2_with fail
        go_returns
        exact ⟨rfl, HW.out.setErr 1, (Frm.refl _ _).setCell _ _ (by simp)⟩
      · have h3 : 8 < k := by omega
        clear h1
        go_enter Try.func66, Try.ntmps66
        go_wp2_with fail
        go_returns
        exact ⟨rfl, HW.out.setErr 1, (Frm.refl _ _).setCell _ _ (by simp)⟩
    · have h2 : ¬ k < 1 := by omega
      have h3 : ¬ 8 < k := by omega
      have HS := hid (qbytes_any b c pos p bs 0 k w HW.out hk hk2)
      rw [readS_ok] at HS
      rw [numT_bytesT _ _ h2 h3]
      obtain ⟨m, hm1, hm2⟩ := bytesT_of (bs.drop pos) k
      have hzz : ∀ z ∈ (bytesT (bs.drop pos) k).1, 0 ≤ z ∧ z < 256 := fun z hz => HB.out z (List.mem_of_mem_drop (List.mem_of_mem_take (by rwa [hm1] at hz)))
      obtain ⟨r, hr⟩ : ∃ r, bytesT (bs.drop pos) k = r := ⟨_, rfl⟩
      rw [hr] at HS hm2 hzz ⊢
      have HZZ := hid hzz
      clear hr hm1 hzz
      obtain ⟨zs, n, ev⟩ := r
      simp only at HS hm2 HZZ ⊢
      obtain ⟨ps, hps⟩ : ∃ ps, (if ev = 0 then pos + n else pos) = ps := ⟨_, rfl⟩
      rw [hps] at HS ⊢
      clear hps h1
      have hl8 : zs.length ≤ 8 := by omega
      clear hm2
      go_enter Try.func66, Try.ntmps66
      go_wp2_with fail
      refine HS.out.mono ?_
      rintro e w1 ⟨p1, n1, c1', rfl, hn1, ho, _, hq, hf⟩
      subst hn1
      have HQ := hid hq
      have HO := hid ho
      have HF := hid hf
      clear hq ho hf
      go_wp2_with fail
      refine (qvalue_any p1 c1' zs HZZ.out hl8 w1 HO.out.rd).mono ?_
      rintro e w2 ⟨rfl, hf2⟩
      have HF2 := hid hf2
      clear hf2
      go_wp2_with fail
      go_returns
      exact ⟨rfl, HQ.out.kept HF2.out (by simp) (by simp), HF.out.trans HF2.out (by simp)⟩
  · rw [readS_err _ _ _ _ he]
    have hb : (err != 0) = true := by simpa using he
    go_enter Try.func66, Try.ntmps66
    go_wp2_with fail
    go_returns
    exact ⟨rfl, HW.out.kept (Frm.refl [] _) (by simp) (by simp), Frm.refl _ _⟩
set_option maxHeartbeats 800000 in
theorem qpad_any (b c pos : Nat) (p : Option Addr) (bs : List Int) (err k : Int) (w : World) (hw : IsQ w b p c bs pos err) (hk : -9223372036854775808 ≤ k) (hk2 : k ≤ 9223372036854775807) :
    Calls Try.prog 69 #[.pointer (some ⟨b, 0, none⟩), .int .i64 k] w fun e w' => e = .returned (.tuple #[]) ∧
      IsQ w' b p c bs (readS () pos err (padT (bs.drop pos) pos k)).2.1 (readS () pos err (padT (bs.drop pos) pos k)).2.2 ∧ Frm [b] w w' := by
  obtain ⟨hlt, hnb, hpos, hlen, c0, c1, c2, f1, f2, hrd, hcl, _⟩ := hw.cells
  have HW := hid hw
  have HR := hid hrd
  clear hw hrd
  by_cases he : err = 0
  · subst he
    have hb0 : ((0 : Int) != 0) = false := rfl
    rw [readS_ok]
    by_cases h1 : k < pos
    · rw [show padT (bs.drop pos) pos k = ((), 0, 11) by unfold padT; rw [if_pos h1]]
      go_enter Try.func69, Try.ntmps69
      go_wp2_with fail
      go_returns
      exact ⟨rfl, HW.out.setErr 11, (Frm.refl _ _).setCell _ _ (by simp)⟩
    · by_cases h2 : (bs.length : Int) < k
      · rw [show padT (bs.drop pos) pos k = ((), 0, 10) by unfold padT; rw [if_neg h1, if_pos (by simp only [List.length_drop]; omega)]]
        go_enter Try.func69, Try.ntmps69
        go_wp2_with fail
        go_returns
        exact ⟨rfl, HW.out.setErr 10, (Frm.refl _ _).setCell _ _ (by simp)⟩
      · obtain ⟨m, rfl⟩ : ∃ m : Nat, k = (m : Int) := ⟨k.toNat, by omega⟩
        have hpm : pos ≤ m := by omega
        have hmb : m ≤ bs.length := by omega
        have hbad : ∀ j, pos ≤ j → j < m → bs.getD j 0 ≠ 0 → padT (bs.drop pos) pos m = ((), 0, 14) := by
          intro j h3 h4 h5
          unfold padT
          rw [if_neg h1, if_neg (by simp only [List.length_drop]; omega), if_pos]
          rw [Bool.eq_false_iff]
          intro h
          rw [List.all_eq_true] at h
          have := h (bs.getD j 0) (by
            rw [List.mem_iff_getElem?]
            refine ⟨j - pos, ?_⟩
            rw [List.getElem?_take, if_pos (by omega), List.getElem?_drop, show pos + (j - pos) = j by omega]
            have : j < bs.length := by omega
            simp [List.getD, this])
          exact h5 (by simpa using this)
        have hgood : (∀ j, pos ≤ j → j < m → bs.getD j 0 = 0) → padT (bs.drop pos) pos m = ((), m - pos, 0) := by
          intro h
          unfold padT
          rw [if_neg h1, if_neg (by simp only [List.length_drop]; omega), if_neg, show ((m : Int) - pos).toNat = m - pos by omega]
          rw [Bool.not_eq_false, List.all_eq_true]
          intro z hz
          rw [List.mem_iff_getElem?] at hz
          obtain ⟨i, hi⟩ := hz
          rw [List.getElem?_take] at hi
          split at hi
          · rw [List.getElem?_drop] at hi
            have := h (pos + i) (by omega) (by omega)
            rw [List.getD, hi] at this
            simpa using this
          · cases hi
        have hbad' : ∀ j, pos ≤ j → j < m → bs.getD j 0 ≠ 0 → (if (padT (bs.drop pos) pos m).2.2 = 0 then pos + (padT (bs.drop pos) pos m).2.1 else pos) = pos ∧ (padT (bs.drop pos) pos m).2.2 = 14 := fun j a1 a2 a3 => by rw [hbad j a1 a2 a3]; simp
        have hgood' : (∀ j, pos ≤ j → j < m → bs.getD j 0 = 0) → (if (padT (bs.drop pos) pos m).2.2 = 0 then pos + (padT (bs.drop pos) pos m).2.1 else pos) = m ∧ (padT (bs.drop pos) pos m).2.2 = 0 := fun a => by rw [hgood a]; simp; omega
        clear hbad hgood
        obtain ⟨ps, hps⟩ : ∃ ps, (if (padT (bs.drop pos) pos m).2.2 = 0 then pos + (padT (bs.drop pos) pos m).2.1 else pos) = ps := ⟨_, rfl⟩
        rw [hps] at hbad' hgood' ⊢
        clear hps
        obtain ⟨ev, hev⟩ : ∃ ev, (padT (bs.drop pos) pos m).2.2 = ev := ⟨_, rfl⟩
        rw [hev] at hbad' hgood' ⊢
        clear hev
        have HBAD := hid hbad'
        have HGOOD := hid hgood'
        clear hbad' hgood'
        go_enter Try.func69, Try.ntmps69
        go_wp2_with fail
        go_loopw [4] (fun i wr => ∃ j : Nat, pos ≤ j ∧ j ≤ m ∧ i = .int .i64 j ∧ wr = w ∧ Hid (∀ i, pos ≤ i → i < j → bs.getD i 0 = 0)) (fun i _ => m - (intOf i).toNat)
        case atStart => exact ⟨pos, Nat.le_refl _, hpm, rfl, rfl, (fun i h3 h4 => absurd h3 (Nat.not_le.2 h4) : ∀ i, pos ≤ i → i < pos → bs.getD i 0 = 0)⟩
        case round =>
          obtain ⟨j, hpj, hjm, rfl, rfl, hz⟩ := hrel
          by_cases hlt2 : j < m
          · obtain ⟨g, o, rfl, hc⟩ : ∃ g o, p = some ⟨g, o, none⟩ ∧ wr.cell? ⟨g, o + j, none⟩ = some (.int .u8 (bs.getD j 0)) := by
              rcases HR.out with h | ⟨g, o, h1, h2⟩
              · subst h; simp at hmb; omega
              · exact ⟨g, o, h1, h2 j (by omega)⟩
            by_cases hx : bs.getD j 0 = 0
            · rw [hx] at hc
              have HX := hid hx
              clear hx
              go_wp2_with fail
              go_roundw
              case rel =>
                refine ⟨j + 1, by omega, by omega, by go_num, trivial, fun i h3 h4 => ?_⟩
                by_cases hij : i = j
                · rw [hij]; exact HX.out
                · exact hz.out i h3 (by omega)
              case measure => simp [intOf]; omega
            · obtain ⟨e1, e2⟩ := HBAD.out j hpj hlt2 hx
              have E1 := hid e1
              have E2 := hid e2
              clear e1 e2
              obtain ⟨z, hzz⟩ : ∃ z, bs.getD j 0 = z := ⟨_, rfl⟩
              rw [hzz] at hc hx
              have hne : (z != 0) = true := by simpa using hx
              clear hzz hx
              go_wp2_with fail
              go_returns
              exact ⟨rfl, by rw [E1.out, E2.out]; exact HW.out.setErr 14, (Frm.refl _ _).setCell _ _ (by simp)⟩
          · obtain rfl : j = m := by omega
            obtain ⟨e1, e2⟩ := HGOOD.out hz.out
            have E1 := hid e1
            have E2 := hid e2
            clear e1 e2
            go_wp2_with fail
            go_returns
            have hq := HW.out.setPos (n := j) hmb
            exact ⟨rfl, by rw [E1.out, E2.out]; exact hq, (Frm.refl _ _).setCell _ _ (by simp)⟩
  · rw [readS_err _ _ _ _ he]
    have hb : (err != 0) = true := by simpa using he
    go_enter Try.func69, Try.ntmps69
    go_wp2_with fail
    go_returns
    exact ⟨rfl, HW.out.kept (Frm.refl [] _) (by simp) (by simp), Frm.refl _ _⟩
end Go.Proofs.Ytdfefeljnfcngaa
