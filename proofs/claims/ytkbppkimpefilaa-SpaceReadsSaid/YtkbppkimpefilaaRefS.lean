/- Contracts of the document's reader (layer 1): numbers. -/
import Derived.Test.YtkbppkimpefilaaRefR
namespace Go.Proofs.Ytkbppkimpefilaa
open Go.RowKit
set_option maxRecDepth 100000

set_option maxHeartbeats 400000 in
theorem qvalue_any (p : Option Addr) (c : Nat) (zs : List Int) (hz : ∀ z ∈ zs, 0 ≤ z ∧ z < 256) (hl : zs.length ≤ 8) (w : World) (hrd : Rd w p zs) :
    Calls Try.prog 99 #[.slice p zs.length c] w fun e w' => e = .returned (.int .u64 (leV zs)) ∧ Frm [] w w' := by
  have HR : Hid (∀ i, i < zs.length → ∃ g o, p = some ⟨g, o, none⟩ ∧ w.cell? ⟨g, o + i, none⟩ = some (.int .u8 (zs.getD i 0))) := by
    intro i hi
    rcases hrd with h | ⟨g, o, h1, h2⟩
    · subst h; simp at hi
    · exact ⟨g, o, h1, h2 i hi⟩
  have HZ := hid hz
  clear hrd hz
  go_enter Try.func99, Try.ntmps99
  go_wp2_with fail
  go_loopw [3, 4] (fun v i wr => ∃ j : Nat, j ≤ zs.length ∧ i = .int .i64 ((j : Int) - 1) ∧ v = .int .u64 (leV (zs.drop j)) ∧ Hid (Frm [] w wr)) (fun _ i _ => (intOf i + 1).toNat)
  case atStart => exact ⟨zs.length, Nat.le_refl _, rfl, by rw [List.drop_length]; rfl, Frm.refl _ _⟩
  case round =>
    obtain ⟨j, hj, rfl, rfl, hfr⟩ := hrel
    cases j with
    | zero =>
      go_wp2_with fail
      go_returns
      exact ⟨by rw [List.drop_zero]; rfl, hfr.out⟩
    | succ i =>
      have hlt : i < zs.length := by omega
      obtain ⟨g, o, rfl, hc⟩ := HR.out i hlt
      have hx := HZ.out (zs.getD i 0) (by simp [List.getD, hlt])
      have hdr : leV (zs.drop i) = zs.getD i 0 + 256 * leV (zs.drop (i + 1)) := by
        rw [List.drop_eq_getElem_cons hlt, leV]; simp [List.getD, hlt]
      have HDR := hid hdr
      have hB := leV_bd (zs.drop (i + 1)) (fun z hz => HZ.out z (List.mem_of_mem_drop hz))
      have hpw : (2 : Int) ^ (8 * (zs.drop (i + 1)).length) ≤ 2 ^ 56 := by
        have := Nat.pow_le_pow_right (n := 2) (by decide) (show 8 * (zs.drop (i + 1)).length ≤ 56 by simp only [List.length_drop]; omega)
        exact_mod_cast this
      have hbd : leV (zs.drop (i + 1)) < 72057594037927936 := by have := hB.2; omega
      have hb0 := hB.1
      clear hdr hB hpw
      obtain ⟨x, hxx⟩ : ∃ x, zs.getD i 0 = x := ⟨_, rfl⟩
      rw [hxx] at hc hx HDR
      obtain ⟨v, hv⟩ : ∃ v, leV (zs.drop (i + 1)) = v := ⟨_, rfl⟩
      rw [hv] at hbd hb0 HDR ⊢
      clear hxx hv
      have hc' := (hfr.out.cell (p := ⟨g, o + i, none⟩) (World.block_lt_of_cell? w _ hc) (by simp)).trans hc
      have hi1 : ((i + 1 : Nat) : Int) - 1 = (i : Int) := by omega
      rw [hi1]
      clear hi1
      go_wp2_with fail
      go_roundw
      case rel => exact ⟨i, by omega, rfl, by rw [HDR.out, Int.add_comm], hfr⟩
      case measure => simp [intOf]
theorem numT_bytesT (ls : List Int) (k : Int) (h1 : ¬ k < 1) (h2 : ¬ 8 < k) : numT ls k = (leV (bytesT ls k).1, (bytesT ls k).2.1, (bytesT ls k).2.2) := by
  unfold numT bytesT
  rw [if_neg (show ¬ (k < 1 ∨ 8 < k) by omega), if_neg (show ¬ k < 0 by omega)]
  split <;> rfl
theorem bytesT_of (ls : List Int) (k : Int) : ∃ n, (bytesT ls k).1 = ls.take n ∧ ((bytesT ls k).1.length : Int) ≤ max k 0 := by
  unfold bytesT
  split
  · exact ⟨0, by simp; omega⟩
  · split
    · exact ⟨0, by simp; omega⟩
    · exact ⟨k.toNat, rfl, by simp only [List.length_take]; omega⟩
set_option maxHeartbeats 800000 in
theorem qnum_any (b c pos : Nat) (p : Option Addr) (bs : List Int) (hb : ∀ z ∈ bs, 0 ≤ z ∧ z < 256) (err k : Int) (w : World) (hw : IsQ w b p c bs pos err) (hk : -9223372036854775808 ≤ k) (hk2 : k ≤ 9223372036854775807) :
    Calls Try.prog 62 #[.pointer (some ⟨b, 0, none⟩), .int .i64 k] w fun e w' => e = .returned (.int .u64 (readS 0 pos err (numT (bs.drop pos) k)).1) ∧
      IsQ w' b p c bs (readS 0 pos err (numT (bs.drop pos) k)).2.1 (readS 0 pos err (numT (bs.drop pos) k)).2.2 ∧ Frm [b] w w' := by
  obtain ⟨hlt, hnb, hpos, hlen, c0, c1, c2, f1, f2, _⟩ := hw.cells
  have HW := hid hw
  have HB := hid hb
  clear hw hb
  by_cases he : err = 0
  · subst he
    have hb0 : ((0 : Int) != 0) = false := rfl
    rw [readS_ok]
    by_cases h1 : k < 1 ∨ 8 < k
    · have e : numT (bs.drop pos) k = (0, 0, 1) := by unfold numT; rw [if_pos h1]
      rw [e]
      by_cases h2 : k < 1
      · clear h1
        go_enter Try.func62, Try.ntmps62
        go_wp2_with fail
        go_returns
        exact ⟨rfl, HW.out.setErr 1, (Frm.refl _ _).setCell _ _ (by simp)⟩
      · have h3 : 8 < k := by omega
        clear h1
        go_enter Try.func62, Try.ntmps62
        go_wp2_with fail
        go_returns
        exact ⟨rfl, HW.out.setErr 1, (Frm.refl _ _).setCell _ _ (by simp)⟩
    · have h2 : ¬ k < 1 := by omega
      have h3 : ¬ 8 < k := by omega
      have HS := hid (qbytes_any b c pos p bs 0 k w HW.out hk hk2)
      rw [readS_ok] at HS
      rw [numT_bytesT _ _ h2 h3]
      obtain ⟨m, hm1, hm2⟩ := bytesT_of (bs.drop pos) k
      have hzz : ∀ z ∈ (bytesT (bs.drop pos) k).1, 0 ≤ z ∧ z < 256 := fun z hz => HB.out z (List.mem_of_mem_drop (List.mem_of_mem_take (by rwa [hm1] at hz)))
      obtain ⟨r, hr⟩ : ∃ r, bytesT (bs.drop pos) k = r := ⟨_, rfl⟩
      rw [hr] at HS hm2 hzz ⊢
      have HZZ := hid hzz
      clear hr hm1 hzz
      obtain ⟨zs, n, ev⟩ := r
      simp only at HS hm2 HZZ ⊢
      obtain ⟨ps, hps⟩ : ∃ ps, (if ev = 0 then pos + n else pos) = ps := ⟨_, rfl⟩
      rw [hps] at HS ⊢
      clear hps h1
      have hl8 : zs.length ≤ 8 := by omega
      clear hm2
      go_enter Try.func62, Try.ntmps62
      go_wp2_with fail
      refine HS.out.mono ?_
      rintro e w1 ⟨p1, n1, c1', rfl, hn1, ho, _, hq, hf⟩
      subst hn1
      have HQ := hid hq
      have HO := hid ho
      have HF := hid hf
      clear hq ho hf
      go_wp2_with fail
      refine (qvalue_any p1 c1' zs HZZ.out hl8 w1 HO.out.rd).mono ?_
      rintro e w2 ⟨rfl, hf2⟩
      have HF2 := hid hf2
      clear hf2
      go_wp2_with fail
      go_returns
      exact ⟨rfl, HQ.out.kept HF2.out (by simp) (by simp), HF.out.trans HF2.out (by simp)⟩
  · rw [readS_err _ _ _ _ he]
    have hb : (err != 0) = true := by simpa using he
    go_enter Try.func62, Try.ntmps62
    go_wp2_with fail
    go_returns
    exact ⟨rfl, HW.out.kept (Frm.refl [] _) (by simp) (by simp), Frm.refl _ _⟩
end Go.Proofs.Ytkbppkimpefilaa
