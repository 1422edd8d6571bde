/- Contracts of the document's reader (layer 1): numbers. Contracts of the document's reader (layer 1): texts. -/
import Derived.Test.YtignoocdeghiaaaDoorQau
namespace Go.Proofs.YtignoocdeghiaaaDoor
section
open Go.RowKit
set_option maxRecDepth 100000

set_option maxHeartbeats 400000 in
theorem qvalue_any (p : Option Addr) (c : Nat) (zs : List Int) (hz : ∀ z ∈ zs, 0 ≤ z ∧ z < 256) (hl : zs.length ≤ 8) (w : World) (hrd : Rd w p zs) :
    Calls Tryd.prog 80 #[.slice p zs.length c] w fun e w' => e = .returned (.int .u64 (leV zs)) ∧ Frm [] w w' := by
  have HR : Hid (∀ i, i < zs.length → ∃ g o, p = some ⟨g, o, none⟩ ∧ w.cell? ⟨g, o + i, none⟩ = some (.int .u8 (zs.getD i 0))) := by
    intro i hi
    rcases hrd with h | ⟨g, o, h1, h2⟩
    · subst h; simp at hi
    · exact ⟨g, o, h1, h2 i hi⟩
  have HZ := hid hz
  clear hrd hz
  go_enter Tryd.func80, Tryd.ntmps80
  go_wp2_with fail
  go_loopw [3, 4] (fun v i wr => ∃ j : Nat, j ≤ zs.length ∧ i = .int .i64 ((j : Int) - 1) ∧ v = .int .u64 (leV (zs.drop j)) ∧ Hid (Frm [] w wr)) (fun _ i _ => (intOf i + 1).toNat)
  case atStart => exact ⟨zs.length, Nat.le_refl _, rfl, by rw [List.drop_length]; rfl, Frm.refl _ _⟩
  case round =>
    obtain ⟨j, hj, rfl, rfl, hfr⟩ := hrel
    cases j with
    | zero =>
      go_wp2_with fail
      go_returns
      exact ⟨by rw [List.drop_zero]; rfl, hfr.out⟩
    | succ i =>
      have hlt : i < zs.length := by omega
      obtain ⟨g, o, rfl, hc⟩ := HR.out i hlt
      have hx := HZ.out (zs.getD i 0) (by simp [List.getD, hlt])
      have hdr : leV (zs.drop i) = zs.getD i 0 + 256 * leV (zs.drop (i + 1)) := by
        rw [List.drop_eq_getElem_cons hlt, leV]; simp [List.getD, hlt]
      have HDR := hid hdr
      have hB := leV_bd (zs.drop (i + 1)) (fun z hz => HZ.out z (List.mem_of_mem_drop hz))
      have hpw : (2 : Int) ^ (8 * (zs.drop (i + 1)).length) ≤ 2 ^ 56 := by
        have := Nat.pow_le_pow_right (n := 2) (by decide) (show 8 * (zs.drop (i + 1)).length ≤ 56 by simp only [List.length_drop]; omega)
        exact_mod_cast this
      have hbd : leV (zs.drop (i + 1)) < 72057594037927936 := by have := hB.2; omega
      have hb0 := hB.1
      clear hdr hB hpw
      obtain ⟨x, hxx⟩ : ∃ x, zs.getD i 0 = x := ⟨_, rfl⟩
      rw [hxx] at hc hx HDR
      obtain ⟨v, hv⟩ : ∃ v, leV (zs.drop (i + 1)) = v := ⟨_, rfl⟩
      rw [hv] at hbd hb0 HDR ⊢
      clear hxx hv
      have hc' := (hfr.out.cell (p := ⟨g, o + i, none⟩) (World.block_lt_of_cell? w _ hc) (by simp)).trans hc
      have hi1 : ((i + 1 : Nat) : Int) - 1 = (i : Int) := by omega
      rw [hi1]
      clear hi1
      go_wp2_with fail
      go_roundw
      case rel => exact ⟨i, by omega, rfl, by rw [HDR.out, Int.add_comm], hfr⟩
      case measure => simp [intOf]
theorem numT_bytesT (ls : List Int) (k : Int) (h1 : ¬ k < 1) (h2 : ¬ 8 < k) : numT ls k = (leV (bytesT ls k).1, (bytesT ls k).2.1, (bytesT ls k).2.2) := by
  unfold numT bytesT
  rw [if_neg (show ¬ (k < 1 ∨ 8 < k) by omega), if_neg (show ¬ k < 0 by omega)]
  split <;> rfl
theorem bytesT_of (ls : List Int) (k : Int) : ∃ n, (bytesT ls k).1 = ls.take n ∧ ((bytesT ls k).1.length : Int) ≤ max k 0 := by
  unfold bytesT
  split
  · exact ⟨0, by simp; omega⟩
  · split
    · exact ⟨0, by simp; omega⟩
    · exact ⟨k.toNat, rfl, by simp only [List.length_take]; omega⟩
set_option maxHeartbeats 800000 in
theorem qnum_any (b c pos : Nat) (p : Option Addr) (bs : List Int) (hb : ∀ z ∈ bs, 0 ≤ z ∧ z < 256) (err k : Int) (w : World) (hw : IsQ w b p c bs pos err) (hk : -9223372036854775808 ≤ k) (hk2 : k ≤ 9223372036854775807) :
    Calls Tryd.prog 79 #[.pointer (some ⟨b, 0, none⟩), .int .i64 k] w fun e w' => e = .returned (.int .u64 (readS 0 pos err (numT (bs.drop pos) k)).1) ∧
      IsQ w' b p c bs (readS 0 pos err (numT (bs.drop pos) k)).2.1 (readS 0 pos err (numT (bs.drop pos) k)).2.2 ∧ Frm [b] w w' := by
  obtain ⟨hlt, hnb, hpos, hlen, c0, c1, c2, f1, f2, _⟩ := hw.cells
  have HW := hid hw
  have HB := hid hb
  clear hw hb
  by_cases he : err = 0
  · subst he
    have hb0 : ((0 : Int) != 0) = false := rfl
    rw [readS_ok]
    by_cases h1 : k < 1 ∨ 8 < k
    · have e : numT (bs.drop pos) k = (0, 0, 1) := by unfold numT; rw [if_pos h1]
      rw [e]
      by_cases h2 : k < 1
      · clear h1
        go_enter Tryd.func79, Tryd.ntmps79
        go_wp2_with fail
        go_returns
        exact ⟨rfl, HW.out.setErr 1, (Frm.refl _ _).setCell _ _ (by simp)⟩
      · have h3 : 8 < k := by omega
        clear h1
        go_enter Tryd.func79, Tryd.ntmps79
        go_wp2_with fail
        go_returns
        exact ⟨rfl, HW.out.setErr 1, (Frm.refl _ _).setCell _ _ (by simp)⟩
    · have h2 : ¬ k < 1 := by omega
      have h3 : ¬ 8 < k := by omega
      have HS := hid (qbytes_any b c pos p bs 0 k w HW.out hk hk2)
      rw [readS_ok] at HS
      rw [numT_bytesT _ _ h2 h3]
      obtain ⟨m, hm1, hm2⟩ := bytesT_of (bs.drop pos) k
      have hzz : ∀ z ∈ (bytesT (bs.drop pos) k).1, 0 ≤ z ∧ z < 256 := fun z hz => HB.out z (List.mem_of_mem_drop (List.mem_of_mem_take (by rwa [hm1] at hz)))
      obtain ⟨r, hr⟩ : ∃ r, bytesT (bs.drop pos) k = r := ⟨_, rfl⟩
      rw [hr] at HS hm2 hzz ⊢
      have HZZ := hid hzz
      clear hr hm1 hzz
      obtain ⟨zs, n, ev⟩ := r
      simp only at HS hm2 HZZ ⊢
      obtain ⟨ps, hps⟩ : ∃ ps, (if ev = 0 then pos + n else pos) = ps := ⟨_, rfl⟩
      rw [hps] at HS ⊢
      clear hps h1
      have hl8 : zs.length ≤ 8 := by omega
      clear hm2
      go_enter Tryd.func79, Tryd.ntmps79
      go_wp2_with fail
      refine HS.out.mono ?_
      rintro e w1 ⟨p1, n1, c1', rfl, hn1, ho, _, hq, hf⟩
      subst hn1
      have HQ := hid hq
      have HO := hid ho
      have HF := hid hf
      clear hq ho hf
      go_wp2_with fail
      refine (qvalue_any p1 c1' zs HZZ.out hl8 w1 HO.out.rd).mono ?_
      rintro e w2 ⟨rfl, hf2⟩
      have HF2 := hid hf2
      clear hf2
      go_wp2_with fail
      go_returns
      exact ⟨rfl, HQ.out.kept HF2.out (by simp) (by simp), HF.out.trans HF2.out (by simp)⟩
  · rw [readS_err _ _ _ _ he]
    have hb : (err != 0) = true := by simpa using he
    go_enter Tryd.func79, Tryd.ntmps79
    go_wp2_with fail
    go_returns
    exact ⟨rfl, HW.out.kept (Frm.refl [] _) (by simp) (by simp), Frm.refl _ _⟩
end
section
open Go.RowKit
set_option maxRecDepth 100000

set_option maxHeartbeats 1600000 in
theorem qtext_any (b c pos : Nat) (p : Option Addr) (bs : List Int) (hb : ∀ z ∈ bs, 0 ≤ z ∧ z < 256) (err k : Int) (w : World) (hw : IsQ w b p c bs pos err) (_hk : -9223372036854775808 ≤ k) (_hk2 : k ≤ 9223372036854775807) :
    Calls Tryd.prog 58 #[.pointer (some ⟨b, 0, none⟩), .int .i64 k] w fun e w' => e = .returned (.string (strOfNums (readS [] pos err (textT (bs.drop pos) k)).1)) ∧
      IsQ w' b p c bs (readS [] pos err (textT (bs.drop pos) k)).2.1 (readS [] pos err (textT (bs.drop pos) k)).2.2 ∧ Frm [b] w w' := by
  obtain ⟨hlt, hnb, hpos, hlen, c0, c1, c2, f1, f2, hrd, hcl, hpn, hoff⟩ := hw.cells
  have HW := hid hw
  have HR := hid hrd
  have HPN := hid hpn
  have HOFF := hid hoff
  have HB := hid hb
  clear hw hrd hpn hoff hb
  have hs0 : strOfNums [] = ByteArray.empty := rfl
  by_cases he : err = 0
  · subst he
    have hb0 : ((0 : Int) != 0) = false := rfl
    rw [readS_ok]
    by_cases h1 : (bs.drop pos).length < 2
    · rw [show textT (bs.drop pos) k = ([], 0, 10) by unfold textT; rw [if_pos h1]]
      have h1' : (bs.length : Int) - (pos : Int) < 2 := by simp only [List.length_drop] at h1; omega
      have HS := hid hs0
      clear h1 hs0
      go_enter Tryd.func58, Tryd.ntmps58
      go_wp2_with fail
      go_quiet (fail)
      go_wp2_with fail
      go_returns
      exact ⟨congrArg (fun s => Ending.returned (Value.string s)) HS.out.symm, (HW.out.kept ((Frm.refl [] w).drewN nq) (by simp) (by simp)).setErr 10, ((Frm.refl [] w).drewN nq |>.mono (by simp)).setCell _ _ (by simp)⟩
    · have h1' : ¬ (bs.length : Int) - (pos : Int) < 2 := by simp only [List.length_drop] at h1; omega
      have hp2 : pos + 2 ≤ bs.length := by simp only [List.length_drop] at h1; omega
      obtain ⟨g, rfl⟩ : ∃ g, p = some ⟨g, 0, none⟩ := by
        cases p with
        | none => have := (HPN.out rfl).1; subst this; simp at hp2
        | some a =>
          obtain ⟨g, o, sp⟩ := a
          obtain ⟨ho, hs⟩ := HOFF.out _ rfl
          simp only at ho hs
          subst ho hs
          exact ⟨g, rfl⟩
      have hcp : (c = pos) = False := by simp; omega
      have hw1 : IntKind.i64.wrap ((pos : Int) + 2) = (pos : Int) + 2 := IntWalk.i64_in _ (by omega)
      have b1 : (0 : Int) ≤ (pos : Int) := by omega
      have b2 : (pos : Int) ≤ (pos : Int) + 2 := by omega
      have b3 : (pos : Int) + 2 ≤ (c : Int) := by omega
      have b4 : ((pos : Int) + 2).toNat - pos = 2 := by omega
      have hl2 : ((bs.drop pos).take 2).length = 2 := by simp only [List.length_take, List.length_drop]; omega
      obtain ⟨n, hn, hn2⟩ : ∃ n : Nat, leV ((bs.drop pos).take 2) = n ∧ n < 65536 := by
        have := leV_bd ((bs.drop pos).take 2) (fun z hz => HB.out z (List.mem_of_mem_drop (List.mem_of_mem_take hz)))
        rw [hl2] at this
        have h2 := this.2
        simp at h2
        exact ⟨(leV ((bs.drop pos).take 2)).toNat, by omega, by omega⟩
      have hT : textT (bs.drop pos) k = if k < n then ([], 0, 11) else if (bs.length : Int) - pos - 2 < n then ([], 0, 10) else (((bs.drop pos).drop 2).take n, 2 + n, 0) := by
        unfold textT
        rw [if_neg h1, hn]
        by_cases a1 : k < n
        · rw [if_pos a1, if_pos a1]
        · rw [if_neg a1, if_neg a1]
          simp only [List.length_drop, Int.toNat_natCast]
          by_cases a2 : (bs.length : Int) - pos - 2 < n
          · rw [if_pos a2, if_pos (by omega)]
          · rw [if_neg a2, if_neg (by omega)]
      rw [hT]
      clear hT
      have hv := fun w' (hrd : Rd w' (some ⟨g, pos, none⟩) ((bs.drop pos).take 2)) => qvalue_any (some ⟨g, pos, none⟩) (c - pos) ((bs.drop pos).take 2) (fun z hz => HB.out z (List.mem_of_mem_drop (List.mem_of_mem_take hz))) (by omega) w' hrd
      rw [hl2, hn] at hv
      have HV := hid hv
      have hr2 := (HR.out.drop pos).take 2
      rw [Nat.zero_add] at hr2
      have HR2 := hid hr2
      clear hv hr2 hn h1 hl2
      have HS := hid hs0
      clear hs0
      by_cases a1 : k < n
      · rw [if_pos a1]
        go_enter Tryd.func58, Tryd.ntmps58
        go_wp2_with fail
        go_quiet (fail)
        go_wp2_with fail
        have HV1 := hid (HV.out (w.drewN nq).drew ((HR2.out.drewN nq).drew))
        have HV2 := hid (HV.out (w.drewN (nq + 1)) (HR2.out.drewN (nq + 1)))
        go_region_held3 (fun w' => w'.cell? ⟨b, 0, none⟩ = some (.slice (some ⟨g, 0, none⟩) bs.length c) ∧ w'.cell? ⟨b, 1, none⟩ = some (.int .i64 pos)) (first | go_keep | (exact ⟨c0, c1⟩) | (exact ⟨(hf2.cell (p := ⟨b, 0, none⟩) hlt List.not_mem_nil).trans c0, (hf2.cell (p := ⟨b, 1, none⟩) hlt List.not_mem_nil).trans c1⟩)) ((go_at_call 80; (first | (with_reducible refine HV1.out.mono ?_) | (with_reducible refine HV2.out.mono ?_)); rintro e w2 ⟨rfl, hf2⟩))
        have F2 := hid ((Frm.refl [] w).drewN (nq + 1) |>.trans (T := []) hf2 (by simp))
        have q1 := (F2.out.cell (p := ⟨b, 1, none⟩) hlt List.not_mem_nil).trans c1
        have q0 := (F2.out.cell (p := ⟨b, 0, none⟩) hlt List.not_mem_nil).trans c0
        have q2 := (F2.out.cell (p := ⟨b, 2, none⟩) hlt List.not_mem_nil).trans c2
        have qf1 := (F2.out.frozen (p := ⟨b, 1, none⟩) hlt List.not_mem_nil).trans f1
        have qf2 := (F2.out.frozen (p := ⟨b, 2, none⟩) hlt List.not_mem_nil).trans f2
        clear hf2
        go_wp2_with fail
        go_returns
        exact ⟨congrArg (fun s => Ending.returned (Value.string s)) HS.out.symm, (HW.out.kept F2.out (by simp) (by simp)).setErr 11, (F2.out.mono (by simp)).setCell _ _ (by simp)⟩
      · rw [if_neg a1]
        by_cases a2 : (bs.length : Int) - pos - 2 < n
        · rw [if_pos a2]
          go_enter Tryd.func58, Tryd.ntmps58
          go_wp2_with fail
          go_quiet (fail)
          go_wp2_with fail
          have HV1 := hid (HV.out (w.drewN nq).drew ((HR2.out.drewN nq).drew))
          have HV2 := hid (HV.out (w.drewN (nq + 1)) (HR2.out.drewN (nq + 1)))
          go_region_held3 (fun w' => w'.cell? ⟨b, 0, none⟩ = some (.slice (some ⟨g, 0, none⟩) bs.length c) ∧ w'.cell? ⟨b, 1, none⟩ = some (.int .i64 pos)) (first | go_keep | (exact ⟨c0, c1⟩) | (exact ⟨(hf2.cell (p := ⟨b, 0, none⟩) hlt List.not_mem_nil).trans c0, (hf2.cell (p := ⟨b, 1, none⟩) hlt List.not_mem_nil).trans c1⟩)) ((go_at_call 80; (first | (with_reducible refine HV1.out.mono ?_) | (with_reducible refine HV2.out.mono ?_)); rintro e w2 ⟨rfl, hf2⟩))
          have F2 := hid ((Frm.refl [] w).drewN (nq + 1) |>.trans (T := []) hf2 (by simp))
          have q1 := (F2.out.cell (p := ⟨b, 1, none⟩) hlt List.not_mem_nil).trans c1
          have q0 := (F2.out.cell (p := ⟨b, 0, none⟩) hlt List.not_mem_nil).trans c0
          have q2 := (F2.out.cell (p := ⟨b, 2, none⟩) hlt List.not_mem_nil).trans c2
          have qf1 := (F2.out.frozen (p := ⟨b, 1, none⟩) hlt List.not_mem_nil).trans f1
          have qf2 := (F2.out.frozen (p := ⟨b, 2, none⟩) hlt List.not_mem_nil).trans f2
          clear hf2
          go_wp2_with fail
          go_quiet (fail)
          go_wp2_with fail
          go_returns
          exact ⟨congrArg (fun s => Ending.returned (Value.string s)) HS.out.symm, (HW.out.kept (F2.out.drewN nq) (by simp) (by simp)).setErr 10, ((F2.out.drewN nq).mono (by simp)).setCell _ _ (by simp)⟩
        · rw [if_neg a2]
          go_enter Tryd.func58, Tryd.ntmps58
          go_wp2_with fail
          go_quiet (fail)
          go_wp2_with fail
          have HV1 := hid (HV.out (w.drewN nq).drew ((HR2.out.drewN nq).drew))
          have HV2 := hid (HV.out (w.drewN (nq + 1)) (HR2.out.drewN (nq + 1)))
          go_region_held3 (fun w' => w'.cell? ⟨b, 0, none⟩ = some (.slice (some ⟨g, 0, none⟩) bs.length c) ∧ w'.cell? ⟨b, 1, none⟩ = some (.int .i64 pos)) (first | go_keep | (exact ⟨c0, c1⟩) | (exact ⟨(hf2.cell (p := ⟨b, 0, none⟩) hlt List.not_mem_nil).trans c0, (hf2.cell (p := ⟨b, 1, none⟩) hlt List.not_mem_nil).trans c1⟩)) ((go_at_call 80; (first | (with_reducible refine HV1.out.mono ?_) | (with_reducible refine HV2.out.mono ?_)); rintro e w2 ⟨rfl, hf2⟩))
          have F2 := hid ((Frm.refl [] w).drewN (nq + 1) |>.trans (T := []) hf2 (by simp))
          have q1 := (F2.out.cell (p := ⟨b, 1, none⟩) hlt List.not_mem_nil).trans c1
          have q0 := (F2.out.cell (p := ⟨b, 0, none⟩) hlt List.not_mem_nil).trans c0
          have q2 := (F2.out.cell (p := ⟨b, 2, none⟩) hlt List.not_mem_nil).trans c2
          have qf1 := (F2.out.frozen (p := ⟨b, 1, none⟩) hlt List.not_mem_nil).trans f1
          have qf2 := (F2.out.frozen (p := ⟨b, 2, none⟩) hlt List.not_mem_nil).trans f2
          clear hf2
          go_wp2_with fail
          go_quiet (fail)
          go_wp2_with fail
          have hwn : IntKind.i64.wrap (n : Int) = (n : Int) := IntWalk.i64_in _ (by omega)
          have hw3 : IntKind.i64.wrap ((pos : Int) + 2 + (n : Int)) = (pos : Int) + 2 + (n : Int) := IntWalk.i64_in _ (by omega)
          have b5 : (0 : Int) ≤ (pos : Int) + 2 := by omega
          have b6 : (pos : Int) + 2 ≤ (pos : Int) + 2 + (n : Int) := by omega
          have b7 : (pos : Int) + 2 + (n : Int) ≤ (c : Int) := by omega
          have hpn : pos + 2 + n ≤ bs.length := by omega
          have hrd3 : Rd w2 (if c = pos + 2 then (some ⟨g, 0, none⟩ : Option Addr) else some ⟨g, pos + 2, none⟩) (((bs.drop pos).drop 2).take n) := by
            by_cases hc2 : c = pos + 2
            · exact Or.inl (by rw [List.take_eq_nil_iff]; left; omega)
            · rw [if_neg hc2]
              have := ((((HR.out.kept F2.out (by simp)).drop pos).drop 2).take n)
              rwa [Nat.zero_add] at this
          have hln : (((bs.drop pos).drop 2).take n).length = n := by simp only [List.length_take, List.length_drop]; omega
          have hcv := fun m => conv_any (P := Tryd.prog) (w := w2.drewN m) 22 5 9 Tryd.underlying22 Tryd.underlying5 Tryd.underlying9 (hrd3.drewN m) (c - (pos + 2)) hln
          have hcd := fun m => conv_any (P := Tryd.prog) (w := (w2.drewN m).drew) 22 5 9 Tryd.underlying22 Tryd.underlying5 Tryd.underlying9 (hrd3.drewN m).drew (c - (pos + 2)) hln
          obtain ⟨S, hS⟩ : ∃ S, strOfNums (((bs.drop pos).drop 2).take n) = S := ⟨_, rfl⟩
          rw [hS] at hcv hcd
          have HSS := hid hS
          clear hS hrd3 hln b4
          have b8 : ((pos : Int) + 2).toNat = pos + 2 := by omega
          have b9 : ((pos : Int) + 2 + (n : Int)).toNat = pos + 2 + n := by omega
          rw [hwn]
          go_quiet (fail)
          clear hcv hcd
          generalize (if c = pos + 2 then (some ⟨g, 0, none⟩ : Option Addr) else some ⟨g, pos + 2, none⟩) = pp
          go_wp2_with fail
          go_returns
          have e3 : ((pos + (2 + n) : Nat) : Int) = (pos : Int) + 2 + (n : Int) := by omega
          have hq := fun m => (HW.out.kept (F2.out.drewN m) (by simp) (by simp)).setPos (n := pos + (2 + n)) (by omega)
          rw [e3] at hq
          have e4 : S = strOfNums (List.take n (List.drop (pos + 2) bs)) := by rw [← HSS.out, List.drop_drop]
          exact ⟨congrArg (fun s => Ending.returned (Value.string s)) e4, hq _, ((F2.out.drewN _).mono (by simp)).setCell _ _ (by simp)⟩
  · rw [readS_err _ _ _ _ he]
    have HS := hid hs0
    clear hs0
    have hb : (err != 0) = true := by simpa using he
    go_enter Tryd.func58, Tryd.ntmps58
    go_wp2_with fail
    go_returns
    exact ⟨congrArg (fun s => Ending.returned (Value.string s)) HS.out.symm, HW.out.kept (Frm.refl [] _) (by simp) (by simp), Frm.refl _ _⟩
end
end Go.Proofs.YtignoocdeghiaaaDoor
