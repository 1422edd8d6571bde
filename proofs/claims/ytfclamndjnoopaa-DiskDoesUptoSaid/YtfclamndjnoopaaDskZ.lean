/- Disks and their power: Corrupt, walked. -/
import Derived.Test.YtfclamndjnoopaaRfI
import Derived.Test.YtfclamndjnoopaaDskY
namespace Go.Proofs.Ytfclamndjnoopaa
open Go.RowKit Go.Lib
set_option maxRecDepth 100000

theorem IsPow.block {w : World} {pb gq c : Nat} {S : PSt} (h : IsPow w pb S (some ⟨gq, 0, none⟩) c) : ∃ C : List Value, w.heap[gq]? = some (.cells C.toArray 65 (0, 0)) ∧ C.length = c * 130 ∧ C.take (S.ws.length * 130) = rowsW S.ws ∧ S.ws.length ≤ c ∧ c ≤ maxLen := by
  rcases h.own.2 with ⟨he, _⟩ | ⟨g, cp, cur, he, _, hg, hc, hm, hs, ht⟩
  · simp at he
  · simp only [Value.slice.injEq, Option.some.injEq, Addr.mk.injEq, and_true, true_and] at he
    obtain ⟨rfl, rfl⟩ := he
    exact ⟨cur.toList, by simpa using hg, by simpa using hs, ht, hc, hm⟩
theorem IsPow.setW {w w' : World} {pb gq c j : Nat} {S : PSt} {x : Wt} {b : List Int} {C : List Value} (h : IsPow w pb S (some ⟨gq, 0, none⟩) c) (hx : S.ws[j]? = some x) (hb : b.length = 128) (hC : C.length = c * 130) (hT : C.take (S.ws.length * 130) = rowsW S.ws) (hc : S.ws.length ≤ c) (hm : c ≤ maxLen)
    (hg : w'.heap[gq]? = some (.cells (C.take (j * 130 + 2) ++ bv b ++ C.drop (j * 130 + 2 + 128)).toArray 65 (0, 0))) (hf : Frm [gq] w w') : IsPow w' pb { S with ws := S.ws.set j { x with bytes := b } } (some ⟨gq, 0, none⟩) c := by
  have hj : j < S.ws.length := (List.getElem?_eq_some_iff.1 hx).1
  have hpg : pb ≠ gq := fun e => h.apart (by simp [blk, e])
  refine ⟨?_, ⟨?_, Or.inr ⟨gq, c, _, by simp, Nat.zero_le _, hg, by simpa using hc, hm, ?_, ?_⟩⟩, fun y hy => ?_, h.lb, by simpa using h.wb, h.apart⟩
  · have := hf.heap h.row (by simp; exact hpg)
    simpa using this
  · show (rowsW (S.ws.set j { x with bytes := b })).length = _
    rw [rowsW_length (fun y hy => ?_)]
    rcases List.mem_or_eq_of_mem_set hy with h1 | rfl
    · exact h.len y h1
    · exact hb
  · simp [bv, hb, hC]
    omega
  · show (C.take (j * 130 + 2) ++ bv b ++ C.drop (j * 130 + 2 + 128)).toArray.toList.take ((S.ws.set j { x with bytes := b }).length * 130) = rowsW (S.ws.set j { x with bytes := b })
    rw [rowsW_set h.len hx, List.length_set, ← hT]
    have e1 : (C.take (j * 130 + 2)).length = j * 130 + 2 := by rw [List.length_take]; omega
    have e2 : (C.take (S.ws.length * 130)).take (j * 130 + 2) = C.take (j * 130 + 2) := by rw [List.take_take, Nat.min_eq_left (by omega)]
    have e3 : (C.take (S.ws.length * 130)).drop (j * 130 + 2 + 128) = (C.drop (j * 130 + 2 + 128)).take (S.ws.length * 130 - (j * 130 + 2 + 128)) := by rw [List.drop_take]
    rw [e2, e3]
    show List.take _ (C.take (j * 130 + 2) ++ bv b ++ C.drop (j * 130 + 2 + 128)) = _
    rw [List.take_append, List.take_of_length_le (by simp [e1, bv, hb]; omega)]
    congr 2
    simp [e1, bv, hb]
  · rcases List.mem_or_eq_of_mem_set hy with h1 | rfl
    · exact h.len y h1
    · exact hb
/-- What Corrupt answers. -/
def corE (D : DSt) (at_ : Int) (m : Nat) : Int := if D.failed then 30 else if at_ < 0 ∨ (D.n : Int) ≤ at_ ∨ 128 < m then 1 else 0
def DSt.turn (D : DSt) (a : Nat) (ms : List Int) : DSt := { D with plat := turnS D.plat a ms, seen := turnS D.seen a ms }
def PSt.turn (S : PSt) (db a : Nat) (ms : List Int) : PSt := { S with ws := S.ws.map (turnW db a ms) }
set_option maxHeartbeats 1600000 in
theorem corruptBad_any (pb : Nat) (D : DSt) (at_ : Int) (p : Option Addr) (m cm : Nat) (w : World) (hd : IsDisk w pb D) (ha : -9223372036854775808 ≤ at_ ∧ at_ ≤ 9223372036854775807) (hm : m ≤ 140737488355328) (hbad : corE D at_ m ≠ 0) :
    Calls Try.prog 40 #[.pointer (some ⟨D.db, 0, none⟩), .int .i64 at_, .slice p m cm] w fun e w' => e = .returned (.int .i64 (corE D at_ m)) ∧ w' = w := by
  obtain ⟨d0, d1, d2, d3, d4⟩ := hd.cells
  obtain ⟨R, hR⟩ : ∃ R, corE D at_ m = R := ⟨_, rfl⟩
  rw [hR] at hbad ⊢
  have HR : Hid (R = if D.failed then 30 else if at_ < 0 ∨ (D.n : Int) ≤ at_ ∨ 128 < m then 1 else 0) := hid hR.symm
  have HB := hid hbad
  obtain ⟨fl, hf⟩ : ∃ o, D.failed = o := ⟨_, rfl⟩
  rw [hf] at d2 HR
  clear hd hR hf hbad d0 d3 d4
  cases fl
  case true =>
    go_enter Try.func40, Try.ntmps40
    go_wp2_with fail
    go_returns
    exact ⟨by rw [HR.out]; rfl, rfl⟩
  have HV : Hid (R = 1 ∧ (at_ < 0 ∨ (D.n : Int) ≤ at_ ∨ 128 < m)) := hid (by
    have h1 := HR.out
    have h2 := HB.out
    simp only [Bool.false_eq_true, if_false] at h1
    rw [h1] at h2 ⊢
    split at h2
    · rename_i hc; rw [if_pos hc]; exact ⟨rfl, hc⟩
    · exact absurd rfl h2)
  go_enter Try.func40, Try.ntmps40
  by_cases h1 : at_ < 0
  · go_wp2_with fail
    go_returns
    exact ⟨by rw [HV.out.1]; rfl, rfl⟩
  by_cases h2 : (D.n : Int) ≤ at_
  · go_wp2_with fail
    go_returns
    exact ⟨by rw [HV.out.1]; rfl, rfl⟩
  have h3 : (128 : Int) < (m : Int) := by have := HV.out.2; omega
  go_wp2_with fail
  go_returns
  exact ⟨by rw [HV.out.1]; rfl, rfl⟩
/-- Where Corrupt stands behind j of those that wait. -/
structure InT (w : World) (pb : Nat) (S : PSt) (q : Option Addr) (c : Nat) (D : DSt) (a : Nat) (ms : List Int) (j : Nat) (w' : World) : Prop where
  pow : IsPow w' pb { S with ws := (S.ws.take j).map (turnW D.db a ms) ++ S.ws.drop j } q c
  dsk : IsDisk w' pb (D.turn a ms)
  fr : Frm ([D.gp, D.gs] ++ blk q) w w'
set_option maxHeartbeats 6400000 in
theorem corrupt_any (pb : Nat) (S : PSt) (q : Option Addr) (c : Nat) (D : DSt) (a : Nat) (p : Option Addr) (cm : Nat) (ms : List Int) (w : World) (hp : IsPow w pb S q c) (hd : IsDisk w pb D) (hfl : D.failed = false) (ha : a < D.n) (hm : ms.length ≤ 128) (hrd : Rd w p ms) (hbz : ∀ z ∈ ms, 0 ≤ z ∧ z < 256)
    (hap : ms ≠ [] → ∀ k ∈ blk p, k ≠ D.gp ∧ k ≠ D.gs ∧ k ∉ blk q) (hdq : D.db ∉ blk q ∧ D.gp ∉ blk q ∧ D.gs ∉ blk q) (hdp : D.db ≠ pb ∧ D.gp ≠ pb ∧ D.gs ≠ pb) (hds : ∀ x ∈ S.ws, x.disk ≠ D.gp ∧ x.disk ≠ D.gs ∧ x.disk ∉ blk q ∧ ∃ ca ta, w.heap[x.disk]? = some (.cells ca ta (0, 0))) :
    Calls Try.prog 40 #[.pointer (some ⟨D.db, 0, none⟩), .int .i64 (a : Int), .slice p ms.length cm] w fun e w' => e = .returned (.int .i64 0) ∧ IsPow w' pb (S.turn D.db a ms) q c ∧ IsDisk w' pb (D.turn a ms) ∧ Frm ([D.gp, D.gs] ++ blk q) w w' := by
  have HP := hid hp
  have HD := hid hd
  have HA := hid ha
  have HRD := hid hrd
  have HBZ := hid hbz
  have HAP := hid hap
  have HDQ := hid hdq
  have HDP := hid hdp
  have HDS := hid hds
  have HMS := hid hm
  obtain ⟨d0, d1, d2, d3, d4⟩ := hd.cells
  rw [hfl] at d2
  have hn2 := hd.n2
  obtain ⟨m, hmm⟩ : ∃ m, ms.length = m := ⟨_, rfl⟩
  have HM := hid hmm
  have t0 : (a : Int) < (D.n : Int) := by omega
  obtain ⟨N, hN⟩ : ∃ N, S.ws.length = N := ⟨_, rfl⟩
  have HN := hid hN
  have hNb : N ≤ 500000000000 := by have := hp.wb; omega
  have HSP := hid (fun W => sector_any D.gp 0 (D.n * 128) (D.n * 128) a (by omega) (Nat.le_refl _) (by omega) W)
  have HSS := hid (fun W => sector_any D.gs 0 (D.n * 128) (D.n * 128) a (by omega) (Nat.le_refl _) (by omega) W)
  simp only [Nat.zero_add] at HSP HSS
  have secb : ∀ (bs : List Int), bs.length = D.n * 128 → ((bv bs).drop (a * 128)).take 128 = bv (sec bs a) ∧ a * 128 + 128 ≤ (bv bs).length := fun bs hl => ⟨by unfold sec; rw [bv_take, bv_drop], by rw [bv_length, hl]; omega⟩
  have HT1 := hid (turn_any D.gp (a * 128) (D.n * 128 - a * 128) (bv D.plat) 5 (sec D.plat a) p cm ms w hd.pl (secb _ hd.pn).2 (secb _ hd.pn).1 (sec_length hd.pn ha) hm hrd (fun hne hmm => (hap hne _ hmm).1 rfl))
  rw [hmm] at HT1 hm ⊢
  have hm' : (m : Int) ≤ 128 := by omega
  clear hp hd ha hrd hbz hap hdq hdp hds hfl hmm hN
  go_enter Try.func40, Try.ntmps40
  go_wp2_with fail
  refine (HSP.out _).mono ?_
  rintro e w1 ⟨rfl, rfl⟩
  go_wp2_with fail
  refine HT1.out.mono ?_
  rintro e w2 ⟨rfl, hg2, hf2⟩
  have hsp : ∀ (bs : List Int), bs.length = D.n * 128 → (bv bs).take (a * 128) ++ bv (xr (sec bs a) ms) ++ (bv bs).drop (a * 128 + 128) = bv (turnS bs a ms) := fun bs hl => by
    unfold turnS splice
    rw [xr_length (sec_length hl HA.out) HMS.out]
    simp [bv, List.map_take, List.map_drop]
  have hd1 := HD.out
  have hg2' : w2.heap[D.gp]? = some (.cells (bv (turnS D.plat a ms)).toArray 5 (0, 0)) := by rw [hg2, hsp _ hd1.pn]
  have hd2' : IsDisk w2 pb { D with plat := turnS D.plat a ms } := ⟨hf2.heap hd1.row (by simp; exact hd1.a2), hg2', hf2.heap hd1.se (by simp; exact hd1.a1.symm), turnS_length hd1.pn HA.out HMS.out, hd1.sn, splice_bd hd1.pz (xj_bd (fun z hz => hd1.pz z (List.mem_of_mem_drop (List.mem_of_mem_take hz))) HBZ.out), hd1.sz, hd1.n1, hd1.n2, hd1.a1, hd1.a2, hd1.a3⟩
  obtain ⟨d0, d1, d2, d3, d4⟩ := hd2'.cells
  have HT2 := hid (turn_any D.gs (a * 128) (D.n * 128 - a * 128) (bv D.seen) 5 (sec D.seen a) p cm ms w2 hd2'.se (secb _ hd1.sn).2 (secb _ hd1.sn).1 (sec_length hd1.sn HA.out) HMS.out (by
    rcases HRD.out with h | ⟨g, o, rfl, hc⟩
    · exact Or.inl h
    · by_cases hne : ms = []
      · exact Or.inl hne
      · refine rd_same (Or.inr ⟨g, o, rfl, hc⟩) (hf2.block g ?_ (by simp; exact fun e => (HAP.out hne g (by simp [blk])).1 e))
        exact World.block_lt_of_cell? w1 _ (hc 0 (List.length_pos_iff.2 hne))) (fun hne hmm => (HAP.out hne _ hmm).2.1 rfl))
  rw [HM.out] at HT2
  have HD2 := hid hd2'
  have HF2 := hid hf2
  clear hg2 hg2' hf2 hd2' hd1 HT1 HSP d0
  go_wp2_with fail
  refine (HSS.out _).mono ?_
  rintro e wq ⟨rfl, rfl⟩
  go_wp2_with fail
  refine HT2.out.mono ?_
  rintro e w3 ⟨rfl, hg3, hf3⟩
  have hd2' := HD2.out
  have hg3' : w3.heap[D.gs]? = some (.cells (bv (turnS D.seen a ms)).toArray 5 (0, 0)) := by rw [hg3, hsp _ hd2'.sn]
  have hd3' : IsDisk w3 pb (D.turn a ms) := ⟨hf3.heap hd2'.row (by simp; exact hd2'.a3), hf3.heap hd2'.pl (by simp; exact hd2'.a1), hg3', hd2'.pn, turnS_length hd2'.sn HA.out HMS.out, hd2'.pz, splice_bd hd2'.sz (xj_bd (fun z hz => hd2'.sz z (List.mem_of_mem_drop (List.mem_of_mem_take hz))) HBZ.out), hd2'.n1, hd2'.n2, hd2'.a1, hd2'.a2, hd2'.a3⟩
  have hfr3 : Frm [D.gp, D.gs] w1 w3 := (HF2.out.mono (by simp)).trans hf3 (by simp)
  have hp3 : IsPow w3 pb S q c := HP.out.kept hfr3 (by simp; exact ⟨fun e => HDP.out.2.1 e.symm, fun e => HDP.out.2.2 e.symm⟩) (fun k hk hm => by simp at hm; rcases hm with rfl | rfl; exact HDQ.out.2.1 hk; exact HDQ.out.2.2 hk)
  have HST : Hid (InT w1 pb S q c D a ms 0 w3) := hid ⟨by simpa using hp3, hd3', hfr3.mono (fun k hk _ => by simp at hk; rcases hk with h | h <;> simp [h])⟩
  obtain ⟨d0, _, _, _, _⟩ := hd3'.cells
  have d0' : w3.cell? ⟨D.db, 0, none⟩ = some (.pointer (some ⟨pb, 0, none⟩)) := d0
  obtain ⟨_, _, _, _, c4⟩ := hp3.cells
  rw [HN.out] at c4
  clear hg3 hg3' hf3 hd2' hd3' hfr3 hp3 HT2 HSS HD2 HF2 d0 hsp secb d1 d2 d3 d4
  go_wp2_with fail
  go_loopw [52, 7, 8] (fun t s7 s8 wr => ∃ j : Nat, j ≤ N ∧ t = .int .i64 (j : Int) ∧ Hid (InT w1 pb S q c D a ms j wr)) (fun t _ _ _ => N - (intOf t).toNat)
  case atStart => exact ⟨0, by omega, rfl, HST⟩
  case round =>
    clear HST d0' c4
    obtain ⟨j, hj, rfl, hin⟩ := hrel
    have hlen : ((S.ws.take j).map (turnW D.db a ms) ++ S.ws.drop j).length = N := by rw [List.length_append, List.length_map, List.length_take, List.length_drop, HN.out]; omega
    obtain ⟨_, _, _, _, c4⟩ := hin.out.pow.cells
    obtain ⟨d0, _, _, _, _⟩ := hin.out.dsk.cells
    have d0' : wr.cell? ⟨D.db, 0, none⟩ = some (.pointer (some ⟨pb, 0, none⟩)) := d0
    simp only [hlen] at c4
    clear d0
    by_cases hlt : j < N
    · have t1 : (j : Int) < (N : Int) := by omega
      obtain ⟨gq, rfl⟩ : ∃ gq, q = some ⟨gq, 0, none⟩ := by
        rcases hin.out.pow.shape with ⟨_, _, h0⟩ | h0
        · simp only [hlen] at h0; omega
        · exact h0
      obtain ⟨x, hx⟩ : ∃ x, S.ws[j]? = some x := ⟨_, List.getElem?_eq_getElem (by rw [HN.out]; exact hlt)⟩
      have hxl : x.bytes.length = 128 := HP.out.len x (List.mem_of_getElem? hx)
      have hgx : ((S.ws.take j).map (turnW D.db a ms) ++ S.ws.drop j)[j]? = some x := by
        rw [List.getElem?_append_right (by rw [List.length_map, List.length_take]; omega), List.length_map, List.length_take, HN.out, Nat.min_eq_left (by omega), Nat.sub_self, List.getElem?_drop, Nat.add_zero]
        exact hx
      have hrg := hin.out.pow.range hgx
      have hst : (S.ws.take (j + 1)).map (turnW D.db a ms) ++ S.ws.drop (j + 1) = ((S.ws.take j).map (turnW D.db a ms) ++ S.ws.drop j).set j (turnW D.db a ms x) := by
        obtain ⟨h1, h2⟩ := List.getElem?_eq_some_iff.1 hx
        rw [List.take_succ_eq_append_getElem h1, h2, List.map_append, List.drop_eq_getElem_cons h1, h2, List.set_append_right _ _ (by rw [List.length_map, List.length_take]; omega), List.length_map, List.length_take, HN.out, Nat.min_eq_left (by omega), Nat.sub_self, List.set_cons_zero]
        simp
      have x0 : wr.cell? ⟨gq, j * 130, none⟩ = some (.pointer (some ⟨x.disk, 0, none⟩)) := hrg 0 _ rfl
      have x1 : wr.cell? ⟨gq, j * 130 + 1, none⟩ = some (.int .i64 (x.at_ : Int)) := hrg 1 _ rfl
      by_cases hsame : x.disk = D.db ∧ x.at_ = a
      · rw [hsame.1] at x0
        rw [hsame.2] at x1
        have heq := eql_same D.db wr
        obtain ⟨C, hC1, hC2, hC3, hC4, hC5⟩ := hin.out.pow.block
        simp only [hlen] at hC3 hC4
        have hrow : ((C.drop (j * 130 + 2)).take 128) = bv x.bytes := by
          have h1 := rows_at hin.out.pow.len (by show j < _; rw [hlen]; exact hlt)
          have h2 : ((S.ws.take j).map (turnW D.db a ms) ++ S.ws.drop j)[j]'(by rw [hlen]; exact hlt) = x := (List.getElem?_eq_some_iff.1 hgx).2
          rw [h2] at h1
          simp only at h1
          rw [← hC3, List.drop_take, List.take_take, Nat.min_eq_left (by omega)] at h1
          have h3 := congrArg (List.drop 2) h1
          rw [List.drop_take, List.drop_drop] at h3
          exact h3
        have HTU := hid (turn_any gq (j * 130 + 2) 128 C 65 x.bytes p cm ms wr hC1 (by omega) hrow hxl HMS.out (by
          rcases HRD.out with h | ⟨g, o, rfl, hc⟩
          · exact Or.inl h
          · by_cases hne : ms = []
            · exact Or.inl hne
            · refine rd_same (Or.inr ⟨g, o, rfl, hc⟩) (hin.out.fr.block g (World.block_lt_of_cell? w1 _ (hc 0 (List.length_pos_iff.2 hne))) (fun hm => ?_))
              have h4 := HAP.out hne g (by simp [blk])
              simp only [List.cons_append, List.nil_append, List.mem_cons] at hm
              rcases hm with h | h | h
              · exact h4.1 h
              · exact h4.2.1 h
              · exact h4.2.2 h) (fun hne hmm => (HAP.out hne _ hmm).2.2 (by simp [blk])))
        rw [HM.out] at HTU
        have HFIN : Hid (∀ w', w'.heap[gq]? = some (.cells (C.take (j * 130 + 2) ++ bv (xr x.bytes ms) ++ C.drop (j * 130 + 2 + 128)).toArray 65 (0, 0)) → Frm [gq] wr w' → InT w1 pb S (some ⟨gq, 0, none⟩) c D a ms (j + 1) w') := hid (fun w' h1 h2 => by
          have hpw := hin.out.pow.setW (x := x) hgx (xr_length hxl HMS.out) hC2 (by simp only [hlen]; exact hC3) (by simp only [hlen]; exact hC4) hC5 h1 h2
          refine ⟨?_, hin.out.dsk.kept h2 (by simp; exact fun e => HDQ.out.1 (by simp [blk]; exact e)) (by simp; exact fun e => HDQ.out.2.1 (by simp [blk]; exact e)) (by simp; exact fun e => HDQ.out.2.2 (by simp [blk]; exact e)), hin.out.fr.trans h2 (fun k hk _ => by simp at hk; simp [blk, hk])⟩
          rw [hst]
          have e : turnW D.db a ms x = { x with bytes := xr x.bytes ms } := by unfold turnW; rw [if_pos hsame]
          rw [e]
          exact hpw)
        clear hx hxl hgx hrg hst hsame hC1 hC2 hC3 hC4 hC5 hrow hin hlen
        go_wp2_with fail
        refine HTU.out.mono ?_
        rintro e w5 ⟨rfl, hg5, hf5⟩
        have HIN := hid (HFIN.out _ hg5 hf5)
        clear hg5 hf5 HTU HFIN heq
        go_wp2_with fail
        go_roundw
        case rel => exact ⟨j + 1, by omega, by go_num, HIN⟩
        case measure => first | (simp [intOf]; done) | (simp [intOf]; omega)
      · have HIN : Hid (InT w1 pb S (some ⟨gq, 0, none⟩) c D a ms (j + 1) wr) := hid (by
          refine ⟨?_, hin.out.dsk, hin.out.fr⟩
          rw [hst]
          have e : turnW D.db a ms x = x := by unfold turnW; rw [if_neg hsame]
          have e2 : ((S.ws.take j).map (turnW D.db a ms) ++ S.ws.drop j).set j x = (S.ws.take j).map (turnW D.db a ms) ++ S.ws.drop j := by
            apply List.ext_getElem?
            intro k
            rw [List.getElem?_set]
            by_cases hk : j = k
            · subst hk; rw [if_pos rfl, if_pos (by rw [hlen]; exact hlt), hgx]
            · rw [if_neg hk]
          rw [e, e2]
          exact hin.out.pow)
        by_cases hdd : x.disk = D.db
        · have hat : (x.at_ : Int) ≠ (a : Int) := fun e => hsame ⟨hdd, by omega⟩
          have hb : ((x.at_ : Int) == (a : Int)) = false := by simpa using hat
          rw [hdd] at x0
          have heq := eql_same D.db wr
          clear hx hxl hgx hrg hst hsame hin hlen hdd hat
          go_wp2_with fail
          go_roundw
          case rel => exact ⟨j + 1, by omega, by go_num, HIN⟩
          case measure => first | (simp [intOf]; done) | (simp [intOf]; omega)
        · obtain ⟨o1, o2, o3, ca, ta, o4⟩ := HDS.out x (List.mem_of_getElem? hx)
          have heq := eql_other x.disk D.db hdd wr (hin.out.fr.heap o4 (by simp only [List.cons_append, List.nil_append, List.mem_cons, not_or]; exact ⟨o1, o2, o3⟩)) hin.out.dsk.row
          clear hx hxl hgx hrg hst hsame hin hlen hdd o1 o2 o3 o4
          go_wp2_with fail
          go_roundw
          case rel => exact ⟨j + 1, by omega, by go_num, HIN⟩
          case measure => first | (simp [intOf]; done) | (simp [intOf]; omega)
    · obtain rfl : j = N := by omega
      have hall : S.ws.take j = S.ws := List.take_of_length_le (by rw [HN.out]; omega)
      have hno : S.ws.drop j = [] := List.drop_eq_nil_of_le (by rw [HN.out]; omega)
      have hi := hin.out
      have HPW : Hid (IsPow wr pb (S.turn D.db a ms) q c) := hid (by
        have := hi.pow
        rw [hall, hno, List.append_nil] at this
        exact this)
      have HDK := hid hi.dsk
      have HFK := hid hi.fr
      clear hall hno hi hin hlen
      go_wp2_with fail
      go_returns
      exact ⟨rfl, HPW.out, HDK.out, HFK.out⟩
end Go.Proofs.Ytfclamndjnoopaa
