/- Disks and their power: Up. -/
import Derived.Test.YtfclamndjnoopaaDskM
namespace Go.Proofs.Ytfclamndjnoopaa
open Go.RowKit Go.Lib
set_option maxRecDepth 100000

theorem IsPow.range {w : World} {pb gq c : Nat} {S : PSt} (h : IsPow w pb S (some ⟨gq, 0, none⟩) c) {j : Nat} {X : Wt} (hX : S.ws[j]? = some X) : w.rangeAt gq (j * 130) X.row := by
  obtain ⟨hj, rfl⟩ := List.getElem?_eq_some_iff.1 hX
  have hl := h.len _ (List.getElem_mem hj)
  rcases h.own.2 with ⟨he, _⟩ | ⟨g, cp, cur, he, _, hg, hc, _, hs, ht⟩
  · simp at he
  · simp only [Value.slice.injEq, Option.some.injEq, Addr.mk.injEq, and_true, true_and] at he
    obtain ⟨rfl, rfl⟩ := he
    intro i v hv
    have hi : i < 130 := by have := (List.getElem?_eq_some_iff.1 hv).1; rwa [row_length hl] at this
    rw [cell_of_row _ _ _ _ _ _ hg]
    rw [← rows_at h.len hj, ← ht, List.getElem?_take, if_pos hi, List.getElem?_drop, List.getElem?_take, if_pos (by omega)] at hv
    simpa using hv
theorem IsPow.shape {w : World} {pb c : Nat} {S : PSt} {q : Option Addr} (h : IsPow w pb S q c) : (q = none ∧ c = 0 ∧ S.ws.length = 0) ∨ ∃ gq, q = some ⟨gq, 0, none⟩ := by
  rcases h.own.2 with ⟨e, h0⟩ | ⟨g, cp, cur, he, _⟩
  · simp at e; exact Or.inl ⟨e.1, e.2.2, h0⟩
  · simp at he; exact Or.inr ⟨g, he.1⟩
/-- Where Up stands: the power as it was, the disks turned. -/
structure InU (w : World) (pb : Nat) (S : PSt) (q : Option Addr) (c : Nat) (Ds : List DSt) (f : DSt → DSt) (w' : World) : Prop where
  pow : IsPow w' pb S q c
  dsk : ∀ (i : Nat) (D : DSt), Ds[i]? = some D → IsDisk w' pb (f D)
  fr : Frm (Ds.flatMap DSt.blks) w w'
theorem mem_blks {Ds : List DSt} {i : Nat} {D : DSt} (hi : Ds[i]? = some D) {k : Nat} (hk : k ∈ D.blks) : k ∈ Ds.flatMap DSt.blks := List.mem_flatMap.2 ⟨D, List.mem_of_getElem? hi, hk⟩
theorem InU.step {w w1 w2 : World} {pb : Nat} {S : PSt} {q : Option Addr} {c : Nat} {Ds : List DSt} {f f' : DSt → DSt} {i : Nat} {E : DSt} {T : List Nat} (hr : IsRack w pb S q c Ds) (h : InU w pb S q c Ds f w1) (hi : Ds[i]? = some E)
    (hd : IsDisk w2 pb (f' E)) (hf : Frm T w1 w2) (hT : ∀ k ∈ T, k ∈ E.blks) (hfb : ∀ D, (f D).blks = D.blks) (ho : ∀ D, D.db ≠ E.db → f' D = f D) : InU w pb S q c Ds f' w2 := by
  refine ⟨h.pow.kept hf (fun hm => hr.apP i E hi (hT _ hm)) (fun k hk hm => hr.apQ i E hi k hk (hT _ hm)), fun j D hj => ?_, h.fr.trans hf (fun k hk _ => mem_blks hi (hT k hk))⟩
  by_cases hij : i = j
  · subst hij; rw [hi] at hj; cases hj; exact hd
  · rw [ho D (fun e => hr.apD i j E D hi hj hij E.db (by simp [DSt.blks]) (by simp [DSt.blks, e]))]
    exact (h.dsk j D hj).keptB hf (fun k hk hm => by rw [hfb] at hk; exact hr.apD i j E D hi hj hij k (hT k hm) hk)
theorem InU.same {w w1 : World} {pb : Nat} {S : PSt} {q : Option Addr} {c : Nat} {Ds : List DSt} {f f' : DSt → DSt} (h : InU w pb S q c Ds f w1) (ho : ∀ D, f' D = f D) : InU w pb S q c Ds f' w1 :=
  ⟨h.pow, fun i D hi => by rw [ho]; exact h.dsk i D hi, h.fr⟩
/-- The disks behind j of those that wait, in the first round and in the second. -/
def up1 (S : PSt) (stay : List Bool) (j : Nat) (D : DSt) : DSt := { D with plat := over D.db D.plat (keptW stay (S.ws.take j)) }
def up2 (S : PSt) (stay : List Bool) (j : Nat) (D : DSt) : DSt := { D with plat := over D.db D.plat (keptW stay S.ws), seen := back D.db (over D.db D.plat (keptW stay S.ws)) D.seen (S.ws.take j) }
theorem up1_no {S : PSt} {stay : List Bool} {j : Nat} (h : j < S.ws.length) (hs : stay.getD j false = false) (D : DSt) : up1 S stay (j + 1) D = up1 S stay j D := by
  unfold up1; rw [keptW_succ stay h, hs]; simp
theorem up1_yes {S : PSt} {stay : List Bool} {j : Nat} {X : Wt} (hX : S.ws[j]? = some X) (hs : stay.getD j false = true) (D : DSt) : up1 S stay (j + 1) D = { D with plat := over D.db (up1 S stay j D).plat [X] } := by
  obtain ⟨h, rfl⟩ := List.getElem?_eq_some_iff.1 hX
  unfold up1; rw [keptW_succ stay h, hs, if_pos rfl, over_app]
theorem up2_succ {S : PSt} {stay : List Bool} {j : Nat} {X : Wt} (hX : S.ws[j]? = some X) (D : DSt) : up2 S stay (j + 1) D = { up2 S stay j D with seen := back D.db (up2 S stay j D).plat (up2 S stay j D).seen [X] } := by
  obtain ⟨h, rfl⟩ := List.getElem?_eq_some_iff.1 hX
  unfold up2; rw [take_succ_ws h, back_app]
theorem splice_bd {p z : List Int} {k : Nat} (hp : ∀ x ∈ p, 0 ≤ x ∧ x < 256) (hz : ∀ x ∈ z, 0 ≤ x ∧ x < 256) : ∀ x ∈ splice p k z, 0 ≤ x ∧ x < 256 := by
  intro x hx
  unfold splice at hx
  simp only [List.mem_append] at hx
  rcases hx with (h | h) | h
  · exact hp x (List.mem_of_mem_take h)
  · exact hz x h
  · exact hp x (List.mem_of_mem_drop h)
theorem IsRack.fits {w : World} {pb : Nat} {S : PSt} {q : Option Addr} {c : Nat} {Ds : List DSt} (h : IsRack w pb S q c Ds) {i : Nat} {D : DSt} (hi : Ds[i]? = some D) : Fits D.db D.n S.ws :=
  fun x hx hd => let ⟨a, b, _⟩ := h.at_of hi x hx hd; ⟨a, b⟩
theorem up2_all {w : World} {pb : Nat} {S : PSt} {q : Option Addr} {c : Nat} {Ds : List DSt} (h : IsRack w pb S q c Ds) (stay : List Bool) {N : Nat} (hN : S.ws.length = N) {i : Nat} {D : DSt} (hi : Ds[i]? = some D) : up2 S stay N D = DSt.up S stay D := by
  unfold up2 DSt.up
  rw [List.take_of_length_le (l := S.ws) (i := N) (by omega), h.inv i D hi, back_all (h.fits hi) (h.dsk i D hi).pn]
theorem foot_map {pb : Nat} {q : Option Addr} {Ds : List DSt} {f : DSt → DSt} (hf : ∀ D, (f D).blks = D.blks) : foot pb q (Ds.map f) = foot pb q Ds := by
  unfold foot
  rw [List.flatMap_map]
  congr 2
  exact congrArg (fun g => Ds.flatMap g) (funext hf)
theorem upRack {w wr w' : World} {pb : Nat} {S : PSt} {q : Option Addr} {c N : Nat} {Ds : List DSt} {stay : List Bool} (h : IsRack w pb S q c Ds) (hin : InU w pb S q c Ds (up2 S stay N) wr) (hN : S.ws.length = N)
    (hr : w'.heap[pb]? = some (.cells #[.bool false, .bool false, .int .i64 0, .int .i64 S.writes, .slice none 0 0] 59 (0, 0))) (hf : Frm [pb] wr w') :
    IsRack w' pb S.up none 0 (Ds.map (DSt.up S stay)) ∧ Stp (foot pb q Ds) (foot pb none (Ds.map (DSt.up S stay))) w w' := by
  have hfb : ∀ D, (DSt.up S stay D).blks = D.blks := fun _ => rfl
  have get : ∀ (i : Nat) (D' : DSt), (Ds.map (DSt.up S stay))[i]? = some D' → ∃ D, Ds[i]? = some D ∧ D' = DSt.up S stay D := fun i D' hi => by
    rw [List.getElem?_map] at hi
    cases e : Ds[i]? with
    | none => rw [e] at hi; simp at hi
    | some D => rw [e] at hi; simp at hi; exact ⟨D, rfl, hi.symm⟩
  have hwb := h.pow.wb
  refine ⟨⟨⟨hr, ⟨rfl, Or.inl ⟨rfl, rfl⟩⟩, by simp [PSt.up], by simp [PSt.up], ?_, by simp [blk]⟩, ?_, ?_, ?_, ?_, by simp [PSt.up], by simp [PSt.up], ?_⟩, ?_, ?_⟩
  · show 0 ≤ S.writes ∧ S.writes + (0 : Nat) ≤ 500000000000
    omega
  · intro i D' hi
    obtain ⟨D, hD, rfl⟩ := get i D' hi
    rw [← up2_all h stay hN hD]
    exact (hin.dsk i D hD).keptB hf (fun k hk hm => by simp at hm; subst hm; exact h.apP i D hD hk)
  · intro i D' hi
    obtain ⟨D, hD, rfl⟩ := get i D' hi
    exact h.apP i D hD
  · intro i D' hi k hk
    simp [blk] at hk
  · intro i j A B ha hb hne
    obtain ⟨D, hD, rfl⟩ := get i A ha
    obtain ⟨E, hE, rfl⟩ := get j B hb
    exact h.apD i j D E hD hE hne
  · intro i D' hi
    obtain ⟨D, hD, rfl⟩ := get i D' hi
    rfl
  · refine (hin.fr.mono (T := foot pb q Ds) (fun k hk _ => ?_)).trans hf (fun k hk _ => by simp at hk; subst hk; exact mem_foot.2 (Or.inl rfl))
    unfold foot
    simp only [List.mem_cons, List.mem_append]
    exact Or.inr (Or.inr hk)
  · intro k hk
    rw [foot_map hfb, mem_foot] at hk
    refine Or.inl (mem_foot.2 ?_)
    rcases hk with h | h | h
    · exact Or.inl h
    · simp [blk] at h
    · exact Or.inr (Or.inr h)
set_option maxHeartbeats 3200000 in
theorem up_any (pb : Nat) (S : PSt) (q : Option Addr) (c : Nat) (Ds : List DSt) (p : Option Addr) (stay : List Bool) (cc : Nat) (w : World) (h : IsRack w pb S q c Ds) (hst : Rv w p (stay.map Value.bool)) (hap : stay ≠ [] → ∀ k ∈ blk p, k ∉ foot pb q Ds) (hlen : stay.length ≤ 140737488355328) :
    Calls Try.prog 17 #[.pointer (some ⟨pb, 0, none⟩), .slice p stay.length cc] w fun e w' => e = .returned (.tuple #[]) ∧ IsRack w' pb S.up none 0 (Ds.map (DSt.up S stay)) ∧ Stp (foot pb q Ds) (foot pb none (Ds.map (DSt.up S stay))) w w' := by
  have H := hid h
  have HST := hid hst
  have HAP := hid hap
  obtain ⟨N, hN⟩ : ∃ N, S.ws.length = N := ⟨_, rfl⟩
  have HN := hid hN
  have hNm : N ≤ 500000000000 := by have := h.pow.wb; omega
  obtain ⟨PO, hPO⟩ : ∃ PO : Ending → World → Prop, (fun e w' => e = .returned (.tuple #[]) ∧ IsRack w' pb S.up none 0 (Ds.map (DSt.up S stay)) ∧ Stp (foot pb q Ds) (foot pb none (Ds.map (DSt.up S stay))) w w') = PO := ⟨_, rfl⟩
  rw [hPO]
  have HPO := hid hPO
  have HI : Hid (InU w pb S q c Ds (up1 S stay 0) w) := hid ⟨h.pow, fun i D hi => by
    have e : up1 S stay 0 D = D := by simp [up1, keptW, over]
    rw [e]; exact h.dsk i D hi, Frm.refl _ _⟩
  obtain ⟨c0, c1, c2, c3, c4⟩ := h.pow.cells
  rw [hN] at c4
  clear h hst hap hPO hN c0 c1 c2 c3
  go_enter Try.func17, Try.ntmps17
  go_wp2_with fail
  go_loopw [13, 4, 5] (fun i s4 s5 wr => ∃ j : Nat, j ≤ N ∧ i = .int .i64 (j : Int) ∧ Hid (InU w pb S q c Ds (up1 S stay j) wr)) (fun i _ _ _ => N - (intOf i).toNat)
  case atStart => exact ⟨0, by omega, rfl, HI⟩
  case round =>
    clear HI c4
    obtain ⟨j, hj, rfl, hin⟩ := hrel
    obtain ⟨k0, k1, k2, k3, k4⟩ := hin.out.pow.cells
    rw [HN.out] at k4
    clear k0 k1 k2 k3
    by_cases hlt : j < N
    · have t1 : (j : Int) < (N : Int) := by omega
      have hjl : j < S.ws.length := by rw [HN.out]; exact hlt
      have HJL := hid hjl
      obtain ⟨gq, rfl⟩ : ∃ gq, q = some ⟨gq, 0, none⟩ := by
        rcases hin.out.pow.shape with ⟨_, _, h0⟩ | h0
        · omega
        · exact h0
      obtain ⟨X, hX⟩ : ∃ X, S.ws[j]? = some X := ⟨_, List.getElem?_eq_getElem hjl⟩
      have hXm : X ∈ S.ws := List.mem_of_getElem? hX
      have hrg := hin.out.pow.range hX
      obtain ⟨hxz, i, E, hE, hxd, hxa⟩ := H.out.wt X hXm
      have x0 : wr.cell? ⟨gq, j * 130, none⟩ = some (.pointer (some ⟨E.db, 0, none⟩)) := by rw [← hxd]; exact hrg 0 _ rfl
      have x1 : wr.cell? ⟨gq, j * 130 + 1, none⟩ = some (.int .i64 (X.at_ : Int)) := hrg 1 _ rfl
      have HX := hid hX
      have HRG := hid hrg
      have HXL := hid (H.out.pow.len X hXm)
      have HXZ := hid hxz
      have HXD := hid hxd
      have HXA := hid hxa
      have HE := hid hE
      clear hX hXm hrg hxz hxd hxa hE hjl
      by_cases hs : stay.getD j false = true
      · have hjs : j < stay.length := by
          rcases Nat.lt_or_ge j stay.length with h | h
          · exact h
          · simp [List.getD, List.getElem?_eq_none h] at hs
        obtain ⟨g, o, rfl, hc⟩ : ∃ g o, p = some ⟨g, o, none⟩ ∧ wr.cell? ⟨g, o + j, none⟩ = some (.bool true) := by
          rcases HST.out with e | ⟨g, o, rfl, hc⟩
          · simp at e; subst e; simp at hjs
          · refine ⟨g, o, rfl, ?_⟩
            have hn : g ∉ Ds.flatMap DSt.blks := fun e => HAP.out (by intro e; subst e; simp at hjs) g (by simp [blk]) (by simp [foot]; exact Or.inr (Or.inr (by simpa using e)))
            have hcj := hc j (.bool true) (by
              rw [List.getElem?_map, List.getElem?_eq_getElem hjs]
              simp [List.getD, List.getElem?_eq_getElem hjs] at hs
              simp [hs])
            rw [hin.out.fr.cell (p := ⟨g, o + j, none⟩) (World.block_lt_of_cell? w _ hcj) hn]
            exact hcj
        have t2 : (j : Int) < (stay.length : Int) := by omega
        have hdE := hin.out.dsk i E HE.out
        have e3 : wr.cell? ⟨E.db, 3, none⟩ = some (.slice (some ⟨E.gp, 0, none⟩) (E.n * 128) (E.n * 128)) := hdE.cells.2.2.2.1
        have hn2 : E.n ≤ 8192 := hdE.n2
        have HSE := hid (fun W => sector_any E.gp 0 (E.n * 128) (E.n * 128) X.at_ (by have := HXA.out; omega) (Nat.le_refl _) (by omega) W)
        simp only [Nat.zero_add] at HSE
        have HSS := hid hs
        clear hdE hs
        go_wp2_with fail
        go_still_tail 16, (by kernel_rfl)
        refine wpStill_step (fun K hK => ?_)
        go_simp
        refine ⟨_, HSE.out _, hK _ ?_⟩
        clear hK K
        repeat still_step
        refine wpStill_nil ?_
        change wpList _ _ _ _ _ wr.drew
        have hfd : Frm [] wr wr.drew := (Frm.refl _ _).drew
        obtain ⟨w2, hw2⟩ : ∃ W, wr.drew = W := ⟨_, rfl⟩
        rw [hw2] at hfd ⊢
        have hdE2 := (hin.out.dsk i E HE.out).kept hfd (by simp) (by simp) (by simp)
        have HD2 := hid hdE2
        have HFD := hid hfd
        have HRX : Hid (Rd w2 (some ⟨gq, j * 130 + 2, none⟩) X.bytes) := hid (Or.inr ⟨gq, j * 130 + 2, rfl, fun i hi => by
          have h := HRG.out (i + 1 + 1) (.int .u8 (X.bytes.getD i 0)) (by
            unfold Wt.row
            rw [List.getElem?_cons_succ, List.getElem?_cons_succ]
            exact bv_get hi)
          rw [← hw2, show j * 130 + 2 + i = j * 130 + (i + 1 + 1) by omega]
          exact h⟩)
        have HPL : Hid ((up1 S stay j E).plat.length = E.n * 128) := hid hdE2.pn
        clear hw2 hfd hdE2 HSE hc x0 x1 e3 k4
        go_wp2_with (refine wpList_copyV rfl _ _ 22 rfl 5 5 Try.underlying22 infoB 128 (E.n * 128 - X.at_ * 128) E.gp (X.at_ * 128) rfl (bv (up1 S stay j E).plat) HD2.out.pl (by have := HPL.out; have := HXA.out; simp [bv]; omega) (by omega) (some ⟨gq, j * 130 + 2, none⟩) 128 X.bytes rfl HRX.out HXL.out ?_)
        intro w3 hpl hf3
        have HIN : Hid (InU w pb S (some ⟨gq, 0, none⟩) c Ds (up1 S stay (j + 1)) w3) := hid (by
          refine InU.step H.out hin.out HE.out ?_ ((HFD.out.mono (by simp)).trans hf3.out (fun i hi hl => hi)) (fun k hk => by simp at hk; subst hk; simp [DSt.blks]) (fun _ => rfl) (fun D hD => by rw [up1_yes HX.out HSS.out, over_other _ (by rw [HXD.out]; exact fun e => hD e.symm)]; rfl)
          have hd := HD2.out
          rw [up1_yes HX.out HSS.out, over_same _ HXD.out]
          have h := hpl.out
          have e : (bv (up1 S stay j E).plat).take (X.at_ * 128) ++ (bv X.bytes ++ (bv (up1 S stay j E).plat).drop (X.at_ * 128 + 128)) = bv (splice (up1 S stay j E).plat (X.at_ * 128) X.bytes) := by
            unfold splice
            rw [HXL.out]
            simp [bv, List.map_take, List.map_drop]
          rw [e] at h
          exact ⟨hf3.out.heap hd.row (by simp; exact hd.a2), h, hf3.out.heap hd.se (by simp; exact fun h => hd.a1 h.symm), by show (splice _ _ _).length = _; rw [splice_length (by rw [HXL.out, HPL.out]; have := HXA.out; omega), HPL.out], hd.sn, splice_bd hd.pz HXZ.out, hd.sz, hd.n1, hd.n2, hd.a1, hd.a2, hd.a3⟩)
        clear hpl hf3 HD2 HFD HRX HPL hin HX HRG HXL HXZ HXD HXA HE HSS HJL
        go_wp2_with fail
        go_roundw
        case rel => exact ⟨j + 1, by omega, by go_num, HIN⟩
        case measure => simp [intOf]; omega
      · have HIN : Hid (InU w pb S (some ⟨gq, 0, none⟩) c Ds (up1 S stay (j + 1)) wr) := hid (hin.out.same (fun D => up1_no HJL.out (by simpa using hs) D))
        by_cases hjs : j < stay.length
        · obtain ⟨g, o, rfl, hc⟩ : ∃ g o, p = some ⟨g, o, none⟩ ∧ wr.cell? ⟨g, o + j, none⟩ = some (.bool false) := by
            rcases HST.out with e | ⟨g, o, rfl, hc⟩
            · simp at e; subst e; simp at hjs
            · refine ⟨g, o, rfl, ?_⟩
              have hn : g ∉ Ds.flatMap DSt.blks := fun e => HAP.out (by intro e; subst e; simp at hjs) g (by simp [blk]) (by simp [foot]; exact Or.inr (Or.inr (by simpa using e)))
              have hcj := hc j (.bool false) (by
                rw [List.getElem?_map, List.getElem?_eq_getElem hjs]
                simp [List.getD, List.getElem?_eq_getElem hjs] at hs
                simp [hs])
              rw [hin.out.fr.cell (p := ⟨g, o + j, none⟩) (World.block_lt_of_cell? w _ hcj) hn]
              exact hcj
          have t2 : (j : Int) < (stay.length : Int) := by omega
          clear hs hin HX HRG HXL HXZ HXD HXA HE HJL x0 x1
          go_wp2_with fail
          go_roundw
          case rel => exact ⟨j + 1, by omega, by go_num, HIN⟩
          case measure => simp [intOf]; omega
        · have t2 : ¬ (j : Int) < (stay.length : Int) := by omega
          clear hs hin HX HRG HXL HXZ HXD HXA HE HJL x0 x1
          go_wp2_with fail
          go_roundw
          case rel => exact ⟨j + 1, by omega, by go_num, HIN⟩
          case measure => simp [intOf]; omega
    · obtain rfl : j = N := by omega
      have HI2 : Hid (InU w pb S q c Ds (up2 S stay 0) wr) := hid (hin.out.same (fun D => by
        unfold up1 up2
        rw [List.take_of_length_le (l := S.ws) (i := j) (by rw [HN.out]; omega)]
        simp [back]))
      clear hin
      go_wp2_with fail
      obtain ⟨c0, c1, c2, c3, c4⟩ := HI2.out.pow.cells
      rw [HN.out] at c4
      clear k4 c0 c1 c2 c3
      go_wp2_with fail
      go_loopw [55, 6, 7] (fun i s6 s7 wr => ∃ t : Nat, t ≤ j ∧ i = .int .i64 (t : Int) ∧ Hid (InU w pb S q c Ds (up2 S stay t) wr)) (fun i _ _ _ => j - (intOf i).toNat)
      case atStart => exact ⟨0, by omega, rfl, HI2⟩
      case round =>
        rename_i wr0 _ _
        clear HI2 c4
        obtain ⟨t, ht, rfl, hin⟩ := hrel
        obtain ⟨k0, k1, k2, k3, k4⟩ := hin.out.pow.cells
        rw [HN.out] at k4
        by_cases hlt : t < j
        · clear k0 k1 k2 k3
          have t1 : (t : Int) < (j : Int) := by omega
          have hjl : t < S.ws.length := by rw [HN.out]; exact hlt
          obtain ⟨gq, rfl⟩ : ∃ gq, q = some ⟨gq, 0, none⟩ := by
            rcases hin.out.pow.shape with ⟨_, _, h0⟩ | h0
            · omega
            · exact h0
          obtain ⟨X, hX⟩ : ∃ X, S.ws[t]? = some X := ⟨_, List.getElem?_eq_getElem hjl⟩
          have hXm : X ∈ S.ws := List.mem_of_getElem? hX
          have hrg := hin.out.pow.range hX
          obtain ⟨hxz, i, E, hE, hxd, hxa⟩ := H.out.wt X hXm
          have x0 : wr.cell? ⟨gq, t * 130, none⟩ = some (.pointer (some ⟨E.db, 0, none⟩)) := by rw [← hxd]; exact hrg 0 _ rfl
          have x1 : wr.cell? ⟨gq, t * 130 + 1, none⟩ = some (.int .i64 (X.at_ : Int)) := hrg 1 _ rfl
          have HX := hid hX
          have HXD := hid hxd
          have HXA := hid hxa
          have HE := hid hE
          have hdE := hin.out.dsk i E HE.out
          have e3 : wr.cell? ⟨E.db, 3, none⟩ = some (.slice (some ⟨E.gp, 0, none⟩) (E.n * 128) (E.n * 128)) := hdE.cells.2.2.2.1
          have e4 : wr.cell? ⟨E.db, 4, none⟩ = some (.slice (some ⟨E.gs, 0, none⟩) (E.n * 128) (E.n * 128)) := hdE.cells.2.2.2.2
          have hn2 : E.n ≤ 8192 := hdE.n2
          have HSE := hid (fun W => sector_any E.gp 0 (E.n * 128) (E.n * 128) X.at_ (by have := HXA.out; omega) (Nat.le_refl _) (by omega) W)
          have HSF := hid (fun W => sector_any E.gs 0 (E.n * 128) (E.n * 128) X.at_ (by have := HXA.out; omega) (Nat.le_refl _) (by omega) W)
          simp only [Nat.zero_add] at HSE HSF
          clear hdE hX hXm hrg hxz hxd hxa hE hjl
          go_wp2_with fail
          go_still_tail 24, (by kernel_rfl)
          refine wpStill_step (fun K hK => ?_)
          go_simp
          refine ⟨_, HSF.out _, hK _ ?_⟩
          clear hK K
          repeat still_step
          refine wpStill_step (fun K hK => ?_)
          go_simp
          refine ⟨_, HSE.out _, hK _ ?_⟩
          clear hK K
          repeat still_step
          refine wpStill_nil ?_
          change wpList _ _ _ _ _ wr.drew
          have hfd : Frm [] wr wr.drew := (Frm.refl _ _).drew
          obtain ⟨w2, hw2⟩ : ∃ W, wr.drew = W := ⟨_, rfl⟩
          rw [hw2] at hfd ⊢
          have hdE2 := (hin.out.dsk i E HE.out).kept hfd (by simp) (by simp) (by simp)
          have HD2 := hid hdE2
          have HFD := hid hfd
          have HPL : Hid ((up2 S stay t E).plat.length = E.n * 128) := hid hdE2.pn
          have HSL : Hid ((up2 S stay t E).seen.length = E.n * 128) := hid hdE2.sn
          have HXL : Hid ((sec (up2 S stay t E).plat X.at_).length = 128) := hid (sec_length HPL.out HXA.out)
          have HRX : Hid (Rd w2 (some ⟨E.gp, X.at_ * 128, none⟩) (sec (up2 S stay t E).plat X.at_)) := hid (by
            have h := Rd.take (Rd.drop (rd_blockD hdE2.pl) (X.at_ * 128)) 128
            rwa [Nat.zero_add] at h)
          clear hw2 hfd hdE2 HSE HSF x0 x1 e3 e4 k4
          go_wp2_with (refine wpList_copyV rfl _ _ 22 rfl 5 5 Try.underlying22 infoB 128 (E.n * 128 - X.at_ * 128) E.gs (X.at_ * 128) rfl (bv (up2 S stay t E).seen) HD2.out.se (by have := HSL.out; have := HXA.out; simp [bv]; omega) (by omega) (some ⟨E.gp, X.at_ * 128, none⟩) (E.n * 128 - X.at_ * 128) (sec (up2 S stay t E).plat X.at_) rfl HRX.out HXL.out ?_)
          intro w3 hse hf3
          have HIN : Hid (InU w pb S (some ⟨gq, 0, none⟩) c Ds (up2 S stay (t + 1)) w3) := hid (by
            refine InU.step H.out hin.out HE.out ?_ ((HFD.out.mono (by simp)).trans hf3.out (fun i hi hl => hi)) (fun k hk => by simp at hk; subst hk; simp [DSt.blks]) (fun _ => rfl) (fun D hD => by rw [up2_succ HX.out, back_other _ _ (by rw [HXD.out]; exact fun e => hD e.symm)])
            have hd := HD2.out
            rw [up2_succ HX.out, back_same _ _ HXD.out]
            have h := hse.out
            have e : (bv (up2 S stay t E).seen).take (X.at_ * 128) ++ (bv (sec (up2 S stay t E).plat X.at_) ++ (bv (up2 S stay t E).seen).drop (X.at_ * 128 + 128)) = bv (splice (up2 S stay t E).seen (X.at_ * 128) (sec (up2 S stay t E).plat X.at_)) := by
              unfold splice
              rw [HXL.out]
              simp [bv, List.map_take, List.map_drop]
            rw [e] at h
            exact ⟨hf3.out.heap hd.row (by simp; exact hd.a3), hf3.out.heap hd.pl (by simp; exact hd.a1), h, hd.pn, (splice_length (by rw [HXL.out, HSL.out]; have := HXA.out; omega)).trans HSL.out, hd.pz, splice_bd hd.sz (fun z hz => hd.pz z (List.mem_of_mem_drop (List.mem_of_mem_take hz))), hd.n1, hd.n2, hd.a1, hd.a2, hd.a3⟩)
          clear hse hf3 HD2 HFD HRX HPL HSL hin HX HXL HXD HXA HE
          go_wp2_with fail
          go_roundw
          case rel => exact ⟨t + 1, by omega, by go_num, HIN⟩
          case measure => simp [intOf]; omega
        · obtain rfl : t = j := by omega
          have z0 := hin.out.pow.froz 0
          have z1 := hin.out.pow.froz 1
          have z2 := hin.out.pow.froz 2
          have z4 := hin.out.pow.froz 4
          go_wp2_with fail
          go_returns
          rw [← HPO.out]
          obtain ⟨h1, h2⟩ := sets_row pb 59 [(4, .slice none 0 0), (0, .bool false), (1, .bool false), (2, .int .i64 0)] wr _ hin.out.pow.row
          exact ⟨rfl, upRack H.out hin.out HN.out h1 h2⟩
end Go.Proofs.Ytfclamndjnoopaa
