/- Disks and their power: Write, of any bytes, over a rack. -/
import Derived.Test.YtfclamndjnoopaaDskK
namespace Go.Proofs.Ytfclamndjnoopaa
open Go.RowKit Go.Lib
set_option maxRecDepth 100000

/-- How many sectors are asked for. -/
def manyW (n : Nat) : Int := if n % 128 = 0 then ((n / 128 : Nat) : Int) else -1
set_option maxHeartbeats 1600000 in
theorem write_bad (pb : Nat) (S : PSt) (q : Option Addr) (c : Nat) (D : DSt) (at_ : Int) (p : Option Addr) (n cc : Nat) (hn : n ≤ 140737488355328) (w : World) (hp : IsPow w pb S q c) (hd : IsDisk w pb D) (ha : -9223372036854775808 ≤ at_ ∧ at_ ≤ 9223372036854775807) (hbad : askE S D at_ (manyW n) ≠ 0) :
    Calls Try.prog 11 #[.pointer (some ⟨D.db, 0, none⟩), .int .i64 at_, .slice p n cc] w fun e w' => e = .returned (.int .i64 (askE S D at_ (manyW n))) ∧ w' = w := by
  have hm : -9223372036854775808 ≤ manyW n ∧ manyW n ≤ 9223372036854775807 := by unfold manyW; split <;> omega
  have HA := hid (ask_any pb S q c D at_ (manyW n) w hp hd ha hm)
  obtain ⟨C, hC⟩ : ∃ C, askE S D at_ (manyW n) = C := ⟨_, rfl⟩
  rw [hC] at HA hbad ⊢
  have hq1 : (n : Int).tdiv 128 = ((n / 128 : Nat) : Int) := by rw [Int.tdiv_eq_ediv_of_nonneg (by omega)]; omega
  have hb0 : (C != 0) = true := by simpa using hbad
  clear hp hd hC hm hbad ha
  by_cases h0 : n % 128 = 0
  · have hq2 : (n : Int).tmod 128 = 0 := by rw [Int.tmod_eq_emod_of_nonneg (by omega)]; omega
    have e : manyW n = ((n / 128 : Nat) : Int) := by unfold manyW; rw [if_pos h0]
    rw [e] at HA
    clear e h0
    go_enter Try.func11, Try.ntmps11
    go_wp2_with fail
    refine HA.out.mono ?_
    rintro e w1 ⟨rfl, rfl⟩
    go_wp2_with fail
    go_returns
    exact ⟨rfl, rfl⟩
  · obtain ⟨r, hr⟩ : ∃ r, (n : Int).tmod 128 = r := ⟨_, rfl⟩
    have hr0 : r ≠ 0 := by rw [← hr, Int.tmod_eq_emod_of_nonneg (by omega)]; omega
    have hq3 : (r != 0) = true := by simpa using hr0
    have e : manyW n = -1 := by unfold manyW; rw [if_neg h0]
    rw [e] at HA
    clear e h0
    go_enter Try.func11, Try.ntmps11
    go_wp2_with fail
    refine HA.out.mono ?_
    rintro e w1 ⟨rfl, rfl⟩
    go_wp2_with fail
    go_returns
    exact ⟨rfl, rfl⟩
set_option maxHeartbeats 1600000 in
theorem write_empty (pb : Nat) (S : PSt) (q : Option Addr) (c : Nat) (D : DSt) (at_ : Int) (p : Option Addr) (cc : Nat) (w : World) (hp : IsPow w pb S q c) (hd : IsDisk w pb D) (ha : -9223372036854775808 ≤ at_ ∧ at_ ≤ 9223372036854775807) (hgood : askE S D at_ 0 = 0) :
    Calls Try.prog 11 #[.pointer (some ⟨D.db, 0, none⟩), .int .i64 at_, .slice p 0 cc] w fun e w' => e = .returned (.int .i64 0) ∧ w' = w := by
  have HA := hid (ask_any pb S q c D at_ 0 w hp hd ha (by omega))
  rw [hgood] at HA
  clear hp hd ha hgood
  go_enter Try.func11, Try.ntmps11
  go_wp2_with fail
  refine HA.out.mono ?_
  rintro e w1 ⟨rfl, rfl⟩
  go_wp2_with fail
  go_loopw [26] (fun i wr => i = .int .i64 0 ∧ wr = w1) (fun _ _ => 0)
  case atStart => exact ⟨rfl, rfl⟩
  case round =>
    obtain ⟨rfl, rfl⟩ := hrel
    go_wp2_with fail
    go_returns
    exact ⟨rfl, rfl⟩
/-- The writes of sectors that come of a Write. -/
def wts (D : DSt) (at_ : Nat) (bs : List Int) (j : Nat) : List Wt := (List.range j).map fun i => ⟨D.db, at_ + i, sec bs i⟩
theorem wts_succ (D : DSt) (at_ : Nat) (bs : List Int) (j : Nat) : wts D at_ bs (j + 1) = wts D at_ bs j ++ [⟨D.db, at_ + j, sec bs j⟩] := by simp [wts, List.range_succ]
theorem wts_length (D : DSt) (at_ : Nat) (bs : List Int) (j : Nat) : (wts D at_ bs j).length = j := by simp [wts]
def PSt.wrote (S : PSt) (D : DSt) (at_ : Nat) (bs : List Int) (j : Nat) : PSt := { S with left := if S.bounded then S.left - j else S.left, writes := S.writes + j, ws := S.ws ++ wts D at_ bs j }
/-- How many of the sectors are written. -/
def jW (S : PSt) (m : Nat) : Nat := if S.bounded then min m S.left.toNat else m
theorem stW_wrote (S : PSt) (D : DSt) (at_ : Nat) (bs : List Int) : ∀ j, (∀ i, i < j → (spendS (stW S D at_ bs i).1).1 = true) → (stW S D at_ bs j).1 = S.wrote D at_ bs j ∧ (stW S D at_ bs j).2 = over D.db D.seen (wts D at_ bs j) := by
  intro j
  induction j with
  | zero =>
    intro _
    refine ⟨?_, rfl⟩
    unfold PSt.wrote
    cases hb : S.bounded <;> simp [stW, wts]
    all_goals (cases S; simp_all)
  | succ j ih =>
    intro h
    obtain ⟨i1, i2⟩ := ih (fun i hi => h i (by omega))
    have hs := h j (by omega)
    have hb : ¬ ((S.wrote D at_ bs j).bounded = true ∧ (S.wrote D at_ bs j).left = 0) := by
      intro hc
      rw [i1] at hs
      unfold spendS at hs
      rw [if_pos hc] at hs
      exact Bool.noConfusion hs
    refine ⟨?_, ?_⟩
    · show ({ (spendS (stW S D at_ bs j).1).2 with ws := (stW S D at_ bs j).1.ws ++ [⟨D.db, at_ + j, sec bs j⟩] } : PSt) = _
      rw [i1]
      unfold spendS
      rw [if_neg hb]
      simp only [PSt.wrote, wts_succ, PSt.mk.injEq, true_and]
      refine ⟨?_, by omega, by simp⟩
      split <;> omega
    · show splice (stW S D at_ bs j).2 ((at_ + j) * 128) (sec bs j) = _
      rw [i2, wts_succ, over_app]
      exact (over_same (x := ⟨D.db, at_ + j, sec bs j⟩) _ rfl).symm
theorem over_wts {db : Nat} {D : DSt} (h : db ≠ D.db) (at_ : Nat) (bs p : List Int) (ws : List Wt) (j : Nat) : over db p (ws ++ wts D at_ bs j) = over db p ws := by
  rw [over_app]
  induction j with
  | zero => rfl
  | succ j ih => rw [wts_succ, over_app, ih, over_other _ (fun e => h e.symm)]
/-- What Write answers, and what it leaves. -/
def wrAsk (S : PSt) (D : DSt) (at_ : Int) (bs : List Int) : Int := askE S D at_ (manyW bs.length)
def wrE (S : PSt) (D : DSt) (at_ : Int) (bs : List Int) : Int := if wrAsk S D at_ bs ≠ 0 then wrAsk S D at_ bs else if jW S (bs.length / 128) = bs.length / 128 then 0 else 5
def PSt.wr (S : PSt) (D : DSt) (at_ : Int) (bs : List Int) : PSt :=
  if wrAsk S D at_ bs ≠ 0 then S else { S.wrote D at_.toNat bs (jW S (bs.length / 128)) with out := !decide (jW S (bs.length / 128) = bs.length / 128) }
def DSt.wr (D : DSt) (S : PSt) (at_ : Int) (bs : List Int) : DSt := { D with seen := over D.db D.plat (S.wr D at_ bs).ws }
theorem wrAsk_zero {S : PSt} {D : DSt} {at_ : Int} {bs : List Int} (h : wrAsk S D at_ bs = 0) : S.out = false ∧ D.failed = false ∧ 0 ≤ at_ ∧ bs.length % 128 = 0 ∧ ((bs.length / 128 : Nat) : Int) ≤ D.n ∧ at_ + (bs.length / 128 : Nat) ≤ D.n := by
  unfold wrAsk askE at h
  cases ho : S.out with
  | true => rw [ho] at h; simp at h
  | false =>
    cases hf : D.failed with
    | true => rw [ho, hf] at h; simp at h
    | false =>
      rw [ho, hf] at h
      simp only [Bool.false_eq_true, if_false] at h
      split at h
      · omega
      · rename_i hc
        unfold manyW at hc
        split at hc
        · refine ⟨rfl, rfl, ?_, ?_, ?_, ?_⟩ <;> omega
        · omega
/-- A slice of bytes that lies nowhere in the rack. -/
structure InB (w : World) (F : List Nat) (p : Option Addr) (bs : List Int) : Prop where
  rd : Rd w p bs
  bd : ∀ z ∈ bs, 0 ≤ z ∧ z < 256
  ap : bs ≠ [] → ∀ k ∈ blk p, k ∉ F
theorem write_any (pb : Nat) (S : PSt) (q : Option Addr) (c : Nat) (Ds : List DSt) (i : Nat) (D : DSt) (at_ : Int) (p : Option Addr) (cc : Nat) (bs : List Int) (w : World) (h : IsRack w pb S q c Ds) (hi : Ds[i]? = some D) (ha : -9223372036854775808 ≤ at_ ∧ at_ ≤ 9223372036854775807)
    (hb : InB w (foot pb q Ds) p bs) (hcc : bs.length ≤ cc) (hbl : bs.length ≤ 140737488355328) (hwr : S.writes + S.ws.length + 16384 < 500000000000) :
    Calls Try.prog 11 #[.pointer (some ⟨D.db, 0, none⟩), .int .i64 at_, .slice p bs.length cc] w fun e w' => e = .returned (.int .i64 (wrE S D at_ bs)) ∧ ∃ q' c', IsRack w' pb (S.wr D at_ bs) q' c' (Ds.set i (D.wr S at_ bs)) ∧ Stp (foot pb q Ds) (foot pb q' (Ds.set i (D.wr S at_ bs))) w w' := by
  have hd := h.dsk i D hi
  have hlt : i < Ds.length := (List.getElem?_eq_some_iff.1 hi).1
  have same : S.wr D at_ bs = S → ∀ w', Frm [] w w' → ∃ q' c', IsRack w' pb (S.wr D at_ bs) q' c' (Ds.set i (D.wr S at_ bs)) ∧ Stp (foot pb q Ds) (foot pb q' (Ds.set i (D.wr S at_ bs))) w w' := by
    intro e w' hf
    have e2 : D.wr S at_ bs = D := by
      have := h.inv i D hi
      unfold DSt.wr; rw [e]; rw [← this]
    have e3 : Ds.set i (D.wr S at_ bs) = Ds := by
      rw [e2]
      apply List.ext_getElem?
      intro j
      rw [List.getElem?_set]
      by_cases hij : i = j
      · subst hij; rw [if_pos rfl, if_pos hlt, hi]
      · rw [if_neg hij]
    rw [e, e3]
    exact ⟨q, c, h.kept hf (by simp) (by simp) (by simp), Stp.new hf⟩
  by_cases h0 : wrAsk S D at_ bs = 0
  case neg =>
    refine (write_bad pb S q c D at_ p bs.length cc hbl w h.pow hd ha h0).mono ?_
    rintro e w' ⟨rfl, rfl⟩
    refine ⟨by unfold wrE; rw [if_pos h0]; rfl, same (by unfold PSt.wr; rw [if_pos h0]) _ (Frm.refl _ _)⟩
  obtain ⟨z1, z2, z3, z4, z5, z6⟩ := wrAsk_zero h0
  obtain ⟨m, hm⟩ : ∃ m, bs.length / 128 = m := ⟨_, rfl⟩
  have hlen : bs.length = m * 128 := by omega
  have hmany : manyW bs.length = (m : Int) := by unfold manyW; rw [if_pos z4, hm]
  have h0' : askE S D at_ (m : Int) = 0 := by rw [← hmany]; exact h0
  have hE : wrE S D at_ bs = if jW S m = m then 0 else 5 := by unfold wrE; rw [if_neg (by simpa using h0), hm]
  have hS : S.wr D at_ bs = { S.wrote D at_.toNat bs (jW S m) with out := !decide (jW S m = m) } := by unfold PSt.wr; rw [if_neg (by simpa using h0), hm]
  rw [hm] at z5 z6
  by_cases hm0 : m = 0
  · subst hm0
    have hnil : bs.length = 0 := by omega
    have hj : jW S 0 = 0 := by unfold jW; split <;> simp
    have hr := write_empty pb S q c D at_ p cc w h.pow hd ha h0'
    rw [hnil]
    refine hr.mono ?_
    rintro e w' ⟨rfl, rfl⟩
    rw [hE, hj]
    refine ⟨rfl, same ?_ _ (Frm.refl _ _)⟩
    rw [hS, hj]
    have : S.wrote D at_.toNat bs 0 = S := by
      have := (stW_wrote S D at_.toNat bs 0 (fun i hi => by omega)).1
      rw [← this]; rfl
    rw [this]
    cases S
    simp_all
  obtain ⟨g, o, rfl, hrd⟩ : ∃ g o, p = some ⟨g, o, none⟩ ∧ Rd w (some ⟨g, o, none⟩) bs := by
    rcases hb.rd with e | ⟨g, o, rfl, hc⟩
    · subst e; simp at hlen; omega
    · exact ⟨g, o, rfl, Or.inr ⟨g, o, rfl, hc⟩⟩
  obtain ⟨a, rfl⟩ : ∃ a : Nat, at_ = a := ⟨at_.toNat, by omega⟩
  have hg := hb.ap (by intro e; subst e; simp at hlen; omega) g (by simp [blk])
  have hgn : ∀ k, k ∈ foot pb q Ds → g ≠ k := fun k hk e => hg (by rw [e]; exact hk)
  have hap := h.apP i D hi
  have haq := h.apQ i D hi
  simp only [DSt.blks, List.mem_cons, List.not_mem_nil, or_false, not_or] at hap
  have hdf : ∀ k ∈ D.blks, k ∈ foot pb q Ds := fun k hk => mem_foot.2 (Or.inr (Or.inr ⟨i, D, hi, hk⟩))
  rw [hlen]
  have HW := write_loop pb S q c D a g o cc m bs w h.pow hd h0' (by omega) hlen (by omega) hrd hb.bd h.lf (by have := hd.n2; omega)
    ⟨hgn _ (mem_foot.2 (Or.inl rfl)), hgn _ (hdf _ (by simp [DSt.blks])), fun e => hg (mem_foot.2 (Or.inr (Or.inl e)))⟩ ⟨fun e => haq _ e (by simp [DSt.blks]), fun e => haq _ e (by simp [DSt.blks]), fun e => haq _ e (by simp [DSt.blks])⟩ ⟨fun e => hap.1 e.symm, fun e => hap.2.1 e.symm, fun e => hap.2.2 e.symm⟩
  refine HW.mono ?_
  rintro e w' ⟨j, q', c', hj, hsp, hcase⟩
  obtain ⟨f1, f2, f3, f4, f5, f6⟩ := stW_facts S D a bs j hsp h.lf
  obtain ⟨g1, g2⟩ := stW_wrote S D a bs j hsp
  have hinv := h.inv i D hi
  have hover : over D.db D.seen (wts D a bs j) = over D.db D.plat (S.ws ++ wts D a bs j) := by rw [over_app, ← hinv]
  have fin : ∀ (S' : PSt), S' = S.wr D a bs → S'.ws = S.ws ++ wts D a bs j → (S'.bounded = true → 0 ≤ S'.left) → IsPow w' pb S' q' c' → IsDisk w' pb { D with seen := (stW S D a bs j).2 } → Frm ([pb, D.gs] ++ blk q) w w' → (∀ k ∈ blk q', k ∈ blk q ∨ w.heap.size ≤ k) →
      ∃ q' c', IsRack w' pb (S.wr D a bs) q' c' (Ds.set i (D.wr S a bs)) ∧ Stp (foot pb q Ds) (foot pb q' (Ds.set i (D.wr S a bs))) w w' := by
    intro S' hS' hws hbl hp' hd' hf hnb
    have hD' : D.wr S a bs = { D with seen := (stW S D a bs j).2 } := by unfold DSt.wr; rw [← hS', hws, g2, hover]
    have hT : ∀ k ∈ [pb, D.gs] ++ blk q, k = pb ∨ k ∈ blk q ∨ k ∈ D.blks ∨ w.heap.size ≤ k := by
      intro k hk
      simp only [List.cons_append, List.nil_append, List.mem_cons] at hk
      rcases hk with rfl | rfl | hk
      · exact Or.inl rfl
      · exact Or.inr (Or.inr (Or.inl (by simp [DSt.blks])))
      · exact Or.inr (Or.inl hk)
    refine ⟨q', c', ?_, IsRack.stp hi (by rw [hD']; rfl) hf hT hnb⟩
    rw [← hS', hD']
    refine h.step hi rfl rfl hp' hd' hf hT hnb (fun x hx => ?_) hbl (by rw [hws]; show (stW S D a bs j).2 = _; rw [g2, hover]) (fun db p hne => by rw [hws]; exact over_wts hne a bs p S.ws j)
    rw [hws, List.mem_append] at hx
    rcases hx with hx | hx
    · exact Or.inl hx
    · refine Or.inr ?_
      simp only [wts, List.mem_map, List.mem_range] at hx
      obtain ⟨y, hy, rfl⟩ := hx
      refine ⟨fun z hz => hb.bd z (List.mem_of_mem_drop (List.mem_of_mem_take hz)), rfl, ?_⟩
      show a + y < D.n
      omega
  rcases hcase with ⟨rfl, rfl, hin⟩ | ⟨hjm, rfl, hen⟩
  · have hjw : jW S j = j := by
      unfold jW
      split
      · rename_i hbt; have := f5 hbt; omega
      · rfl
    rw [hE, hjw]
    refine ⟨by simp, fin (stW S D a bs j).1 ?_ (by rw [g1]; rfl) (fun hbt => ?_) hin.pow hin.dsk hin.fr hin.nb⟩
    · rw [hS, hjw, g1]
      simp only [decide_true, Bool.not_true, Int.toNat_natCast]
      unfold PSt.wrote
      simp [z1]
    · rw [f1] at hbt; have := f5 hbt; omega
  · obtain ⟨n1, n2, n3⟩ := (spend_facts (stW S D a bs j).1).2.2.2 hen.no
    rw [f1] at n1
    obtain ⟨f5a, f5b⟩ := f5 n1
    have hjw : jW S m = j := by
      unfold jW
      rw [if_pos n1]; omega
    have hne : ¬ j = m := by omega
    rw [hE, hjw, if_neg hne]
    refine ⟨rfl, fin (spendS (stW S D a bs j).1).2 ?_ (by rw [(spend_facts _).1, g1]; rfl) (fun _ => by rw [n3]; show 0 ≤ (stW S D a bs j).1.left; omega) hen.pow hen.dsk hen.fr hen.nb⟩
    rw [n3, hS, hjw, g1]
    simp [hne]
end Go.Proofs.Ytfclamndjnoopaa
