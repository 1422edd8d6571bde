/- The document's table of sessions: Keep. -/
import Derived.Test.YtbgochkmplacaaaSsU
import Derived.Deep.CutBlock
namespace Go.Proofs.Ytbgochkmplacaaa
open Go.RowKit Go.Lib
set_option maxRecDepth 100000

/-- The replies with one more put in, by sessions, in the place of that session's. -/
def putL (v : Rp) : List Rp → List Rp
  | [] => [v]
  | u :: l => if u.x.s < v.x.s then u :: putL v l else v :: (u :: l).filter (fun z => decide (z.x.s ≠ v.x.s))
/-- What is still to be laid down. -/
def restK (v : Rp) (dn : Bool) (l : List Rp) : List Rp := if dn then l.filter (fun z => decide (z.x.s ≠ v.x.s)) else putL v l
theorem putL_len (v : Rp) : ∀ l : List Rp, (putL v l).length ≤ l.length + 1
  | [] => by simp [putL]
  | u :: l => by
    have h1 := putL_len v l
    have h2 : ((u :: l).filter (fun z => decide (z.x.s ≠ v.x.s))).length ≤ (u :: l).length := List.length_filter_le _ _
    unfold putL
    split
    · simp only [List.length_cons]; omega
    · simp only [List.length_cons] at h2 ⊢; omega
theorem putL_mem (v : Rp) : ∀ (l : List Rp) (u : Rp), u ∈ putL v l → u ∈ l ∨ u = v
  | [], u, h => by simp [putL] at h; exact Or.inr h
  | z :: l, u, h => by
    unfold putL at h
    split at h
    · rcases List.mem_cons.1 h with rfl | h
      · exact Or.inl List.mem_cons_self
      · exact (putL_mem v l u h).imp (List.mem_cons_of_mem _) id
    · rcases List.mem_cons.1 h with rfl | h
      · exact Or.inr rfl
      · exact Or.inl (List.mem_filter.1 h).1
theorem restK_ins {v u : Rp} {dn : Bool} {l : List Rp} (h : dn = false ∧ v.x.s ≤ u.x.s) : restK v dn (u :: l) = v :: restK v true (u :: l) := by
  unfold restK
  rw [h.1]
  simp only [putL, Bool.false_eq_true, if_false, if_true]
  rw [if_neg (by omega)]
theorem restK_keep {v u : Rp} {dn : Bool} {l : List Rp} (h : dn = false → u.x.s < v.x.s) (hn : u.x.s ≠ v.x.s) : restK v dn (u :: l) = u :: restK v dn l := by
  unfold restK
  cases dn
  · simp only [putL, Bool.false_eq_true, if_false]
    rw [if_pos (h rfl)]
  · simp only [if_true]
    rw [List.filter_cons, if_pos (by simpa using hn)]
theorem restK_drop {v u : Rp} {dn : Bool} {l : List Rp} (h : dn = false → u.x.s < v.x.s) (hn : u.x.s = v.x.s) : restK v dn (u :: l) = restK v dn l := by
  unfold restK
  cases dn
  · have := h rfl; omega
  · simp only [if_true]
    rw [List.filter_cons, if_neg (by simpa using hn)]
section
variable {T : TypeId} {w : World} {b : Nat} {s id er nu : Int} {tx : ByteArray} {lp dp : Option Addr} {n lc m dc : Nat}
theorem cells7 (h : w.heap[b]? = some (.cells #[.int .i64 s, .int .i64 id, .int .i64 er, .int .i64 nu, .string tx, .slice lp n lc, .slice dp m dc] T (0, 0))) :
    w.cell? ⟨b, 0, none⟩ = some (.int .i64 s) ∧ w.cell? ⟨b, 1, none⟩ = some (.int .i64 id) ∧ w.cell? ⟨b, 2, none⟩ = some (.int .i64 er) ∧ w.cell? ⟨b, 3, none⟩ = some (.int .i64 nu) ∧ w.cell? ⟨b, 4, none⟩ = some (.string tx) ∧ w.cell? ⟨b, 5, none⟩ = some (.slice lp n lc) ∧ w.cell? ⟨b, 6, none⟩ = some (.slice dp m dc) := by
  refine ⟨?_, ?_, ?_, ?_, ?_, ?_, ?_⟩ <;> (rw [cell_of_row _ _ _ _ _ _ h]; rfl)
end
/-- While the new list is laid. -/
structure KS (w wr : World) (d : Nat) (p : Option Addr) (c : Nat) (ls : List Rp) (f a r : Int) (bx : Nat) (v : Rp) (q : Option Addr) (m cq : Nat) (out : List Rp) : Prop where
  rt : RT wr d p c ls f a r
  fr : Frm [] w wr
  bv : wr.heap[bx]? = some (.cells #[.int .i64 v.x.s, .int .i64 v.x.id, .int .i64 v.x.er, .int .i64 v.x.nu, .string v.x.tx, .slice v.lp v.x.ss.length v.lc, .slice v.dp v.x.ds.length v.dc] 61 (0, 0))
  ow : OwnL wr q m cq out
  qn : ∀ k ∈ blk q, w.heap.size ≤ k ∧ k ≠ bx
section
variable {w wr wa w' : World} {d : Nat} {p : Option Addr} {c : Nat} {ls : List Rp} {f a r : Int} {bx : Nat} {v u : Rp} {q q' : Option Addr} {m cq cq' : Nat} {out : List Rp}
theorem KS.k0 (h : KS w wr d p c ls f a r bx v q m cq out) (hf : Frm [] wr w') : KS w w' d p c ls f a r bx v q m cq out :=
  ⟨h.rt.k0 hf, h.fr.trans hf (by simp), hf.heap h.bv (by simp), h.ow.kept hf (by simp), h.qn⟩
theorem KS.app (h : KS w wr d p c ls f a r bx v q m cq out) (hlo : (∀ k ∈ footR d p, k < w.heap.size) ∧ ∀ u ∈ ls, ∀ k ∈ u.Bn, k < w.heap.size) (hA : Frm [] wr wa) (ho : w'.ownsRow 0 61 7 (.slice q' (m + 1) cq') (m + 1) (rowsR out ++ u.row)) (hf : Frm (blk q) wa w') (hb : ∀ k ∈ blk q', k ∈ blk q ∨ wa.heap.size ≤ k) :
    KS w w' d p c ls f a r bx v q' (m + 1) cq' (out ++ [u]) := by
  have hz := h.fr.size
  have hza := hA.size
  have hF : Frm (blk q) wr w' := (hA.mono (by simp)).trans hf (fun k hk _ => hk)
  refine ⟨h.rt.kept hF (fun k hk hm => by have := hlo.1 k hk; have := (h.qn k hm).1; omega) (fun u hu k hk hm => by have := hlo.2 u hu k hk; have := (h.qn k hm).1; omega), h.fr.trans hF (fun k hk hkl => by have := (h.qn k hk).1; omega), hF.heap h.bv (fun hm => (h.qn bx hm).2 rfl), ⟨by rw [rowsR_app]; simpa [rowsR] using ho, by rw [List.length_append, h.ow.2]; rfl⟩, fun k hk => ?_⟩
  rcases hb k hk with h1 | h1
  · exact h.qn k h1
  · exact ⟨by omega, fun e => by have := lt_of_heap h.bv; omega⟩
theorem KS.fin (h : KS w wr d p c ls f a r bx v q m cq out) (hlo : (∀ k ∈ footR d p, k < w.heap.size) ∧ ∀ u ∈ ls, ∀ k ∈ u.Bn, k < w.heap.size) (hv : RpOk w v) (hd : d ∉ v.Bn) (hm : ∀ u ∈ out, u ∈ ls ∨ u = v) :
    RT (wr.setCell ⟨d, 0, none⟩ (.slice q m cq)) d q cq out f a r ∧ Frm [d] wr (wr.setCell ⟨d, 0, none⟩ (.slice q m cq)) := by
  have hf : Frm [d] wr (wr.setCell ⟨d, 0, none⟩ (.slice q m cq)) := (Frm.refl _ _).setCell _ _ (by simp)
  have hdl := hlo.1 d (by simp [footR])
  have hdq : d ∉ blk q := fun hk => by have := (h.qn d hk).1; omega
  have hml := h.ow.2
  refine ⟨⟨?_, ?_, fun u hu => ?_, hdq, fun u hu k hk hx => ?_⟩, hf⟩
  · rw [heap_setCell_same _ _ _ _ _ _ h.rt.st, hml]; rfl
  · rw [hml]; exact h.ow.kept hf (fun k hk hm => by rw [List.mem_singleton] at hm; subst hm; exact hdq hk)
  · rcases hm u hu with h1 | rfl
    · exact (h.rt.ok u h1).keptN hf (fun k hk hm => by rw [List.mem_singleton] at hm; subst hm; exact h.rt.bn u h1 k hk (by simp [footR]))
    · exact (hv.keptN h.fr (by simp)).keptN hf (fun k hk hm => by rw [List.mem_singleton] at hm; subst hm; exact hd hk)
  · have hlow : k < w.heap.size := by
      rcases hm u hu with h1 | rfl
      · exact hlo.2 u h1 k hk
      · exact hv.lowN k hk
    have hnd : k ≠ d := fun e => by
      subst e
      rcases hm u hu with h1 | rfl
      · exact h.rt.bn u h1 k hk (by simp [footR])
      · exact hd hk
    simp [footR] at hx
    rcases hx with rfl | hx
    · exact hnd rfl
    · have := (h.qn k hx).1; omega
end
/-- Why the document's Keep refuses. -/
def chkR (ls : List Rp) (x : Rs) : Int := if is24 x.s x.id = false then 240 else if x.id ≤ (of24 ls x.s).x.id then 241 else 0
def KeepR (w : World) (d : Nat) (p : Option Addr) (ls : List Rp) (f a r : Int) (v : Rp) (e : Ending) (w' : World) : Prop :=
  ∃ q cq ls', e = .returned (.int .i64 (chkR ls v.x)) ∧ RT w' d q cq ls' (if chkR ls v.x = 0 then IntKind.i64.wrap (f + 1) else f) a (if chkR ls v.x ≠ 0 then IntKind.i64.wrap (r + 1) else r) ∧ Frm [d] w w' ∧ (∀ k ∈ blk q, k ∈ blk p ∨ w.heap.size ≤ k) ∧ (chkR ls v.x ≠ 0 → ls' = ls) ∧ (chkR ls v.x = 0 → ls' = putL v ls)
set_option maxHeartbeats 12800000 in
theorem rkeep_any (d : Nat) (p : Option Addr) (c : Nat) (ls : List Rp) (f a r : Int) (v : Rp) (w : World) (h : RT w d p c ls f a r) (hb : ls.length ≤ 8) (hv : RpOk w v) (hdv : d ∉ v.Bn) :
    Calls Try.prog 58 #[.pointer (some ⟨d, 0, none⟩), v.agg] w (KeepR w d p ls f a r v) := by
  obtain ⟨PO, hPO⟩ : ∃ PO : Ending → World → Prop, KeepR w d p ls f a r v = PO := ⟨_, rfl⟩
  rw [hPO]
  obtain ⟨C, hC⟩ : ∃ q, chkR ls v.x = q := ⟨_, rfl⟩
  have HP1 : Hid (∀ r' w', C ≠ 0 → r' = IntKind.i64.wrap (r + 1) → RT w' d p c ls f a r' → Frm [d] w w' → PO (.returned (.int .i64 C)) w') := hid (fun r' w' h1 h2 h3 h4 => by
    rw [← hPO]
    refine ⟨p, c, ls, by rw [hC], ?_, h4, fun k hk => Or.inl hk, fun _ => rfl, fun h => absurd (hC.symm.trans h) h1⟩
    rw [hC, if_neg h1, if_pos h1, ← h2]; exact h3)
  have HP2 : Hid (∀ q cq f' w', C = 0 → f' = IntKind.i64.wrap (f + 1) → RT w' d q cq (putL v ls) f' a r → Frm [d] w w' → (∀ k ∈ blk q, w.heap.size ≤ k) → PO (.returned (.int .i64 0)) w') := hid (fun q cq f' w' h1 h2 h3 h4 h5 => by
    rw [← hPO]
    have hc0 : chkR ls v.x = 0 := by rw [hC, h1]
    refine ⟨q, cq, putL v ls, by rw [hc0], ?_, h4, fun k hk => Or.inr (h5 k hk), fun h => absurd hc0 h, fun _ => rfl⟩
    rw [hc0, if_pos rfl, if_neg (by simp), ← h2]; exact h3)
  have HC := hid hC
  have HLO : Hid ((∀ k ∈ footR d p, k < w.heap.size) ∧ ∀ u ∈ ls, ∀ k ∈ u.Bn, k < w.heap.size) := hid ⟨fun k hk => by
    simp [footR] at hk
    rcases hk with rfl | hk
    · exact lt_of_heap h.st
    · exact ownsRow_low h.own.1 k hk, fun u hu => (h.ok u hu).lowN⟩
  have HV := hid hv
  have HDV := hid hdv
  obtain ⟨bx, hbx⟩ : ∃ q, w.heap.size = q := ⟨_, rfl⟩
  obtain ⟨⟨s, id, er, nu, tx, ss, ds⟩, lp, lc, dp, dc⟩ := v
  obtain ⟨nn, hnn⟩ : ∃ q, ss.length = q := ⟨_, rfl⟩
  obtain ⟨mm, hmm⟩ : ∃ q, ds.length = q := ⟨_, rfl⟩
  have HNN := hid hnn
  have HMM := hid hmm
  obtain ⟨w0, hw0⟩ : ∃ q, w.alloc (.cells #[.int .i64 s, .int .i64 id, .int .i64 er, .int .i64 nu, .string tx, .slice lp nn lc, .slice dp mm dc] 61) = q := ⟨_, rfl⟩
  have hf0 : Frm [] w w0 := by rw [← hw0]; exact (Frm.refl _ _).alloc _
  have HX0 : Hid (w0.heap[bx]? = some (.cells #[.int .i64 s, .int .i64 id, .int .i64 er, .int .i64 nu, .string tx, .slice lp nn lc, .slice dp mm dc] 61 (0, 0))) := hid (by rw [← hw0]; exact heap_alloc_to _ _ hbx)
  have HOF := hid (fun W (hf : Frm [] w W) => of24_any d p c ls f a r s W (h.k0 hf) (by omega))
  have HT0 := hid (h.k0 hf0)
  have HF0 := hid hf0
  have HBX := hid hbx
  have HW0 := hid hw0
  have hll := hb
  obtain ⟨n, hn⟩ : ∃ q, ls.length = q := ⟨_, rfl⟩
  have HN := hid hn
  rw [hn] at hb
  obtain ⟨B, hB⟩ : ∃ q, is24 s id = q := ⟨_, rfl⟩
  have HB := hid hB
  have HIS := hid (is24_any s id w0)
  rw [hB] at HIS
  unfold Rp.agg
  simp only
  rw [hnn, hmm]
  clear h hPO hbx hw0 hf0 hB hv hdv hC hnn hmm hn hll
  go_enter Try.func58, Try.ntmps58
  go_upto_region 1 with fail
  rw [HBX.out, HW0.out]
  clear HW0
  obtain ⟨x0, x1, x2, x3, x4, x5, x6⟩ := cells7 HX0.out
  go_wp2_with fail
  refine HIS.out.mono ?_
  rintro e w' ⟨rfl, rfl⟩
  go_wp2_with fail
  refine (HOF.out w' HF0.out).mono ?_
  rintro e w1 ⟨rfl, hf1⟩
  have HF1 := hid hf1
  obtain ⟨o, ho⟩ : ∃ q, of24 ls s = q := ⟨_, rfl⟩
  have HO := hid ho
  rw [ho]
  clear ho
  obtain ⟨⟨s1, id1, er1, nu1, tx1, ss1, ds1⟩, lp1, lc1, dp1, dc1⟩ := o
  unfold Rp.agg
  simp only
  obtain ⟨bo, hbo⟩ : ∃ q, w1.heap.size = q := ⟨_, rfl⟩
  obtain ⟨w2, hw2⟩ : ∃ q, w1.alloc (.cells #[.int .i64 s1, .int .i64 id1, .int .i64 er1, .int .i64 nu1, .string tx1, .slice lp1 ss1.length lc1, .slice dp1 ds1.length dc1] 61) = q := ⟨_, rfl⟩
  have h2 : Frm [] w1 w2 := by rw [← hw2]; exact (Frm.refl _ _).alloc _
  have HX2 : Hid (w2.heap[bo]? = some (.cells #[.int .i64 s1, .int .i64 id1, .int .i64 er1, .int .i64 nu1, .string tx1, .slice lp1 ss1.length lc1, .slice dp1 ds1.length dc1] 61 (0, 0))) := hid (by rw [← hw2]; exact heap_alloc_to _ _ hbo)
  have HKS : Hid (KS w w2 d p c ls f a r bx ⟨⟨s, id, er, nu, tx, ss, ds⟩, lp, lc, dp, dc⟩ none 0 0 []) := hid (by
    have hT := (HT0.out.k0 hf1).k0 h2
    refine ⟨hT, (HF0.out.trans hf1 (by simp)).trans h2 (by simp), ?_, ⟨⟨rfl, Or.inl ⟨rfl, rfl⟩⟩, rfl⟩, by simp [blk]⟩
    simp only
    rw [HNN.out, HMM.out]
    exact h2.heap (hf1.heap HX0.out (by simp)) (by simp))
  have HBO := hid hbo
  have HW2 := hid hw2
  clear hw2 hbo h2 HOF HF1 hf1 HIS x0 x1 x2 x3 x4 x5 x6
  go_upto_region 3 with fail
  rw [HBO.out, HW2.out]
  clear HW2 HBO HX0 HT0 HF0
  have hbv := HKS.out.bv
  simp only at hbv
  rw [HNN.out, HMM.out] at hbv
  obtain ⟨x0, x1, x2, x3, x4, x5, x6⟩ := cells7 hbv
  obtain ⟨y0, y1, y2, y3, y4, y5, y6⟩ := cells7 HX2.out
  obtain ⟨c0, c1, c2, c3, cz⟩ := HKS.out.rt.cells
  rw [HN.out] at c0
  have z3 := cz 3
  clear hbv y0 y2 y3 y4 y5 y6 cz
  by_cases hB0 : B = true
  · subst hB0
    by_cases h1 : id ≤ id1
    · have HCE : Hid (C = 241) := hid (by rw [← HC.out]; unfold chkR; simp only; rw [HB.out, HO.out, if_neg (by simp), if_pos h1])
      obtain ⟨t3, f3⟩ := HKS.out.rt.refused (wrap64 (r + 1))
      have HT3 := hid t3
      have HF3 := hid ((HKS.out.fr.mono (T := [d]) (by simp)).trans f3 (fun k hk _ => hk))
      clear t3 f3
      go_wp2_with fail
      first | go_returns | skip
      rw [← HCE.out]
      exact HP1.out _ _ (by rw [HCE.out]; omega) (wrap_i64 _).symm HT3.out HF3.out
    · have HCE : Hid (C = 0) := hid (by rw [← HC.out]; unfold chkR; simp only; rw [HB.out, HO.out, if_neg (by simp), if_neg h1])
      go_wp2_with fail
      clear HX2 x0 x1 x2 x3 x4 x5 x6 c0 c1 c2 c3 z3 y1
      go_loopw [9, 8, 7] (fun i s8 s7 wr => ∃ (t m : Nat) (dn : Bool) (q : Option Addr) (cq : Nat) (out : List Rp), t ≤ n ∧ m ≤ 9 ∧ i = .int .i64 (t : Int) ∧ s8 = .bool dn ∧ s7 = .slice q m cq ∧ Hid (KS w wr d p c ls f a r bx ⟨⟨s, id, er, nu, tx, ss, ds⟩, lp, lc, dp, dc⟩ q m cq out ∧ out ++ restK ⟨⟨s, id, er, nu, tx, ss, ds⟩, lp, lc, dp, dc⟩ dn (ls.drop t) = putL ⟨⟨s, id, er, nu, tx, ss, ds⟩, lp, lc, dp, dc⟩ ls)) (fun i _ _ _ => n - (intOf i).toNat)
      case atStart => exact ⟨0, 0, false, none, 0, [], by omega, by omega, rfl, rfl, rfl, hid ⟨HKS.out, rfl⟩⟩
      case round =>
        obtain ⟨t, m, dn, q, cq, out, ht, hm, rfl, rfl, rfl, hin⟩ := hrel
        have hbv := hin.out.1.bv
        simp only at hbv
        rw [HNN.out, HMM.out] at hbv
        obtain ⟨x0, x1, x2, x3, x4, x5, x6⟩ := cells7 hbv
        have c0 := hin.out.1.rt.cells.1
        rw [HN.out] at c0
        clear hbv
        by_cases hlt : t < n
        · have t1 : (t : Int) < (n : Int) := by omega
          obtain ⟨u, hu⟩ : ∃ u, ls[t]? = some u := ⟨_, List.getElem?_eq_getElem (by rw [HN.out]; exact hlt)⟩
          have HU := hid hu
          have HDR : Hid (ls.drop t = u :: ls.drop (t + 1)) := hid (by rw [List.drop_eq_getElem_cons (List.getElem?_eq_some_iff.1 hu).1, (List.getElem?_eq_some_iff.1 hu).2])
          obtain ⟨g, hg, hcs⟩ := hin.out.1.rt.own.at hu
          subst hg
          obtain ⟨⟨s1, id1, er1, nu1, tx1, ss1, ds1⟩, lp1, lc1, dp1, dc1⟩ := u
          have q0 : wr.cell? ⟨g, t * 7, none⟩ = some (.int .i64 s1) := hcs 0 _ rfl
          clear hcs hu
          go_upto_region 14 with fail
          go_cut [65] from 42 to 90 (fun z wx => z = .bool (decide (dn = false ∧ s ≤ s1)) ∧ Hid (Frm [] wr wx))
          case first =>
            cases dn
            · by_cases hge : s ≤ s1
              · have hd : decide (s ≤ s1) = true := decide_eq_true hge
                go_quiet (fail)
                go_wp2_with fail
                go_meet
                exact ⟨by simp [hge], hid ((Frm.refl _ _).drewN _)⟩
              · have hd : decide (s ≤ s1) = false := decide_eq_false hge
                go_quiet (fail)
                go_wp2_with fail
                go_meet
                exact ⟨by simp [hge], hid ((Frm.refl _ _).drewN _)⟩
            · go_quiet (fail)
              go_wp2_with fail
              go_meet
              exact ⟨by simp, hid ((Frm.refl _ _).drewN _)⟩
          obtain ⟨rfl, hfc⟩ := hcut
          have HKC : Hid (KS w wc d (some ⟨g, 0, none⟩) c ls f a r bx ⟨⟨s, id, er, nu, tx, ss, ds⟩, lp, lc, dp, dc⟩ q m cq out ∧ out ++ restK ⟨⟨s, id, er, nu, tx, ss, ds⟩, lp, lc, dp, dc⟩ dn (ls.drop t) = putL ⟨⟨s, id, er, nu, tx, ss, ds⟩, lp, lc, dp, dc⟩ ls) := hid ⟨hin.out.1.k0 hfc.out, hin.out.2⟩
          obtain ⟨n1, hn1⟩ : ∃ q, ss1.length = q := ⟨_, rfl⟩
          obtain ⟨m1, hm1⟩ : ∃ q, ds1.length = q := ⟨_, rfl⟩
          have HN1 := hid hn1
          have HM1 := hid hm1
          obtain ⟨I, hI⟩ : ∃ q, decide (dn = false ∧ s ≤ s1) = q := ⟨_, rfl⟩
          rw [hI]
          have HI := hid hI
          have hbv := HKC.out.1.bv
          simp only at hbv
          rw [HNN.out, HMM.out] at hbv
          clear x0 x1 x2 x3 x4 x5 x6 c0 q0 hI hin hfc hn1 hm1
          obtain ⟨x0, x1, x2, x3, x4, x5, x6⟩ := cells7 hbv
          clear hbv
          go_upto_if 65 with fail
          go_cut [8, 7] from 42 to 90 (fun z8 z7 wx => ∃ (m' : Nat) (dn' : Bool) (q' : Option Addr) (cq' : Nat) (out' : List Rp), m' ≤ 9 ∧ z8 = .bool dn' ∧ z7 = .slice q' m' cq' ∧ Hid (KS w wx d (some ⟨g, 0, none⟩) c ls f a r bx ⟨⟨s, id, er, nu, tx, ss, ds⟩, lp, lc, dp, dc⟩ q' m' cq' out' ∧ out' ++ restK ⟨⟨s, id, er, nu, tx, ss, ds⟩, lp, lc, dp, dc⟩ dn' (⟨⟨s1, id1, er1, nu1, tx1, ss1, ds1⟩, lp1, lc1, dp1, dc1⟩ :: ls.drop (t + 1)) = putL ⟨⟨s, id, er, nu, tx, ss, ds⟩, lp, lc, dp, dc⟩ ls ∧ (dn' = false → s1 < s)))
          case first =>
            cases I
            · have HE2 : Hid (dn = false → s1 < s) := hid (fun h => by have := of_decide_eq_false HI.out; simp [h] at this; omega)
              go_wp2_with fail
              go_meet
              exact ⟨m, dn, q, cq, out, hm, rfl, rfl, hid ⟨HKC.out.1, by rw [← HDR.out]; exact HKC.out.2, HE2.out⟩⟩
            · have HE2 : Hid (dn = false ∧ s ≤ s1) := hid (of_decide_eq_true HI.out)
              have HA := hid ((Frm.refl [] wc).alloc (.cells #[.int .i64 s, .int .i64 id, .int .i64 er, .int .i64 nu, .string tx, .slice lp nn lc, .slice dp mm dc] 61))
              have HRV := hid (rv_block (heap_alloc_new wc (.cells #[.int .i64 s, .int .i64 id, .int .i64 er, .int .i64 nu, .string tx, .slice lp nn lc, .slice dp mm dc] 61)))
              have HOW := hid (ownsRow_kept HKC.out.1.ow.1 HA.out (by simp))
              go_wp2_with (at_builtin; refine wpList_appV rfl _ _ 52 rfl 61 7 96 _ Try.underlying52 infoRp rfl (by decide) q m cq (rowsR out) rfl HOW.out (some ⟨wc.heap.size, 0, none⟩) 1 1 [.int .i64 s, .int .i64 id, .int .i64 er, .int .i64 nu, .string tx, .slice lp nn lc, .slice dp mm dc] rfl rfl (by simp) HRV.out (by intro u hu; simp at hu; rcases hu with rfl | rfl | rfl | rfl | rfl | rfl | rfl <;> rfl) (by unfold maxLen; omega) (by omega) ?_)
              intro q7 cq7 w7 ho7 hf7 hb7
              have HKN := hid (HKC.out.1.app (u := ⟨⟨s, id, er, nu, tx, ss, ds⟩, lp, lc, dp, dc⟩) HLO.out HA.out (by have h := ho7.out; rw [← HNN.out, ← HMM.out] at h; exact h) hf7.out (fun k hk => (hb7.out k hk).imp (fun h => h) (fun h => by first | exact h | (simp at h ⊢; omega))))
              clear ho7 hf7 hb7 HOW HRV HA
              go_wp2_with fail
              go_meet
              have heq : (out ++ [(⟨⟨s, id, er, nu, tx, ss, ds⟩, lp, lc, dp, dc⟩ : Rp)]) ++ restK ⟨⟨s, id, er, nu, tx, ss, ds⟩, lp, lc, dp, dc⟩ true (⟨⟨s1, id1, er1, nu1, tx1, ss1, ds1⟩, lp1, lc1, dp1, dc1⟩ :: ls.drop (t + 1)) = putL ⟨⟨s, id, er, nu, tx, ss, ds⟩, lp, lc, dp, dc⟩ ls := by
                have h := HKC.out.2
                rw [HDR.out, restK_ins HE2.out] at h
                rw [List.append_assoc]; exact h
              have hln : m + 1 ≤ 9 := by
                have h1 := congrArg List.length heq
                have h2 := putL_len ⟨⟨s, id, er, nu, tx, ss, ds⟩, lp, lc, dp, dc⟩ ls
                have h3 := HKN.out.ow.2
                rw [List.length_append, h3] at h1
                have h4 := HN.out
                omega
              exact ⟨m + 1, true, q7, cq7, _, hln, rfl, by go_num, hid ⟨HKN.out, heq, fun h => by cases h⟩⟩
          obtain ⟨m', dn', q', cq', out', hm', rfl, rfl, hk'⟩ := hcut
          have HK2 := hid hk'.out
          obtain ⟨g', hg', hcs⟩ := HK2.out.1.rt.own.at HU.out
          obtain rfl : g = g' := by simpa using hg'
          have hbv := HK2.out.1.bv
          simp only at hbv
          rw [HNN.out, HMM.out] at hbv
          clear x0 x1 x2 x3 x4 x5 x6 HKC hm hk'
          obtain ⟨x0, _, _, _, _, _, _⟩ := cells7 hbv
          have c0 := HK2.out.1.rt.cells.1
          rw [HN.out] at c0
          have q0 : wc.cell? ⟨g, t * 7, none⟩ = some (.int .i64 s1) := hcs 0 _ rfl
          have q1 : wc.cell? ⟨g, t * 7 + 1, none⟩ = some (.int .i64 id1) := hcs 1 _ rfl
          have q2 : wc.cell? ⟨g, t * 7 + 2, none⟩ = some (.int .i64 er1) := hcs 2 _ rfl
          have q3 : wc.cell? ⟨g, t * 7 + 3, none⟩ = some (.int .i64 nu1) := hcs 3 _ rfl
          have q4 : wc.cell? ⟨g, t * 7 + 4, none⟩ = some (.string tx1) := hcs 4 _ rfl
          have q5 : wc.cell? ⟨g, t * 7 + 5, none⟩ = some (.slice lp1 n1 lc1) := by rw [← HN1.out]; exact hcs 5 _ rfl
          have q6 : wc.cell? ⟨g, t * 7 + 6, none⟩ = some (.slice dp1 m1 dc1) := by rw [← HM1.out]; exact hcs 6 _ rfl
          clear hcs hbv hg'
          by_cases hne : s1 = s
          · subst hne
            have HEQ3 : Hid (out' ++ restK ⟨⟨s1, id, er, nu, tx, ss, ds⟩, lp, lc, dp, dc⟩ dn' (ls.drop (t + 1)) = putL ⟨⟨s1, id, er, nu, tx, ss, ds⟩, lp, lc, dp, dc⟩ ls) := hid (by have h := HK2.out.2.1; rw [restK_drop (v := ⟨⟨s1, id, er, nu, tx, ss, ds⟩, lp, lc, dp, dc⟩) (u := ⟨⟨s1, id1, er1, nu1, tx1, ss1, ds1⟩, lp1, lc1, dp1, dc1⟩) HK2.out.2.2 rfl] at h; exact h)
            go_upto_region 17 with fail
            go_quiet (fail)
            go_wp2_with fail
            go_roundw
            case rel => exact ⟨t + 1, m', dn', q', cq', out', by omega, hm', by go_num, rfl, rfl, hid ⟨HK2.out.1.k0 ((Frm.refl _ _).drewN _), HEQ3.out⟩⟩
            case measure => first | (simp [intOf]; done) | (simp [intOf]; omega)
          · have HEQ3 : Hid (out' ++ (⟨⟨s1, id1, er1, nu1, tx1, ss1, ds1⟩, lp1, lc1, dp1, dc1⟩ :: restK ⟨⟨s, id, er, nu, tx, ss, ds⟩, lp, lc, dp, dc⟩ dn' (ls.drop (t + 1))) = putL ⟨⟨s, id, er, nu, tx, ss, ds⟩, lp, lc, dp, dc⟩ ls) := hid (by have h := HK2.out.2.1; rw [restK_keep (v := ⟨⟨s, id, er, nu, tx, ss, ds⟩, lp, lc, dp, dc⟩) (u := ⟨⟨s1, id1, er1, nu1, tx1, ss1, ds1⟩, lp1, lc1, dp1, dc1⟩) HK2.out.2.2 hne] at h; exact h)
            have hln : m' + 1 ≤ 9 := by
              have h1 := congrArg List.length HEQ3.out
              have h2 := putL_len ⟨⟨s, id, er, nu, tx, ss, ds⟩, lp, lc, dp, dc⟩ ls
              have h3 := HK2.out.1.ow.2
              rw [List.length_append, h3, List.length_cons] at h1
              have h4 := HN.out
              omega
            have hd : (s1 == s) = false := by simpa using hne
            go_upto_region 17 with fail
            go_quiet (fail)
            go_upto_if 80 with fail
            have HK3 := hid (HK2.out.1.k0 ((Frm.refl _ _).drewN nq))
            have d0 : (wc.drewN nq).cell? ⟨d, 0, none⟩ = some (.slice (some ⟨g, 0, none⟩) n c) := c0
            have r0 : (wc.drewN nq).cell? ⟨g, t * 7, none⟩ = some (.int .i64 s1) := q0
            have r1 : (wc.drewN nq).cell? ⟨g, t * 7 + 1, none⟩ = some (.int .i64 id1) := q1
            have r2 : (wc.drewN nq).cell? ⟨g, t * 7 + 2, none⟩ = some (.int .i64 er1) := q2
            have r3 : (wc.drewN nq).cell? ⟨g, t * 7 + 3, none⟩ = some (.int .i64 nu1) := q3
            have r4 : (wc.drewN nq).cell? ⟨g, t * 7 + 4, none⟩ = some (.string tx1) := q4
            have r5 : (wc.drewN nq).cell? ⟨g, t * 7 + 5, none⟩ = some (.slice lp1 n1 lc1) := q5
            have r6 : (wc.drewN nq).cell? ⟨g, t * 7 + 6, none⟩ = some (.slice dp1 m1 dc1) := q6
            clear q0 q1 q2 q3 q4 q5 q6 c0 x0 HK2
            generalize wc.drewN nq = w3 at *
            have HA := hid ((Frm.refl [] w3).alloc (.cells #[.int .i64 s1, .int .i64 id1, .int .i64 er1, .int .i64 nu1, .string tx1, .slice lp1 n1 lc1, .slice dp1 m1 dc1] 61))
            have HRV := hid (rv_block (heap_alloc_new w3 (.cells #[.int .i64 s1, .int .i64 id1, .int .i64 er1, .int .i64 nu1, .string tx1, .slice lp1 n1 lc1, .slice dp1 m1 dc1] 61)))
            have HOW := hid (ownsRow_kept HK3.out.ow.1 HA.out (by simp))
            go_wp2_with (at_builtin; refine wpList_appV rfl _ _ 52 rfl 61 7 96 _ Try.underlying52 infoRp rfl (by decide) q' m' cq' (rowsR out') rfl HOW.out (some ⟨w3.heap.size, 0, none⟩) 1 1 [.int .i64 s1, .int .i64 id1, .int .i64 er1, .int .i64 nu1, .string tx1, .slice lp1 n1 lc1, .slice dp1 m1 dc1] rfl rfl (by simp) HRV.out (by intro u hu; simp at hu; rcases hu with rfl | rfl | rfl | rfl | rfl | rfl | rfl <;> rfl) (by unfold maxLen; omega) (by omega) ?_)
            intro q7 cq7 w7 ho7 hf7 hb7
            have HKN := hid (HK3.out.app (u := ⟨⟨s1, id1, er1, nu1, tx1, ss1, ds1⟩, lp1, lc1, dp1, dc1⟩) HLO.out HA.out (by have h := ho7.out; rw [← HN1.out, ← HM1.out] at h; exact h) hf7.out (fun k hk => (hb7.out k hk).imp (fun h => h) (fun h => by first | exact h | (simp at h ⊢; omega))))
            clear ho7 hf7 hb7 HOW HRV HA
            go_wp2_with fail
            go_roundw
            case rel => exact ⟨t + 1, m' + 1, dn', q7, cq7, _, by omega, hln, by go_num, rfl, by go_num, hid ⟨HKN.out, by rw [List.append_assoc]; exact HEQ3.out⟩⟩
            case measure => first | (simp [intOf]; done) | (simp [intOf]; omega)
        · obtain rfl : t = n := by omega
          have hEND : Hid (ls.drop t = []) := hid (List.drop_of_length_le (by rw [HN.out]; exact Nat.le_refl _))
          go_upto_if 92 with fail
          go_cut [7] (fun z7 wx => ∃ (m' : Nat) (q' : Option Addr) (cq' : Nat), z7 = .slice q' m' cq' ∧ Hid (KS w wx d p c ls f a r bx ⟨⟨s, id, er, nu, tx, ss, ds⟩, lp, lc, dp, dc⟩ q' m' cq' (putL ⟨⟨s, id, er, nu, tx, ss, ds⟩, lp, lc, dp, dc⟩ ls)))
          case first =>
            cases dn
            · have HE2 : Hid (out ++ [(⟨⟨s, id, er, nu, tx, ss, ds⟩, lp, lc, dp, dc⟩ : Rp)] = putL ⟨⟨s, id, er, nu, tx, ss, ds⟩, lp, lc, dp, dc⟩ ls) := hid (by have h := hin.out.2; rw [hEND.out] at h; exact h)
              have HK3 := hin
              have HA := hid ((Frm.refl [] wr).alloc (.cells #[.int .i64 s, .int .i64 id, .int .i64 er, .int .i64 nu, .string tx, .slice lp nn lc, .slice dp mm dc] 61))
              have HRV := hid (rv_block (heap_alloc_new wr (.cells #[.int .i64 s, .int .i64 id, .int .i64 er, .int .i64 nu, .string tx, .slice lp nn lc, .slice dp mm dc] 61)))
              have HOW := hid (ownsRow_kept HK3.out.1.ow.1 HA.out (by simp))
              go_wp2_with (at_builtin; refine wpList_appV rfl _ _ 52 rfl 61 7 96 _ Try.underlying52 infoRp rfl (by decide) q m cq (rowsR out) rfl HOW.out (some ⟨wr.heap.size, 0, none⟩) 1 1 [.int .i64 s, .int .i64 id, .int .i64 er, .int .i64 nu, .string tx, .slice lp nn lc, .slice dp mm dc] rfl rfl (by simp) HRV.out (by intro u hu; simp at hu; rcases hu with rfl | rfl | rfl | rfl | rfl | rfl | rfl <;> rfl) (by unfold maxLen; omega) (by omega) ?_)
              intro q7 cq7 w7 ho7 hf7 hb7
              have HKN := hid (HK3.out.1.app (u := ⟨⟨s, id, er, nu, tx, ss, ds⟩, lp, lc, dp, dc⟩) HLO.out HA.out (by have h := ho7.out; rw [← HNN.out, ← HMM.out] at h; exact h) hf7.out (fun k hk => (hb7.out k hk).imp (fun h => h) (fun h => by first | exact h | (simp at h ⊢; omega))))
              clear ho7 hf7 hb7 HOW HRV HA
              go_wp2_with fail
              go_meet
              exact ⟨m + 1, q7, cq7, by go_num, hid (by rw [← HE2.out]; exact HKN.out)⟩
            · have HE2 : Hid (out = putL ⟨⟨s, id, er, nu, tx, ss, ds⟩, lp, lc, dp, dc⟩ ls) := hid (by have h := hin.out.2; rw [hEND.out] at h; simpa [restK] using h)
              go_wp2_with fail
              go_meet
              exact ⟨m, q, cq, rfl, hid (by rw [← HE2.out]; exact hin.out.1)⟩
          obtain ⟨m', q', cq', rfl, hk'⟩ := hcut
          have HKZ := hid hk'.out
          clear hk' hin x0 x1 x2 x3 x4 x5 x6
          obtain ⟨t3, f3⟩ := HKZ.out.fin HLO.out HV.out HDV.out (putL_mem _ _)
          have c0 := HKZ.out.rt.cells.1
          have z0 := HKZ.out.rt.cells.2.2.2.2 0
          obtain ⟨w3, hw3⟩ : ∃ z, wc.setCell ⟨d, 0, none⟩ (.slice q' m' cq') = z := ⟨_, rfl⟩
          rw [hw3] at t3 f3
          have HT3 := hid t3
          have HF3 := hid f3
          have HW3 := hid hw3
          clear t3 f3 hw3
          go_upto_region 22 with fail
          rw [HW3.out]
          clear HW3 c0 z0
          obtain ⟨_, c1, _, _, cz⟩ := HT3.out.cells
          have z1 := cz 1
          clear cz
          obtain ⟨t4, f4⟩ := HT3.out.fresh (wrap64 (f + 1))
          have HT4 := hid t4
          have HF4 := hid (((HKZ.out.fr.mono (T := [d]) (by simp)).trans HF3.out (fun k hk _ => hk)).trans f4 (fun k hk _ => hk))
          clear t4 f4
          go_wp2_with fail
          first | go_returns | skip
          exact HP2.out _ _ _ _ HCE.out (wrap_i64 _).symm HT4.out HF4.out (fun k hk => (HKZ.out.qn k hk).1)
  · have hB1 : B = false := by simpa using hB0
    subst hB1
    have HCE : Hid (C = 240) := hid (by rw [← HC.out]; unfold chkR; simp only; rw [HB.out, if_pos rfl])
    obtain ⟨t3, f3⟩ := HKS.out.rt.refused (wrap64 (r + 1))
    have HT3 := hid t3
    have HF3 := hid ((HKS.out.fr.mono (T := [d]) (by simp)).trans f3 (fun k hk _ => hk))
    clear t3 f3
    go_wp2_with fail
    first | go_returns | skip
    rw [← HCE.out]
    exact HP1.out _ _ (by rw [HCE.out]; omega) (wrap_i64 _).symm HT3.out HF3.out
end Go.Proofs.Ytbgochkmplacaaa
