/- The document's disks: Corrupt, refused; what waits gets other bytes. The document's disks: Corrupt. -/
import Derived.Test.YtfclamndjnoopaaRfI
import Derived.Test.YtfclamndjnoopaaRfL
import Derived.Test.YtfclamndjnoopaaDskY
namespace Go.Proofs.Ytfclamndjnoopaa
section
open Go.RowKit Go.Lib
set_option maxRecDepth 100000

theorem rowsR_set {ws : List RWt} {j : Nat} {x : RWt} (hx : ws[j]? = some x) (s : SecR) : (rowsR ws).set (j * 3 + 2) s.v = rowsR (ws.set j { x with s := s }) := by
  obtain ⟨hj, hxe⟩ := List.getElem?_eq_some_iff.1 hx
  have hlen : ∀ (m : List RWt), (rowsR m).length = m.length * 3 := by
    intro m
    induction m with
    | nil => rfl
    | cons y m ih => rw [show rowsR (y :: m) = y.row ++ rowsR m from rfl, List.length_append, ih]; simp [RWt.row]; omega
  have e : ws = ws.take j ++ x :: ws.drop (j + 1) := by rw [← hxe, ← List.drop_eq_getElem_cons hj, List.take_append_drop]
  have e1 : (rowsR (ws.take j)).length = j * 3 := by rw [hlen, List.length_take, Nat.min_eq_left (by omega)]
  have e2 : rowsR ws = rowsR (ws.take j) ++ (x.row ++ rowsR (ws.drop (j + 1))) := by
    have h3 := congrArg rowsR e
    rw [rowsR_app] at h3
    exact h3
  have e3 : ws.set j { x with s := s } = ws.take j ++ { x with s := s } :: ws.drop (j + 1) := by
    rw [List.set_eq_take_append_cons_drop, if_pos hj]
  rw [e2, e3, rowsR_app, List.set_append_right _ _ (by omega), e1, show j * 3 + 2 - j * 3 = 2 by omega]
  rfl
/-- A write that waits gets another sector. -/
theorem IsRf.setWB {w : World} {φ : Nat → Rl} {H : RHp} {j gw : Nat} {x : RWt} {s : SecR} (h : IsRf w φ H) (hj : H.ws[j]? = some x) (hp : H.wp = some ⟨gw, 0, none⟩) (hs : SecOk w φ s) :
    IsRf (w.setCell ⟨gw, j * 3 + 2, none⟩ s.v) φ { H with ws := H.ws.set j { x with s := s } } ∧ Frm [gw] w (w.setCell ⟨gw, j * 3 + 2, none⟩ s.v) ∧ φ gw = .wts := by
  have hφ : φ gw = .wts := h.rW gw (by rw [hp]; simp [blk])
  have hf : Frm [gw] w (w.setCell ⟨gw, j * 3 + 2, none⟩ s.v) := (Frm.refl _ _).setCell _ _ (by simp)
  have nb : ∀ {j : Nat} {r : Rl}, φ j = r → r ≠ .wts → j ∉ [gw] := fun e hn hm => by simp at hm; subst hm; rw [hφ] at e; exact hn e.symm
  have sk : ∀ t, SecOk w φ t → SecOk (w.setCell ⟨gw, j * 3 + 2, none⟩ s.v) φ t := fun t ht => ht.far hf (nb ht.rl (by intro e; cases e))
  refine ⟨⟨?_, ownsRow_kept h.dsk hf (fun m hm => nb (h.rD m hm) (by intro e; cases e)), ?_, fun i d hi => ⟨hf.heap (h.dr i d hi).1 (nb (h.rI i d hi).1 (by intro e; cases e)), ownsRow_kept (h.dr i d hi).2 hf (fun m hm => nb ((h.rI i d hi).2 m hm) (by intro e; cases e))⟩, fun i d hi t ht => sk t (h.secD i d hi t ht), fun y hy => ?_, h.rP, h.rD, h.rW, h.rI, fun y hy => ?_, h.nb, h.dl, h.lb, by rw [List.length_set]; exact h.wb⟩, hf, hφ⟩
  · have := hf.heap h.row (nb h.rP (by intro e; cases e))
    unfold RHp.powRow at this ⊢
    rw [List.length_set]
    exact this
  · have ho := h.wts
    rw [hp] at ho
    simp only [hp, List.length_set]
    rw [← rowsR_set hj]
    exact own_set ho
  · rcases List.mem_or_eq_of_mem_set hy with h1 | rfl
    · exact sk _ (h.secW y h1)
    · exact sk _ hs
  · rcases List.mem_or_eq_of_mem_set hy with h1 | rfl
    · exact h.wd y h1
    · exact h.wd x (List.mem_of_getElem? hj)
def corR (d : RDk) (at_ : Int) (m : Nat) : Int := if d.failed then 30 else if at_ < 0 ∨ (d.ss.length : Int) ≤ at_ ∨ 128 < m then 1 else 0
set_option maxHeartbeats 1600000 in
theorem refCorruptBad_any (φ : Nat → Rl) (H : RHp) (i : Nat) (d : RDk) (at_ : Int) (p : Option Addr) (m cm : Nat) (w : World) (h : IsRf w φ H) (hi : H.ds[i]? = some d) (ha : -9223372036854775808 ≤ at_ ∧ at_ ≤ 9223372036854775807) (hm : m ≤ 140737488355328) (hbad : corR d at_ m ≠ 0) :
    Calls Try.prog 41 #[.pointer (some ⟨H.rb, 0, none⟩), .int .i64 (i : Int), .int .i64 at_, .slice p m cm] w fun e w' => e = .returned (.int .i64 (corR d at_ m)) ∧ w' = w := by
  obtain ⟨c0, c1, c2, c3, c4⟩ := h.cells
  obtain ⟨gd, hgd, d0, d1, d2⟩ := h.at hi
  have hil : (i : Int) < (H.ds.length : Int) := by have := (List.getElem?_eq_some_iff.1 hi).1; omega
  have hdl := h.dl
  have hnb := h.nb i d hi
  obtain ⟨l, hll⟩ : ∃ l, d.ss.length = l := ⟨_, rfl⟩
  obtain ⟨R, hR⟩ : ∃ R, corR d at_ m = R := ⟨_, rfl⟩
  rw [hR] at hbad ⊢
  have HR : Hid (R = if d.failed then 30 else if at_ < 0 ∨ (l : Int) ≤ at_ ∨ 128 < m then 1 else 0) := hid (by rw [← hR, ← hll]; rfl)
  have HB := hid hbad
  obtain ⟨fl, hf⟩ : ∃ o, d.failed = o := ⟨_, rfl⟩
  rw [hgd] at c0
  rw [hll] at hnb d1
  rw [hf] at d2 HR
  clear h hi hll hgd hR hf hbad c1 c2 c3 c4
  cases fl
  case true =>
    go_enter Try.func41, Try.ntmps41
    go_wp2_with fail
    go_returns
    exact ⟨by rw [HR.out]; rfl, rfl⟩
  have HV : Hid (R = 1 ∧ (at_ < 0 ∨ (l : Int) ≤ at_ ∨ 128 < m)) := hid (by
    have h1 := HR.out
    have h2 := HB.out
    simp only [Bool.false_eq_true, if_false] at h1
    rw [h1] at h2 ⊢
    split at h2
    · rename_i hc; rw [if_pos hc]; exact ⟨rfl, hc⟩
    · exact absurd rfl h2)
  go_enter Try.func41, Try.ntmps41
  by_cases h1 : at_ < 0
  · go_wp2_with fail
    go_returns
    exact ⟨by rw [HV.out.1]; rfl, rfl⟩
  by_cases h2 : (l : Int) ≤ at_
  · go_wp2_with fail
    go_returns
    exact ⟨by rw [HV.out.1]; rfl, rfl⟩
  have h3 : (128 : Int) < (m : Int) := by have := HV.out.2; omega
  go_wp2_with fail
  go_returns
  exact ⟨by rw [HV.out.1]; rfl, rfl⟩
end
section
open Go.RowKit Go.Lib
set_option maxRecDepth 100000

def turnR (i a : Nat) (ms : List Int) (x : RWt) : Nat × Nat × List Int := (x.d, x.at_, if x.d = i ∧ x.at_ = a then xr x.s.bs ms else x.s.bs)
theorem rd_oth {w w' : World} {φ : Nat → Rl} {p : Option Addr} {ms : List Int} (h : Rd w p ms) (hap : ms ≠ [] → ∀ k ∈ blk p, ∃ n, φ k = .oth n) (hf : FrR φ w w') : Rd w' p ms := by
  rcases h with h0 | ⟨g, o, rfl, hc⟩
  · exact Or.inl h0
  · by_cases hne : ms = []
    · exact Or.inl hne
    · refine rd_same (Or.inr ⟨g, o, rfl, hc⟩) ?_
      obtain ⟨n, hn⟩ := hap hne g (by simp [blk])
      exact hf.block g (World.block_lt_of_cell? w _ (hc 0 (List.length_pos_iff.2 hne))) (by rw [hn]; exact fun h => h)
/-- Where Corrupt stands behind j of those that wait. -/
structure InC (w : World) (φ : Nat → Rl) (H : RHp) (i a : Nat) (d : RDk) (s : SecR) (ms : List Int) (j : Nat) (w' : World) : Prop where
  ex : ∃ (H' : RHp) (φ' : Nat → Rl) (ns : List RWt) (sn : SecR), ns.map RWt.pure = (H.ws.take j).map (turnR i a ms) ∧ sn.bs = xr s.bs ms ∧ H' = { H with ds := H.ds.set i { d with ss := d.ss.set a sn }, ws := ns ++ H.ws.drop j } ∧ RStp w φ H H' φ' w'
theorem InC.start {w w7 : World} {φ : Nat → Rl} {H : RHp} {i a : Nat} {d : RDk} {s : SecR} {ms : List Int} {gp g' c' : Nat} (h : IsRf w φ H) (hi : H.ds[i]? = some d) (hs : SecOk w φ s) (hp : d.pp = some ⟨gp, 0, none⟩) (hm : ms.length ≤ 128) (hbz : ∀ z ∈ ms, 0 ≤ z ∧ z < 256)
    (hf : Frm [] w w7) (hr : Rd w7 (some ⟨g', 0, none⟩) (xr s.bs ms)) (hc : 128 ≤ c') (hn : w.heap.size ≤ g') (hlt : g' < w7.heap.size) : InC w φ H i a d s ms 0 (w7.setCell ⟨gp, a, none⟩ (.slice (some ⟨g', 0, none⟩) 128 c')) := by
  obtain ⟨n1, n2⟩ := h.newSec hf hr (xr_length hs.len hm) hc (xj_bd hs.bd hbz) hn hlt
  obtain ⟨s1, s2, s3⟩ := n1.setSec (k := a) hi hp n2
  exact ⟨_, _, [], ⟨g', c', xr s.bs ms⟩, by simp, rfl, by simp, s1, rfl, fun k hk => secφ_old hn hk, (FrR.of hf (by simp)).trans (FrR.of s2 (fun k hk _ => by simp at hk; subst hk; rw [s3]; trivial)) (fun k hk => secφ_old hn hk)⟩
theorem InC.hit {w wr w7 : World} {φ φ2 : Nat → Rl} {H H2 : RHp} {i a j : Nat} {d : RDk} {s sn : SecR} {ms : List Int} {ns : List RWt} {x : RWt} {gw g' c' : Nat} (hns : ns.map RWt.pure = (H.ws.take j).map (turnR i a ms)) (hsn : sn.bs = xr s.bs ms) (he : H2 = { H with ds := H.ds.set i { d with ss := d.ss.set a sn }, ws := ns ++ H.ws.drop j }) (hr : RStp w φ H H2 φ2 wr)
    (hx : H.ws[j]? = some x) (hxa : x.d = i ∧ x.at_ = a) (hwp : H2.wp = some ⟨gw, 0, none⟩) (hso : SecOk wr φ2 x.s) (hm : ms.length ≤ 128) (hbz : ∀ z ∈ ms, 0 ≤ z ∧ z < 256)
    (hf : Frm [] wr w7) (hrd : Rd w7 (some ⟨g', 0, none⟩) (xr x.s.bs ms)) (hc : 128 ≤ c') (hn : wr.heap.size ≤ g') (hlt : g' < w7.heap.size) : InC w φ H i a d s ms (j + 1) (w7.setCell ⟨gw, j * 3 + 2, none⟩ (.slice (some ⟨g', 0, none⟩) 128 c')) := by
  obtain ⟨hj, hxe⟩ := List.getElem?_eq_some_iff.1 hx
  have hnl : ns.length = j := by have := congrArg List.length hns; simpa [Nat.min_eq_left (Nat.le_of_lt hj)] using this
  have hd1 : H.ws.drop j = x :: H.ws.drop (j + 1) := by rw [← hxe]; exact List.drop_eq_getElem_cons hj
  have hx2 : H2.ws[j]? = some x := by
    rw [he]
    show (ns ++ H.ws.drop j)[j]? = some x
    rw [List.getElem?_append_right (by omega), hnl, Nat.sub_self, hd1]
    rfl
  obtain ⟨n1, n2⟩ := hr.r.newSec hf hrd (xr_length hso.len hm) hc (xj_bd hso.bd hbz) hn hlt
  obtain ⟨s1, s2, s3⟩ := n1.setWB hx2 hwp n2
  have htk : H.ws.take (j + 1) = H.ws.take j ++ [x] := by rw [List.take_add_one, hx]; rfl
  refine ⟨_, _, ns ++ [{ x with s := ⟨g', c', xr x.s.bs ms⟩ }], sn, ?_, hsn, ?_, hr.trans ⟨s1, rfl, fun k hk => secφ_old hn hk, (FrR.of hf (by simp)).trans (FrR.of s2 (fun k hk _ => by simp at hk; subst hk; rw [s3]; trivial)) (fun k hk => secφ_old hn hk)⟩⟩
  · rw [htk, List.map_append, List.map_append, hns]
    congr 1
    simp [RWt.pure, turnR, hxa]
  · have hset : (ns ++ H.ws.drop j).set j { x with s := ⟨g', c', xr x.s.bs ms⟩ } = ns ++ [{ x with s := ⟨g', c', xr x.s.bs ms⟩ }] ++ H.ws.drop (j + 1) := by
      rw [hd1, List.set_append_right _ _ (by omega), hnl, Nat.sub_self, List.set_cons_zero]
      simp
    rw [he, ← hset]
theorem InC.miss {w wr : World} {φ : Nat → Rl} {H : RHp} {i a j : Nat} {d : RDk} {s : SecR} {ms : List Int} {x : RWt} (h : InC w φ H i a d s ms j wr) (hx : H.ws[j]? = some x) (hxa : ¬ (x.d = i ∧ x.at_ = a)) : InC w φ H i a d s ms (j + 1) wr := by
  obtain ⟨H2, φ2, ns, sn, h1, h2, h3, h4⟩ := h.ex
  obtain ⟨hj, hxe⟩ := List.getElem?_eq_some_iff.1 hx
  have hd1 : H.ws.drop j = x :: H.ws.drop (j + 1) := by rw [← hxe]; exact List.drop_eq_getElem_cons hj
  have htk : H.ws.take (j + 1) = H.ws.take j ++ [x] := by rw [List.take_add_one, hx]; rfl
  refine ⟨H2, φ2, ns ++ [x], sn, ?_, h2, ?_, h4⟩
  · rw [htk, List.map_append, List.map_append, h1]
    congr 1
    simp [RWt.pure, turnR, hxa]
  · rw [h3, hd1]
    simp
end
end Go.Proofs.Ytfclamndjnoopaa
