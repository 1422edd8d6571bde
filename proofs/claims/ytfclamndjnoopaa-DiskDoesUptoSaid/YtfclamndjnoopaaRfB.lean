/- The document's disks: NewPower, Cut, down, seen. -/
import Derived.Test.YtfclamndjnoopaaRfA
namespace Go.Proofs.Ytfclamndjnoopaa
open Go.RowKit Go.Lib
set_option maxRecDepth 100000

def RHp.new (rb : Nat) : RHp := ⟨rb, none, 0, none, 0, -1, false, 0, [], []⟩
/-- What is left of a call that changes the document's power: where all lies, what each block is for. -/
structure RStp (w : World) (φ : Nat → Rl) (H H' : RHp) (φ' : Nat → Rl) (w' : World) : Prop where
  r : IsRf w' φ' H'
  b : H'.rb = H.rb
  x : ∀ k, k < w.heap.size → φ' k = φ k
  f : FrR φ w w'
theorem FrR.conv {φ ψ : Nat → Rl} {w w' : World} (h : FrR φ w w') (e : ∀ k, k < w.heap.size → φ k = ψ k) : FrR ψ w w' := ⟨h.os, h.tape, h.output, h.size, fun k hk hm => h.block k hk (by rw [e k hk]; exact hm)⟩
set_option maxHeartbeats 800000 in
theorem refNewPower_any (w : World) :
    Calls Try.prog 34 #[] w fun e w' => ∃ rb, e = .returned (.pointer (some ⟨rb, 0, none⟩)) ∧ w.heap.size ≤ rb ∧ Frm [] w w' ∧ w'.heap[rb]? = some (.cells (RHp.new rb).powRow 79 (0, 0)) := by
  go_enter Try.func34, Try.ntmps34
  go_wp2_with fail
  go_returns
  exact ⟨w.heap.size, rfl, Nat.le_refl _, (Frm.refl _ _).alloc _, heap_alloc_new _ _⟩
theorem newRf {w : World} {rb : Nat} {φ : Nat → Rl} (h : w.heap[rb]? = some (.cells (RHp.new rb).powRow 79 (0, 0))) (hφ : φ rb = .pow) : IsRf w φ (RHp.new rb) :=
  ⟨h, ⟨rfl, Or.inl ⟨rfl, rfl⟩⟩, ⟨rfl, Or.inl ⟨rfl, rfl⟩⟩, by simp [RHp.new], by simp [RHp.new], by simp [RHp.new], hφ, by simp [RHp.new, blk], by simp [RHp.new, blk], by simp [RHp.new], by simp [RHp.new], by simp [RHp.new], by simp [RHp.new], by simp [RHp.new], by simp [RHp.new]⟩
/-- The power's own cells change. -/
theorem IsRf.setPow {w w' : World} {φ : Nat → Rl} {H : RHp} (h : IsRf w φ H) (left : Int) (off : Bool) (written : Int) (hl : -9223372036854775808 ≤ left ∧ left ≤ 9223372036854775807) (hw : 0 ≤ written ∧ written + H.ws.length ≤ 500000000000) (hr : w'.heap[H.rb]? = some (.cells ({ H with left := left, off := off, written := written } : RHp).powRow 79 (0, 0))) (hf : Frm [H.rb] w w') :
    IsRf w' φ { H with left := left, off := off, written := written } := by
  have nb : ∀ k, φ k ≠ .pow → k ∉ [H.rb] := fun k hk hm => by simp at hm; subst hm; exact hk h.rP
  have sk : ∀ s, SecOk w φ s → SecOk w' φ s := fun s hs => hs.kept hf.size (hf.block _ hs.lt (nb _ (by rw [hs.rl]; intro e; cases e))) rfl
  exact ⟨hr, ownsRow_kept h.dsk hf (fun k hk => nb k (by rw [h.rD k hk]; intro e; cases e)), ownsRow_kept h.wts hf (fun k hk => nb k (by rw [h.rW k hk]; intro e; cases e)), fun i d hi => ⟨hf.heap (h.dr i d hi).1 (nb _ (by rw [(h.rI i d hi).1]; intro e; cases e)), ownsRow_kept (h.dr i d hi).2 hf (fun k hk => nb k (by rw [(h.rI i d hi).2 k hk]; intro e; cases e))⟩, fun i d hi s hs => sk s (h.secD i d hi s hs), fun x hx => sk _ (h.secW x hx), h.rP, h.rD, h.rW, h.rI, h.wd, h.nb, h.dl, hl, hw⟩
theorem FrR.one {φ : Nat → Rl} {w w' : World} {rb : Nat} (hf : Frm [rb] w w') (hr : φ rb = .pow) : FrR φ w w' := FrR.of hf (fun k hk _ => by simp at hk; subst hk; rw [hr]; trivial)
set_option maxHeartbeats 800000 in
theorem refCut_any (φ : Nat → Rl) (H : RHp) (after : Int) (ha : -9223372036854775808 ≤ after ∧ after ≤ 9223372036854775807) (w : World) (h : IsRf w φ H) :
    Calls Try.prog 42 #[.pointer (some ⟨H.rb, 0, none⟩), .int .i64 after] w fun e w' => e = .returned (.tuple #[]) ∧ IsRf w' φ { H with left := if after < 0 then -1 else after } ∧ FrR φ w w' := by
  have HH := hid h
  obtain ⟨c0, c1, c2, c3, c4⟩ := h.cells
  have z2 := h.froz 2
  clear h c0 c1 c3 c4
  by_cases h0 : after < 0
  · rw [if_pos h0]
    go_enter Try.func42, Try.ntmps42
    go_wp2_with fail
    go_returns
    obtain ⟨h1, h2⟩ := sets_row H.rb 79 [(2, .int .i64 after), (2, .int .i64 (-1))] w _ HH.out.row
    exact ⟨rfl, HH.out.setPow (-1) H.off H.written (by omega) HH.out.wb h1 h2, FrR.one h2 HH.out.rP⟩
  · rw [if_neg h0]
    go_enter Try.func42, Try.ntmps42
    go_wp2_with fail
    go_returns
    obtain ⟨h1, h2⟩ := sets_row H.rb 79 [(2, .int .i64 after)] w _ HH.out.row
    exact ⟨rfl, HH.out.setPow after H.off H.written ha HH.out.wb h1 h2, FrR.one h2 HH.out.rP⟩
/-- The errors that come first. -/
def downR (H : RHp) (d : RDk) : Int := if H.off then 5 else if d.failed then 30 else 0
set_option maxHeartbeats 800000 in
theorem refDown_any (φ : Nat → Rl) (H : RHp) (i : Nat) (d : RDk) (w : World) (h : IsRf w φ H) (hi : H.ds[i]? = some d) :
    Calls Try.prog 48 #[.pointer (some ⟨H.rb, 0, none⟩), .int .i64 (i : Int)] w fun e w' => e = .returned (.int .i64 (downR H d)) ∧ w' = w := by
  obtain ⟨c0, c1, c2, c3, c4⟩ := h.cells
  obtain ⟨gd, hgd, d0, d1, d2⟩ := h.at hi
  have hil : (i : Int) < (H.ds.length : Int) := by have := (List.getElem?_eq_some_iff.1 hi).1; omega
  have hdl := h.dl
  obtain ⟨R, hR⟩ : ∃ R, downR H d = R := ⟨_, rfl⟩
  rw [hR]
  have HR : Hid (R = if H.off then 5 else if d.failed then 30 else 0) := hid hR.symm
  obtain ⟨off, ho⟩ : ∃ o, H.off = o := ⟨_, rfl⟩
  obtain ⟨fl, hf⟩ : ∃ o, d.failed = o := ⟨_, rfl⟩
  obtain ⟨n, hn⟩ : ∃ n, H.ds.length = n := ⟨_, rfl⟩
  rw [ho] at c3
  rw [hf] at d2
  rw [hgd, hn] at c0
  rw [hn] at hil hdl
  rw [ho, hf] at HR
  clear h hi hR ho hf hn hgd c1 c2 c4 d1
  cases off
  case true =>
    go_enter Try.func48, Try.ntmps48
    go_wp2_with fail
    go_returns
    exact ⟨by rw [HR.out]; rfl, rfl⟩
  cases fl
  case true =>
    go_enter Try.func48, Try.ntmps48
    go_wp2_with fail
    go_returns
    exact ⟨by rw [HR.out]; rfl, rfl⟩
  go_enter Try.func48, Try.ntmps48
  go_wp2_with fail
  go_returns
  exact ⟨by rw [HR.out]; rfl, rfl⟩
/-- What a Read tells of a sector: the last that waits, else the platter's. -/
def seenS (ws : List RWt) (d k : Nat) (s : SecR) : SecR := ws.foldl (fun b x => if x.d = d ∧ x.at_ = k then x.s else b) s
theorem seenS_none {d k : Nat} : ∀ (ws : List RWt) (s : SecR), (∀ x ∈ ws, ¬ (x.d = d ∧ x.at_ = k)) → seenS ws d k s = s := by
  intro ws
  induction ws with
  | nil => intro s _; rfl
  | cons x ws ih =>
    intro s h
    show seenS ws d k (if x.d = d ∧ x.at_ = k then x.s else s) = s
    rw [if_neg (h x (by simp)), ih s (fun y hy => h y (by simp [hy]))]
theorem seenS_hit {ws : List RWt} {d k i : Nat} {x : RWt} (s : SecR) (hi : ws[i]? = some x) (hx : x.d = d ∧ x.at_ = k) (hn : ∀ y ∈ ws.drop (i + 1), ¬ (y.d = d ∧ y.at_ = k)) : seenS ws d k s = x.s := by
  obtain ⟨hlt, rfl⟩ := List.getElem?_eq_some_iff.1 hi
  have e1 : ws = ws.take i ++ ws[i] :: ws.drop (i + 1) := by rw [← List.drop_eq_getElem_cons hlt, List.take_append_drop]
  have e2 : seenS ws d k s = seenS (ws[i] :: ws.drop (i + 1)) d k (seenS (ws.take i) d k s) := by
    conv => lhs; rw [e1]
    simp only [seenS, List.foldl_append]
  rw [e2]
  show seenS (ws.drop (i + 1)) d k (if ws[i].d = d ∧ ws[i].at_ = k then ws[i].s else _) = _
  rw [if_pos hx, seenS_none _ _ hn]
set_option maxHeartbeats 3200000 in
theorem refSeen_any (φ : Nat → Rl) (H : RHp) (i k : Nat) (d : RDk) (s : SecR) (w : World) (h : IsRf w φ H) (hi : H.ds[i]? = some d) (hs : d.ss[k]? = some s) :
    Calls Try.prog 52 #[.pointer (some ⟨H.rb, 0, none⟩), .int .i64 (i : Int), .int .i64 (k : Int)] w fun e w' => e = .returned (seenS H.ws i k s).v ∧ w' = w := by
  have HH := hid h
  have HI := hid hi
  have HS := hid hs
  obtain ⟨c0, c1, c2, c3, c4⟩ := h.cells
  obtain ⟨gd, hgd, d0, d1, d2⟩ := h.at hi
  obtain ⟨gp, hgp, p0, _⟩ := h.sec hi hs
  have hil : (i : Int) < (H.ds.length : Int) := by have := (List.getElem?_eq_some_iff.1 hi).1; omega
  have hkl : (k : Int) < (d.ss.length : Int) := by have := (List.getElem?_eq_some_iff.1 hs).1; omega
  have hdl := h.dl
  have hnb := h.nb i d hi
  have hwb := h.wb
  obtain ⟨n, hn⟩ : ∃ n, H.ds.length = n := ⟨_, rfl⟩
  obtain ⟨m, hm⟩ : ∃ m, H.ws.length = m := ⟨_, rfl⟩
  obtain ⟨l, hll⟩ : ∃ l, d.ss.length = l := ⟨_, rfl⟩
  have hm2 : m ≤ 500000000000 := by omega
  rw [hgd, hn] at c0
  rw [hm] at c1
  rw [hgp, hll] at d1
  rw [hn] at hil hdl
  rw [hll] at hkl hnb
  have HM := hid hm
  unfold SecR.v at p0
  clear h hi hs hn hm hll hgd hgp c2 c3 c4 hwb d2
  go_enter Try.func52, Try.ntmps52
  go_wp2_with fail
  go_loopw [7, 6] (fun t s6 wr => ∃ j : Nat, j ≤ m ∧ t = .int .i64 ((j : Int) - 1) ∧ Hid (∀ y ∈ H.ws.drop j, ¬ (y.d = i ∧ y.at_ = k)) ∧ wr = w) (fun t _ _ => (intOf t + 1).toNat)
  case atStart => exact ⟨m, Nat.le_refl _, rfl, hid (by rw [List.drop_eq_nil_of_le (by rw [HM.out]; omega)]; simp), rfl⟩
  case round =>
    obtain ⟨j, hj, rfl, hno, rfl⟩ := hrel
    by_cases h0 : j = 0
    · subst h0
      have HV : Hid (seenS H.ws i k s = s) := hid (seenS_none _ _ (by simpa using hno.out))
      clear hno
      go_wp2_with fail
      go_returns
      exact ⟨by rw [HV.out]; rfl, rfl⟩
    · obtain ⟨t, rfl⟩ : ∃ t, j = t + 1 := ⟨j - 1, by omega⟩
      obtain ⟨x, hx⟩ : ∃ x, H.ws[t]? = some x := ⟨_, List.getElem?_eq_getElem (by rw [HM.out]; omega)⟩
      obtain ⟨gw, hgw, x0, x1, x2, _⟩ := HH.out.wait hx
      have e1 : ((t + 1 : Nat) : Int) - 1 = (t : Int) := by omega
      rw [e1]
      have t0 : (0 : Int) ≤ (t : Int) := by omega
      have t1 : (t : Int) < (m : Int) := by omega
      rw [hgw] at c1
      unfold SecR.v at x2
      by_cases hd : x.d = i
      · by_cases ha : x.at_ = k
        · have HV : Hid (seenS H.ws i k s = x.s) := hid (seenS_hit s hx ⟨hd, ha⟩ hno.out)
          have b1 : ((x.d : Int) == (i : Int)) = true := by simp [hd]
          have b2 : ((x.at_ : Int) == (k : Int)) = true := by simp [ha]
          clear hx hd ha hgw hno e1
          go_wp2_with fail
          go_returns
          exact ⟨by rw [HV.out]; rfl, rfl⟩
        · have HNO : Hid (∀ y ∈ H.ws.drop t, ¬ (y.d = i ∧ y.at_ = k)) := hid (by
            have h2 := (List.getElem?_eq_some_iff.1 hx)
            rw [List.drop_eq_getElem_cons h2.1, h2.2]
            intro y hy
            rcases List.mem_cons.1 hy with rfl | hy
            · exact fun h => ha h.2
            · exact hno.out y hy)
          have b1 : ((x.d : Int) == (i : Int)) = true := by simp [hd]
          have b2 : ((x.at_ : Int) == (k : Int)) = false := by simpa using fun h : (x.at_ : Int) = k => ha (by omega)
          clear hx hd ha hgw hno e1
          go_wp2_with fail
          go_roundw
          case rel => exact ⟨t, by omega, by go_num, HNO, trivial⟩
          case measure => first | (simp [intOf]; done) | (simp [intOf]; omega)
      · have HNO : Hid (∀ y ∈ H.ws.drop t, ¬ (y.d = i ∧ y.at_ = k)) := hid (by
          have h2 := (List.getElem?_eq_some_iff.1 hx)
          rw [List.drop_eq_getElem_cons h2.1, h2.2]
          intro y hy
          rcases List.mem_cons.1 hy with rfl | hy
          · exact fun h => hd h.1
          · exact hno.out y hy)
        have b1 : ((x.d : Int) == (i : Int)) = false := by simpa using fun h : (x.d : Int) = i => hd (by omega)
        clear hx hd hgw hno e1
        go_wp2_with fail
        go_roundw
        case rel => exact ⟨t, by omega, by go_num, HNO, trivial⟩
        case measure => first | (simp [intOf]; done) | (simp [intOf]; omega)
end Go.Proofs.Ytfclamndjnoopaa
