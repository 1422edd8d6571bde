/- The document's disks: Write. -/
import Derived.Test.YtfclamndjnoopaaRfF
namespace Go.Proofs.Ytfclamndjnoopaa
open Go.RowKit Go.Lib
set_option maxRecDepth 100000

/-- What waits was added to, and the power is told where it lies. -/
theorem IsRf.appWs {w w7 : World} {φ : Nat → Rl} {H : RHp} {lp : Option Addr} {lc : Nat} {ws : List RWt} (h : IsRf w φ H) (hf0 : Frm (blk H.wp) w w7) (ho : w7.ownsRow 0 86 3 (.slice lp ws.length lc) ws.length (rowsR ws))
    (hl : ∀ k ∈ blk lp, φ k = .wts ∨ ∃ n, φ k = .oth n) (hs : ∀ x ∈ ws, SecOk w φ x.s ∧ ∃ d, H.ds[x.d]? = some d ∧ x.at_ < d.ss.length) (hw : H.written + ws.length ≤ 500000000000) :
    IsRf (w7.setCell ⟨H.rb, 1, none⟩ (.slice lp ws.length lc)) (fun k => if k ∈ blk lp then .wts else φ k) { H with wp := lp, wc := lc, ws := ws } ∧ Frm (H.rb :: blk H.wp) w (w7.setCell ⟨H.rb, 1, none⟩ (.slice lp ws.length lc)) := by
  have hf1 : Frm [H.rb] w7 (w7.setCell ⟨H.rb, 1, none⟩ (.slice lp ws.length lc)) := (Frm.refl _ _).setCell _ _ (by simp)
  have hf : Frm (H.rb :: blk H.wp) w (w7.setCell ⟨H.rb, 1, none⟩ (.slice lp ws.length lc)) := (hf0.mono (fun k hk _ => by simp [hk])).trans hf1 (fun k hk _ => by simp at hk; simp [hk])
  have nb : ∀ {j : Nat} {r : Rl}, φ j = r → r ≠ .pow → r ≠ .wts → j ∉ H.rb :: blk H.wp := fun {j r} e hn hn2 hm => by
    rcases List.mem_cons.1 hm with rfl | hm
    · rw [h.rP] at e; exact hn e.symm
    · rw [h.rW j hm] at e; exact hn2 e.symm
  have rl : ∀ {j : Nat} {r : Rl}, φ j = r → r ≠ .wts → (∀ n, r ≠ .oth n) → (if j ∈ blk lp then Rl.wts else φ j) = r := fun {j r} e h1 h2 => by
    rw [if_neg, e]
    intro hm
    rcases hl j hm with h3 | ⟨n, h3⟩
    · rw [h3] at e; exact h1 e.symm
    · rw [h3] at e; exact h2 n e.symm
  have sk : ∀ t, SecOk w φ t → SecOk (w7.setCell ⟨H.rb, 1, none⟩ (.slice lp ws.length lc)) (fun k => if k ∈ blk lp then .wts else φ k) t := fun t ht =>
    ht.kept hf.size (hf.block _ ht.lt (nb ht.rl (by intro e; cases e) (by intro e; cases e))) ((rl ht.rl (by intro e; cases e) (by intro m e; cases e)).trans ht.rl.symm)
  have hrow7 := hf0.heap h.row (fun hm => by have := h.rW _ hm; rw [h.rP] at this; cases this)
  refine ⟨⟨?_, ownsRow_kept h.dsk hf (fun j hj => nb (h.rD j hj) (by intro e; cases e) (by intro e; cases e)), ownsRow_kept ho hf1 (fun j hj => ?_), fun i d hi => ⟨hf.heap (h.dr i d hi).1 (nb (h.rI i d hi).1 (by intro e; cases e) (by intro e; cases e)), ownsRow_kept (h.dr i d hi).2 hf (fun m hm => nb ((h.rI i d hi).2 m hm) (by intro e; cases e) (by intro e; cases e))⟩, fun i d hi s hs => sk s (h.secD i d hi s hs), fun x hx => sk _ (hs x hx).1, rl h.rP (by intro e; cases e) (by intro m e; cases e), fun k hk => rl (h.rD k hk) (by intro e; cases e) (by intro m e; cases e), fun k hk => if_pos hk, fun i d hi => ⟨rl (h.rI i d hi).1 (by intro e; cases e) (by intro m e; cases e), fun k hk => rl ((h.rI i d hi).2 k hk) (by intro e; cases e) (by intro m e; cases e)⟩, fun x hx => (hs x hx).2, h.nb, h.dl, h.lb, ⟨h.wb.1, hw⟩⟩, hf⟩
  · rw [heap_setCell_same _ _ 1 _ _ _ hrow7]
    rfl
  · intro hm
    simp at hm
    subst hm
    rcases hl _ hj with h1 | ⟨n, h1⟩ <;> rw [h.rP] at h1 <;> cases h1
/-- What is left before it goes out, behind j writes. -/
def lfR (left : Int) (j : Nat) : Int := if 0 ≤ left then left - j else left
/-- Where Write stands behind j sectors. -/
def InV (w : World) (φ : Nat → Rl) (H : RHp) (i a : Nat) (bs : List Int) (j : Nat) (w' : World) : Prop :=
  ∃ (H' : RHp) (φ' : Nat → Rl) (xs : List RWt), xs.length = j ∧ (∀ (t : Nat) (x : RWt), xs[t]? = some x → x.d = i ∧ x.at_ = a + t ∧ x.s.bs = sec bs t) ∧ H' = { H with wp := H'.wp, wc := H'.wc, left := lfR H.left j, written := H.written + j, ws := H.ws ++ xs } ∧ RStp w φ H H' φ' w'
/-- What Write answers. -/
def badR (H : RHp) (d : RDk) (at_ : Int) (n : Nat) : Int := if downR H d ≠ 0 then downR H d else if n % 128 ≠ 0 ∨ at_ < 0 ∨ (d.ss.length : Int) < at_ ∨ (d.ss.length : Int) - at_ < ((n / 128 : Nat) : Int) then 1 else 0
def jR (left : Int) (m : Nat) : Nat := if left < 0 then m else min m left.toNat
set_option maxHeartbeats 6400000 in
theorem refWriteBad_any (φ : Nat → Rl) (H : RHp) (i : Nat) (d : RDk) (at_ : Int) (p : Option Addr) (n cc : Nat) (hn0 : n ≤ 140737488355328) (w : World) (h : IsRf w φ H) (hi : H.ds[i]? = some d) (ha : -9223372036854775808 ≤ at_ ∧ at_ ≤ 9223372036854775807) (hbad : badR H d at_ n ≠ 0) :
    Calls Try.prog 47 #[.pointer (some ⟨H.rb, 0, none⟩), .int .i64 (i : Int), .int .i64 at_, .slice p n cc] w fun e w' => e = .returned (.int .i64 (badR H d at_ n)) ∧ w' = w := by
  have HDW := hid (refDown_any φ H i d w h hi)
  obtain ⟨c0, c1, c2, c3, c4⟩ := h.cells
  obtain ⟨gd, hgd, d0, d1, d2⟩ := h.at hi
  have hil : (i : Int) < (H.ds.length : Int) := by have := (List.getElem?_eq_some_iff.1 hi).1; omega
  have hdl := h.dl
  have hnb := h.nb i d hi
  obtain ⟨l, hll⟩ : ∃ l, d.ss.length = l := ⟨_, rfl⟩
  obtain ⟨E, hE⟩ : ∃ E, downR H d = E := ⟨_, rfl⟩
  obtain ⟨M, hM⟩ : ∃ M, n / 128 = M := ⟨_, rfl⟩
  obtain ⟨R, hR⟩ : ∃ R, (n : Int).tmod 128 = R := ⟨_, rfl⟩
  have hq1 : (n : Int).tdiv 128 = (M : Int) := by rw [Int.tdiv_eq_ediv_of_nonneg (by omega)]; omega
  have HRR : Hid (R = ((n % 128 : Nat) : Int)) := hid (by rw [← hR, Int.tmod_eq_emod_of_nonneg (by omega)]; omega)
  have hM2 : M ≤ 140737488355328 := by omega
  rw [hgd] at c0
  rw [hll] at hnb d1
  rw [hE] at HDW
  obtain ⟨A, hA⟩ : ∃ A, badR H d at_ n = A := ⟨_, rfl⟩
  have HA : Hid (A = if E ≠ 0 then E else if n % 128 ≠ 0 ∨ at_ < 0 ∨ (l : Int) < at_ ∨ (l : Int) - at_ < (M : Int) then 1 else 0) := hid (by rw [← hA, ← hE, ← hll, ← hM]; rfl)
  rw [hA] at hbad ⊢
  have HBD := hid hbad
  clear h hi hll hgd hE hA hM c1 c2 c3 c4 d2 hbad
  go_enter Try.func47, Try.ntmps47
  go_wp2_with fail
  refine HDW.out.mono ?_
  rintro e w1 ⟨rfl, rfl⟩
  by_cases hE0 : E = 0
  case neg =>
    have hb : (E != 0) = true := by simpa using hE0
    have HAE : Hid (A = E) := hid (by rw [HA.out, if_pos hE0])
    clear hE0
    go_wp2_with fail
    go_returns
    exact ⟨by rw [HAE.out]; rfl, rfl⟩
  subst hE0
  have HAE : Hid (A = 1) := hid (by
    have h1 := HA.out
    have h2 := HBD.out
    rw [if_neg (by simp)] at h1
    rw [h1] at h2 ⊢
    split
    · rfl
    · rename_i hc; rw [if_neg hc] at h2; exact absurd rfl h2)
  have HOR : Hid (n % 128 ≠ 0 ∨ at_ < 0 ∨ (l : Int) < at_ ∨ (l : Int) - at_ < (M : Int)) := hid (by
    have h1 := HA.out
    have h2 := HBD.out
    rw [if_neg (by simp)] at h1
    rw [h1] at h2
    split at h2
    · rename_i hc; exact hc
    · exact absurd rfl h2)
  by_cases hR0 : R = 0
  case neg =>
    have hb2 : (R != 0) = true := by simpa using hR0
    clear hR0
    go_wp2_with fail
    go_returns
    exact ⟨by rw [HAE.out]; rfl, rfl⟩
  subst hR0
  by_cases h1 : at_ < 0
  · go_wp2_with fail
    go_returns
    exact ⟨by rw [HAE.out]; rfl, rfl⟩
  by_cases h2 : (l : Int) < at_
  · go_wp2_with fail
    go_returns
    exact ⟨by rw [HAE.out]; rfl, rfl⟩
  have h3 : (l : Int) - at_ < (M : Int) := by have := HOR.out; have := HRR.out; omega
  go_wp2_with fail
  go_returns
  exact ⟨by rw [HAE.out]; rfl, rfl⟩
end Go.Proofs.Ytfclamndjnoopaa
