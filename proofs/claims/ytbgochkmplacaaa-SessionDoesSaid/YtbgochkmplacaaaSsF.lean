/- A session's table: what is refused, Look. -/
import Derived.Test.YtbgochkmplacaaaSsE
namespace Go.Proofs.Ytbgochkmplacaaa
open Go.RowKit Go.Lib
set_option maxRecDepth 100000

theorem addI (p : Addr) (x y : Int) (w : World) (hc : w.cell? p = some (.int .i64 x)) (hz : w.frozen? p = false) :
    Calls Try.prog 63 #[.pointer (some p), .int .i64 y] w fun e w' => e = .returned (.int .i64 (IntKind.i64.wrap (x + y))) ∧ w' = w.setCell p (.int .i64 (IntKind.i64.wrap (x + y))) := by
  obtain ⟨s, hs⟩ : ∃ q, IntKind.i64.wrap (x + y) = q := ⟨_, rfl⟩
  have hadd := run_call_add (P := Try.prog) Try.func74 (by kernel_rfl) (by kernel_rfl) (by kernel_rfl) .i64 (by kernel_rfl) (y := y) (s := s) hc hz (by simp [go_sem, hs])
  rw [hs]
  clear hs
  go_enter Try.func63, Try.ntmps63
  go_wp2_with fail
  first | go_returns | skip
  exact ⟨rfl, rfl⟩
section
variable {w : World} {b g : Nat} {pl : Option Nat} {vs : List Rp} {f a r : Int}
theorem TS.cells (h : TS w b pl vs f a r) : w.cell? ⟨b, 4, none⟩ = some (.int .i64 f) ∧ w.cell? ⟨b, 5, none⟩ = some (.int .i64 a) ∧ w.cell? ⟨b, 6, none⟩ = some (.int .i64 r) ∧ (∀ j, w.frozen? ⟨b, j, none⟩ = false) := by
  rcases h.st with ⟨_, _, a3⟩ | ⟨g, _, _, a3, _⟩
  · refine ⟨?_, ?_, ?_, fun j => frozen_of_row _ _ _ _ _ a3⟩ <;> (rw [cell_of_row _ _ _ _ _ _ a3]; rfl)
  · refine ⟨?_, ?_, ?_, fun j => frozen_of_row _ _ _ _ _ a3⟩ <;> (rw [cell_of_row _ _ _ _ _ _ a3]; rfl)
theorem TS.set {j : Nat} {x : Value} {f' a' r' : Int} (h : TS w b pl vs f a r) (hj : ∀ d pv, (rowC d pv f a r).setIfInBounds j x = rowC d pv f' a' r') : TS (w.setCell ⟨b, j, none⟩ x) b pl vs f' a' r' ∧ Frm [b] w (w.setCell ⟨b, j, none⟩ x) := by
  have hf : Frm [b] w (w.setCell ⟨b, j, none⟩ x) := (Frm.refl _ _).setCell _ _ (by simp)
  refine ⟨⟨h.ln, ?_, fun v hv => ⟨(h.ok v hv).1.kept hf (fun k hk hm => ((h.ok v hv).2 k hk).1 (by simp at hm; simp [foot24, hm])), fun k hk => ⟨((h.ok v hv).2 k hk).1, Nat.lt_of_lt_of_le ((h.ok v hv).2 k hk).2 hf.size⟩⟩, h.ib⟩, hf⟩
  rcases h.st with ⟨a1, a2, a3⟩ | ⟨g, a1, a2, a3, a4⟩
  · exact Or.inl ⟨a1, a2, by rw [heap_setCell_same _ _ _ _ _ _ a3, hj]⟩
  · exact Or.inr ⟨g, a1, a2, by rw [heap_setCell_same _ _ _ _ _ _ a3, hj], hf.heap a4 (by simpa using a2)⟩
theorem TS.fresh (h : TS w b pl vs f a r) (f' : Int) : TS (w.setCell ⟨b, 4, none⟩ (.int .i64 f')) b pl vs f' a r ∧ Frm [b] w (w.setCell ⟨b, 4, none⟩ (.int .i64 f')) := h.set (fun _ _ => rfl)
theorem TS.again (h : TS w b pl vs f a r) (a' : Int) : TS (w.setCell ⟨b, 5, none⟩ (.int .i64 a')) b pl vs f a' r ∧ Frm [b] w (w.setCell ⟨b, 5, none⟩ (.int .i64 a')) := h.set (fun _ _ => rfl)
theorem TS.refused (h : TS w b pl vs f a r) (r' : Int) : TS (w.setCell ⟨b, 6, none⟩ (.int .i64 r')) b pl vs f a r' ∧ Frm [b] w (w.setCell ⟨b, 6, none⟩ (.int .i64 r')) := h.set (fun _ _ => rfl)
end
theorem Nx.foot {w : World} {b : Nat} {pl pl' : Option Nat} (h : Nx w pl pl') : ∀ k ∈ foot24 b pl', k ∈ foot24 b pl ∨ w.heap.size ≤ k := fun k hk => by
  rcases h with rfl | ⟨_, g, rfl, hg⟩
  · exact Or.inl hk
  · simp [foot24] at hk
    rcases hk with rfl | rfl
    · exact Or.inl (by simp [foot24])
    · exact Or.inr hg
theorem Nx.trans {w w' : World} {pl p1 p2 : Option Nat} (h : Nx w pl p1) (hz : w.heap.size ≤ w'.heap.size) (h2 : Nx w' p1 p2) : Nx w pl p2 := by
  rcases h2 with rfl | ⟨rfl, g, rfl, hg⟩
  · exact h
  · rcases h with rfl | ⟨_, g', h1, _⟩
    · exact Or.inr ⟨rfl, g, rfl, by omega⟩
    · cases h1
theorem frm24 {w w' w2 : World} {b : Nat} {pl p1 : Option Nat} (h : Frm (foot24 b pl) w w') (hx : Nx w pl p1) (h2 : Frm (foot24 b p1) w' w2) : Frm (foot24 b pl) w w2 :=
  h.trans h2 (fun k hk hkl => (hx.foot k hk).elim id (fun h => by omega))
/-- Why a number may not be. -/
def chk24 (vs : List Rp) (s id more : Int) : Int := if ¬ (1 ≤ s ∧ s ≤ 8 ∧ 1 ≤ id ∧ id ≤ 1073741824) then 240 else if id < last24 vs s + more then 241 else 0
theorem TS.last_bd {w : World} {b : Nat} {pl : Option Nat} {vs : List Rp} {f a r : Int} (h : TS w b pl vs f a r) (n : Int) : 0 ≤ last24 vs n ∧ last24 vs n ≤ 1073741824 := by
  unfold last24
  split
  · rename_i hn
    obtain ⟨v, hv⟩ : ∃ v, vs[n.toNat]? = some v := ⟨_, List.getElem?_eq_getElem (by rw [h.ln]; omega)⟩
    have e : vs.getD n.toNat rp0 = v := by simp [hv]
    rw [e]
    exact h.ib v (List.mem_of_getElem? hv)
  · omega
set_option maxHeartbeats 3200000 in
theorem check24_any (b : Nat) (pl : Option Nat) (vs : List Rp) (f a r s id more : Int) (w : World) (h : TS w b pl vs f a r) (hm : 0 ≤ more ∧ more ≤ 1) :
    Calls Try.prog 62 #[.pointer (some ⟨b, 0, none⟩), .int .i64 s, .int .i64 id, .int .i64 more] w fun e w' => ∃ pl', e = .returned (.int .i64 (chk24 vs s id more)) ∧ TS w' b pl' vs f a r ∧ Frm (foot24 b pl) w w' ∧ Nx w pl pl' := by
  obtain ⟨PO, hPO⟩ : ∃ PO : Ending → World → Prop, (fun e w' => ∃ pl', e = .returned (.int .i64 (chk24 vs s id more)) ∧ TS w' b pl' vs f a r ∧ Frm (foot24 b pl) w w' ∧ Nx w pl pl') = PO := ⟨_, rfl⟩
  rw [hPO]
  have HP : Hid (∀ E pl' w', E = chk24 vs s id more → TS w' b pl' vs f a r → Frm (foot24 b pl) w w' → Nx w pl pl' → PO (.returned (.int .i64 E)) w') := hid (fun E pl' w' h0 h1 h2 h3 => by rw [← hPO]; subst h0; exact ⟨pl', rfl, h1, h2, h3⟩)
  have HLA := hid (last_any b pl vs f a r s w h)
  have HBD := hid (h.last_bd s)
  have H := hid h
  obtain ⟨l, hl⟩ : ∃ q, last24 vs s = q := ⟨_, rfl⟩
  have HLL := hid hl
  rw [hl] at HLA HBD
  clear h hPO hl
  obtain ⟨hm1, hm2⟩ := hm
  go_enter Try.func62, Try.ntmps62
  go_wp2_with fail
  refine (isS_any s w).mono ?_
  rintro e w1 ⟨rfl, hw⟩
  subst hw
  by_cases hs : 1 ≤ s ∧ s ≤ 8
  · have hd : decide (1 ≤ s ∧ s ≤ 8) = true := by simp [hs]
    rw [hd]
    by_cases h1 : id < 1
    · have HE : Hid (240 = chk24 vs s id more) := hid (by unfold chk24; rw [if_pos (by omega)])
      go_wp2_with fail
      first | go_returns | skip
      exact HP.out 240 pl _ HE.out H.out (Frm.refl _ _) (Or.inl rfl)
    by_cases h2 : 1073741824 < id
    · have HE : Hid (240 = chk24 vs s id more) := hid (by unfold chk24; rw [if_pos (by omega)])
      go_wp2_with fail
      first | go_returns | skip
      exact HP.out 240 pl _ HE.out H.out (Frm.refl _ _) (Or.inl rfl)
    have hws : IntKind.i64.wrap (l + more) = l + more := IntWalk.i64_in _ ⟨by have := HBD.out; omega, by have := HBD.out; omega⟩
    have HEE : Hid (chk24 vs s id more = if id < l + more then 241 else 0) := hid (by unfold chk24; rw [if_neg (by omega), HLL.out])
    clear hd
    go_wp2_with fail
    refine HLA.out.mono ?_
    rintro e w2 ⟨pl', rfl, ht, hf, hx⟩
    have HT := hid ht
    have HF := hid hf
    have HX := hid hx
    clear ht hf hx HLA
    by_cases h3 : id < l + more
    · have HE : Hid (241 = chk24 vs s id more) := hid (by rw [HEE.out, if_pos h3])
      go_wp2_with fail
      first | go_returns | skip
      exact HP.out 241 pl' _ HE.out HT.out HF.out HX.out
    · have HE : Hid (0 = chk24 vs s id more) := hid (by rw [HEE.out, if_neg h3])
      go_wp2_with fail
      first | go_returns | skip
      exact HP.out 0 pl' _ HE.out HT.out HF.out HX.out
  · have hd : decide (1 ≤ s ∧ s ≤ 8) = false := by simp; omega
    have HE : Hid (240 = chk24 vs s id more) := hid (by unfold chk24; rw [if_pos (by omega)])
    rw [hd]
    clear hd hs
    go_wp2_with fail
    first | go_returns | skip
    exact HP.out 240 pl _ HE.out H.out (Frm.refl _ _) (Or.inl rfl)
end Go.Proofs.Ytbgochkmplacaaa
