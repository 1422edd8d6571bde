/- The document's Open, of cells whose Content or head is not a volume's. -/
import Derived.Test.YthifchkeapbfdaaVolBl
import Derived.Test.YthifchkeapbfdaaVolY
namespace Go.Proofs.Ythifchkeapbfdaa
open Go.RowKit
set_option maxRecDepth 100000

/-- What the document's Open answers. -/
def PostRO (xs : List GCell) (w : World) (e : Ending) (w' : World) : Prop :=
  Frm [] w w' ∧ ((∃ b g bs, e = .returned (.tuple #[.pointer (some ⟨b, 0, none⟩), .int .i64 0]) ∧ IsRefV w' b g bs ∧ Opens xs bs ∧ w.heap.size ≤ b ∧ w.heap.size ≤ g) ∨ (e = .returned (.tuple #[.pointer none, .int .i64 190]) ∧ ∀ bs, ¬ Opens xs bs))
set_option maxHeartbeats 3200000 in
theorem refOpen_head (W0 w : World) (pp : Option Addr) (n pc : Nat) (xs : List GCell) (hc : CameG W0 pp n pc xs) (hW : Frm [] W0 w) (hbad : n < 1 ∨ ∀ h : 0 < xs.length, (xs[0]).zs.length ≠ 4) :
    Calls Try.prog 13 #[.slice pp n pc] w (PostRO xs w) := by
  have HNO : Hid (∀ bs, ¬ Opens xs bs) := hid (fun bs h => by
    have hl := hc.1
    cases xs with
    | nil => have := h.2.2.2.2; simp [cellsL] at this
    | cons x0 xr =>
      rcases hbad with h1 | h1
      · simp at hl; omega
      · have h2 := (opens_parts h).2.2.1
        have h3 := h1 (by simp)
        simp only [List.getElem_cons_zero] at h3
        rw [h2, le_length] at h3
        omega)
  have HC := hid hc
  have HW := hid hW
  have HB : Hid (0 < n → ∃ g o, pp = some ⟨g, o, none⟩ ∧ (∀ w', Frm [] w w' → ∃ (m c : Nat) (p : Option Addr), w'.cell? ⟨g, o + 3, none⟩ = some (.slice p m c) ∧ m ≠ 4)) := hid (fun h0 => by
    obtain ⟨h1, h2, h3, h4, h5, h6⟩ := hc
    rcases h5 with h5 | ⟨g, o, h5, h7⟩
    · omega
    · refine ⟨g, o, h5, fun w' hf => ?_⟩
      have hx : 0 < xs.length := by omega
      have h8 := ((h7 0 hx).kept (hW.trans hf (by simp))).2.2.2
      rw [Nat.zero_mul, Nat.add_zero] at h8
      rcases hbad with hb | hb
      · omega
      · exact ⟨_, _, _, h8, hb hx⟩)
  clear hc hW hbad
  go_enter Try.func13, Try.ntmps13
  go_wp2_with fail
  refine (content_any W0 w pp n pc xs HC.out HW.out).mono ?_
  rintro e w1 ⟨hf1, h⟩
  have HF1 := hid hf1
  have HP : Hid (∀ w', Frm [] w1 w' → PostRO xs w (.returned (.tuple #[.pointer none, .int .i64 190])) w') := hid (fun w' q => ⟨HF1.out.trans q (by simp), Or.inr ⟨rfl, HNO.out⟩⟩)
  clear hf1
  rcases h with ⟨rfl, _⟩ | ⟨rfl, _⟩
  · by_cases h0 : 0 < n
    · obtain ⟨g, o, rfl, hm⟩ := HB.out h0
      obtain ⟨m, c, p, k3, hm4⟩ := hm w1 HF1.out
      have b0 : (0 : Int) < (n : Int) := by omega
      have b1 : ¬ (n : Int) < 1 := by omega
      have b2 : ((m : Int) != 4) = true := bne_iff_ne.2 (by omega)
      have b3 : ¬ (m : Int) = 4 := by omega
      clear HB HNO HC HW hm hm4
      go_wp2_with fail
      go_returns
      exact HP.out _ (Frm.refl _ _)
    · have b1 : (n : Int) < 1 := by omega
      clear HB HNO HC HW h0
      go_wp2_with fail
      go_returns
      exact HP.out _ (Frm.refl _ _)
  · clear HB HNO HC HW
    go_wp2_with fail
    go_returns
    exact HP.out _ (Frm.refl _ _)
end Go.Proofs.Ythifchkeapbfdaa
