/- Disks and their power: Corrupt. -/
import Derived.Test.YtfclamndjnoopaaDskV
import Derived.Test.YtfclamndjnoopaaRfL
namespace Go.Proofs.Ytfclamndjnoopaa
open Go.RowKit Go.Lib
set_option maxRecDepth 100000

/-- A sector of a disk's bytes turned; a write that waits turned. -/
def turnS (bs : List Int) (a : Nat) (ms : List Int) : List Int := splice bs (a * 128) (xr (sec bs a) ms)
def turnW (db a : Nat) (ms : List Int) (x : Wt) : Wt := if x.disk = db ∧ x.at_ = a then { x with bytes := xr x.bytes ms } else x
theorem xr_length {bs ms : List Int} (hl : bs.length = 128) (hm : ms.length ≤ 128) : (xr bs ms).length = 128 := (xj_length (by omega)).trans hl
theorem sec_turnS {bs ms : List Int} {a s n : Nat} (hb : bs.length = n * 128) (ha : a < n) (hm : ms.length ≤ 128) : sec (turnS bs a ms) s = if a = s then xr (sec bs a) ms else sec bs s :=
  sec_splice hb (xr_length (sec_length hb ha) hm) ha
theorem turnS_length {bs ms : List Int} {a n : Nat} (hb : bs.length = n * 128) (ha : a < n) (hm : ms.length ≤ 128) : (turnS bs a ms).length = n * 128 := by
  unfold turnS
  rw [splice_length (by rw [xr_length (sec_length hb ha) hm]; omega), hb]
/-- Bytes that are the same sector by sector are the same. -/
theorem ext_sec {a b : List Int} {n : Nat} (ha : a.length = n * 128) (hb : b.length = n * 128) (h : ∀ s, s < n → sec a s = sec b s) : a = b := by
  apply List.ext_getElem?
  intro k
  by_cases hk : k < n * 128
  · have e := congrArg (fun l : List Int => l[k % 128]?) (h (k / 128) (by omega))
    rw [sec_get _ _ _ (by omega), sec_get _ _ _ (by omega), show k / 128 * 128 + k % 128 = k by omega] at e
    exact e
  · rw [List.getElem?_eq_none (by omega), List.getElem?_eq_none (by omega)]
theorem turn_over {db n : Nat} {a : Nat} {ms : List Int} (ha : a < n) (hm : ms.length ≤ 128) : ∀ (ws : List Wt) (p : List Int), Fits db n ws → p.length = n * 128 → over db (turnS p a ms) (ws.map (turnW db a ms)) = turnS (over db p ws) a ms := by
  intro ws
  induction ws with
  | nil => intro p _ _; rfl
  | cons x ws ih =>
    intro p hw hp
    by_cases hx : x.disk = db
    · obtain ⟨h1, h2⟩ := hw x (by simp) hx
      have e1 : over db p (x :: ws) = over db (splice p (x.at_ * 128) x.bytes) ws := by show over db (if x.disk = db then _ else p) ws = _; rw [if_pos hx]
      have hx' : (turnW db a ms x).disk = db := by unfold turnW; split <;> exact hx
      have hat : (turnW db a ms x).at_ = x.at_ := by unfold turnW; split <;> rfl
      have e2 : over db (turnS p a ms) ((x :: ws).map (turnW db a ms)) = over db (splice (turnS p a ms) (x.at_ * 128) (turnW db a ms x).bytes) (ws.map (turnW db a ms)) := by
        show over db (if (turnW db a ms x).disk = db then splice (turnS p a ms) ((turnW db a ms x).at_ * 128) (turnW db a ms x).bytes else _) _ = _
        rw [if_pos hx', hat]
      have hpl : (splice p (x.at_ * 128) x.bytes).length = n * 128 := by rw [splice_length (by omega), hp]
      rw [e1, e2, ← ih _ (fun y hy => hw y (by simp [hy])) hpl]
      congr 1
      have htl := turnS_length (a := a) hp ha hm
      have hbl : (turnW db a ms x).bytes.length = 128 := by unfold turnW; split; exact xr_length h1 hm; exact h1
      refine ext_sec (n := n) (by rw [splice_length (by omega), htl]) (turnS_length hpl ha hm) (fun s hs => ?_)
      rw [sec_splice htl hbl h2, sec_turnS hpl ha hm, sec_splice hp h1 h2, sec_splice hp h1 h2, sec_turnS hp ha hm]
      unfold turnW
      by_cases e : x.at_ = s
      · subst e
        by_cases e3 : a = x.at_
        · subst e3; simp [hx]
        · rw [if_pos rfl, if_neg e3, if_pos rfl, if_neg (fun h => e3 h.2.symm)]
      · rw [if_neg e]
        by_cases e3 : a = s
        · subst e3; rw [if_pos rfl, if_pos rfl, if_neg e]
        · rw [if_neg e3, if_neg e3, if_neg e]
    · have e1 : over db p (x :: ws) = over db p ws := by show over db (if x.disk = db then _ else p) ws = _; rw [if_neg hx]
      have hx' : turnW db a ms x = x := by unfold turnW; rw [if_neg (fun h => hx h.1)]
      have e2 : over db (turnS p a ms) ((x :: ws).map (turnW db a ms)) = over db (turnS p a ms) (ws.map (turnW db a ms)) := by
        show over db (if (turnW db a ms x).disk = db then _ else turnS p a ms) _ = _
        rw [hx', if_neg hx]
      rw [e1, e2, ih p (fun y hy => hw y (by simp [hy])) hp]
theorem over_turn_other {db eb a : Nat} (h : eb ≠ db) (ms : List Int) : ∀ (ws : List Wt) (p : List Int), over eb p (ws.map (turnW db a ms)) = over eb p ws := by
  intro ws
  induction ws with
  | nil => intro p; rfl
  | cons x ws ih =>
    intro p
    show over eb (if (turnW db a ms x).disk = eb then splice p ((turnW db a ms x).at_ * 128) (turnW db a ms x).bytes else p) (ws.map (turnW db a ms)) = over eb (if x.disk = eb then splice p (x.at_ * 128) x.bytes else p) ws
    by_cases hx : x.disk = db ∧ x.at_ = a
    · have e1 : (turnW db a ms x).disk = db := by unfold turnW; rw [if_pos hx]; exact hx.1
      rw [if_neg (by rw [e1]; exact fun e => h e.symm), if_neg (by rw [hx.1]; exact fun e => h e.symm), ih]
    · have e1 : turnW db a ms x = x := by unfold turnW; rw [if_neg hx]
      rw [e1, ih]
theorem rowsW_set {ws : List Wt} (hl : ∀ x ∈ ws, x.bytes.length = 128) {j : Nat} {x : Wt} (hx : ws[j]? = some x) (b : List Int) : rowsW (ws.set j { x with bytes := b }) = (rowsW ws).take (j * 130 + 2) ++ bv b ++ (rowsW ws).drop (j * 130 + 2 + 128) := by
  obtain ⟨hj, hxe⟩ := List.getElem?_eq_some_iff.1 hx
  have e : ws = ws.take j ++ x :: ws.drop (j + 1) := by rw [← hxe, ← List.drop_eq_getElem_cons hj, List.take_append_drop]
  have e1 : (rowsW (ws.take j)).length = j * 130 := by rw [rowsW_length (fun y hy => hl y (List.mem_of_mem_take hy)), List.length_take, Nat.min_eq_left (by omega)]
  have hl2 := hl x (List.mem_of_getElem? hx)
  have e2 : rowsW ws = rowsW (ws.take j) ++ (x.row ++ rowsW (ws.drop (j + 1))) := by
    have h3 := congrArg rowsW e
    rw [rowsW_app] at h3
    exact h3
  have e3 : ws.set j { x with bytes := b } = ws.take j ++ { x with bytes := b } :: ws.drop (j + 1) := by
    rw [List.set_eq_take_append_cons_drop, if_pos hj]
  obtain ⟨A, hA⟩ : ∃ A, rowsW (ws.take j) = A := ⟨_, rfl⟩
  obtain ⟨Z, hZ⟩ : ∃ Z, rowsW (ws.drop (j + 1)) = Z := ⟨_, rfl⟩
  obtain ⟨u, hu⟩ : ∃ u : List Value, [Value.pointer (some ⟨x.disk, 0, none⟩), Value.int .i64 (x.at_ : Int)] = u := ⟨_, rfl⟩
  have hul : u.length = 2 := by rw [← hu]; rfl
  have hr : x.row = u ++ bv x.bytes := by rw [← hu]; rfl
  have hr2 : Wt.row { x with bytes := b } = u ++ bv b := by rw [← hu]; rfl
  have e4 : rowsW (ws.set j { x with bytes := b }) = A ++ (u ++ bv b ++ Z) := by
    rw [e3, rowsW_app, hA, ← hr2, ← hZ]
    rfl
  rw [hA, hr, hZ] at e2
  rw [hA] at e1
  rw [e4, e2]
  have t1 : (A ++ (u ++ bv x.bytes ++ Z)).take (j * 130 + 2) = A ++ u := by
    rw [show A ++ (u ++ bv x.bytes ++ Z) = (A ++ u) ++ (bv x.bytes ++ Z) by simp, List.take_append_of_le_length (by simp [e1, hul]), List.take_of_length_le (by simp [e1, hul])]
  have t2 : (A ++ (u ++ bv x.bytes ++ Z)).drop (j * 130 + 2 + 128) = Z := by
    rw [show A ++ (u ++ bv x.bytes ++ Z) = (A ++ u ++ bv x.bytes) ++ Z by simp, List.drop_left' (by simp [e1, hul, bv, hl2])]
  rw [t1, t2]
  simp
end Go.Proofs.Ytfclamndjnoopaa
