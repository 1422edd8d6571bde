/- Disks and their power: what Up leaves; speaks of no world. -/
import Derived.Test.YtfclamndjnoopaaDskL
namespace Go.Proofs.Ytfclamndjnoopaa
open Go.RowKit Go.Lib
set_option maxRecDepth 100000

theorem spl_get (zs ys : List Int) (P : Nat) (h : P + ys.length ≤ zs.length) (i : Nat) : (splice zs P ys)[i]? = if P ≤ i ∧ i < P + ys.length then ys[i - P]? else zs[i]? := by
  unfold splice
  have hl : (zs.take P).length = P := by rw [List.length_take]; omega
  by_cases h1 : i < P
  · rw [if_neg (by omega), List.append_assoc, List.getElem?_append_left (by omega), List.getElem?_take, if_pos h1]
  · by_cases h2 : i < P + ys.length
    · rw [if_pos (by omega), List.getElem?_append_left (by simp [hl]; omega), List.getElem?_append_right (by omega), hl]
    · rw [if_neg (by omega), List.getElem?_append_right (by simp [hl]; omega), List.getElem?_drop]
      congr 1
      simp [hl]
      omega
/-- The writes that stay. -/
def keptW (stay : List Bool) (ws : List Wt) : List Wt := (ws.zipIdx.filter (fun x => stay.getD x.2 false)).map Prod.fst
theorem keptW_succ (stay : List Bool) {ws : List Wt} {j : Nat} (h : j < ws.length) : keptW stay (ws.take (j + 1)) = keptW stay (ws.take j) ++ (if stay.getD j false then [ws[j]] else []) := by
  have hl : (ws.take j).length = j := by rw [List.length_take]; omega
  rw [take_succ_ws h]
  unfold keptW
  rw [List.zipIdx_append, List.filter_append, List.map_append, hl]
  congr 1
  simp only [List.zipIdx_cons, List.zipIdx_nil, Nat.zero_add, List.filter_cons, List.filter_nil]
  cases stay.getD j false <;> rfl
theorem keptW_sub {stay : List Bool} {ws : List Wt} : ∀ x ∈ keptW stay ws, x ∈ ws := by
  intro x hx
  simp only [keptW, List.mem_map, List.mem_filter] at hx
  obtain ⟨⟨y, i⟩, ⟨h1, _⟩, rfl⟩ := hx
  exact (List.mem_zipIdx' h1).2 ▸ List.getElem_mem _
/-- What is seen is taken back from the platter, where something waited. -/
def back (db : Nat) (P : List Int) (s : List Int) (ws : List Wt) : List Int := ws.foldl (fun s x => if x.disk = db then splice s (x.at_ * 128) (sec P x.at_) else s) s
theorem back_app (db : Nat) (P s : List Int) (a b : List Wt) : back db P s (a ++ b) = back db P (back db P s a) b := by simp [back]
theorem back_same {db : Nat} {x : Wt} (P s : List Int) (h : x.disk = db) : back db P s [x] = splice s (x.at_ * 128) (sec P x.at_) := by simp [back, h]
theorem back_other {db : Nat} {x : Wt} (P s : List Int) (h : x.disk ≠ db) : back db P s [x] = s := by simp [back, h]
/-- A write that lies over a byte of a disk. -/
def Cov (db k : Nat) (x : Wt) : Prop := x.disk = db ∧ x.at_ * 128 ≤ k ∧ k < x.at_ * 128 + 128
/-- Writes that lie within. -/
def Fits (db n : Nat) (ws : List Wt) : Prop := ∀ x ∈ ws, x.disk = db → x.bytes.length = 128 ∧ x.at_ < n
theorem over_length {db n : Nat} : ∀ (ws : List Wt) (p : List Int), Fits db n ws → p.length = n * 128 → (over db p ws).length = n * 128 := by
  intro ws
  induction ws with
  | nil => intro p _ h; exact h
  | cons x ws ih =>
    intro p hw hp
    refine ih _ (fun y hy => hw y (by simp [hy])) ?_
    show (if x.disk = db then splice p (x.at_ * 128) x.bytes else p).length = _
    by_cases hx : x.disk = db
    · rw [if_pos hx]
      obtain ⟨h1, h2⟩ := hw x (by simp) hx
      rw [splice_length (by omega), hp]
    · rw [if_neg hx, hp]
theorem over_bytes {db : Nat} : ∀ (ws : List Wt) (p : List Int), (∀ x ∈ ws, x.disk = db → ∀ z ∈ x.bytes, 0 ≤ z ∧ z < 256) → (∀ z ∈ p, 0 ≤ z ∧ z < 256) → ∀ z ∈ over db p ws, 0 ≤ z ∧ z < 256 := by
  intro ws
  induction ws with
  | nil => intro p _ h; exact h
  | cons x ws ih =>
    intro p hw hp
    refine ih _ (fun y hy => hw y (by simp [hy])) ?_
    show ∀ z ∈ (if x.disk = db then splice p (x.at_ * 128) x.bytes else p), _
    by_cases hx : x.disk = db
    · rw [if_pos hx]
      intro z hz
      unfold splice at hz
      simp only [List.mem_append] at hz
      rcases hz with (h | h) | h
      · exact hp z (List.mem_of_mem_take h)
      · exact hw x (by simp) hx z h
      · exact hp z (List.mem_of_mem_drop h)
    · rw [if_neg hx]; exact hp
theorem over_get {db n : Nat} : ∀ (ws : List Wt) (p : List Int), Fits db n ws → p.length = n * 128 → ∀ k, (∀ x ∈ ws, ¬ Cov db k x) → (over db p ws)[k]? = p[k]? := by
  intro ws
  induction ws with
  | nil => intro p _ _ k _; rfl
  | cons x ws ih =>
    intro p hw hp k hk
    show (over db (if x.disk = db then splice p (x.at_ * 128) x.bytes else p) ws)[k]? = _
    by_cases hx : x.disk = db
    · rw [if_pos hx]
      obtain ⟨h1, h2⟩ := hw x (by simp) hx
      have hle : x.at_ * 128 + x.bytes.length ≤ p.length := by omega
      rw [ih _ (fun y hy => hw y (by simp [hy])) (by rw [splice_length hle, hp]) k (fun y hy => hk y (by simp [hy])), spl_get _ _ _ hle, if_neg]
      have := hk x (by simp)
      unfold Cov at this
      omega
    · rw [if_neg hx, ih _ (fun y hy => hw y (by simp [hy])) hp k (fun y hy => hk y (by simp [hy]))]
theorem sec_get (P : List Int) (a i : Nat) (h : i < 128) : (sec P a)[i]? = P[a * 128 + i]? := by
  unfold sec
  rw [List.getElem?_take, if_pos h, List.getElem?_drop]
theorem sec_length {P : List Int} {a n : Nat} (h : P.length = n * 128) (ha : a < n) : (sec P a).length = 128 := by
  unfold sec; rw [List.length_take, List.length_drop]; omega
theorem back_get {db n : Nat} {P : List Int} (hP : P.length = n * 128) : ∀ (ws : List Wt) (s : List Int), Fits db n ws → s.length = n * 128 → ∀ k, (s[k]? = P[k]? ∨ ∃ x ∈ ws, Cov db k x) → (back db P s ws)[k]? = P[k]? := by
  intro ws
  induction ws with
  | nil =>
    intro s _ _ k h
    rcases h with h | ⟨x, hx, _⟩
    · exact h
    · simp at hx
  | cons x ws ih =>
    intro s hw hs k h
    show (back db P (if x.disk = db then splice s (x.at_ * 128) (sec P x.at_) else s) ws)[k]? = _
    by_cases hx : x.disk = db
    · rw [if_pos hx]
      obtain ⟨h1, h2⟩ := hw x (by simp) hx
      have hl := sec_length hP h2
      have hle : x.at_ * 128 + (sec P x.at_).length ≤ s.length := by omega
      refine ih _ (fun y hy => hw y (by simp [hy])) (by rw [splice_length hle, hs]) k ?_
      rw [spl_get _ _ _ hle, hl]
      by_cases hc : x.at_ * 128 ≤ k ∧ k < x.at_ * 128 + 128
      · rw [if_pos hc, sec_get _ _ _ (by omega)]
        exact Or.inl (by congr 1; omega)
      · rw [if_neg hc]
        rcases h with h | ⟨y, hy, hcy⟩
        · exact Or.inl h
        · rcases List.mem_cons.1 hy with rfl | hy
          · exact absurd hcy.2 hc
          · exact Or.inr ⟨y, hy, hcy⟩
    · rw [if_neg hx]
      refine ih _ (fun y hy => hw y (by simp [hy])) hs k ?_
      rcases h with h | ⟨y, hy, hcy⟩
      · exact Or.inl h
      · rcases List.mem_cons.1 hy with rfl | hy
        · exact absurd hcy.1 hx
        · exact Or.inr ⟨y, hy, hcy⟩
/-- Behind Up all that is seen is the platter. -/
theorem back_all {db n : Nat} {plat : List Int} {stay : List Bool} {ws : List Wt} (hw : Fits db n ws) (hp : plat.length = n * 128) :
    back db (over db plat (keptW stay ws)) (over db plat ws) ws = over db plat (keptW stay ws) := by
  have hk : Fits db n (keptW stay ws) := fun x hx => hw x (keptW_sub x hx)
  apply List.ext_getElem?
  intro k
  refine back_get (over_length _ _ hk hp) ws _ hw (over_length _ _ hw hp) k ?_
  by_cases h : ∃ x ∈ ws, Cov db k x
  · exact Or.inr h
  · have h' : ∀ x ∈ ws, ¬ Cov db k x := fun x hx hc => h ⟨x, hx, hc⟩
    rw [over_get _ _ hw hp k h', over_get _ _ hk hp k (fun x hx => h' x (keptW_sub x hx))]
    exact Or.inl rfl
/-- The power, and a disk, behind Up. -/
def PSt.up (S : PSt) : PSt := { S with out := false, bounded := false, left := 0, ws := [] }
def DSt.up (S : PSt) (stay : List Bool) (D : DSt) : DSt := { D with plat := over D.db D.plat (keptW stay S.ws), seen := over D.db D.plat (keptW stay S.ws) }
end Go.Proofs.Ytfclamndjnoopaa
