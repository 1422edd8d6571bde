/- DiskCrash: the law's sector; what a sector says behind a crash. -/
import Derived.Test.YtfclamndjnoopaaDskS
import Derived.Test.YtfclamndjnoopaaRowP
namespace Go.Proofs.Ytfclamndjnoopaa
open Go.RowKit Go.Lib
set_option maxRecDepth 100000

set_option maxHeartbeats 800000 in
theorem lsec_any (g o n c k : Nat) (bs : List Int) (hl : bs.length = n) (hk : (k + 1) * 128 ≤ n) (hc : n ≤ c) (hn : n ≤ 140737488355328) (w : World) (hr : Rd w (some ⟨g, o, none⟩) bs) :
    Calls Try.prog 18 #[.slice (some ⟨g, o, none⟩) n c, .int .i64 (k : Int)] w fun e w' => e = .returned (.string (strOfNums (sec bs k))) ∧ w' = w := by
  have hsl : ∀ W : World, (Instr.slice 22 (.slice (some ⟨g, o, none⟩) n c) (some (.int .i64 ((k * 128 : Nat) : Int))) (some (.int .i64 (((k + 1) * 128 : Nat) : Int))) none).run Try.prog W = .ok (.slice (some ⟨g, o + k * 128, none⟩) 128 (c - k * 128)) W := fun W => by
    rw [run_slice_lh W 22 _ _ _ (by simp [Program.elem, Try.underlying22] : Try.prog.underlying 22 = some (.slice (Try.prog.elem 22))) .i64 .i64 _ _ (by omega) (by omega) (by omega), show Try.prog.elem 22 = 5 by simp [Program.elem, Try.underlying22]]
    obtain ⟨i, hi', hz, h1, h2⟩ := info_parts (infoB)
    have hs : (sizeOf 5).run Try.prog W = .ok 1 W := by simp [sizeOf, typeInfo, hi', h1, Result.andThen]
    rw [hs]
    have hne : ¬ c = k * 128 := by omega
    have e1 : ((k : Int) * 128).toNat = k * 128 := by omega
    have e2 : (((k : Int) + 1) * 128).toNat = (k + 1) * 128 := by omega
    simp [Result.andThen, sliced]
    rw [e1, e2, if_neg hne]
    refine ⟨?_, by omega, rfl⟩
    by_cases h0 : k * 128 = 0 <;> simp [Addr.add, h0]
  have hsw : ∀ W : World, (Instr.slice 22 (.slice (some ⟨g, o, none⟩) n c) (some (.int .i64 (128 * (k : Int)))) (some (.int .i64 (128 * (k : Int) + 128))) none).run Try.prog W = .ok (.slice (some ⟨g, o + k * 128, none⟩) 128 (c - k * 128)) W := fun W => by
    have h := hsl W
    rwa [show ((k * 128 : Nat) : Int) = 128 * (k : Int) by omega, show (((k + 1) * 128 : Nat) : Int) = 128 * (k : Int) + 128 by omega] at h
  have hcv : (convert 22 9 (.slice (some ⟨g, o + k * 128, none⟩) 128 (c - k * 128))).run Try.prog w = .ok (.string (strOfNums (sec bs k))) w :=
    cv_any 22 5 9 Try.underlying22 Try.underlying5 Try.underlying9 ((Rd.drop hr (k * 128)).take 128) _ (by rw [List.length_take, List.length_drop]; omega)
  clear hsl hr
  go_enter Try.func18, Try.ntmps18
  go_wp2_with fail
  go_returns
  exact ⟨rfl, rfl⟩
theorem sec_splice {p z : List Int} {a s n : Nat} (hp : p.length = n * 128) (hz : z.length = 128) (ha : a < n) : sec (splice p (a * 128) z) s = if a = s then z else sec p s := by
  have hle : a * 128 + z.length ≤ p.length := by omega
  apply List.ext_getElem?
  intro i
  by_cases hi : i < 128
  · rw [sec_get _ _ _ hi, spl_get _ _ _ hle, hz]
    by_cases e : a = s
    · subst e
      rw [if_pos (by omega), if_pos rfl]
      congr 1
      omega
    · rw [if_neg (by omega), if_neg e, sec_get _ _ _ hi]
  · have h1 : (sec (splice p (a * 128) z) s)[i]? = none := List.getElem?_eq_none (by unfold sec; rw [List.length_take]; omega)
    rw [h1]
    split
    · exact (List.getElem?_eq_none (by omega)).symm
    · exact (List.getElem?_eq_none (by unfold sec; rw [List.length_take]; omega)).symm
theorem over_sec {db n : Nat} : ∀ (ws : List Wt) (p : List Int), Fits db n ws → p.length = n * 128 → ∀ s, sec (over db p ws) s = sec p s ∨ ∃ x ∈ ws, x.disk = db ∧ x.at_ = s ∧ sec (over db p ws) s = x.bytes := by
  intro ws
  induction ws with
  | nil => intro p _ _ s; exact Or.inl rfl
  | cons x ws ih =>
    intro p hw hp s
    show sec (over db (if x.disk = db then splice p (x.at_ * 128) x.bytes else p) ws) s = _ ∨ ∃ y ∈ x :: ws, y.disk = db ∧ y.at_ = s ∧ sec (over db (if x.disk = db then splice p (x.at_ * 128) x.bytes else p) ws) s = y.bytes
    by_cases hx : x.disk = db
    · rw [if_pos hx]
      obtain ⟨h1, h2⟩ := hw x (by simp) hx
      rcases ih (splice p (x.at_ * 128) x.bytes) (fun y hy => hw y (by simp [hy])) (by rw [splice_length (by omega), hp]) s with h | ⟨y, hy, h⟩
      · rw [h, sec_splice hp h1 h2]
        by_cases e : x.at_ = s
        · rw [if_pos e]; exact Or.inr ⟨x, by simp, hx, e, rfl⟩
        · rw [if_neg e]; exact Or.inl rfl
      · exact Or.inr ⟨y, by simp [hy], h⟩
    · rw [if_neg hx]
      rcases ih p (fun y hy => hw y (by simp [hy])) hp s with h | ⟨y, hy, h⟩
      · exact Or.inl h
      · exact Or.inr ⟨y, by simp [hy], h⟩
theorem keptW_all : ∀ (stay : List Bool) (ws : List Wt), ws.length ≤ stay.length → (∀ i, i < ws.length → stay.getD i false = true) → keptW stay ws = ws := by
  intro stay ws h1 h2
  unfold keptW
  rw [List.filter_eq_self.2]
  · simp
  · intro x hx
    obtain ⟨y, i⟩ := x
    have := (List.mem_zipIdx' hx).1
    exact h2 i this
theorem keptW_none : ∀ (stay : List Bool) (ws : List Wt), (∀ i, i < ws.length → stay.getD i false = false) → keptW stay ws = [] := by
  intro stay ws h2
  unfold keptW
  rw [List.filter_eq_nil_iff.2]
  · rfl
  · intro x hx
    obtain ⟨y, i⟩ := x
    have := (List.mem_zipIdx' hx).1
    rw [h2 i this]
    simp
/-- What was written, and kept, tells all that waits. -/
def KeptRel (w : World) (ws : List Wt) (ks : List OpS) : Prop := ∀ x ∈ ws, ∃ d ∈ ks, ∃ (bs : List Int) (i : Nat), Rd w d.p bs ∧ bs.length = d.bl ∧ i < d.bl / 128 ∧ (x.at_ : Int) = d.at_ + i ∧ x.bytes = sec bs i
theorem KeptRel.left {w : World} {ws : List Wt} {ks : List OpS} (h : KeptRel w ws ks) (d : OpS) : KeptRel w ws (ks ++ [d]) := fun x hx => by
  obtain ⟨e, he, r⟩ := h x hx
  exact ⟨e, by simp [he], r⟩
theorem KeptRel.wrote {w : World} {S : PSt} {D : DSt} {ks : List OpS} (h : KeptRel w S.ws ks) (d : OpS) (bs : List Int) (hr : Rd w d.p bs) (hl : bs.length = d.bl) (h0 : 0 ≤ d.at_) : KeptRel w (S.wrote D d.at_.toNat bs (bs.length / 128)).ws (ks ++ [d]) := by
  intro x hx
  have hx' : x ∈ S.ws ++ wts D d.at_.toNat bs (bs.length / 128) := hx
  rcases List.mem_append.1 hx' with h1 | h1
  · exact h.left d x h1
  · simp only [wts, List.mem_map, List.mem_range] at h1
    obtain ⟨i, hi, rfl⟩ := h1
    exact ⟨d, by simp, bs, i, hr, hl, by omega, by show ((d.at_.toNat + i : Nat) : Int) = _; omega, rfl⟩
end Go.Proofs.Ytfclamndjnoopaa
