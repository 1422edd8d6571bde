/- A session's table: its places, the last number, what is refused; its counts. -/
import Derived.Test.YtbgochkmplacaaaSsC
import Derived.Deep.DeepCutAuto
namespace Go.Proofs.Ytbgochkmplacaaa
open Go.RowKit Go.Lib
set_option maxRecDepth 100000

def foot24 (b : Nat) (pl : Option Nat) : List Nat := b :: pl.toList
def rowC (d : Int) (pv : Value) (f a r : Int) : Array Value := rowT d 0 (.int .u32 0) pv (.int .i64 f) (.int .i64 a) (.int .i64 r)
/-- A table: its block, the block of its places (once they were made), what is kept; the counts. -/
structure TS (w : World) (b : Nat) (pl : Option Nat) (vs : List Rp) (f a r : Int) : Prop where
  ln : vs.length = 9
  st : (pl = none ∧ vs = zeros9 ∧ w.heap[b]? = some (.cells (rowC 0 (.slice none 0 0) f a r) 101 (0, 0))) ∨ ∃ g, pl = some g ∧ g ≠ b ∧ w.heap[b]? = some (.cells (rowC 1 (.slice (some ⟨g, 0, none⟩) 9 9) f a r) 101 (0, 0)) ∧ w.heap[g]? = some (.cells (rowsR vs).toArray 61 (0, 0))
  ok : ∀ v ∈ vs, RpOk w v ∧ ∀ k ∈ v.B, k ∉ foot24 b pl ∧ k < w.heap.size
  ib : ∀ v ∈ vs, 0 ≤ v.x.id ∧ v.x.id ≤ 1073741824
section
variable {w w' : World} {b g : Nat} {pl : Option Nat} {vs : List Rp} {f a r : Int}
theorem TS.kept {T : List Nat} (h : TS w b pl vs f a r) (hf : Frm T w w') (h1 : ∀ k ∈ foot24 b pl, k ∉ T) (h2 : ∀ v ∈ vs, ∀ k ∈ v.B, k ∉ T) : TS w' b pl vs f a r := by
  refine ⟨h.ln, ?_, fun v hv => ⟨(h.ok v hv).1.kept hf (h2 v hv), fun k hk => ⟨((h.ok v hv).2 k hk).1, Nat.lt_of_lt_of_le ((h.ok v hv).2 k hk).2 hf.size⟩⟩, h.ib⟩
  rcases h.st with ⟨a1, a2, a3⟩ | ⟨g, a1, a2, a3, a4⟩
  · exact Or.inl ⟨a1, a2, hf.heap a3 (h1 b (by simp [foot24]))⟩
  · exact Or.inr ⟨g, a1, a2, hf.heap a3 (h1 b (by simp [foot24])), hf.heap a4 (h1 g (by simp [foot24, a1]))⟩
theorem TS.k0 (h : TS w b pl vs f a r) (hf : Frm [] w w') : TS w' b pl vs f a r := h.kept hf (by simp) (by simp)
theorem TS.low (h : TS w b pl vs f a r) : ∀ k ∈ foot24 b pl, k < w.heap.size := fun k hk => by
  rcases h.st with ⟨a1, a2, a3⟩ | ⟨g, a1, a2, a3, a4⟩
  · subst a1; simp [foot24] at hk; subst hk; exact lt_of_heap a3
  · subst a1; simp [foot24] at hk; rcases hk with rfl | rfl
    · exact lt_of_heap a3
    · exact lt_of_heap a4
theorem TS.places (h : TS w b (some g) vs f a r) : g ≠ b ∧ w.heap[b]? = some (.cells (rowC 1 (.slice (some ⟨g, 0, none⟩) 9 9) f a r) 101 (0, 0)) ∧ w.heap[g]? = some (.cells (rowsR vs).toArray 61 (0, 0)) := by
  rcases h.st with ⟨a1, _⟩ | ⟨g', a1, a2, a3, a4⟩
  · cases a1
  · cases a1; exact ⟨a2, a3, a4⟩
theorem TS.at (h : TS w b (some g) vs f a r) {i : Nat} {v : Rp} (hi : vs[i]? = some v) (j : Nat) (u : Value) (hu : v.row[j]? = some u) : w.cell? ⟨g, i * 7 + j, none⟩ = some u := by
  rw [cell_of_row _ _ _ _ _ _ h.places.2.2]
  simpa using rowsR_get vs i v hi j u hu
end
/-- How a table is behind a call. -/
def Nx (w : World) (pl pl' : Option Nat) : Prop := pl' = pl ∨ (pl = none ∧ ∃ g, pl' = some g ∧ w.heap.size ≤ g)
set_option maxHeartbeats 3200000 in
theorem kept_any (b : Nat) (pl : Option Nat) (vs : List Rp) (f a r : Int) (w : World) (h : TS w b pl vs f a r) :
    Calls Try.prog 49 #[.pointer (some ⟨b, 0, none⟩)] w fun e w' => ∃ g, e = .returned (.slice (some ⟨g, 0, none⟩) 9 9) ∧ TS w' b (some g) vs f a r ∧ Frm (foot24 b pl) w w' ∧ Nx w pl (some g) := by
  obtain ⟨PO, hPO⟩ : ∃ PO : Ending → World → Prop, (fun e w' => ∃ g, e = .returned (.slice (some ⟨g, 0, none⟩) 9 9) ∧ TS w' b (some g) vs f a r ∧ Frm (foot24 b pl) w w' ∧ Nx w pl (some g)) = PO := ⟨_, rfl⟩
  rw [hPO]
  have HP : Hid (∀ g w', TS w' b (some g) vs f a r → Frm (foot24 b pl) w w' → Nx w pl (some g) → PO (.returned (.slice (some ⟨g, 0, none⟩) 9 9)) w') := hid (fun g w' h1 h2 h3 => by rw [← hPO]; exact ⟨g, rfl, h1, h2, h3⟩)
  have hmf : ∀ (fn : Fn) (first cap : Array Value) (w : World), (Instr.makeFunc fn first cap).run Try.prog w = .ok (.func fn first cap) w := fun _ _ _ _ => rfl
  have hbl : b < w.heap.size := h.low b (by simp [foot24])
  obtain ⟨w1, hw1⟩ : ∃ q, w.alloc (.cells #[.pointer (some ⟨b, 0, none⟩)] 48) = q := ⟨_, rfl⟩
  obtain ⟨bx, hbx⟩ : ∃ q, w.heap.size = q := ⟨_, rfl⟩
  have hf1 : Frm [] w w1 := by rw [← hw1]; exact (Frm.refl _ _).alloc _
  have hx1 : w1.heap[bx]? = some (.cells #[.pointer (some ⟨b, 0, none⟩)] 48 (0, 0)) := by rw [← hw1]; exact heap_alloc_to _ _ hbx
  have x0 : w1.cell? ⟨bx, 0, none⟩ = some (.pointer (some ⟨b, 0, none⟩)) := by rw [cell_of_row _ _ _ _ _ _ hx1]; rfl
  have HX := hid hx1
  have HF1 := hid hf1
  have H1 := hid (h.k0 hf1)
  have HW1 := hid hw1
  have HBX := hid hbx
  have HL := hid hbl
  have H0 := hid h
  clear hw1 hbx hf1 hPO h hx1
  go_enter Try.func49, Try.ntmps49
  go_upto_region 1 with fail
  rw [HBX.out, HW1.out]
  clear HW1
  rcases H1.out.st with ⟨rfl, rfl, a3⟩ | ⟨g, rfl, a2, a3, a4⟩
  · have HDO := hid (do_first24 b ⟨bx, 0, none⟩ (.int .u32 0) (.slice none 0 0) (.int .i64 f) (.int .i64 a) (.int .i64 r) w1 x0 (by have := HL.out; have := HBX.out; simp; omega) a3)
    clear a3
    go_wp2_with fail
    refine HDO.out.mono ?_
    rintro e w2 ⟨rfl, hf2, hz2, hb2⟩
    have x1 : w2.cell? ⟨bx, 0, none⟩ = some (.pointer (some ⟨b, 0, none⟩)) := by rw [cell_of_row _ _ _ _ _ _ (hf2.heap HX.out (by have := HL.out; have := HBX.out; simp; omega))]; rfl
    obtain ⟨g, hg⟩ : ∃ q, w1.heap.size = q := ⟨_, rfl⟩
    rw [hg] at hz2 hb2
    have HT : Hid (TS w2 b (some g) zeros9 f a r) := hid ⟨H1.out.ln, Or.inr ⟨g, rfl, by have := HL.out; have := HF1.out.size; omega, hb2, hz2⟩, fun v hv => by
      have : v = rp0 := by unfold zeros9 at hv; exact (List.mem_replicate.1 hv).2
      subst this
      exact ⟨rp0_ok _, by simp [Rp.B, rp0, blk]⟩, H1.out.ib⟩
    have HFF : Hid (Frm (foot24 b none) w w2) := hid ((HF1.out.mono (by simp)).trans hf2 (fun k hk _ => by simpa [foot24] using hk))
    have HNX : Hid (Nx w none (some g)) := hid (Or.inr ⟨rfl, g, rfl, by have := HF1.out.size; omega⟩)
    have y0 : w2.cell? ⟨b, 3, none⟩ = some (.slice (some ⟨g, 0, none⟩) 9 9) := by rw [cell_of_row _ _ _ _ _ _ hb2]; rfl
    clear hf2 hz2 hb2 HDO x0 hg
    go_wp2_with fail
    first | go_returns | skip
    exact HP.out g w2 HT.out HFF.out HNX.out
  · have y0 : w1.cell? ⟨b, 3, none⟩ = some (.slice (some ⟨g, 0, none⟩) 9 9) := by rw [cell_of_row _ _ _ _ _ _ a3]; rfl
    have HDO := hid (fun fv => do_done24 b fv (.int .u32 0) (.slice (some ⟨g, 0, none⟩) 9 9) (.int .i64 f) (.int .i64 a) (.int .i64 r) w1 a3)
    clear a3 a4 a2
    go_wp2_with fail
    refine (HDO.out _).mono ?_
    rintro e w2 ⟨rfl, rfl⟩
    go_wp2_with fail
    first | go_returns | skip
    exact HP.out g _ H1.out (HF1.out.mono (by simp)) (Or.inl rfl)
theorem isS_any (n : Int) (w : World) : Calls Try.prog 64 #[.int .i64 n] w fun e w' => e = .returned (.bool (decide (1 ≤ n ∧ n ≤ 8))) ∧ w' = w := by
  go_enter Try.func64, Try.ntmps64
  by_cases h1 : 1 ≤ n
  · by_cases h2 : n ≤ 8
    · go_wp2_with fail
      first | go_returns | skip
      exact ⟨by simp [h1, h2], rfl⟩
    · go_wp2_with fail
      first | go_returns | skip
      exact ⟨by simp [h2], rfl⟩
  · go_wp2_with fail
    first | go_returns | skip
    exact ⟨by simp; omega, rfl⟩
/-- The number that a session was answered last. -/
def last24 (vs : List Rp) (n : Int) : Int := if 1 ≤ n ∧ n ≤ 8 then (vs.getD n.toNat rp0).x.id else 0
set_option maxHeartbeats 3200000 in
theorem last_any (b : Nat) (pl : Option Nat) (vs : List Rp) (f a r n : Int) (w : World) (h : TS w b pl vs f a r) :
    Calls Try.prog 36 #[.pointer (some ⟨b, 0, none⟩), .int .i64 n] w fun e w' => ∃ pl', e = .returned (.int .i64 (last24 vs n)) ∧ TS w' b pl' vs f a r ∧ Frm (foot24 b pl) w w' ∧ Nx w pl pl' := by
  have HK := hid (kept_any b pl vs f a r w h)
  have H := hid h
  obtain ⟨E, hE⟩ : ∃ q, last24 vs n = q := ⟨_, rfl⟩
  rw [hE]
  have HE := hid hE
  clear h hE
  go_enter Try.func36, Try.ntmps36
  go_wp2_with fail
  refine (isS_any n w).mono ?_
  rintro e w1 ⟨rfl, hw⟩
  subst hw
  by_cases hn : 1 ≤ n ∧ n ≤ 8
  · have hd : decide (1 ≤ n ∧ n ≤ 8) = true := by simp [hn]
    obtain ⟨m, rfl⟩ : ∃ m : Nat, n = m := ⟨n.toNat, by omega⟩
    obtain ⟨v, hv⟩ : ∃ v, vs[m]? = some v := ⟨_, List.getElem?_eq_getElem (by rw [H.out.ln]; omega)⟩
    have HV : Hid (E = v.x.id) := hid (by rw [← HE.out]; unfold last24; rw [if_pos hn]; simp [hv])
    have HVV := hid hv
    rw [hd]
    obtain ⟨hn1, hn2⟩ := hn
    clear hv hd
    go_wp2_with fail
    refine HK.out.mono ?_
    rintro e w2 ⟨g, rfl, ht, hf, hx⟩
    have y0 := ht.at HVV.out 1 _ rfl
    have HT := hid ht
    have HF := hid hf
    have HX := hid hx
    clear ht hf hx HK
    go_wp2_with fail
    first | go_returns | skip
    exact ⟨some g, by rw [HV.out]; rfl, HT.out, HF.out, HX.out⟩
  · have hd : decide (1 ≤ n ∧ n ≤ 8) = false := by simp; omega
    have HV : Hid (E = 0) := hid (by rw [← HE.out]; unfold last24; rw [if_neg hn])
    rw [hd]
    clear hd hn
    go_wp2_with fail
    first | go_returns | skip
    exact ⟨pl, by rw [HV.out]; rfl, H.out, Frm.refl _ _, Or.inl rfl⟩
end Go.Proofs.Ytbgochkmplacaaa
