/- RangesDoes: how its calls come in, where the law stands, and each kind of call on both sets. -/
import Derived.Test.YtbgochkmplacaaaRhJ
namespace Go.Proofs.Ytbgochkmplacaaa
open Go.RowKit Go.Lib
set_option maxRecDepth 100000

/-- A list of calls that came in. -/
def CameO (w : World) (p : Option Addr) (len cap : Nat) : Prop := len ≤ cap ∧ cap ≤ 9223372036854775807 ∧ (len = 0 ∨ ∃ g o, p = some ⟨g, o, none⟩ ∧ ∀ i, i < len → ∃ (k : Int) (y : Sp), y.In ∧ w.cell? ⟨g, o + i * 3, none⟩ = some (.int .i64 k) ∧ w.cell? ⟨g, o + i * 3 + 1, none⟩ = some (.int .i64 y.a) ∧ w.cell? ⟨g, o + i * 3 + 2, none⟩ = some (.int .i64 y.m))
/-- The two sets that were there ahead of the last copy. -/
def Old9 (w0 wr : World) (sb : Nat) (p : Option Addr) (rb : Nat) (q : Option Addr) (ob wb : Nat) : Prop :=
  (ob = sb ∧ wb = rb) ∨ ∃ p2 c2 q2 d2 js, TwoS wr ob p2 c2 wb q2 d2 js ∧ (∀ k ∈ foot2 ob p2 wb q2, w0.heap.size ≤ k) ∧ ∀ k ∈ foot2 ob p2 wb q2, k ∉ foot2 sb p rb q
/-- Where the law stands. -/
structure LS (w0 wr : World) (sb : Nat) (p : Option Addr) (c : Nat) (rb : Nat) (q : Option Addr) (d : Nat) (ks : List Sp) (ob wb : Nat) : Prop where
  fr : Frm [] w0 wr
  now : TwoS wr sb p c rb q d ks
  lo : ∀ k ∈ foot2 sb p rb q, w0.heap.size ≤ k
  old : Old9 w0 wr sb p rb q ob wb
def LSt (w0 wr : World) (sb rb ob wb : Nat) : Prop := ∃ p c q d ks, LS w0 wr sb p c rb q d ks ob wb
section
variable {w0 w w1 w2 w' : World} {sb : Nat} {p p' : Option Addr} {c c' : Nat} {rb : Nat} {q q' : Option Addr} {d d' : Nat} {ks l' : List Sp} {ob wb : Nat} {x : Sp}
theorem LS.stay (h : LS w0 w sb p c rb q d ks ob wb) (hf : Frm [] w w') : LS w0 w' sb p c rb q d ks ob wb := by
  refine ⟨h.fr.trans hf (by simp), h.now.kept hf (by simp), h.lo, ?_⟩
  rcases h.old with h1 | ⟨p2, c2, q2, d2, js, h1, h2, h3⟩
  · exact Or.inl h1
  · exact Or.inr ⟨p2, c2, q2, d2, js, h1.kept hf (by simp), h2, h3⟩
theorem LSt.stay (h : LSt w0 w sb rb ob wb) (hf : Frm [] w w') : LSt w0 w' sb rb ob wb := by
  obtain ⟨p, c, q, d, ks, h⟩ := h
  exact ⟨p, c, q, d, ks, h.stay hf⟩
theorem LS.turn (h : LS w0 w sb p c rb q d ks ob wb) (h1 : TwoS w2 sb p' c' rb q' d' l') (h2 : Frm (sb :: rb :: blk p) w w2) (h3 : ∀ k ∈ foot2 sb p' rb q', k ∈ foot2 sb p rb q ∨ w.heap.size ≤ k) : LSt w0 w2 sb rb ob wb := by
  have hz := h.fr.size
  have hin : ∀ k, k ∈ sb :: rb :: blk p → k ∈ foot2 sb p rb q := fun k hk => by
    simp only [foot2, List.mem_cons, List.mem_append] at hk ⊢
    rcases hk with h | h | h <;> simp [h]
  refine ⟨p', c', q', d', l', h.fr.trans h2 (fun k hk hkl => by have := h.lo k (hin k hk); omega), h1, fun k hk => ?_, ?_⟩
  · rcases h3 k hk with h4 | h4
    · exact h.lo k h4
    · omega
  · rcases h.old with h4 | ⟨p2, c2, q2, d2, js, h4, h5, h6⟩
    · exact Or.inl h4
    · refine Or.inr ⟨p2, c2, q2, d2, js, h4.kept h2 (fun k hk hm => h6 k hk (hin k hm)), h5, fun k hk hm => ?_⟩
      rcases h3 k hm with h7 | h7
      · exact h6 k hk h7
      · have := h4.low k hk; omega
theorem LS.start {s' r' : Nat} (h1 : TwoS w2 s' p' c' r' q' d' l') (h2 : TwoS w2 sb p c rb q d ks) (h3 : Frm [] w w2) (h4 : ∀ k ∈ foot2 s' p' r' q', w.heap.size ≤ k) (h : LS w0 w sb p c rb q d ks ob wb) : LSt w0 w2 s' r' sb rb := by
  have hz := h.fr.size
  refine ⟨p', c', q', d', l', h.fr.trans h3 (by simp), h1, fun k hk => by have := h4 k hk; omega, Or.inr ⟨p, c, q, d, ks, h2, h.lo, fun k hk hm => ?_⟩⟩
  have := h4 k hm
  have := h.now.low k hk
  omega
/-- Add, on both. -/
theorem LS.add (h : LS w0 w sb p c rb q d ks ob wb) (hx : x.In) : Calls Try.prog 11 #[.pointer (some ⟨sb, 0, none⟩), .agg #[.int .i64 x.a, .int .i64 x.m]] w fun e w1 => ∃ E, e = .returned (.int .i64 E) ∧ Frm (sb :: rb :: blk p) w w1 ∧
    Calls Try.prog 12 #[.pointer (some ⟨rb, 0, none⟩), .agg #[.int .i64 x.a, .int .i64 x.m]] w1 fun e w2 => e = .returned (.int .i64 E) ∧ Frm (sb :: rb :: blk p) w w2 ∧ LSt w0 w2 sb rb ob wb := by
  refine (add_any sb p c ks x w h.now.s h.now.nm h.now.ln hx).mono ?_
  rintro e w1 ⟨E, l', p', c', rfl, a0, a1, a2, a3, a4, a5⟩
  have a4' : Frm (sb :: rb :: blk p) w w1 := a4.mono (fun k hk _ => by simp at hk ⊢; rcases hk with h1 | h1 <;> simp [h1])
  have hr : RRef w1 rb q d ks := h.now.r.kept a4 (by simp; exact ⟨fun e => h.now.ne e.symm, h.now.rp⟩) (fun k hk hm => by
    simp at hm
    rcases hm with rfl | hm
    · exact h.now.sq hk
    · exact h.now.pq k hm hk)
  refine ⟨E, rfl, a4', (radd_any rb q d ks x w1 hr h.now.nm h.now.ln hx).mono ?_⟩
  rintro e w2 ⟨E2, l2, q', d', rfl, b0, b1, b2, b3, b4, b5⟩
  obtain ⟨e1, e2⟩ := RAddP.as a0 b0
  subst e1; subst e2
  obtain ⟨t1, t2, t3⟩ := h.now.turn a1 a2 a3 a4 a5 b1 b4 b5
  exact ⟨rfl, t2, h.turn t1 t2 t3⟩
/-- Remove, on both. -/
theorem LS.rem (h : LS w0 w sb p c rb q d ks ob wb) (hx : x.In) : Calls Try.prog 13 #[.pointer (some ⟨sb, 0, none⟩), .agg #[.int .i64 x.a, .int .i64 x.m]] w fun e w1 => ∃ E, e = .returned (.int .i64 E) ∧ Frm (sb :: rb :: blk p) w w1 ∧
    Calls Try.prog 14 #[.pointer (some ⟨rb, 0, none⟩), .agg #[.int .i64 x.a, .int .i64 x.m]] w1 fun e w2 => e = .returned (.int .i64 E) ∧ Frm (sb :: rb :: blk p) w w2 ∧ LSt w0 w2 sb rb ob wb := by
  refine (rem_any sb p c ks x w h.now.s h.now.nm h.now.ln hx).mono ?_
  rintro e w1 ⟨E, l', p', c', rfl, a0, a1, a2, a3, a4, a5⟩
  have a4' : Frm (sb :: rb :: blk p) w w1 := a4.mono (fun k hk _ => by simp at hk ⊢; rcases hk with h1 | h1 <;> simp [h1])
  have hr : RRef w1 rb q d ks := h.now.r.kept a4 (by simp; exact ⟨fun e => h.now.ne e.symm, h.now.rp⟩) (fun k hk hm => by
    simp at hm
    rcases hm with rfl | hm
    · exact h.now.sq hk
    · exact h.now.pq k hm hk)
  refine ⟨E, rfl, a4', (rrem_any rb q d ks x w1 hr h.now.nm h.now.ln hx).mono ?_⟩
  rintro e w2 ⟨E2, l2, q', d', rfl, b0, b1, b2, b3, b4, b5⟩
  obtain ⟨e1, e2⟩ := RRemP.as a0 b0
  subst e1; subst e2
  obtain ⟨t1, t2, t3⟩ := h.now.turn a1 a2 a3 a4 a5 b1 b4 b5
  exact ⟨rfl, t2, h.turn t1 t2 t3⟩
theorem bool_same {a b : Bool} {P : Prop} (h : a = true ↔ P) (h' : b = true ↔ P) : b = a := by
  cases a <;> cases b <;> simp_all
theorem LS.has (h : LS w0 w sb p c rb q d ks ob wb) (hx : x.In) {b : Bool} (hb : b = true ↔ HasP ks x) : Calls Try.prog 17 #[.pointer (some ⟨sb, 0, none⟩), .agg #[.int .i64 x.a, .int .i64 x.m]] w fun e w1 => e = .returned (.bool b) ∧ Frm [] w w1 := by
  refine (has_any sb p c ks x w h.now.s h.now.nm (by have := h.now.ln; omega) hx).mono ?_
  rintro e w1 ⟨b2, rfl, h1, h2⟩
  rw [bool_same hb h1]
  exact ⟨rfl, h2⟩
theorem LS.meets (h : LS w0 w sb p c rb q d ks ob wb) (hx : x.In) {b : Bool} (hb : b = true ↔ MeetsP ks x) : Calls Try.prog 18 #[.pointer (some ⟨sb, 0, none⟩), .agg #[.int .i64 x.a, .int .i64 x.m]] w fun e w1 => e = .returned (.bool b) ∧ Frm [] w w1 := by
  refine (meets_any sb p c ks x w h.now.s h.now.nm (by have := h.now.ln; omega) hx).mono ?_
  rintro e w1 ⟨b2, rfl, h1, h2⟩
  rw [bool_same hb h1]
  exact ⟨rfl, h2⟩
/-- Clone, on both. -/
theorem LS.clone (h : LS w0 w sb p c rb q d ks ob wb) : Calls Try.prog 21 #[.pointer (some ⟨sb, 0, none⟩)] w fun e w1 => ∃ s', e = .returned (.pointer (some ⟨s', 0, none⟩)) ∧
    Calls Try.prog 22 #[.pointer (some ⟨rb, 0, none⟩)] w1 fun e w2 => ∃ r', e = .returned (.pointer (some ⟨r', 0, none⟩)) ∧ Frm [] w w2 ∧ LSt w0 w2 s' r' sb rb := by
  refine (copy9_any sb p c ks w h.now.s (by have := h.now.ln; omega)).mono ?_
  rintro e w1 ⟨s', p', c', rfl, a1, a2, a3, a4⟩
  refine ⟨s', rfl, (rclone_any rb q d ks w1 (h.now.r.k0 a2) (by have := h.now.ln; omega)).mono ?_⟩
  rintro e w2 ⟨r', q', d', rfl, b1, b2, b3, b4⟩
  obtain ⟨t1, t2, t3, t4⟩ := h.now.copy a1 a2 a3 a4 b1 b2 b3 b4
  exact ⟨r', rfl, t3, LS.start t1 t2 t3 t4 h⟩
theorem LS.like (h : LS w0 w sb p c rb q d ks ob wb) : Calls Try.prog 23 #[.pointer (some ⟨sb, 0, none⟩), .pointer (some ⟨rb, 0, none⟩)] w fun e w' => e = .returned (.bool true) ∧ Frm [] w w' :=
  alike9_any sb p c rb q d ks w h.now.s h.now.r h.now.nm h.now.ln
theorem LSt.like (h : LSt w0 w sb rb ob wb) : Calls Try.prog 23 #[.pointer (some ⟨sb, 0, none⟩), .pointer (some ⟨rb, 0, none⟩)] w fun e w' => e = .returned (.bool true) ∧ Frm [] w w' := by
  obtain ⟨p, c, q, d, ks, h⟩ := h
  exact h.like
theorem LSt.was (h : LSt w0 w sb rb ob wb) : Calls Try.prog 23 #[.pointer (some ⟨ob, 0, none⟩), .pointer (some ⟨wb, 0, none⟩)] w fun e w' => e = .returned (.bool true) ∧ Frm [] w0 w' := by
  obtain ⟨p, c, q, d, ks, h⟩ := h
  rcases h.old with ⟨rfl, rfl⟩ | ⟨p2, c2, q2, d2, js, h1, _, _⟩
  · exact h.like.mono fun e w' ⟨h1, h2⟩ => ⟨h1, h.fr.trans h2 (by simp)⟩
  · exact (alike9_any ob p2 c2 wb q2 d2 js w h1.s h1.r h1.nm h1.ln).mono fun e w' ⟨h1, h2⟩ => ⟨h1, h.fr.trans h2 (by simp)⟩
end
end Go.Proofs.Ytbgochkmplacaaa
