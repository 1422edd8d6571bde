/- A pair of tables, the program's and the document's, and what calls leave of it. -/
import Derived.Test.YtbgochkmplacaaaSsY
namespace Go.Proofs.Ytbgochkmplacaaa
open Go.RowKit Go.Lib
set_option maxRecDepth 100000

/-- A pair: its block, the program's table, the document's. -/
structure PrD where
  k : Nat
  b : Nat
  pl : Option Nat
  vs : List Rp
  f : Int
  a : Int
  r : Int
  d : Nat
  p : Option Addr
  c : Nat
  ls : List Rp
  f2 : Int
  a2 : Int
  r2 : Int
def PrD.foot (x : PrD) : List Nat := x.k :: (foot24 x.b x.pl ++ (footR x.d x.p ++ x.vs.flatMap Rp.B))
theorem PrD.mem_foot {x : PrD} {j : Nat} : j ∈ x.foot ↔ j = x.k ∨ j ∈ foot24 x.b x.pl ∨ j ∈ footR x.d x.p ∨ ∃ v ∈ x.vs, j ∈ v.B := by
  unfold PrD.foot
  simp only [List.mem_cons, List.mem_append, List.mem_flatMap]
structure PQ (w0 w : World) (x : PrD) : Prop where
  fr : Frm [] w0 w
  pb : w.heap[x.k]? = some (.cells #[.pointer (some ⟨x.b, 0, none⟩), .pointer (some ⟨x.d, 0, none⟩)] 56 (0, 0))
  t : TS w x.b x.pl x.vs x.f x.a x.r
  rt : RT w x.d x.p x.c x.ls x.f2 x.a2 x.r2
  ok0 : ∀ v ∈ x.ls, RpOk w0 v
  nw : ∀ j ∈ x.foot, w0.heap.size ≤ j ∧ j < w.heap.size
  kt : x.k ∉ foot24 x.b x.pl ∧ x.k ∉ footR x.d x.p ∧ ∀ v ∈ x.vs, x.k ∉ v.B
  tr : ∀ j ∈ foot24 x.b x.pl, j ∉ footR x.d x.p
  vr : ∀ v ∈ x.vs, ∀ j ∈ v.B, j ∉ footR x.d x.p
section
variable {w0 w w' : World} {x : PrD}
theorem PQ.kept {S : List Nat} (h : PQ w0 w x) (hf : Frm S w w') (hn : ∀ j ∈ x.foot, j ∉ S) (hS : ∀ j ∈ S, w0.heap.size ≤ j) : PQ w0 w' x := by
  have hm := fun j hj => hn j (PrD.mem_foot.2 hj)
  have hz := hf.size
  refine ⟨h.fr.trans hf (fun k hk hkl => by have := hS k hk; omega), hf.heap h.pb (hm x.k (Or.inl rfl)), h.t.kept hf (fun j hj => hm j (Or.inr (Or.inl hj))) (fun v hv j hj => hm j (Or.inr (Or.inr (Or.inr ⟨v, hv, hj⟩)))), h.rt.kept hf (fun j hj => hm j (Or.inr (Or.inr (Or.inl hj)))) (fun v hv j hj hs => by
    have := (h.ok0 v hv).lowN j hj; have := hS j hs; omega), h.ok0, fun j hj => ⟨(h.nw j hj).1, by have := (h.nw j hj).2; omega⟩, h.kt, h.tr, h.vr⟩
theorem PQ.k0 (h : PQ w0 w x) (hf : Frm [] w w') : PQ w0 w' x := h.kept hf (by simp) (by simp)
/-- Behind a call on the program's table. -/
theorem PQ.prog (h : PQ w0 w x) {pl' : Option Nat} {vs' : List Rp} {f' a' r' : Int} (ht : TS w' x.b pl' vs' f' a' r') (hf : Frm (foot24 x.b x.pl) w w') (hx : Nx w x.pl pl') (hv : ∀ v ∈ vs', v ∈ x.vs ∨ ∀ k ∈ v.B, w.heap.size ≤ k) :
    PQ w0 w' ⟨x.k, x.b, pl', vs', f', a', r', x.d, x.p, x.c, x.ls, x.f2, x.a2, x.r2⟩ := by
  have hm := fun j hj => h.nw j (PrD.mem_foot.2 hj)
  have hz0 := h.fr.size
  have hz := hf.size
  have hk := hm x.k (Or.inl rfl)
  refine ⟨h.fr.trans hf (fun k hk hkl => by have := (hm k (Or.inr (Or.inl hk))).1; omega), hf.heap h.pb h.kt.1, ht, h.rt.kept hf (fun j hj hs => h.tr j hs hj) (fun v hv j hj hs => by
    have := (h.ok0 v hv).lowN j hj; have := (hm j (Or.inr (Or.inl hs))).1; omega), h.ok0, fun j hj => ?_, ⟨fun hk2 => ?_, h.kt.2.1, fun v hv2 hk2 => ?_⟩, fun j hj hr => ?_, fun v hv2 j hj hr => ?_⟩
  · rcases PrD.mem_foot.1 hj with rfl | hj | hj | ⟨v, hv2, hj⟩
    · exact ⟨hk.1, by have := hk.2; show x.k < _; omega⟩
    · exact ⟨(hx.foot j hj).elim (fun h => (hm j (Or.inr (Or.inl h))).1) (fun h => by omega), ht.low j hj⟩
    · have := hm j (Or.inr (Or.inr (Or.inl hj)))
      exact ⟨this.1, by omega⟩
    · refine ⟨?_, ((ht.ok v hv2).2 j hj).2⟩
      rcases hv v hv2 with h1 | h1
      · exact (hm j (Or.inr (Or.inr (Or.inr ⟨v, h1, hj⟩)))).1
      · have := h1 j hj; omega
  · rcases hx.foot _ hk2 with h1 | h1
    · exact h.kt.1 h1
    · have := hk.2; simp only at h1; omega
  · rcases hv v hv2 with h1 | h1
    · exact h.kt.2.2 v h1 hk2
    · have := h1 _ hk2; have := hk.2; simp only at *; omega
  · rcases hx.foot j hj with h1 | h1
    · exact h.tr j h1 hr
    · have := (hm j (Or.inr (Or.inr (Or.inl hr)))).2; omega
  · rcases hv v hv2 with h1 | h1
    · exact h.vr v h1 j hj hr
    · have := h1 j hj; have := (hm j (Or.inr (Or.inr (Or.inl hr)))).2; omega
/-- Behind a call on the document's table. -/
theorem PQ.doc (h : PQ w0 w x) {p' : Option Addr} {c' : Nat} {ls' : List Rp} {f' a' r' : Int} (ht : RT w' x.d p' c' ls' f' a' r') (hf : Frm [x.d] w w') (hp : ∀ k ∈ blk p', k ∈ blk x.p ∨ w.heap.size ≤ k) (hl : ∀ v ∈ ls', RpOk w0 v) :
    PQ w0 w' ⟨x.k, x.b, x.pl, x.vs, x.f, x.a, x.r, x.d, p', c', ls', f', a', r'⟩ := by
  have hm := fun j hj => h.nw j (PrD.mem_foot.2 hj)
  have hz0 := h.fr.size
  have hz := hf.size
  have hd := hm x.d (Or.inr (Or.inr (Or.inl (by simp [footR]))))
  have hdk : x.d ≠ x.k := fun e => h.kt.2.1 (by rw [← e]; simp [footR])
  have hR : ∀ j ∈ footR x.d p', j ∈ footR x.d x.p ∨ w.heap.size ≤ j := fun j hj => by
    simp only [footR, List.mem_cons] at hj ⊢
    rcases hj with rfl | hj
    · exact Or.inl (Or.inl rfl)
    · exact (hp j hj).imp Or.inr id
  refine ⟨h.fr.trans hf (fun k hk hkl => by rw [List.mem_singleton] at hk; omega), hf.heap h.pb (fun hm => by rw [List.mem_singleton] at hm; exact hdk hm.symm), h.t.kept hf (fun j hj hm => by rw [List.mem_singleton] at hm; subst hm; exact h.tr _ hj (by simp [footR])) (fun v hv j hj hm => by rw [List.mem_singleton] at hm; subst hm; exact h.vr v hv _ hj (by simp [footR])), ht, hl, fun j hj => ?_, ⟨h.kt.1, fun hk2 => ?_, h.kt.2.2⟩, fun j hj hr => ?_, fun v hv j hj hr => ?_⟩
  · rcases PrD.mem_foot.1 hj with rfl | hj | hj | ⟨v, hv2, hj⟩
    · have := hm x.k (Or.inl rfl); exact ⟨this.1, by show x.k < _; omega⟩
    · have := hm j (Or.inr (Or.inl hj)); exact ⟨this.1, by omega⟩
    · refine ⟨?_, ?_⟩
      · rcases hR j hj with h1 | h1
        · exact (hm j (Or.inr (Or.inr (Or.inl h1)))).1
        · omega
      · simp only [footR, List.mem_cons] at hj
        rcases hj with rfl | hj
        · exact lt_of_heap ht.st
        · exact ownsRow_low ht.own.1 j hj
    · have := hm j (Or.inr (Or.inr (Or.inr ⟨v, hv2, hj⟩))); exact ⟨this.1, by omega⟩
  · rcases hR _ hk2 with h1 | h1
    · exact h.kt.2.1 h1
    · have := (hm x.k (Or.inl rfl)).2; simp only at h1; omega
  · rcases hR j hr with h1 | h1
    · exact h.tr j hj h1
    · have := (hm j (Or.inr (Or.inl hj))).2; omega
  · rcases hR j hr with h1 | h1
    · exact h.vr v hv j hj h1
    · have := (hm j (Or.inr (Or.inr (Or.inr ⟨v, hv, hj⟩)))).2; omega
end
/-- Both keep the same, and count the same. -/
def PrD.same (x : PrD) : Prop := Alike x.ls x.vs ∧ x.f2 = x.f ∧ x.a2 = x.a ∧ x.r2 = x.r
/-- What calls on a pair leave. -/
structure Adv24 (w0 w : World) (x : PrD) (w' : World) (x' : PrD) : Prop where
  q : PQ w0 w' x'
  k : x'.k = x.k
  bd : x'.b = x.b ∧ x'.d = x.d
  fr : Frm x.foot w w'
  nx : ∀ j ∈ x'.foot, j ∈ x.foot ∨ w.heap.size ≤ j
  z : w0.heap.size ≤ w.heap.size
section
variable {w0 w w1 w2 : World} {x x1 : PrD}
theorem Adv24.refl (h : PQ w0 w x) : Adv24 w0 w x w x := ⟨h, rfl, ⟨rfl, rfl⟩, Frm.refl _ _, fun _ hj => Or.inl hj, h.fr.size⟩
theorem Adv24.sz (h : Adv24 w0 w x w1 x1) : w.heap.size ≤ w1.heap.size := h.fr.size
theorem Adv24.fs (h : Adv24 w0 w x w1 x1) {S : List Nat} (hf : Frm S w1 w2) (hS : ∀ j ∈ S, j ∈ x.foot ∨ w.heap.size ≤ j) : Frm x.foot w w2 :=
  h.fr.trans hf (fun j hj hl => (hS j hj).elim id (fun h => by omega))
theorem Adv24.k0 (h : Adv24 w0 w x w1 x1) (hf : Frm [] w1 w2) : Adv24 w0 w x w2 x1 := ⟨h.q.k0 hf, h.k, h.bd, h.fs hf (by simp), h.nx, h.z⟩
/-- Something new is written to. -/
theorem Adv24.spoil (h : Adv24 w0 w x w1 x1) {S : List Nat} (hf : Frm S w1 w2) (hS : ∀ j ∈ S, w.heap.size ≤ j ∧ j ∉ x1.foot) : Adv24 w0 w x w2 x1 :=
  ⟨h.q.kept hf (fun j hj hs => (hS j hs).2 hj) (fun j hj => by have := (hS j hj).1; have := h.z; omega), h.k, h.bd, h.fs hf (fun j hj => Or.inr (hS j hj).1), h.nx, h.z⟩
theorem Adv24.prog (h : Adv24 w0 w x w1 x1) {pl' : Option Nat} {vs' : List Rp} {f' a' r' : Int} (ht : TS w2 x1.b pl' vs' f' a' r') (hf : Frm (foot24 x1.b x1.pl) w1 w2) (hx : Nx w1 x1.pl pl') (hv : ∀ v ∈ vs', v ∈ x1.vs ∨ ∀ k ∈ v.B, w1.heap.size ≤ k) :
    Adv24 w0 w x w2 ⟨x1.k, x1.b, pl', vs', f', a', r', x1.d, x1.p, x1.c, x1.ls, x1.f2, x1.a2, x1.r2⟩ := by
  have hz := h.sz
  refine ⟨h.q.prog ht hf hx hv, h.k, h.bd, h.fs hf (fun j hj => h.nx j (PrD.mem_foot.2 (Or.inr (Or.inl hj)))), fun j hj => ?_, h.z⟩
  rcases PrD.mem_foot.1 hj with rfl | hj | hj | ⟨v, hv2, hj⟩
  · exact h.nx _ (PrD.mem_foot.2 (Or.inl rfl))
  · rcases hx.foot j hj with h1 | h1
    · exact h.nx j (PrD.mem_foot.2 (Or.inr (Or.inl h1)))
    · exact Or.inr (by omega)
  · exact h.nx j (PrD.mem_foot.2 (Or.inr (Or.inr (Or.inl hj))))
  · rcases hv v hv2 with h1 | h1
    · exact h.nx j (PrD.mem_foot.2 (Or.inr (Or.inr (Or.inr ⟨v, h1, hj⟩))))
    · exact Or.inr (by have := h1 j hj; omega)
theorem Adv24.doc (h : Adv24 w0 w x w1 x1) {p' : Option Addr} {c' : Nat} {ls' : List Rp} {f' a' r' : Int} (ht : RT w2 x1.d p' c' ls' f' a' r') (hf : Frm [x1.d] w1 w2) (hp : ∀ k ∈ blk p', k ∈ blk x1.p ∨ w1.heap.size ≤ k) (hl : ∀ v ∈ ls', RpOk w0 v) :
    Adv24 w0 w x w2 ⟨x1.k, x1.b, x1.pl, x1.vs, x1.f, x1.a, x1.r, x1.d, p', c', ls', f', a', r'⟩ := by
  have hz := h.sz
  refine ⟨h.q.doc ht hf hp hl, h.k, h.bd, h.fs hf (fun j hj => by rw [List.mem_singleton] at hj; subst hj; exact h.nx _ (PrD.mem_foot.2 (Or.inr (Or.inr (Or.inl (by simp [footR])))))), fun j hj => ?_, h.z⟩
  rcases PrD.mem_foot.1 hj with rfl | hj | hj | ⟨v, hv2, hj⟩
  · exact h.nx _ (PrD.mem_foot.2 (Or.inl rfl))
  · exact h.nx j (PrD.mem_foot.2 (Or.inr (Or.inl hj)))
  · simp only [footR, List.mem_cons] at hj
    rcases hj with rfl | hj
    · exact h.nx _ (PrD.mem_foot.2 (Or.inr (Or.inr (Or.inl (by simp [footR])))))
    · rcases hp j hj with h1 | h1
      · exact h.nx j (PrD.mem_foot.2 (Or.inr (Or.inr (Or.inl (by simp [footR, h1])))))
      · exact Or.inr (by omega)
  · exact h.nx j (PrD.mem_foot.2 (Or.inr (Or.inr (Or.inr ⟨v, hv2, hj⟩))))
end
/-- What a call of the law's on a pair leaves. -/
def DoesP (w0 w : World) (x : PrD) (e : Ending) (w' : World) : Prop := e = .returned (.bool true) ∧ ∃ x', Adv24 w0 w x w' x' ∧ x'.same
end Go.Proofs.Ytbgochkmplacaaa
