/- The document's disks: what stands in the world. -/
import Derived.Test.YtfclamndjnoopaaDskV
namespace Go.Proofs.Ytfclamndjnoopaa
open Go.RowKit Go.Lib
set_option maxRecDepth 100000

/-- What a block is for: so that no two of them are one. -/
inductive Rl where
  | pow | dsk | wts | sec
  | disk (i : Nat)
  | plat (i : Nat)
  | oth (n : Nat)
/-- Blocks that the document's power writes. -/
def Rl.mut : Rl → Prop
  | .sec => False
  | .oth _ => False
  | _ => True
structure FrR (φ : Nat → Rl) (w w' : World) : Prop where
  os : w'.os = w.os
  tape : w'.tape = w.tape
  output : w'.output = w.output
  size : w.heap.size ≤ w'.heap.size
  block : ∀ k, k < w.heap.size → ¬ (φ k).mut → w'.heap[k]? = w.heap[k]?
theorem FrR.refl (φ : Nat → Rl) (w : World) : FrR φ w w := ⟨rfl, rfl, rfl, Nat.le_refl _, fun _ _ _ => rfl⟩
theorem FrR.trans {φ ψ : Nat → Rl} {a b c : World} (h : FrR φ a b) (k : FrR ψ b c) (hx : ∀ i, i < a.heap.size → ψ i = φ i) : FrR φ a c :=
  ⟨k.os.trans h.os, k.tape.trans h.tape, k.output.trans h.output, Nat.le_trans h.size k.size, fun i hi hm => (k.block i (Nat.lt_of_lt_of_le hi h.size) (by rw [hx i hi]; exact hm)).trans (h.block i hi hm)⟩
theorem FrR.of {φ : Nat → Rl} {T : List Nat} {a b : World} (h : Frm T a b) (hT : ∀ k ∈ T, k < a.heap.size → (φ k).mut) : FrR φ a b :=
  ⟨h.os, h.tape, h.output, h.size, fun k hk hm => h.block k hk (fun ht => hm (hT k ht hk))⟩
/-- A sector of bytes in a block. -/
structure SecR where
  g : Nat
  c : Nat
  bs : List Int
def SecR.v (s : SecR) : Value := .slice (some ⟨s.g, 0, none⟩) 128 s.c
structure SecOk (w : World) (φ : Nat → Rl) (s : SecR) : Prop where
  rd : Rd w (some ⟨s.g, 0, none⟩) s.bs
  len : s.bs.length = 128
  cap : 128 ≤ s.c
  bd : ∀ z ∈ s.bs, 0 ≤ z ∧ z < 256
  rl : φ s.g = .sec
  lt : s.g < w.heap.size
structure RWt where
  d : Nat
  at_ : Nat
  s : SecR
def RWt.row (x : RWt) : List Value := [.int .i64 (x.d : Int), .int .i64 (x.at_ : Int), x.s.v]
def rowsR (l : List RWt) : List Value := l.flatMap RWt.row
theorem rowsR_app (a b : List RWt) : rowsR (a ++ b) = rowsR a ++ rowsR b := by simp [rowsR]
structure RDk where
  db : Nat
  pp : Option Addr
  pc : Nat
  failed : Bool
  ss : List SecR
/-- Where all lies. -/
structure RHp where
  rb : Nat
  dp : Option Addr
  dc : Nat
  wp : Option Addr
  wc : Nat
  left : Int
  off : Bool
  written : Int
  ds : List RDk
  ws : List RWt
/-- What it says. -/
structure RP where
  left : Int
  off : Bool
  written : Int
  ds : List (Bool × List (List Int))
  ws : List (Nat × Nat × List Int)
def RDk.pure (d : RDk) : Bool × List (List Int) := (d.failed, d.ss.map SecR.bs)
def RWt.pure (x : RWt) : Nat × Nat × List Int := (x.d, x.at_, x.s.bs)
def RHp.pure (H : RHp) : RP := ⟨H.left, H.off, H.written, H.ds.map RDk.pure, H.ws.map RWt.pure⟩
def RHp.powRow (H : RHp) : Array Value := #[.slice H.dp H.ds.length H.dc, .slice H.wp H.ws.length H.wc, .int .i64 H.left, .bool H.off, .int .i64 H.written]
def RDk.row (d : RDk) : Array Value := #[.slice d.pp d.ss.length d.pc, .bool d.failed]
structure IsRf (w : World) (φ : Nat → Rl) (H : RHp) : Prop where
  row : w.heap[H.rb]? = some (.cells H.powRow 79 (0, 0))
  dsk : w.ownsRow 0 83 1 (.slice H.dp H.ds.length H.dc) H.ds.length (H.ds.map (fun d => .pointer (some ⟨d.db, 0, none⟩)))
  wts : w.ownsRow 0 86 3 (.slice H.wp H.ws.length H.wc) H.ws.length (rowsR H.ws)
  dr : ∀ (i : Nat) (d : RDk), H.ds[i]? = some d → w.heap[d.db]? = some (.cells d.row 82 (0, 0)) ∧ w.ownsRow 0 22 1 (.slice d.pp d.ss.length d.pc) d.ss.length (d.ss.map SecR.v)
  secD : ∀ (i : Nat) (d : RDk), H.ds[i]? = some d → ∀ s ∈ d.ss, SecOk w φ s
  secW : ∀ x ∈ H.ws, SecOk w φ x.s
  rP : φ H.rb = .pow
  rD : ∀ k ∈ blk H.dp, φ k = .dsk
  rW : ∀ k ∈ blk H.wp, φ k = .wts
  rI : ∀ (i : Nat) (d : RDk), H.ds[i]? = some d → φ d.db = .disk i ∧ ∀ k ∈ blk d.pp, φ k = .plat i
  wd : ∀ x ∈ H.ws, ∃ d, H.ds[x.d]? = some d ∧ x.at_ < d.ss.length
  nb : ∀ (i : Nat) (d : RDk), H.ds[i]? = some d → d.ss.length ≤ 8192
  dl : H.ds.length ≤ 6
  lb : -9223372036854775808 ≤ H.left ∧ H.left ≤ 9223372036854775807
  wb : 0 ≤ H.written ∧ H.written + H.ws.length ≤ 500000000000
theorem SecOk.kept {w w' : World} {φ φ' : Nat → Rl} {s : SecR} (h : SecOk w φ s) (hs : w.heap.size ≤ w'.heap.size) (hb : w'.heap[s.g]? = w.heap[s.g]?) (hφ : φ' s.g = φ s.g) : SecOk w' φ' s := by
  refine ⟨?_, h.len, h.cap, h.bd, by rw [hφ]; exact h.rl, Nat.lt_of_lt_of_le h.lt hs⟩
  rcases h.rd with h0 | ⟨g, o, he, hc⟩
  · exact Or.inl h0
  · refine Or.inr ⟨g, o, he, fun i hi => ?_⟩
    simp only [Option.some.injEq, Addr.mk.injEq, and_true] at he
    obtain ⟨rfl, rfl⟩ := he
    rw [World.cell?_of_block hb]
    exact hc i hi
/-- A cell of a row of one's own. -/
theorem own_cell {w : World} {E : TypeId} {sz n c k : Nat} {p : Option Addr} {xs : List Value} {v : Value} (h : w.ownsRow 0 E sz (.slice p n c) n xs) (hk : xs[k]? = some v) : ∃ g, p = some ⟨g, 0, none⟩ ∧ w.cell? ⟨g, k, none⟩ = some v ∧ w.frozen? ⟨g, k, none⟩ = false := by
  have hlt : k < xs.length := (List.getElem?_eq_some_iff.1 hk).1
  rcases h.2 with ⟨_, h0⟩ | ⟨g, c', cur, he, _, hg, hc, _, hs, ht⟩
  · have := h.1; rw [h0] at this; simp at this; rw [this] at hlt; simp at hlt
  · simp only [Value.slice.injEq] at he
    obtain ⟨rfl, _, rfl⟩ := he
    refine ⟨g, rfl, ?_, frozen_of_row w g k _ _ hg⟩
    rw [cell_of_row _ _ _ _ _ _ hg]
    rw [← ht, List.getElem?_take, if_pos (by rw [← h.1]; exact hlt)] at hk
    simpa using hk
theorem own_set {w : World} {E : TypeId} {sz n c k g : Nat} {xs : List Value} {v : Value} (h : w.ownsRow 0 E sz (.slice (some ⟨g, 0, none⟩) n c) n xs) : (w.setCell ⟨g, k, none⟩ v).ownsRow 0 E sz (.slice (some ⟨g, 0, none⟩) n c) n (xs.set k v) := by
  refine ⟨by rw [List.length_set]; exact h.1, ?_⟩
  rcases h.2 with ⟨he, _⟩ | ⟨g', c', cur, he, hb, hg, hc, hm, hs, ht⟩
  · simp at he
  · simp only [Value.slice.injEq, Option.some.injEq, Addr.mk.injEq, and_true, true_and] at he
    obtain ⟨rfl, rfl⟩ := he
    refine Or.inr ⟨g, c, _, rfl, hb, heap_setCell_same w g k _ _ v hg, hc, hm, by simpa using hs, ?_⟩
    rw [Array.toList_setIfInBounds, List.take_set, ht]
theorem IsRf.cells {w : World} {φ : Nat → Rl} {H : RHp} (h : IsRf w φ H) :
    w.cell? ⟨H.rb, 0, none⟩ = some (.slice H.dp H.ds.length H.dc) ∧ w.cell? ⟨H.rb, 1, none⟩ = some (.slice H.wp H.ws.length H.wc) ∧ w.cell? ⟨H.rb, 2, none⟩ = some (.int .i64 H.left) ∧ w.cell? ⟨H.rb, 3, none⟩ = some (.bool H.off) ∧ w.cell? ⟨H.rb, 4, none⟩ = some (.int .i64 H.written) := by
  refine ⟨?_, ?_, ?_, ?_, ?_⟩ <;> (rw [cell_of_row w _ _ _ _ _ h.row]; rfl)
theorem IsRf.froz {w : World} {φ : Nat → Rl} {H : RHp} (h : IsRf w φ H) (k : Nat) : w.frozen? ⟨H.rb, k, none⟩ = false := frozen_of_row w _ k _ _ h.row
/-- A disk: its pointer, its two cells. -/
theorem IsRf.at {w : World} {φ : Nat → Rl} {H : RHp} (h : IsRf w φ H) {i : Nat} {d : RDk} (hi : H.ds[i]? = some d) : ∃ gd, H.dp = some ⟨gd, 0, none⟩ ∧ w.cell? ⟨gd, i, none⟩ = some (.pointer (some ⟨d.db, 0, none⟩)) ∧ w.cell? ⟨d.db, 0, none⟩ = some (.slice d.pp d.ss.length d.pc) ∧ w.cell? ⟨d.db, 1, none⟩ = some (.bool d.failed) := by
  obtain ⟨gd, h1, h2, _⟩ := own_cell h.dsk (k := i) (v := .pointer (some ⟨d.db, 0, none⟩)) (by rw [List.getElem?_map, hi]; rfl)
  have hr := (h.dr i d hi).1
  refine ⟨gd, h1, h2, ?_, ?_⟩ <;> (rw [cell_of_row _ _ _ _ _ _ hr]; rfl)
theorem IsRf.sec {w : World} {φ : Nat → Rl} {H : RHp} (h : IsRf w φ H) {i k : Nat} {d : RDk} {s : SecR} (hi : H.ds[i]? = some d) (hk : d.ss[k]? = some s) : ∃ gp, d.pp = some ⟨gp, 0, none⟩ ∧ w.cell? ⟨gp, k, none⟩ = some s.v ∧ w.frozen? ⟨gp, k, none⟩ = false :=
  own_cell (h.dr i d hi).2 (k := k) (v := s.v) (by rw [List.getElem?_map, hk]; rfl)
theorem rowsR_get {l : List RWt} {i : Nat} {x : RWt} (hi : l[i]? = some x) {j : Nat} (hj : j < 3) : (rowsR l)[i * 3 + j]? = x.row[j]? := by
  obtain ⟨hlt, rfl⟩ := List.getElem?_eq_some_iff.1 hi
  have e1 : l = l.take i ++ l[i] :: l.drop (i + 1) := by rw [← List.drop_eq_getElem_cons hlt, List.take_append_drop]
  have e2 : rowsR l = rowsR (l.take i) ++ (l[i].row ++ rowsR (l.drop (i + 1))) := by
    have h3 := congrArg rowsR e1
    rw [rowsR_app] at h3
    exact h3
  have hlen : ∀ (m : List RWt), (rowsR m).length = m.length * 3 := by
    intro m
    induction m with
    | nil => rfl
    | cons y m ih => rw [show rowsR (y :: m) = y.row ++ rowsR m from rfl, List.length_append, ih]; simp [RWt.row]; omega
  have e3 : (rowsR (l.take i)).length = i * 3 := by rw [hlen, List.length_take, Nat.min_eq_left (by omega)]
  rw [e2, List.getElem?_append_right (by omega), e3, show i * 3 + j - i * 3 = j by omega, List.getElem?_append_left (by simpa [RWt.row] using hj)]
/-- What waits: its three cells. -/
theorem IsRf.wait {w : World} {φ : Nat → Rl} {H : RHp} (h : IsRf w φ H) {i : Nat} {x : RWt} (hi : H.ws[i]? = some x) : ∃ gw, H.wp = some ⟨gw, 0, none⟩ ∧ w.cell? ⟨gw, i * 3, none⟩ = some (.int .i64 (x.d : Int)) ∧ w.cell? ⟨gw, i * 3 + 1, none⟩ = some (.int .i64 (x.at_ : Int)) ∧ w.cell? ⟨gw, i * 3 + 2, none⟩ = some x.s.v ∧ w.frozen? ⟨gw, i * 3 + 2, none⟩ = false := by
  obtain ⟨gw, h1, h2, _⟩ := own_cell h.wts (rowsR_get hi (j := 0) (by omega))
  obtain ⟨g2, e2, h3, _⟩ := own_cell h.wts (rowsR_get hi (j := 1) (by omega))
  obtain ⟨g3, e3, h4, h5⟩ := own_cell h.wts (rowsR_get hi (j := 2) (by omega))
  rw [h1] at e2 e3
  simp only [Option.some.injEq, Addr.mk.injEq, and_true] at e2 e3
  subst e2 e3
  exact ⟨gw, h1, by simpa using h2, h3, h4, h5⟩
/-- Nothing of it was touched. -/
theorem IsRf.kept {w w' : World} {φ φ' : Nat → Rl} {H : RHp} (h : IsRf w φ H) (hs : w.heap.size ≤ w'.heap.size) (hb : ∀ k, k < w.heap.size → (∀ n, φ k ≠ .oth n) → w'.heap[k]? = w.heap[k]?) (hφ : ∀ k, k < w.heap.size → φ' k = φ k) : IsRf w' φ' H := by
  have low : ∀ {E : TypeId} {sz n : Nat} {p : Option Addr} {c : Nat} {xs : List Value}, w.ownsRow 0 E sz (.slice p n c) n xs → (∀ k ∈ blk p, ∀ m, φ k ≠ .oth m) → w'.ownsRow 0 E sz (.slice p n c) n xs := fun ho hr => by
    refine ⟨ho.1, ?_⟩
    rcases ho.2 with h0 | ⟨g, c', cur, he, hb0, hg, r⟩
    · exact Or.inl h0
    · simp only [Value.slice.injEq] at he
      obtain ⟨rfl, _, rfl⟩ := he
      exact Or.inr ⟨g, _, cur, rfl, hb0, (hb g (lt_of_heap hg) (hr g (by simp [blk]))).trans hg, r⟩
  have one : ∀ {k : Nat} {o : Obj}, w.heap[k]? = some o → (∀ m, φ k ≠ .oth m) → w'.heap[k]? = some o := fun hk hr => (hb _ (lt_of_heap hk) hr).trans hk
  have nr : ∀ {k : Nat} {r : Rl}, φ k = r → (∀ m, r ≠ .oth m) → ∀ m, φ k ≠ .oth m := fun e h m => by rw [e]; exact h m
  have lk : ∀ {E : TypeId} {sz n : Nat} {p : Option Addr} {c : Nat} {xs : List Value}, w.ownsRow 0 E sz (.slice p n c) n xs → ∀ k ∈ blk p, φ' k = φ k := fun ho k hk => hφ k (ownsRow_low ho k hk)
  refine ⟨one h.row (nr h.rP (by intro m e; cases e)), low h.dsk (fun k hk => nr (h.rD k hk) (by intro m e; cases e)), low h.wts (fun k hk => nr (h.rW k hk) (by intro m e; cases e)), fun i d hi => ⟨one (h.dr i d hi).1 (nr (h.rI i d hi).1 (by intro m e; cases e)), low (h.dr i d hi).2 (fun k hk => nr ((h.rI i d hi).2 k hk) (by intro m e; cases e))⟩, fun i d hi s hsm => ?_, fun x hx => ?_, ?_, ?_, ?_, ?_, h.wd, h.nb, h.dl, h.lb, h.wb⟩
  · have hk := h.secD i d hi s hsm
    exact hk.kept hs (hb _ hk.lt (nr hk.rl (by intro m e; cases e))) (hφ _ hk.lt)
  · have hk := h.secW x hx
    exact hk.kept hs (hb _ hk.lt (nr hk.rl (by intro m e; cases e))) (hφ _ hk.lt)
  · rw [hφ _ (lt_of_heap h.row)]; exact h.rP
  · intro k hk; rw [lk h.dsk k hk]; exact h.rD k hk
  · intro k hk; rw [lk h.wts k hk]; exact h.rW k hk
  · intro i d hi
    refine ⟨by rw [hφ _ (lt_of_heap (h.dr i d hi).1)]; exact (h.rI i d hi).1, fun k hk => ?_⟩
    rw [lk (h.dr i d hi).2 k hk]; exact (h.rI i d hi).2 k hk
end Go.Proofs.Ytfclamndjnoopaa
