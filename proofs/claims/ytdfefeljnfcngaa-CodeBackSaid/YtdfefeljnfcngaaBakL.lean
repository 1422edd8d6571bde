/- The statement CodeBack: plain facts on what was laid down and is taken up again; the writer beside a row of calls. -/
import Derived.Test.YtdfefeljnfcngaaOneL
import Derived.Test.YtdfefeljnfcngaaMem
import Derived.Test.YtdfefeljnfcngaaBaseG
import Derived.Laws.OwnMore
namespace Go.Proofs.Ytdfefeljnfcngaa
open Go.RowKit
set_option maxRecDepth 100000

/-- What one call lays down behind so many bytes. -/
def encOne (len : Nat) (e : CallD × List Int) : List Int :=
  if e.1.kind = 0 then le e.1.n e.1.many.toNat else if e.1.kind = 1 then e.2 else if e.1.kind = 2 then le e.1.s.size 2 ++ tx e.1.s else List.replicate (e.1.many - len).toNat 0
/-- The calls that are kept. -/
def OkOne (len : Nat) (e : CallD × List Int) : Prop :=
  (e.1.kind = 0 ∧ 1 ≤ e.1.many ∧ e.1.many ≤ 8 ∧ 0 ≤ e.1.n ∧ e.1.n / 2 ^ (8 * e.1.many.toNat) = 0) ∨ e.1.kind = 1 ∨ (e.1.kind = 2 ∧ e.1.s.size ≤ 65535) ∨ (e.1.kind = 3 ∧ (len : Int) ≤ e.1.many)
def encS (zs : List Int) (e : CallD × List Int) : List Int := zs ++ encOne zs.length e
def encs (es : List (CallD × List Int)) : List Int := es.foldl encS []
theorem encs_snoc (es : List (CallD × List Int)) (e : CallD × List Int) : encs (es ++ [e]) = encs es ++ encOne (encs es).length e := by simp [encs, encS]
theorem foldl_enc (b : List (CallD × List Int)) : ∀ zs : List Int, ∃ r, b.foldl encS zs = zs ++ r := by
  induction b with
  | nil => intro zs; exact ⟨[], by simp⟩
  | cons e b ih =>
    intro zs
    obtain ⟨r, hr⟩ := ih (encS zs e)
    exact ⟨encOne zs.length e ++ r, by rw [List.foldl_cons, hr, encS, List.append_assoc]⟩
theorem encs_append (a b : List (CallD × List Int)) : ∃ r, encs (a ++ b) = encs a ++ r := by
  obtain ⟨r, hr⟩ := foldl_enc b (encs a)
  exact ⟨r, by rw [encs, List.foldl_append]; exact hr⟩
theorem encs_at (es : List (CallD × List Int)) (t : Nat) (h : t < es.length) : ∃ r, encs (es.take (t + 1)) = encs (es.take t) ++ encOne (encs (es.take t)).length es[t] ∧ (encs es).drop (encs (es.take t)).length = encOne (encs (es.take t)).length es[t] ++ r := by
  have e1 : es.take (t + 1) = es.take t ++ [es[t]] := by rw [List.take_succ_eq_append_getElem h]
  have e2 : encs (es.take (t + 1)) = encs (es.take t) ++ encOne (encs (es.take t)).length es[t] := by rw [e1, encs_snoc]
  obtain ⟨r, hr⟩ := encs_append (es.take (t + 1)) (es.drop (t + 1))
  rw [List.take_append_drop] at hr
  refine ⟨r, e2, ?_⟩
  rw [hr, e2, List.append_assoc, List.drop_left]
/-- The cells of calls, one behind the other. -/
def callCells (d : CallD) : List Value := [.int .i64 d.kind, .int .u64 d.n, .int .i64 d.many, .slice d.p d.bl d.bc, .string d.s]
def rowCells (es : List (CallD × List Int)) : List Value := es.flatMap fun e => callCells e.1
theorem rowCells_snoc (es : List (CallD × List Int)) (e : CallD × List Int) : rowCells (es ++ [e]) = rowCells es ++ callCells e.1 := by simp [rowCells]
theorem rowCells_length (es : List (CallD × List Int)) : (rowCells es).length = es.length * 5 := by
  induction es with
  | nil => rfl
  | cons e es ih => rw [rowCells, List.flatMap_cons, List.length_append, ← rowCells, ih]; simp [callCells]; omega
theorem rowCells_at (es : List (CallD × List Int)) (t : Nat) (h : t < es.length) (j : Nat) (hj : j < 5) : (rowCells es)[t * 5 + j]? = (callCells es[t].1)[j]? := by
  have e1 : es = es.take t ++ ([es[t]] ++ es.drop (t + 1)) := by simp
  have e2 : rowCells es = rowCells (es.take t) ++ (callCells es[t].1 ++ rowCells (es.drop (t + 1))) := by
    have h3 := congrArg rowCells e1
    rw [h3]
    simp only [rowCells, List.flatMap_append, List.flatMap_cons, List.flatMap_nil, List.append_nil]
  have hl : (rowCells (es.take t)).length = t * 5 := by rw [rowCells_length]; simp; omega
  rw [e2, List.getElem?_append_right (by omega), hl, List.getElem?_append_left (by simp [callCells]; omega)]
  congr 1
  omega
/-- A number that fits is laid down, and is taken up. -/
theorem num_back {d : CallD} {ns : List Int} {len : Nat} {r : List Int} (hk : d.kind = 0) (h1 : 1 ≤ d.many) (h8 : d.many ≤ 8) (hn : 0 ≤ d.n) (hf : d.n / 2 ^ (8 * d.many.toNat) = 0) :
    numF d.n d.many = (encOne len (d, ns), 0) ∧ numT (encOne len (d, ns) ++ r) d.many = (d.n, (encOne len (d, ns)).length, 0) := by
  obtain ⟨j, hj⟩ : ∃ j : Nat, d.many = (j : Int) := ⟨d.many.toNat, by omega⟩
  have e : encOne len (d, ns) = le d.n j := by unfold encOne; simp [hk, hj]
  rw [hj] at hf h1 h8 ⊢
  rw [Int.toNat_natCast] at hf
  rw [e, le_length]
  constructor
  · unfold numF
    rw [if_neg (by omega), if_neg (by rw [Int.toNat_natCast]; exact fun h => h.2 hf), Int.toNat_natCast]
  · unfold numT
    rw [if_neg (by omega), if_neg (by simp [le_length]; omega), Int.toNat_natCast, List.take_append_of_le_length (by simp [le_length]), List.take_of_length_le (by simp [le_length]), leV_fit _ _ hn hf]
theorem text_back {d : CallD} {ns : List Int} {len : Nat} {r : List Int} (hk : d.kind = 2) (hs : d.s.size ≤ 65535) :
    textF d.s = (encOne len (d, ns), 0) ∧ textT (encOne len (d, ns) ++ r) 65535 = (tx d.s, (encOne len (d, ns)).length, 0) := by
  have e : encOne len (d, ns) = le d.s.size 2 ++ tx d.s := by unfold encOne; simp [hk]
  have h2 : leV (le (d.s.size : Int) 2) = d.s.size := leV_fit _ _ (by omega) (by omega)
  rw [e]
  constructor
  · unfold textF; rw [if_neg (by omega)]
  · have e3 : (le (d.s.size : Int) 2 ++ tx d.s ++ r).take 2 = le (d.s.size : Int) 2 := by
      rw [List.append_assoc, List.take_append_of_le_length (by simp [le_length]), List.take_of_length_le (by simp [le_length])]
    unfold textT
    rw [e3, h2, if_neg (by simp [le_length]), if_neg (by omega), Int.toNat_natCast, if_neg (by simp [le_length, tx_length])]
    have e4 : (le (d.s.size : Int) 2 ++ tx d.s ++ r).drop 2 = tx d.s ++ r := by
      rw [List.append_assoc, List.drop_append_of_le_length (by simp [le_length]), List.drop_of_length_le (by simp [le_length])]; rfl
    rw [e4, List.take_append_of_le_length (by simp [tx_length]), List.take_of_length_le (by simp [tx_length])]
    simp [le_length, tx_length]
theorem bytes_back {d : CallD} {ns : List Int} {len : Nat} {r : List Int} (hk : d.kind = 1) :
    (ns, (0 : Int)) = (encOne len (d, ns), 0) ∧ bytesT (encOne len (d, ns) ++ r) ns.length = (ns, (encOne len (d, ns)).length, 0) := by
  have e : encOne len (d, ns) = ns := by unfold encOne; simp [hk]
  rw [e]
  refine ⟨rfl, ?_⟩
  unfold bytesT
  rw [if_neg (by omega), if_neg (by simp; omega), Int.toNat_natCast, List.take_append_of_le_length (Nat.le_refl _), List.take_length]
theorem pad_back {d : CallD} {ns : List Int} {len : Nat} {r : List Int} {R : Int} (hk : d.kind = 3) (hl : (len : Int) ≤ d.many) (hR : d.many ≤ R) :
    padF R len d.many = (encOne len (d, ns), 0) ∧ padT (encOne len (d, ns) ++ r) len d.many = ((), (encOne len (d, ns)).length, 0) := by
  have e : encOne len (d, ns) = List.replicate (d.many - len).toNat 0 := by unfold encOne; simp [hk]
  rw [e]
  constructor
  · unfold padF; rw [if_neg (by omega), if_neg (by omega)]
  · have e2 : (List.replicate (d.many - len).toNat (0 : Int) ++ r).take (d.many - len).toNat = List.replicate (d.many - len).toNat 0 := by
      rw [List.take_append_of_le_length (by simp), List.take_of_length_le (by simp)]
    unfold padT
    rw [if_neg (by omega), if_neg (by simp; omega), e2, if_neg (by simp)]
    simp
theorem step_back {zs ys : List Int} (h : zs.length + ys.length ≤ 1048576) : stepW 1048576 (zs, 0) (ys, 0) = (zs ++ ys, 0) := by
  unfold stepW
  simp only [ne_eq, not_true, if_false]
  rw [if_neg (by omega)]
/-- A writer, and a row of calls beside it. -/
theorem FreshW.more {w0 w w' : World} {b : Nat} {room : Int} {s : List Int × Int} {A : List Nat} (h : FreshW w0 w b room s A) (hf : Frm [] w w') (B : List Nat) (hB : ∀ k ∈ B, w.heap.size ≤ k ∧ k < w'.heap.size) : FreshW w0 w' b room s (B ++ A) := by
  obtain ⟨fp, h1, h2, h3, h4⟩ := h
  refine ⟨fp, h1.kept hf (by simp), h2.trans hf (by simp), h3, fun k hk => ?_⟩
  rw [List.mem_append] at hk
  rcases hk with hk | hk
  · exact ⟨fun h => absurd (h1.lt k h) (Nat.not_lt.2 (hB k hk).1), (hB k hk).2⟩
  · exact ⟨(h4 k hk).1, Nat.lt_of_lt_of_le (h4 k hk).2 hf.size⟩
theorem FreshW.fewer {w0 w : World} {b : Nat} {room : Int} {s : List Int × Int} {A B : List Nat} (h : FreshW w0 w b room s A) (hB : ∀ k ∈ B, k ∈ A) : FreshW w0 w b room s B := by
  obtain ⟨fp, h1, h2, h3, h4⟩ := h
  exact ⟨fp, h1, h2, h3, fun k hk => h4 k (hB k hk)⟩
/-- The row grows: in its own block, or in a new one. -/
theorem FreshW.grow {w0 w w' : World} {b : Nat} {room : Int} {s : List Int × Int} {A : List Nat} {p p2 : Option Addr} (h : FreshW w0 w b room s A) (hp : ∀ k ∈ blk p, k ∈ A ∧ w0.heap.size ≤ k) (hf : Frm (blk p) w w') (hn : ∀ k ∈ blk p2, k ∈ blk p ∨ w.heap.size ≤ k) (hl : ∀ k ∈ blk p2, k < w'.heap.size) : FreshW w0 w' b room s (blk p2) := by
  obtain ⟨fp, h1, h2, h3, h4⟩ := h
  refine ⟨fp, h1.kept hf (fun k hk hk2 => (h4 k (hp k hk2).1).1 hk), h2.trans hf (fun i hi hlt => absurd (hp i hi).2 (Nat.not_le.2 hlt)), h3, fun k hk => ⟨fun hk2 => ?_, hl k hk⟩⟩
  rcases hn k hk with h | h
  · exact (h4 k (hp k h).1).1 hk2
  · exact absurd (h1.lt k hk2) (Nat.not_lt.2 h)
theorem ownsRow_keeps {w w' : World} {E : TypeId} {sz n : Nat} {p : Option Addr} {c : Nat} {xs : List Value} {A : List Nat} (h : w.ownsRow 0 E sz (.slice p n c) n xs) (hk : Keeps A w w') (hp : ∀ k ∈ blk p, k ∈ A) : w'.ownsRow 0 E sz (.slice p n c) n xs := by
  refine ⟨h.1, ?_⟩
  rcases h.2 with h0 | ⟨g, c, cur, he, hb, hg, r⟩
  · exact Or.inl h0
  · simp only [Value.slice.injEq] at he
    obtain ⟨rfl, _, rfl⟩ := he
    exact Or.inr ⟨g, _, cur, rfl, hb, (hk g (hp g (by simp [blk]))).trans hg, r⟩
theorem infoCall : (Try.prog.info? 32).map (fun i => (i.zero, i.size, i.bytes)) = some (some (.agg #[.int .i64 0, .int .u64 0, .int .i64 0, .slice none 0 0, .string ByteArray.empty]), 5, 64) := by kernel_rfl
theorem own_some {w : World} {E : TypeId} {sz n : Nat} {p : Option Addr} {c : Nat} {xs : List Value} (h : w.ownsRow 0 E sz (.slice p n c) n xs) (hn : 0 < n) : ∃ g, p = some ⟨g, 0, none⟩ := by
  rcases h.2 with ⟨_, h0⟩ | ⟨g, c, cur, he, _⟩
  · omega
  · simp only [Value.slice.injEq] at he
    exact ⟨g, he.1⟩
theorem es_small {w : World} {E : TypeId} {sz n : Nat} {p : Option Addr} {c : Nat} {xs : List Value} (h : w.ownsRow 0 E sz (.slice p n c) n xs) : n ≤ 9223372036854775807 := by
  rcases h.2 with ⟨_, h0⟩ | ⟨g, c, cur, he, _, _, hc, hm, _⟩
  · omega
  · unfold maxLen at hm; omega
end Go.Proofs.Ytdfefeljnfcngaa
