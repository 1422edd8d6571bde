/- Opening the arguments of the statements: numbers, bytes. A slice that came in is no longer than what a row may hold. Opening the arguments of the statements: lists of calls. The statement CodeOneForm: the walk. Frames: what a body's reader takes up: a number, a text, bytes. -/
import Derived.Test.YtignoocdeghiaaaDoorRows
import Derived.Test.YtignoocdeghiaaaDoorQaa
import Derived.ProofKit
import Derived.OpenShut
import Derived.ChangeOld
import Derived.Deep.Slices
import Derived.SizedLaws
import Derived.Test.YtignoocdeghiaaaDoorQac
namespace Go.Proofs.YtignoocdeghiaaaDoor
section
section
set_option maxRecDepth 100000
open Go.ChangeShapes Go.WideShapes Go.ChangeAt Go.RowKit Go.Deep

theorem own : ownKnob Tryd.prog.godebug = none := by kernel_rfl
theorem laidOut : laidOutB Tryd.prog = true := by kernel_rfl
theorem u64_bd {x : Int} (h : (Lit.int .u64 x).wf = true) : 0 ≤ x ∧ x < 18446744073709551616 := by
  simp [Lit.wf, IntKind.min, IntKind.max, IntKind.signed, IntKind.bits] at h; omega
theorem i64_bd {x : Int} (h : (Lit.int .i64 x).wf = true) : -9223372036854775808 ≤ x ∧ x ≤ 9223372036854775807 := by
  simp [Lit.wf, IntKind.min, IntKind.max, IntKind.signed, IntKind.bits] at h; omega
theorem u8_bd {x : Int} (h : (Lit.int .u8 x).wf = true) : 0 ≤ x ∧ x < 256 := by
  simp [Lit.wf, IntKind.min, IntKind.max, IntKind.signed, IntKind.bits] at h; omega
/-- A slice of bytes that came in: the bytes that it shows. -/
def Came (w : World) (p : Option Addr) (len cap : Nat) : Prop := ∃ ns : List Int, ns.length = len ∧ Rd w p ns ∧ (∀ z ∈ ns, 0 ≤ z ∧ z < 256) ∧ (ns = [] → p = none → cap = 0) ∧ len ≤ cap ∧ cap ≤ 9223372036854775807
theorem spot_of_cell {w : World} {x : Addr} {v : Value} (h : w.cell? x = some v) : x.spot = none := by
  unfold World.cell? at h
  split at h
  · by_cases hs : x.spot.isSome = true
    · simp [hs] at h
    · simpa using hs
  · cases h
theorem came_of {w : World} {x : Addr} {len cap : Nat} {zs : List Int} (hl : len ≤ cap) (hm : cap ≤ maxLen) (hz : zs.length = cap) (hcell : ∀ i, i < zs.length → w.cell? (x.add i) = some (.int .u8 (zs.getD i 0))) (hwf : ∀ n ∈ zs, (Lit.int .u8 n).wf = true) : Came w (some x) len cap := by
  refine ⟨zs.take len, by simp; omega, ?_, fun z hz => u8_bd (hwf z (List.mem_of_mem_take hz)), by simp, hl, by unfold maxLen at hm; omega⟩
  by_cases h0 : len = 0
  · exact Or.inl (by simp [h0])
  · have hs : x.spot = none := spot_of_cell (by have := hcell 0 (by omega); simpa [Addr.add] using this)
    obtain ⟨g, o, sp⟩ := x
    simp only at hs
    subst hs
    refine Or.inr ⟨g, o, rfl, fun i hi => ?_⟩
    simp at hi
    have h := hcell i (by omega)
    rw [show (⟨g, o, none⟩ : Addr).add i = ⟨g, o + i, none⟩ by unfold Addr.add; split <;> simp_all] at h
    have h2 : i < zs.length := by omega
    rw [h]; simp [List.getD, hi, h2]
section
variable {H : Type} {enc : TypeId × Value → H} {W : World}
/-- A slice of bytes, wherever it stands. -/
theorem came_cells {fuel : Nat} {cs : List Value} {x : DataW H × List MemPlace} (h : DataW.trod enc Tryd.prog W 0 (fun _ => true) true fuel 22 cs = some x) :
    ∃ p len cap, cs = [.slice p len cap] ∧ Came W p len cap := by
  rcases open_ints Tryd.underlying22 Tryd.underlying5 (by kernel_rfl) h with ⟨hcs, _⟩ | ⟨x, l, c, zs, hcs, _, hl, hm, hz, _, hcell, hwz⟩
  · exact ⟨none, 0, 0, hcs, [], rfl, Or.inl rfl, by simp, fun _ _ => rfl, by omega, by omega⟩
  · exact ⟨some x, l, c, hcs, came_of hl hm (by simpa using hz) hcell hwz⟩
theorem cellsI : Tryd.prog.cellsOf 3 = 1 := by kernel_rfl
theorem cellsB : Tryd.prog.cellsOf 22 = 1 := by kernel_rfl
theorem cellsS : Tryd.prog.cellsOf 9 = 1 := by kernel_rfl
theorem add_of {x : Addr} (hs : x.spot = none) (i : Nat) : x.add i = ⟨x.block, x.off + i, none⟩ := by
  obtain ⟨g, o, sp⟩ := x
  simp only at hs
  subst hs
  unfold Addr.add; split <;> simp_all
end
theorem Came.kept {w w' : World} {p : Option Addr} {len cap : Nat} (h : Came w p len cap) (hf : Frm [] w w') : Came w' p len cap := by
  obtain ⟨ns, h1, h2, h3⟩ := h
  exact ⟨ns, h1, h2.kept hf (by simp), h3⟩
end
section
set_option maxRecDepth 100000
open Go.ChangeShapes Go.WideShapes Go.ChangeAt Go.RowKit Go.Deep

theorem bytesU : Tryd.prog.bytesOf 5 = 1 := by kernel_rfl
section
variable {H : Type} {enc : TypeId × Value → H} {W : World} {P : Program}
theorem slice_room {t E : TypeId} (ht : P.underlying t = some (.slice E)) {fuel : Nat} {cs : List Value} {x : DataW H × List MemPlace} (h : DataW.trod enc P W 0 (fun _ => true) true fuel t cs = some x) (hw : ∀ n ∈ x.1.weights P t, n ≤ reachBytes) (p : Option Addr) (len cap : Nat) (he : cs = [.slice p len cap]) : len * P.bytesOf E ≤ 140737488351232 := by
  rcases open_slice ht h with ⟨hcs, _⟩ | ⟨a, l, c, m, n, D, Pl, rfl, hb, hl, hm, hmm, rfl, hx⟩
  · rw [hcs] at he
    simp only [List.cons.injEq, Value.slice.injEq, and_true] at he
    obtain ⟨_, rfl, _⟩ := he
    simp
  · simp only [List.cons.injEq, Value.slice.injEq, and_true] at he
    obtain ⟨rfl, rfl, rfl⟩ := he
    have := hw _ (by
      simp only [DataW.weights, ht]
      exact List.mem_cons_self)
    simp only [List.length_map, List.length_range, reachBytes] at this
    refine Nat.le_trans (Nat.mul_le_mul_right _ (Nat.le_add_right l (m - l))) this
theorem mem_all {P : Program} {e : TypeId} {l : List (DataW H)} {d : DataW H} (hd : d ∈ l) {n : Nat} (hn : n ∈ d.weights P e) : n ∈ DataW.weightsAll P e l := by
  induction l with
  | nil => cases hd
  | cons a l ih =>
    simp only [DataW.weightsAll, List.mem_append]
    rcases List.mem_cons.1 hd with rfl | h
    · exact Or.inl hn
    · exact Or.inr (ih h)
theorem came_len {fuel : Nat} {cs : List Value} {x : DataW H × List MemPlace} (h : DataW.trod enc Tryd.prog W 0 (fun _ => true) true fuel 22 cs = some x) (hw : ∀ n ∈ x.1.weights Tryd.prog 22, n ≤ reachBytes) (p : Option Addr) (len cap : Nat) (he : cs = [.slice p len cap]) : len ≤ 140737488351232 := by
  rcases open_ints Tryd.underlying22 Tryd.underlying5 (by kernel_rfl) h with ⟨hcs, _⟩ | ⟨a, l, c, zs, hcs, _, hl, hm, hz, hxx, _, _⟩
  · rw [hcs] at he
    simp at he
    omega
  · rw [hcs] at he
    simp only [List.cons.injEq, Value.slice.injEq, and_true] at he
    obtain ⟨_, rfl, _⟩ := he
    have := hw ((zs.take l).length + (zs.drop l).length) (by
      rw [hxx]
      simp [DataW.weights, Tryd.underlying22, bytesU, lits])
    simp only [List.length_take, List.length_drop, reachBytes] at this
    simp only [if_true] at hz
    omega
end
end
end
section
set_option maxRecDepth 100000
open Go.ChangeShapes Go.WideShapes Go.ChangeAt Go.RowKit Go.Deep
section
variable {H : Type} {enc : TypeId × Value → H} {W : World}
/-- One call's fields. -/
structure CallD where
  kind : Int
  n : Int
  many : Int
  p : Option Addr
  bl : Nat
  bc : Nat
  s : ByteArray
def CallAt (w : World) (g o : Nat) (d : CallD) : Prop :=
  w.cell? ⟨g, o, none⟩ = some (.int .i64 d.kind) ∧ w.cell? ⟨g, o + 1, none⟩ = some (.int .u64 d.n) ∧ w.cell? ⟨g, o + 2, none⟩ = some (.int .i64 d.many) ∧ w.cell? ⟨g, o + 3, none⟩ = some (.slice d.p d.bl d.bc) ∧ w.cell? ⟨g, o + 4, none⟩ = some (.string d.s)
def CallOk (w : World) (d : CallD) : Prop :=
  (-9223372036854775808 ≤ d.kind ∧ d.kind ≤ 9223372036854775807) ∧ (0 ≤ d.n ∧ d.n < 18446744073709551616) ∧ (-9223372036854775808 ≤ d.many ∧ d.many ≤ 9223372036854775807) ∧ Came w d.p d.bl d.bc ∧ d.s.size ≤ maxLen
theorem cellsU : Tryd.prog.cellsOf 66 = 1 := by kernel_rfl
/-- A list of calls that came in. -/
def CameL (w : World) (p : Option Addr) (len cap : Nat) : Prop :=
  len ≤ cap ∧ cap ≤ 9223372036854775807 ∧ ((len = 0 ∧ (p = none → cap = 0)) ∨ ∃ g o, p = some ⟨g, o, none⟩ ∧ ∀ i, i < len → ∃ d, CallAt w g (o + i * 5) d ∧ CallOk w d)
end
theorem CallAt.kept {w w' : World} {g o : Nat} {d : CallD} (h : CallAt w g o d) (hf : Frm [] w w') : CallAt w' g o d := by
  obtain ⟨h0, h1, h2, h3, h4⟩ := h
  have hl := World.block_lt_of_cell? w _ h0
  exact ⟨(hf.cell (p := ⟨g, o, none⟩) hl (by simp)).trans h0, (hf.cell (p := ⟨g, o + 1, none⟩) hl (by simp)).trans h1, (hf.cell (p := ⟨g, o + 2, none⟩) hl (by simp)).trans h2, (hf.cell (p := ⟨g, o + 3, none⟩) hl (by simp)).trans h3, (hf.cell (p := ⟨g, o + 4, none⟩) hl (by simp)).trans h4⟩
theorem CallOk.kept {w w' : World} {d : CallD} (h : CallOk w d) (hf : Frm [] w w') : CallOk w' d := ⟨h.1, h.2.1, h.2.2.1, h.2.2.2.1.kept hf, h.2.2.2.2⟩
theorem CameL.kept {w w' : World} {p : Option Addr} {len cap : Nat} (h : CameL w p len cap) (hf : Frm [] w w') : CameL w' p len cap := by
  refine ⟨h.1, h.2.1, ?_⟩
  rcases h.2.2 with h' | ⟨g, o, rfl, h'⟩
  · exact Or.inl h'
  · refine Or.inr ⟨g, o, rfl, fun i hi => ?_⟩
    obtain ⟨d, h1, h2⟩ := h' i hi
    exact ⟨d, h1.kept hf, h2.kept hf⟩
end
section
open Go.RowKit
set_option maxRecDepth 100000

theorem conv_any {P : Program} {w : World} (src e dst : TypeId) (hs : P.underlying src = some (.slice e)) (he : P.underlying e = some (.int .u8)) (hd : P.underlying dst = some .string) {p : Option Addr} {n : Nat} {zs : List Int} (hrd : Rd w p zs) (cap : Nat) (hn : zs.length = n) :
    Sem.run P (convert src dst (.slice p n cap)) w = .ok (.string (strOfNums zs)) w := by
  rcases hrd with rfl | ⟨g, o, rfl, hc⟩
  · simp at hn
    subst hn
    cases p with
    | none => exact run_convert_bytes_nil (P := P) (w := w) src e hs he 0 cap dst hd
    | some a =>
      rw [run_convert_bytes_string w src dst e _ _ _ hs he hd, run_bytesToString w a 0 cap [] (by simp [loadCells, loadCellsFrom])]
      rfl
  · exact conv_rd src e dst hs he hd (Or.inr ⟨g, o, rfl, hc⟩) cap hn
theorem FreshW.other {w0 w w' : World} {b : Nat} {room : Int} {s : List Int × Int} {A S : List Nat} (h : FreshW w0 w b room s A) (hf : Frm S w w') (hS : ∀ k ∈ S, k ∈ A ∧ w0.heap.size ≤ k) : FreshW w0 w' b room s A := by
  obtain ⟨fp, h1, h2, h3, h4⟩ := h
  refine ⟨fp, h1.kept hf (fun k hk hs => (h4 k (hS k hs).1).1 hk), h2.trans hf (fun i hi hlt => absurd (hS i hi).2 (Nat.not_le.2 hlt)), h3, fun k hk => ⟨(h4 k hk).1, Nat.lt_of_lt_of_le (h4 k hk).2 hf.size⟩⟩
theorem IsR.keeps {w w' : World} {b g pos : Nat} {err : Int} {bs : List Int} (h : IsR w b g bs pos err) (hk : Keeps [b, g] w w') : IsR w' b g bs pos err :=
  ⟨(hk b (by simp)).trans h.1, (hk g (by simp)).trans h.2.1, h.2.2⟩
/-- What holds at each round's head: the reader stands at pos, the writer has just the bytes up to there. -/
def OneInv (w0 : World) (rb rg wb : Nat) (bs : List Int) (pos : Nat) (w : World) : Prop :=
  ∃ err, FreshR w0 w rb rg bs pos err ∧ FreshW w0 w wb bs.length (bs.take pos, 0) [rb, rg]
theorem OneInv.frm {w0 w : World} {rb rg wb pos : Nat} {bs : List Int} (h : OneInv w0 rb rg wb bs pos w) : Frm [] w0 w := by obtain ⟨_, h, _⟩ := h; exact h.2.1
theorem OneInv.same {w0 w w' : World} {rb rg wb pos : Nat} {bs : List Int} (h : OneInv w0 rb rg wb bs pos w) (hf : Frm [] w w') : OneInv w0 rb rg wb bs pos w' := by
  obtain ⟨err, h1, h2⟩ := h
  exact ⟨err, ⟨h1.1.kept hf (by simp) (by simp), h1.2.1.trans hf (by simp), h1.2.2⟩, h2.other hf (by simp)⟩
/-- Behind a reading call. -/
theorem OneInv.read {w0 w w' : World} {rb rg wb pos pos' : Nat} {err err' : Int} {bs : List Int} (h1 : FreshR w0 w rb rg bs pos err) (h2 : FreshW w0 w wb bs.length (bs.take pos, 0) [rb, rg]) (hr : IsR w' rb rg bs pos' err') (hf : Frm [rb] w w') :
    FreshR w0 w' rb rg bs pos' err' ∧ FreshW w0 w' wb bs.length (bs.take pos, 0) [rb, rg] :=
  ⟨h1.next hr hf, h2.other hf (by intro k hk; simp at hk; subst hk; exact ⟨by simp, h1.2.2.1⟩)⟩
/-- Behind a writing call. -/
theorem OneInv.write {w0 w w' : World} {rb rg wb pos pos' : Nat} {err : Int} {bs : List Int} {s : List Int × Int} (h1 : FreshR w0 w rb rg bs pos' err) (h2 : FreshW w0 w' wb bs.length s [rb, rg]) (hk : Keeps [rb, rg] w w') (hs : s = (bs.take pos, 0)) (hp : pos = pos') : OneInv w0 rb rg wb bs pos' w' := by
  subst hs; subst hp
  exact ⟨err, ⟨h1.1.keeps hk, h2.frm, h1.2.2⟩, h2⟩
theorem le_leV (zs : List Int) (h : ∀ z ∈ zs, 0 ≤ z ∧ z < 256) : le (leV zs) zs.length = zs := by
  induction zs with
  | nil => rfl
  | cons z zs ih =>
    have hz := h z (by simp)
    have ih := ih (fun y hy => h y (by simp [hy]))
    have hb := leV_bd zs (fun y hy => h y (by simp [hy]))
    rw [leV, List.length_cons, le, List.range_succ_eq_map, List.map_cons, List.map_map]
    congr 1
    · simp; omega
    · conv => rhs; rw [← ih]
      unfold le
      apply List.map_congr_left
      intro i _
      have e : (2 : Int) ^ (8 * (i + 1)) = 256 * 2 ^ (8 * i) := by rw [Nat.mul_add, Int.pow_add, Int.mul_comm]; rfl
      simp only [Function.comp, Nat.succ_eq_add_one]
      rw [e, ← Int.ediv_ediv_of_nonneg (by decide)]
      congr 2
      omega
theorem readS_ge {α : Type} (z : α) (pos : Nat) (err : Int) (r : α × Nat × Int) : pos ≤ (readS z pos err r).2.1 := by
  unfold readS
  split
  · simp
  · split
    · simp
    · simp
/-- Where nothing was taken nothing is laid down. -/
theorem OneInv.stay {w0 w : World} {rb rg wb pos pos' : Nat} {err : Int} {bs : List Int} (h1 : FreshR w0 w rb rg bs pos' err) (h2 : FreshW w0 w wb bs.length (bs.take pos, 0) [rb, rg]) (hge : pos ≤ pos') (hn : ¬ pos < pos') : OneInv w0 rb rg wb bs pos' w := by
  obtain rfl : pos = pos' := by omega
  exact ⟨err, h1, h2⟩
/-- What a number's reading took is laid down as it was. -/
theorem one_num {bs : List Int} (hb : ∀ z ∈ bs, 0 ≤ z ∧ z < 256) {pos : Nat} (hp : pos ≤ bs.length) {err k : Int} (hlt : pos < (readS 0 pos err (numT (bs.drop pos) k)).2.1) :
    stepW bs.length (bs.take pos, 0) (numF (readS 0 pos err (numT (bs.drop pos) k)).1 k) = (bs.take (readS 0 pos err (numT (bs.drop pos) k)).2.1, 0) ∧ 0 ≤ (readS 0 pos err (numT (bs.drop pos) k)).1 ∧ (readS 0 pos err (numT (bs.drop pos) k)).1 < 18446744073709551616 := by
  by_cases he : err = 0
  · subst he
    rw [readS_ok] at hlt ⊢
    by_cases hk : k < 1 ∨ 8 < k
    · have e : numT (bs.drop pos) k = (0, 0, 1) := by unfold numT; rw [if_pos hk]
      rw [e] at hlt; simp at hlt
    · by_cases h2 : ((bs.drop pos).length : Int) < k
      · have e : numT (bs.drop pos) k = (0, 0, 10) := by unfold numT; rw [if_neg hk, if_pos h2]
        rw [e] at hlt; simp at hlt
      · have e : numT (bs.drop pos) k = (leV ((bs.drop pos).take k.toNat), k.toNat, 0) := by unfold numT; rw [if_neg hk, if_neg h2]
        rw [e]
        simp only [if_true]
        obtain ⟨j, rfl⟩ : ∃ j : Nat, k = (j : Int) := ⟨k.toNat, by omega⟩
        simp only [Int.toNat_natCast]
        simp only [List.length_drop] at h2
        have hlen : ((bs.drop pos).take j).length = j := by simp; omega
        have hbd := leV_bd ((bs.drop pos).take j) (fun z hz => hb z (List.mem_of_mem_drop (List.mem_of_mem_take hz)))
        have hle := le_leV ((bs.drop pos).take j) (fun z hz => hb z (List.mem_of_mem_drop (List.mem_of_mem_take hz)))
        rw [hlen] at hbd hle
        have hdiv : leV ((bs.drop pos).take j) / 2 ^ (8 * j) = 0 := Int.ediv_eq_zero_of_lt hbd.1 hbd.2
        have hn : numF (leV ((bs.drop pos).take j)) j = ((bs.drop pos).take j, 0) := by
          unfold numF
          rw [if_neg hk, if_neg (by rw [Int.toNat_natCast]; intro h; exact h.2 hdiv), Int.toNat_natCast, hle]
        refine ⟨?_, hbd.1, ?_⟩
        · rw [hn]
          unfold stepW
          simp only [ne_eq, not_true, if_false]
          rw [if_neg (by rw [hlen, List.length_take]; omega), List.take_add]
        · have : (2 : Int) ^ (8 * j) ≤ 2 ^ 64 := by
            have := Nat.pow_le_pow_right (n := 2) (by decide) (show 8 * j ≤ 64 by omega)
            exact_mod_cast this
          have := hbd.2
          omega
  · rw [readS_err _ _ _ _ he] at hlt; simp at hlt
/-- What Bytes' reading took is laid down as it was. -/
theorem one_bytes {bs : List Int} {pos : Nat} (hp : pos ≤ bs.length) {err k : Int} :
    stepW bs.length (bs.take pos, 0) ((readS [] pos err (bytesT (bs.drop pos) k)).1, 0) = (bs.take (readS [] pos err (bytesT (bs.drop pos) k)).2.1, 0) := by
  by_cases he : err = 0
  · subst he
    rw [readS_ok]
    by_cases hk : k < 0
    · have e : bytesT (bs.drop pos) k = ([], 0, 1) := by unfold bytesT; rw [if_pos hk]
      rw [e]; simp [stepW]; omega
    · by_cases h2 : ((bs.drop pos).length : Int) < k
      · have e : bytesT (bs.drop pos) k = ([], 0, 10) := by unfold bytesT; rw [if_neg hk, if_pos h2]
        rw [e]; simp [stepW]; omega
      · have e : bytesT (bs.drop pos) k = ((bs.drop pos).take k.toNat, k.toNat, 0) := by unfold bytesT; rw [if_neg hk, if_neg h2]
        rw [e]
        simp only [List.length_drop] at h2
        unfold stepW
        simp only [ne_eq, not_true, if_false, if_true]
        rw [if_neg (by rw [List.length_take, List.length_take, List.length_drop]; omega), List.take_add]
  · rw [readS_err _ _ _ _ he]; simp [stepW]; omega
theorem tx_str (zs : List Int) (h : ∀ z ∈ zs, 0 ≤ z ∧ z < 256) : tx (strOfNums zs) = zs := by
  unfold tx
  rw [strOfNums_data, List.map_map]
  conv => rhs; rw [← List.map_id zs]
  apply List.map_congr_left
  intro z hz
  have := h z hz
  simp [Function.comp]
  omega
/-- What a text's reading took is laid down as it was. -/
theorem one_text {bs : List Int} (hb : ∀ z ∈ bs, 0 ≤ z ∧ z < 256) {pos : Nat} (hp : pos ≤ bs.length) {err k : Int} (hlt : pos < (readS [] pos err (textT (bs.drop pos) k)).2.1) :
    stepW bs.length (bs.take pos, 0) (textF (strOfNums (readS [] pos err (textT (bs.drop pos) k)).1)) = (bs.take (readS [] pos err (textT (bs.drop pos) k)).2.1, 0) := by
  by_cases he : err = 0
  · subst he
    rw [readS_ok] at hlt ⊢
    obtain ⟨ls, hls⟩ : ∃ ls, bs.drop pos = ls := ⟨_, rfl⟩
    have hlb : ∀ z ∈ ls, 0 ≤ z ∧ z < 256 := fun z hz => hb z (List.mem_of_mem_drop (by rw [hls]; exact hz))
    have hll : ls.length = bs.length - pos := by rw [← hls, List.length_drop]
    rw [hls] at hlt ⊢
    by_cases h1 : ls.length < 2
    · have e : textT ls k = ([], 0, 10) := by unfold textT; rw [if_pos h1]
      rw [e] at hlt; simp at hlt
    · by_cases h2 : k < leV (ls.take 2)
      · have e : textT ls k = ([], 0, 11) := by unfold textT; rw [if_neg h1, if_pos h2]
        rw [e] at hlt; simp at hlt
      · by_cases h3 : ls.length < 2 + (leV (ls.take 2)).toNat
        · have e : textT ls k = ([], 0, 10) := by unfold textT; rw [if_neg h1, if_neg h2, if_pos h3]
          rw [e] at hlt; simp at hlt
        · have e : textT ls k = ((ls.drop 2).take (leV (ls.take 2)).toNat, 2 + (leV (ls.take 2)).toNat, 0) := by unfold textT; rw [if_neg h1, if_neg h2, if_neg h3]
          rw [e]
          simp only [if_true]
          have hlen2 : (ls.take 2).length = 2 := by simp; omega
          have hbd := leV_bd (ls.take 2) (fun z hz => hlb z (List.mem_of_mem_take hz))
          have hle := le_leV (ls.take 2) (fun z hz => hlb z (List.mem_of_mem_take hz))
          rw [hlen2] at hbd hle
          obtain ⟨n, hn⟩ := Int.eq_ofNat_of_zero_le hbd.1
          rw [hn] at hbd hle h3 ⊢
          rw [Int.toNat_natCast] at h3 ⊢
          have hn2 : n < 65536 := by have := hbd.2; simp at this; omega
          have hlt2 : ((ls.drop 2).take n).length = n := by simp; omega
          have hsz : (strOfNums ((ls.drop 2).take n)).size = n := by rw [strOfNums_size, hlt2]
          have ht : textF (strOfNums ((ls.drop 2).take n)) = (ls.take (2 + n), 0) := by
            unfold textF
            rw [hsz, if_neg (by omega), hle, tx_str _ (fun z hz => hlb z (List.mem_of_mem_drop (List.mem_of_mem_take hz))), ← List.take_add]
          rw [ht]
          unfold stepW
          simp only [ne_eq, not_true, if_false]
          have e5 : bs.take (pos + (2 + n)) = bs.take pos ++ ls.take (2 + n) := by rw [List.take_add, hls]
          rw [if_neg (by rw [List.length_take, List.length_take]; omega), e5]
  · rw [readS_err _ _ _ _ he] at hlt; simp at hlt
theorem text_size {bs : List Int} {pos : Nat} (_hp : pos ≤ bs.length) (err k : Int) (hl : bs.length ≤ 2147483647) : (strOfNums (readS [] pos err (textT (bs.drop pos) k)).1).size ≤ maxLen := by
  rw [strOfNums_size]
  have h : (textT (bs.drop pos) k).1.length ≤ bs.length := by
    unfold textT
    split
    · simp
    · split
      · simp
      · split
        · simp
        · simp; omega
  unfold readS maxLen
  split
  · simp
  · split
    · simp only; omega
    · simp only; omega
/-- What noughts' reading took is laid down as it was. -/
theorem one_pad {bs : List Int} {pos : Nat} (hp : pos ≤ bs.length) {err k : Int} (hlt : pos < (readS () pos err (padT (bs.drop pos) pos k)).2.1) :
    stepW bs.length (bs.take pos, 0) (padF bs.length (bs.take pos).length k) = (bs.take (readS () pos err (padT (bs.drop pos) pos k)).2.1, 0) := by
  by_cases he : err = 0
  · subst he
    rw [readS_ok] at hlt ⊢
    obtain ⟨ls, hls⟩ : ∃ ls, bs.drop pos = ls := ⟨_, rfl⟩
    have hll : ls.length = bs.length - pos := by rw [← hls, List.length_drop]
    rw [hls] at hlt ⊢
    by_cases h1 : k < pos
    · have e : padT ls pos k = ((), 0, 11) := by unfold padT; rw [if_pos h1]
      rw [e] at hlt; simp at hlt
    · by_cases h2 : ((pos + ls.length : Nat) : Int) < k
      · have e : padT ls pos k = ((), 0, 10) := by unfold padT; rw [if_neg h1, if_pos h2]
        rw [e] at hlt; simp at hlt
      · by_cases h3 : ((ls.take (k - pos).toNat).all (· == 0)) = false
        · have e : padT ls pos k = ((), 0, 14) := by unfold padT; rw [if_neg h1, if_neg h2, if_pos h3]
          rw [e] at hlt; simp at hlt
        · have e : padT ls pos k = ((), (k - pos).toNat, 0) := by unfold padT; rw [if_neg h1, if_neg h2, if_neg h3]
          rw [e]
          simp only [if_true]
          have hz : ls.take (k - pos).toNat = List.replicate (k - pos).toNat 0 := by
            apply List.ext_getElem
            · simp; omega
            · intro i h4 h5
              have hall : ((ls.take (k - pos).toNat).all (· == 0)) = true := by simpa using h3
              rw [List.all_eq_true] at hall
              have := hall _ (List.getElem_mem h4)
              simpa using this
          have hlen : (bs.take pos).length = pos := by simp; omega
          have hpf : padF bs.length pos k = (List.replicate (k - pos).toNat 0, 0) := by unfold padF; rw [if_neg h1, if_neg (by omega)]
          rw [hlen, hpf]
          unfold stepW
          simp only [ne_eq, not_true, if_false]
          rw [if_neg (by rw [List.length_replicate, hlen]; omega), List.take_add, hls, hz]
  · rw [readS_err _ _ _ _ he] at hlt; simp at hlt
end
section
open Go.RowKit Go.Lib
set_option maxRecDepth 100000

/-- Where a reader stands, and its error. -/
abbrev Rst := Nat × Int
def nuS (bs : List Int) (s : Rst) (k : Int) : Int × Nat × Int := readS 0 s.1 s.2 (numT (bs.drop s.1) k)
def txS (bs : List Int) (s : Rst) : List Int × Nat × Int := readS [] s.1 s.2 (textT (bs.drop s.1) 65535)
def byS (bs : List Int) (s : Rst) (k : Int) : List Int × Nat × Int := readS [] s.1 s.2 (bytesT (bs.drop s.1) k)
theorem nuS_bd {bs : List Int} (hb : ∀ z ∈ bs, 0 ≤ z ∧ z < 256) (s : Rst) (k : Int) (hk : k ≤ 7) : 0 ≤ (nuS bs s k).1 ∧ (nuS bs s k).1 < 72057594037927936 := by
  have h0 : (0 : Int) ≤ 0 ∧ (0 : Int) < 72057594037927936 := by omega
  unfold nuS readS
  split
  · exact h0
  · have hn : 0 ≤ (numT (bs.drop s.1) k).1 ∧ (numT (bs.drop s.1) k).1 < 72057594037927936 := by
      unfold numT
      split
      · exact h0
      · split
        · exact h0
        · rename_i h1 h2
          have hl : ((bs.drop s.1).take k.toNat).length ≤ 7 := by rw [List.length_take]; omega
          have h3 := leV_bd ((bs.drop s.1).take k.toNat) (fun z hz => hb z (List.mem_of_mem_drop (List.mem_of_mem_take hz)))
          have h4 : (2 : Int) ^ (8 * ((bs.drop s.1).take k.toNat).length) ≤ 72057594037927936 := by
            generalize ((bs.drop s.1).take k.toNat).length = x at hl
            have hx : x = 0 ∨ x = 1 ∨ x = 2 ∨ x = 3 ∨ x = 4 ∨ x = 5 ∨ x = 6 ∨ x = 7 := by omega
            rcases hx with rfl | rfl | rfl | rfl | rfl | rfl | rfl | rfl <;> decide
          exact ⟨h3.1, by show leV _ < _; omega⟩
    split
    · exact hn
    · exact hn
/-- A reader that is new since a world. -/
def FrR (w0 w : World) (b g : Nat) (bs : List Int) (s : Rst) : Prop := FreshR w0 w b g bs s.1 s.2
theorem FrR.k0 {w0 w w' : World} {b g : Nat} {bs : List Int} {s : Rst} (h : FrR w0 w b g bs s) (hf : Frm [] w w') : FrR w0 w' b g bs s := by
  obtain ⟨h1, h2, h3, h4⟩ := h
  exact ⟨h1.kept hf (by simp) (by simp), h2.trans hf (by simp), h3, h4⟩
set_option maxHeartbeats 1600000 in
theorem tInt_any (w0 w : World) (b g : Nat) (bs : List Int) (hb : ∀ z ∈ bs, 0 ≤ z ∧ z < 256) (s : Rst) (k : Int) (hk0 : 0 ≤ k) (hk : k ≤ 7) (h : FrR w0 w b g bs s) :
    Calls Tryd.prog 63 #[.agg #[.pointer (some ⟨b, 0, none⟩)], .int .i64 k] w fun e w' => e = .returned (.int .i64 (nuS bs s k).1) ∧ FrR w0 w' b g bs (nuS bs s k).2 ∧ Frm [b] w w' := by
  have HF := hid ((Frm.refl [] w).alloc (.cells #[.pointer (some ⟨b, 0, none⟩)] 77))
  have hr := (FrR.k0 h HF.out)
  have HN := hid (numR_any b g s.1 bs hb s.2 k _ hr.1 (by omega) (by omega))
  have HBD := hid (nuS_bd hb s k hk)
  have HR := hid hr
  obtain ⟨r, hr'⟩ : ∃ r, nuS bs s k = r := ⟨_, rfl⟩
  unfold nuS at hr'
  rw [hr'] at HN
  have hnu : nuS bs s k = r := hr'
  rw [hnu] at HBD ⊢
  have hwn : IntKind.i64.wrap r.1 = r.1 := by have := HBD.out; rw [IntKind.wrap_i64]; omega
  clear h hr hr' hnu hb
  go_enter Tryd.func63, Tryd.ntmps63
  go_wp2_with fail
  refine HN.out.mono ?_
  rintro e w2 ⟨rfl, h1, h2⟩
  have HX : Hid (FrR w0 w2 b g bs r.2 ∧ Frm [b] w w2) := hid ⟨FreshR.next HR.out h1 h2, (HF.out.mono (by simp)).trans h2 (fun i hi _ => hi)⟩
  clear h1 h2 HN
  go_wp2_with fail
  first | go_returns | skip
  exact ⟨rfl, HX.out.1, HX.out.2⟩
set_option maxHeartbeats 1600000 in
theorem tText_any (w0 w : World) (b g : Nat) (bs : List Int) (hb : ∀ z ∈ bs, 0 ≤ z ∧ z < 256) (s : Rst) (h : FrR w0 w b g bs s) :
    Calls Tryd.prog 65 #[.agg #[.pointer (some ⟨b, 0, none⟩)]] w fun e w' => e = .returned (.string (strOfNums (txS bs s).1)) ∧ FrR w0 w' b g bs (txS bs s).2 ∧ Frm [b] w w' := by
  have HF := hid ((Frm.refl [] w).alloc (.cells #[.pointer (some ⟨b, 0, none⟩)] 77))
  have hr := (FrR.k0 h HF.out)
  have HN := hid (textR_any b g s.1 bs hb s.2 65535 _ hr.1 (by omega) (by omega))
  have HR := hid hr
  obtain ⟨r, hr'⟩ : ∃ r, txS bs s = r := ⟨_, rfl⟩
  unfold txS at hr'
  rw [hr'] at HN
  have hnu : txS bs s = r := hr'
  rw [hnu]
  clear h hr hr' hnu hb
  go_enter Tryd.func65, Tryd.ntmps65
  go_wp2_with fail
  refine HN.out.mono ?_
  rintro e w2 ⟨rfl, h1, h2⟩
  have HX : Hid (FrR w0 w2 b g bs r.2 ∧ Frm [b] w w2) := hid ⟨FreshR.next HR.out h1 h2, (HF.out.mono (by simp)).trans h2 (fun i hi _ => hi)⟩
  clear h1 h2 HN
  go_wp2_with fail
  first | go_returns | skip
  exact ⟨rfl, HX.out.1, HX.out.2⟩
set_option maxHeartbeats 1600000 in
theorem tData_any (w0 w : World) (b g : Nat) (bs : List Int) (hb : ∀ z ∈ bs, 0 ≤ z ∧ z < 256) (s : Rst) (h : FrR w0 w b g bs s) :
    Calls Tryd.prog 66 #[.agg #[.pointer (some ⟨b, 0, none⟩)]] w fun e w' => ∃ p n c, e = .returned (.slice p n c) ∧ n = (byS bs (nuS bs s 2).2 (nuS bs s 2).1).1.length ∧ Own w' 5 (.slice p n c) (byS bs (nuS bs s 2).2 (nuS bs s 2).1).1 ∧ (∀ k ∈ blk p, w.heap.size ≤ k) ∧ FrR w0 w' b g bs (byS bs (nuS bs s 2).2 (nuS bs s 2).1).2 ∧ Frm [b] w w' := by
  have HF := hid ((Frm.refl [] w).alloc (.cells #[.pointer (some ⟨b, 0, none⟩)] 77))
  obtain ⟨wa, hwa⟩ : ∃ z, w.alloc (.cells #[.pointer (some ⟨b, 0, none⟩)] 77) = z := ⟨_, rfl⟩
  have hrow := heap_alloc_new w (.cells #[.pointer (some ⟨b, 0, none⟩)] 77)
  obtain ⟨bx, hbx⟩ : ∃ z, w.heap.size = z := ⟨_, rfl⟩
  rw [hwa, hbx] at hrow
  rw [hwa] at HF
  have hr := (FrR.k0 h HF.out)
  have HNE : Hid (bx ≠ b) := hid (by have := h.1.cells.1; omega)
  have HRW := hid hrow
  have HTI := hid (fun W (hW : FrR w0 W b g bs s) => tInt_any w0 W b g bs hb s 2 (by omega) (by omega) hW)
  obtain ⟨r, hr'⟩ : ∃ r, nuS bs s 2 = r := ⟨_, rfl⟩
  have HRB := hid (nuS_bd hb s 2 (by omega))
  rw [hr'] at HTI HRB ⊢
  obtain ⟨N, S2⟩ := r
  simp only at HTI HRB ⊢
  have HBY := hid (fun W (hW : FrR w0 W b g bs S2) => bytesR_any b g S2.1 bs S2.2 N W hW.1 (by have := HRB.out; omega) (by have := HRB.out; omega))
  obtain ⟨y, hy⟩ : ∃ y, byS bs S2 N = y := ⟨_, rfl⟩
  unfold byS at hy
  rw [hy] at HBY
  have hny : byS bs S2 N = y := hy
  rw [hny]
  have HR := hid hr
  have HPO : Hid (∀ w', Frm [] wa w' → w'.cell? ⟨bx, 0, none⟩ = some (.pointer (some ⟨b, 0, none⟩))) := hid (fun w' hf => by rw [cell_of_row _ _ _ _ _ _ (hf.heap HRW.out (by simp))]; rfl)
  have c0 := HPO.out wa (Frm.refl _ _)
  have HBX := hid hbx
  clear h hr hr' hb hrow hy hny hbx
  go_enter Tryd.func66, Tryd.ntmps66
  go_wp2_with fail
  rw [HBX.out]
  have hs0 : wa.drew.cell? ⟨bx, 0, none⟩ = some (.pointer (some ⟨b, 0, none⟩)) := HPO.out _ (Frm.refl _ _).drew
  have hr0 := FrR.k0 HR.out (Frm.refl [] wa).drew
  refine wp_region_tail (S := fun W => (W.cell? ⟨bx, 0, none⟩ = some (.pointer (some ⟨b, 0, none⟩)))) 5 6 rfl (by kernel_rfl) (by kernel_rfl) ?_
  refine wpAnyHT_take (i := 0) (oi := _) (v := ?_) (by kernel_rfl) rfl (by kernel_rfl) (by kernel_rfl) (by kernel_rfl) (by kernel_rfl) (fun _ _ _ h => h) (Or.inl ⟨by rfl, ?_⟩) hs0 ?_
  rotate_left 1
  · (intro W hSw; obtain s0 := hSw; (try simp only [List.getElem_toArray, List.getElem_cons_zero]); go_simp; try with_reducible rfl)
  try simp only [List.getElem_toArray, List.getElem_cons_zero, Act.put, List.setIfInBounds_toArray, List.set_cons_zero, List.set_cons_succ]
  refine wpAnyHT_take (i := 1) (oi := _) (v := ?_) (by kernel_rfl) rfl (by kernel_rfl) (by kernel_rfl) (by kernel_rfl) (by kernel_rfl) (fun _ _ _ h => h) (Or.inl ⟨by rfl, ?_⟩) hs0 ?_
  rotate_left 1
  · (intro W hSw; obtain s0 := hSw; (try simp only [List.getElem_toArray, List.getElem_cons_succ, List.getElem_cons_zero]); go_simp; try with_reducible rfl)
  try simp only [List.getElem_toArray, List.getElem_cons_succ, List.getElem_cons_zero, Act.put, List.setIfInBounds_toArray, List.set_cons_zero, List.set_cons_succ]
  refine wpAnyHT_take (i := 2) (oi := _) (v := ?_) (by kernel_rfl) rfl (by kernel_rfl) (by kernel_rfl) (by kernel_rfl) (by kernel_rfl) (fun _ _ _ h => h) (Or.inl ⟨by rfl, ?_⟩) hs0 ?_
  rotate_left 1
  · (intro W hSw; obtain s0 := hSw; (try simp only [List.getElem_toArray, List.getElem_cons_succ, List.getElem_cons_zero]); go_simp; try with_reducible rfl)
  try simp only [List.getElem_toArray, List.getElem_cons_succ, List.getElem_cons_zero, Act.put, List.setIfInBounds_toArray, List.set_cons_zero, List.set_cons_succ]
  refine wpAnyHT_one (i := 3) rfl (by kernel_rfl) (by kernel_rfl) (fun K hK => ?_)
  try simp only [List.getElem_toArray, List.getElem_cons_succ, List.getElem_cons_zero]
  go_simp
  refine (HTI.out _ hr0).mono ?_
  rintro e w5 ⟨rfl, h1, h2⟩
  have hs5 : w5.cell? ⟨bx, 0, none⟩ = some (.pointer (some ⟨b, 0, none⟩)) := (h2.cell (World.block_lt_of_cell? _ _ hs0) (by simpa using HNE.out)).trans hs0
  refine hK _ _ hs5 ?_
  clear hK K
  refine wpAnyHT_one (i := 4) rfl (by kernel_rfl) (by kernel_rfl) (fun K hK => ?_)
  try simp only [List.getElem_toArray, List.getElem_cons_succ, List.getElem_cons_zero]
  go_simp
  refine (HBY.out w5 h1).mono ?_
  rintro e w6 ⟨p, n, c, rfl, hn, ho, hnw, hir, h3⟩
  have hs6 : w6.cell? ⟨bx, 0, none⟩ = some (.pointer (some ⟨b, 0, none⟩)) := (h3.cell (World.block_lt_of_cell? _ _ hs5) (by simpa using HNE.out)).trans hs5
  refine hK _ _ hs6 ?_
  clear hK K
  refine wpAnyHT_end (by kernel_rfl) ?_
  simp only [List.drop_succ_cons, List.drop_zero]
  have HX : Hid (n = y.1.length ∧ Own w6 5 (.slice p n c) y.1 ∧ (∀ k ∈ blk p, w.heap.size ≤ k) ∧ FrR w0 w6 b g bs y.2 ∧ Frm [b] w w6) := hid ⟨hn, ho, fun k hk => by have := hnw k hk; have := h2.size; have := HF.out.size; have : wa.drew.heap.size = wa.heap.size := rfl; omega, FreshR.next h1 hir h3, ((HF.out.mono (by simp) : Frm [b] w wa).drew.trans h2 (fun i hi _ => hi)).trans h3 (fun i hi _ => hi)⟩
  clear hn ho hnw hir h3 h1 h2 hs0 hs5 hs6 hr0
  go_wp2_with fail
  first | go_returns | skip
  exact ⟨p, n, c, rfl, HX.out⟩
end
end Go.Proofs.YtignoocdeghiaaaDoor
