/- Records: strings.Count, Index, HasPrefix at one byte, 47. Maps with integer keys that the call makes, entry by entry, values of any kind; a look-up with ok. Speaks of no program. Records: strings.Split at 47. Records: parts with 47 between them; numbers that rise. Records, the document's side: a property's value. -/
import Derived.Lib.Bytealg
import Derived.Test.YtajfjkfnmmfhmaaGreatDoorQwag
import Derived.MapKept
import Derived.Maps.Own
import Derived.Maps.OwnOps
import Derived.Test.YtajfjkfnmmfhmaaGreatDoorQwac
import Derived.Laws.MakeOwn
namespace Go.Proofs.YtajfjkfnmmfhmaaGreatDoor
section
open Go.RowKit Go.Lib
set_option maxRecDepth 100000
theorem countC_any (s : ByteArray) (w : World) :
    Calls Tryz.prog 115 #[.string s, .string ⟨#[47]⟩] w fun e w' => e = .returned (.int .i64 (Lib.countByte s.data.toList 47)) ∧ w' = w := by
  go_enter Tryz.func115, Tryz.ntmps115
  go_wp2_with fail
  rw [run_callFunc_extern Tryz.func126 (by kernel_rfl) (by kernel_rfl) (by kernel_rfl) (e := Extern.BytealgCount.count) (by kernel_rfl), Lib.run_countString]
  simp only [Result.andThen]
  rw [Oper.upon_value]
  go_wp2_with fail
  first | go_returns | skip
  exact ⟨rfl, rfl⟩
theorem indexB_any (s : ByteArray) (w : World) :
    Calls Tryz.prog 133 #[.string s, .int .u8 47] w fun e w' => e = .returned (.int .i64 (Lib.indexByte s.data.toList 47)) ∧ w' = w := by
  go_enter Tryz.func133, Tryz.ntmps133
  go_wp2_with fail
  rw [run_callFunc_extern Tryz.func138 (by kernel_rfl) (by kernel_rfl) (by kernel_rfl) (e := Extern.BytealgIndexByte.indexByte) (by kernel_rfl), Lib.run_indexByteString]
  simp only [Result.andThen]
  rw [Oper.upon_value]
  go_wp2_with fail
  first | go_returns | skip
  exact ⟨rfl, rfl⟩
theorem indexI_any (s : ByteArray) (w : World) :
    Calls Tryz.prog 130 #[.string s, .string ⟨#[47]⟩] w fun e w' => e = .returned (.int .i64 (Lib.indexByte s.data.toList 47)) ∧ w' = w := by
  have HC := hid (indexB_any s w)
  have hd : s.toList = s.data.toList := Lib.toList_data s
  by_cases hs : s.data.toList = [47]
  case pos =>
    have hb : (([47] : List UInt8) == s.toList) = true := by rw [hd, hs]; rfl
    have HI : Hid (Lib.indexByte s.data.toList 47 = 0) := hid (by rw [hs]; rfl)
    clear hd hs
    go_enter Tryz.func130, Tryz.ntmps130
    go_wp2_with fail
    first | go_returns | skip
    refine ⟨?_, rfl⟩
    rw [HI.out]
    rfl
  have hb : (([47] : List UInt8) == s.toList) = false := by rw [hd]; simpa using fun h => hs h.symm
  clear hd hs
  go_enter Tryz.func130, Tryz.ntmps130
  go_wp2_with fail
  refine HC.out.mono ?_
  rintro e _ ⟨rfl, rfl⟩
  go_wp2_with fail
  first | go_returns | skip
  exact ⟨rfl, rfl⟩
theorem indexC_any (s : ByteArray) (w : World) :
    Calls Tryz.prog 127 #[.string s, .string ⟨#[47]⟩] w fun e w' => e = .returned (.int .i64 (Lib.indexByte s.data.toList 47)) ∧ w' = w := by
  have HC := hid (indexI_any s w)
  go_enter Tryz.func127, Tryz.ntmps127
  go_wp2_with fail
  refine HC.out.mono ?_
  rintro e _ ⟨rfl, rfl⟩
  go_wp2_with fail
  first | go_returns | skip
  exact ⟨rfl, rfl⟩
/-- A text without the first byte, if that is 47. -/
def rootU (l : List UInt8) : Prop := l.head? = some 47
instance (l : List UInt8) : Decidable (rootU l) := by unfold rootU; infer_instance
theorem hasPre_any (s : ByteArray) (w : World) :
    Calls Tryz.prog 114 #[.string s, .string ⟨#[47]⟩] w fun e w' => e = .returned (.bool (decide (rootU s.data.toList))) ∧ w' = w := by
  obtain ⟨PO, hPO⟩ : ∃ PO : Ending → World → Prop, (fun e w' => e = .returned (.bool (decide (rootU s.data.toList))) ∧ w' = w) = PO := ⟨_, rfl⟩
  rw [hPO]
  have HP : Hid (∀ x, (x = true ↔ rootU s.data.toList) → PO (.returned (.bool x)) w) := hid (fun x h => by rw [← hPO]; exact ⟨by rw [bool_decR h], rfl⟩)
  clear hPO
  go_enter Tryz.func114, Tryz.ntmps114
  by_cases h1 : 1 ≤ s.size
  case neg =>
    have i1 : ¬ (1 : Int) ≤ (s.size : Int) := by omega
    have HN : Hid (¬ rootU s.data.toList) := hid (by
      have : s.data.toList = [] := List.eq_nil_of_length_eq_zero (by have h : s.data.size = s.size := rfl; rw [Array.length_toList]; omega)
      rw [this]; simp [rootU])
    go_wp2_with fail
    first | go_returns | skip
    exact HP.out _ (by simp; exact HN.out)
  have i1 : (1 : Int) ≤ (s.size : Int) := by omega
  go_wp2_with fail
  refine HP.out _ ?_
  have e1 : (s.extract 0 1).toList = s.data.toList.take 1 := by rw [Lib.toList_data]; simp
  show ((s.extract 0 1).toList == [47]) = true ↔ _
  rw [e1]
  unfold rootU
  cases h : s.data.toList with
  | nil => simp
  | cons b l => simp
theorem hasPreC_any (s : ByteArray) (w : World) :
    Calls Tryz.prog 94 #[.string s, .string ⟨#[47]⟩] w fun e w' => e = .returned (.bool (decide (rootU s.data.toList))) ∧ w' = w := by
  have HC := hid (hasPre_any s w)
  obtain ⟨x, hx⟩ : ∃ x, decide (rootU s.data.toList) = x := ⟨_, rfl⟩
  rw [hx] at HC ⊢
  clear hx
  go_enter Tryz.func94, Tryz.ntmps94
  go_wp2_with fail
  refine HC.out.mono ?_
  rintro e _ ⟨rfl, rfl⟩
  go_wp2_with fail
  first | go_returns | skip
  exact ⟨rfl, rfl⟩
end
section
open Go.RowKit Go.Lib
set_option maxRecDepth 100000
def setsF (w : World) (b : Nat) : List (Nat × Value) → World
  | [] => w
  | (k, v) :: l => setsF (w.setCell ⟨b, k, none⟩ v) b l
theorem sets_rowF (b : Nat) (T : TypeId) (l : List (Nat × Value)) : ∀ (w : World) (row : Array Value), w.heap[b]? = some (.cells row T (0, 0)) → (setsF w b l).heap[b]? = some (.cells (l.foldl (fun r p => r.setIfInBounds p.1 p.2) row) T (0, 0)) ∧ Frm [b] w (setsF w b l) := by
  induction l with
  | nil => exact fun w row h => ⟨h, Frm.refl _ _⟩
  | cons p l ih =>
    intro w row h
    obtain ⟨h1, h2⟩ := ih (w.setCell ⟨b, p.1, none⟩ p.2) _ (heap_setCell_same w b p.1 row _ p.2 h)
    exact ⟨h1, ((Frm.refl [b] w).setCell _ _ (by simp)).trans h2 (fun i hi _ => hi)⟩
/-- The value under a key. -/
def lkR (k : Int) : List MapEntry → Option Value
  | [] => none
  | e :: es => match e.key with
    | .int _ z => if k = z then some e.val else lkR k es
    | _ => lkR k es
def IntK (es : List MapEntry) : Prop := ∀ e ∈ es, ∃ z, e.key = .int .i64 z
theorem findNow_lkR (k : Int) : ∀ (es : List MapEntry) (i : Nat), IntK es →
    (lkR k es = none ∧ Instr.findNow (.int .i64) (.int .i64 k) es i = some none) ∨ ∃ v j, lkR k es = some v ∧ Instr.findNow (.int .i64) (.int .i64 k) es i = some (some (j, v))
  | [], _, _ => Or.inl ⟨rfl, rfl⟩
  | e :: es, i, h => by
    obtain ⟨z, hz⟩ := h e (.head _)
    have ih := findNow_lkR k es (i + 1) (fun x hx => h x (.tail _ hx))
    by_cases hk : k = z
    · subst hk
      exact Or.inr ⟨e.val, i, by unfold lkR; rw [hz]; simp, by unfold Instr.findNow; rw [hz]; simp [Instr.sameNow]⟩
    · have h1 : lkR k (e :: es) = lkR k es := by
        conv => lhs; unfold lkR
        rw [hz]; simp [hk]
      have h2 : Instr.findNow (.int .i64) (.int .i64 k) (e :: es) i = Instr.findNow (.int .i64) (.int .i64 k) es (i + 1) := by
        conv => lhs; unfold Instr.findNow
        rw [hz]
        have hb : (k == z) = false := by simpa using hk
        simp only [Instr.sameNow, if_true, hb]
      rw [h1, h2]
      exact ih
theorem run_putR {P : Program} {w : World} (mty kt et : TypeId) (r clock : Nat) (es : Array MapEntry) (k : Int) (val : Value) (hm : P.underlying mty = some (.map kt et)) (hk : P.underlying kt = some (.int .i64)) (hb : w.heap[r]? = some (.map es clock)) (hi : IntK es.toList) (hn : lkR k es.toList = none) :
    (Instr.mapUpdate mty (.map (some r)) (.int .i64 k) val).run P w = .ok () { w with heap := w.heap.setIfInBounds r (.map (es.push { key := .int .i64 k, val := val, born := clock }) (clock + 1)) } := by
  have hf : Instr.findNow (.int .i64) (.int .i64 k) es.toList 0 = some none := by
    rcases findNow_lkR k es.toList 0 hi with h | ⟨v, j, h, _⟩
    · exact h.2
    · rw [hn] at h; cases h
  have hc : (Instr.checkKey false 10000 kt (.int .i64 k)).run P w = .ok () w := MapKept.run_checkKey (k := .int .i64 k) hk (by simp [MapKept.IsKey]) false 9999
  simp [Instr.mapUpdate, run_underlying hm, MapKept.run_getObj_map hb, hc, MapKept.run_findKey hk hf, MapKept.run_setObj_map _ hb, Result.andThen]
theorem run_lookR {P : Program} {w : World} (mty kt et : TypeId) (r clock : Nat) (es : Array MapEntry) (k : Int) (zero : Value) (hm : P.underlying mty = some (.map kt et)) (hk : P.underlying kt = some (.int .i64)) (hz : (zeroValue et).run P w = .ok zero w) (hb : w.heap[r]? = some (.map es clock)) (hi : IntK es.toList) :
    (Instr.lookup mty (.map (some r)) (.int .i64 k) true).run P w = .ok (.tuple #[(lkR k es.toList).getD zero, .bool (lkR k es.toList).isSome]) w := by
  have hc : (Instr.checkKey es.isEmpty 10000 kt (.int .i64 k)).run P w = .ok () w := MapKept.run_checkKey (k := .int .i64 k) hk (by simp [MapKept.IsKey]) _ 9999
  rcases findNow_lkR k es.toList 0 hi with ⟨h1, h2⟩ | ⟨v, j, h1, h2⟩
  · rw [h1]
    simp [Instr.lookup, run_underlying hm, MapKept.run_getObj_map hb, hc, MapKept.run_findKey hk h2, hz, Result.andThen]
  · rw [h1]
    simp [Instr.lookup, run_underlying hm, MapKept.run_getObj_map hb, hc, MapKept.run_findKey hk h2, Result.andThen]
theorem run_lookR1 {P : Program} {w : World} (mty kt et : TypeId) (r clock : Nat) (es : Array MapEntry) (k : Int) (zero : Value) (hm : P.underlying mty = some (.map kt et)) (hk : P.underlying kt = some (.int .i64)) (hz : (zeroValue et).run P w = .ok zero w) (hb : w.heap[r]? = some (.map es clock)) (hi : IntK es.toList) :
    (Instr.lookup mty (.map (some r)) (.int .i64 k) false).run P w = .ok ((lkR k es.toList).getD zero) w := by
  have hc : (Instr.checkKey es.isEmpty 10000 kt (.int .i64 k)).run P w = .ok () w := MapKept.run_checkKey (k := .int .i64 k) hk (by simp [MapKept.IsKey]) _ 9999
  rcases findNow_lkR k es.toList 0 hi with ⟨h1, h2⟩ | ⟨v, j, h1, h2⟩
  · rw [h1]
    simp [Instr.lookup, run_underlying hm, MapKept.run_getObj_map hb, hc, MapKept.run_findKey hk h2, hz, Result.andThen]
  · rw [h1]
    simp [Instr.lookup, run_underlying hm, MapKept.run_getObj_map hb, hc, MapKept.run_findKey hk h2, Result.andThen]
end
section
open Go.RowKit Go.Lib
set_option maxRecDepth 100000
/-- What is between the bytes 47. -/
def splitU : List UInt8 → List (List UInt8)
  | [] => [[]]
  | b :: l => if b = 47 then [] :: splitU l else match splitU l with
    | [] => [[b]]
    | p :: ps => (b :: p) :: ps
theorem splitU_len : ∀ l, (splitU l).length = Lib.countByte l 47 + 1
  | [] => rfl
  | b :: l => by
    have ih := splitU_len l
    unfold splitU Lib.countByte
    unfold Lib.countByte at ih
    by_cases hb : b = 47
    · subst hb
      rw [if_pos rfl, List.count_cons_self, List.length_cons, ih]
    · rw [if_neg hb, List.count_cons_of_ne hb]
      cases hs : splitU l with
      | nil => rw [hs] at ih; simp at ih
      | cons p ps => rw [hs] at ih; simpa using ih
theorem splitU_none : ∀ l, Lib.countByte l 47 = 0 → splitU l = [l]
  | [], _ => rfl
  | b :: l, h => by
    unfold Lib.countByte at h
    by_cases hb : b = 47
    · subst hb; rw [List.count_cons_self] at h; omega
    · rw [List.count_cons_of_ne hb] at h
      unfold splitU
      rw [if_neg hb, splitU_none l h]
theorem splitU_some : ∀ l, 0 < Lib.countByte l 47 → ∃ m : Nat, Lib.indexByte l 47 = (m : Int) ∧ m < l.length ∧ splitU l = l.take m :: splitU (l.drop (m + 1)) ∧ Lib.countByte l 47 = Lib.countByte (l.drop (m + 1)) 47 + 1
  | [], h => by simp [Lib.countByte] at h
  | b :: l, h => by
    unfold Lib.countByte at h
    by_cases hb : b = 47
    · subst hb
      refine ⟨0, by unfold Lib.indexByte; simp, by simp, ?_, ?_⟩
      · conv => lhs; unfold splitU
        rw [if_pos rfl]; rfl
      · unfold Lib.countByte; rw [List.count_cons_self]; rfl
    · rw [List.count_cons_of_ne hb] at h
      obtain ⟨m, h1, h2, h3, h4⟩ := splitU_some l h
      refine ⟨m + 1, ?_, by simp; omega, ?_, ?_⟩
      · unfold Lib.indexByte
        have hbe : (b == 47) = false := by simpa using hb
        rw [hbe, h1]
        have hne : ((m : Int) == -1) = false := by rw [beq_eq_false_iff_ne]; omega
        rw [hne]
        simp
      · conv => lhs; unfold splitU
        rw [if_neg hb, h3]; rfl
      · unfold Lib.countByte at h4 ⊢
        rw [List.count_cons_of_ne hb]
        simpa using h4
def stU (p : List UInt8) : Value := .string ⟨p.toArray⟩
theorem stU_str (s : ByteArray) : stU s.data.toList = .string s := by unfold stU; simp
/-- The cells of a list of texts that is being filled. -/
def cellsU (L : List (List UInt8)) (m : Nat) : Array Value := (L.map stU ++ List.replicate m (Value.string ⟨#[]⟩)).toArray
theorem cellsU_put (L : List (List UInt8)) (m : Nat) (p : List UInt8) : (cellsU L (m + 1)).setIfInBounds L.length (stU p) = cellsU (L ++ [p]) m := by
  unfold cellsU
  rw [List.setIfInBounds_toArray]
  congr 1
  rw [List.set_append_right _ _ (by simp)]
  simp [List.replicate_succ]
theorem infoStrU : (Tryz.prog.info? 9).map (fun i => (i.zero, i.size, i.bytes)) = some (some (.string ⟨#[]⟩), 1, 16) := by kernel_rfl
theorem make_strU (k : Nat) (hk : k ≤ 1000000000000) (W : World) : (Instr.makeSlice 133 (.int .i64 (k : Int)) (.int .i64 (k : Int))).run Tryz.prog W = .ok (.slice (some ⟨W.heap.size, 0, none⟩) k k) (W.alloc (.cells (cellsU [] k) 9)) := by
  obtain ⟨i, hi, hz, h1, h2⟩ := info_parts infoStrU
  have h := run_make (P := Tryz.prog) W 133 9 i (.string ⟨#[]⟩) Tryz.underlying133 hi hz .i64 .i64 (k : Int) (k : Int) (by omega) (Int.le_refl _) (by rw [h2]; omega) (by omega)
  rw [h, h1]
  have e : madeCells (Value.string ⟨#[]⟩).cells ((k : Int).toNat * 1) = cellsU [] k := by
    apply Array.ext'
    rw [show (Value.string ⟨#[]⟩).cells = #[Value.string ⟨#[]⟩] from rfl, toList_madeCells_one]
    simp [cellsU]
  rw [e]
  simp
structure SplS (w0 w : World) (b n t : Nat) (l : List UInt8) (S : ByteArray) (done : List (List UInt8)) : Prop where
  eq : splitU l = done ++ splitU S.data.toList
  len : done.length = t
  cnt : Lib.countByte S.data.toList 47 + t = n
  row : w.heap[b]? = some (.cells (cellsU done (n + 1 - t)) 9 (0, 0))
  new : w0.heap.size ≤ b
  fr : Frm [] w0 w
theorem SplS.at_ {w0 w : World} {b n t : Nat} {l : List UInt8} {S : ByteArray} {done : List (List UInt8)} (h : SplS w0 w b n t l S done) (ht : t ≤ n) : w.cell? ⟨b, t, none⟩ = some (.string ⟨#[]⟩) ∧ w.frozen? ⟨b, t, none⟩ = false := by
  refine ⟨?_, frozen_of_row w b t _ _ h.row⟩
  rw [cell_of_row _ _ _ _ _ _ h.row]
  unfold cellsU
  have hl := h.len
  have e : n + 1 - t = (n - t) + 1 := by omega
  rw [e, List.getElem?_toArray, List.getElem?_append_right (by simp; omega), List.length_map, hl, Nat.sub_self, List.replicate_succ]
  rfl
theorem SplS.put_ {w0 w : World} {b n t : Nat} {l : List UInt8} {S : ByteArray} {done : List (List UInt8)} (h : SplS w0 w b n t l S done) (ht : t ≤ n) (p : List UInt8) : (w.setCell ⟨b, t, none⟩ (stU p)).heap[b]? = some (.cells (cellsU (done ++ [p]) (n - t)) 9 (0, 0)) ∧ Frm [] w0 (w.setCell ⟨b, t, none⟩ (stU p)) := by
  have e : n + 1 - t = (n - t) + 1 := by omega
  have h1 := heap_setCell_same w b t _ _ (stU p) h.row
  have hl := h.len
  rw [e, ← hl, cellsU_put, hl] at h1
  exact ⟨h1, h.fr.setCell _ _ (fun hb => by have := h.new; simp at hb; omega)⟩
set_option maxHeartbeats 12800000 in
theorem genSplit_any (s : ByteArray) (hs : s.size ≤ 9223372036854775806) (hcn : Lib.countByte s.data.toList 47 ≤ 1000000000) (w : World) :
    Calls Tryz.prog 128 #[.string s, .string ⟨#[47]⟩, .int .i64 0, .int .i64 (-1)] w fun e w' => ∃ b n, e = .returned (.slice (some ⟨b, 0, none⟩) n n) ∧ n = (splitU s.data.toList).length ∧ w.heap.size ≤ b ∧ w'.heap[b]? = some (.cells (cellsU (splitU s.data.toList) 0) 9 (0, 0)) ∧ Frm [] w w' := by
  obtain ⟨PO, hPO⟩ : ∃ PO : Ending → World → Prop, (fun e w' => ∃ b n, e = .returned (.slice (some ⟨b, 0, none⟩) n n) ∧ n = (splitU s.data.toList).length ∧ w.heap.size ≤ b ∧ w'.heap[b]? = some (.cells (cellsU (splitU s.data.toList) 0) 9 (0, 0)) ∧ Frm [] w w') = PO := ⟨_, rfl⟩
  rw [hPO]
  have HP : Hid (∀ b n w', n = (splitU s.data.toList).length → w.heap.size ≤ b → w'.heap[b]? = some (.cells (cellsU (splitU s.data.toList) 0) 9 (0, 0)) → Frm [] w w' → PO (.returned (.slice (some ⟨b, 0, none⟩) n n)) w') := hid (fun b n w' h1 h2 h3 h4 => by rw [← hPO]; exact ⟨b, n, rfl, h1, h2, h3, h4⟩)
  have hsz : s.data.toList.length = s.size := by have h : s.data.size = s.size := rfl; rw [Array.length_toList]; exact h
  have hcl : Lib.countByte s.data.toList 47 ≤ s.size := by rw [← hsz]; exact List.count_le_length
  have HLEN := hid (splitU_len s.data.toList)
  have HC := hid (fun W => countC_any s W)
  obtain ⟨n, hn⟩ : ∃ n, Lib.countByte s.data.toList 47 = n := ⟨_, rfl⟩
  rw [hn] at hcl HC HLEN hcn
  have hmin : ∀ (ts : Array TypeId) (ty : TypeId) (W : World), Sem.run Tryz.prog (Builtin.min_ ts ty #[.int .i64 ((n : Int) + 1), .int .i64 ((s.size : Int) + 1)]) W = .ok (.int .i64 ((n : Int) + 1)) W := by
    intro ts ty W
    have h := run_min_int2 (P := Tryz.prog) (w := W) ts ty .i64 .i64 ((n : Int) + 1) ((s.size : Int) + 1)
    rwa [if_neg (by omega)] at h
  have hmk := fun W => make_strU (n + 1) (by omega) W
  have HSS : Hid (s.data.toList = s.data.toList ∧ Lib.countByte s.data.toList 47 = n) := hid ⟨rfl, hn⟩
  clear hPO hsz hn
  go_enter Tryz.func128, Tryz.ntmps128
  go_wp2_with fail
  refine (HC.out _).mono ?_
  rintro e w1 ⟨rfl, rfl⟩
  go_upto_region 8 with fail
  have hmk2 : ∀ W, (Instr.makeSlice 133 (.int .i64 ((n : Int) + 1)) (.int .i64 ((n : Int) + 1))).run Tryz.prog W = .ok (.slice (some ⟨W.heap.size, 0, none⟩) (n + 1) (n + 1)) (W.alloc (.cells (cellsU [] (n + 1)) 9)) := hmk
  obtain ⟨w2, hw2⟩ : ∃ z, w1.alloc (.cells (cellsU [] (n + 1)) 9) = z := ⟨_, rfl⟩
  have hrow := heap_alloc_new w1 (.cells (cellsU [] (n + 1)) 9)
  obtain ⟨b, hb⟩ : ∃ z, w1.heap.size = z := ⟨_, rfl⟩
  have hf2 : Frm [] w1 w2 := by rw [← hw2]; exact (Frm.refl _ _).alloc _
  rw [hw2, hb] at hrow
  have H0 : Hid (SplS w1 w2 b n 0 s.data.toList s []) := hid ⟨rfl, rfl, by have := HSS.out.2; omega, hrow, by omega, hf2⟩
  have HW2 := hid hw2
  have HB := hid hb
  clear hw2 hrow hb hf2 hmk
  go_upto_region 9 with fail
  first | rw [HB.out] | skip
  first | rw [HW2.out] | skip
  clear hmk2 hmin
  go_wp2_with fail
  have HIX := hid (fun (S : ByteArray) W => indexC_any S W)
  have hn9 : n ≤ 1000000000 := by omega
  go_loopw [0, 10] (fun sv i wr => ∃ (t : Nat) (S : ByteArray) (done : List (List UInt8)), t ≤ n ∧ S.size ≤ 9223372036854775806 ∧ sv = .string S ∧ i = .int .i64 (t : Int) ∧ Hid (SplS w1 wr b n t s.data.toList S done)) (fun _ i _ => n - (intOf i).toNat)
  case atStart => exact ⟨0, s, [], Nat.zero_le _, hs, rfl, rfl, H0⟩
  case round =>
    clear H0
    obtain ⟨t, S, done, ht, hS9, rfl, rfl, hin⟩ := hrel
    have HIN := hid hin.out
    clear hin
    obtain ⟨z0, y0⟩ := HIN.out.at_ ht
    by_cases hlt : t < n
    case pos =>
      have t1 : (t : Int) < (n : Int) := by omega
      have t2 : (t : Int) < ((n + 1 : Nat) : Int) := by omega
      obtain ⟨m, h1, h2, h3, h4⟩ := splitU_some S.data.toList (by have := HIN.out.cnt; omega)
      have hS : S.data.toList.length = S.size := by have h : S.data.size = S.size := rfl; rw [Array.length_toList]; exact h
      have hc := HIX.out S wr
      rw [h1] at hc
      have HCI := hid hc
      have m1 : (m : Int) < (S.size : Int) := by omega
      have m2 : m < S.size := by omega
      have m0 : ¬ (m : Int) < 0 := by omega
      have hw0 : wrap64 (m : Int) = (m : Int) := by unfold wrap64; omega
      have hw1 : wrap64 ((m : Int) + 1) = (m : Int) + 1 := by unfold wrap64; omega
      have HH3 := hid h3
      have HH4 := hid h4
      clear h1 h2 h3 h4 hc hS
      go_wp2_with fail
      refine HCI.out.mono ?_
      rintro e w3 ⟨rfl, rfl⟩
      go_upto_region 16 with fail
      have e1 : (S.extract 0 m).data.toList = S.data.toList.take m := by simp
      have e2 : (S.extract (m + 1) S.size).data.toList = S.data.toList.drop (m + 1) := by
        simp
        try exact List.take_of_length_le (by simp)
      have e3 : (S.extract (m + 1) S.size).size ≤ S.size := by simp
      obtain ⟨p1, p2⟩ := HIN.out.put_ ht (S.data.toList.take m)
      rw [← e1, stU_str, e1] at p1
      rw [← e1, stU_str] at p2
      have HNX : Hid (SplS w1 (w3.setCell ⟨b, t, none⟩ (.string (S.extract 0 m))) b n (t + 1) s.data.toList (S.extract (m + 1) S.size) (done ++ [S.data.toList.take m])) := hid ⟨by rw [HIN.out.eq, HH3.out, e2]; simp, by rw [List.length_append, HIN.out.len]; rfl, by rw [e2]; have := HH4.out; have := HIN.out.cnt; omega, by rw [show n + 1 - (t + 1) = n - t by omega]; exact p1, HIN.out.new, p2⟩
      clear p1 p2 e1 e2 z0 y0
      go_wp2_with fail
      go_roundw
      case rel => exact ⟨t + 1, _, _, by omega, by omega, rfl, by go_num, HNX⟩
      case measure => first | (simp [intOf]; done) | (simp [intOf]; omega)
    obtain rfl : t = n := by omega
    go_wp2_with fail
    first | go_returns | skip
    obtain ⟨h1, h2⟩ := HIN.out.put_ (Nat.le_refl _) S.data.toList
    rw [stU_str] at h1 h2
    have he : splitU s.data.toList = done ++ [S.data.toList] := by rw [HIN.out.eq, splitU_none _ (by have := HIN.out.cnt; omega)]
    exact HP.out b (t + 1) _ HLEN.out.symm HIN.out.new (by rw [he]; rw [Nat.sub_self] at h1; exact h1) h2
theorem split_anyR (s : ByteArray) (hs : s.size ≤ 9223372036854775806) (hcn : Lib.countByte s.data.toList 47 ≤ 1000000000) (w : World) :
    Calls Tryz.prog 116 #[.string s, .string ⟨#[47]⟩] w fun e w' => ∃ b n, e = .returned (.slice (some ⟨b, 0, none⟩) n n) ∧ n = (splitU s.data.toList).length ∧ w.heap.size ≤ b ∧ w'.heap[b]? = some (.cells (cellsU (splitU s.data.toList) 0) 9 (0, 0)) ∧ Frm [] w w' := by
  have HC := hid (genSplit_any s hs hcn w)
  clear hs hcn
  go_enter Tryz.func116, Tryz.ntmps116
  go_wp2_with fail
  refine HC.out.mono ?_
  rintro e w1 ⟨b, n, rfl, h1, h2, h3, h4⟩
  have HX := hid (And.intro h1 (And.intro h2 (And.intro h3 h4)))
  clear h1 h2 h3 h4 HC
  go_wp2_with fail
  first | go_returns | skip
  exact ⟨b, n, rfl, HX.out⟩
end
section
open Go.RowKit Go.Lib
set_option maxRecDepth 100000
def txU (p : List UInt8) : List Int := p.map fun u => (u.toNat : Int)
theorem txU_of (p : List UInt8) : tx ⟨p.toArray⟩ = txU p := by simp [tx, txU]
def PartsU (l : List UInt8) (most : Int) : Prop := (Lib.countByte l 47 : Int) < most ∧ ∀ p ∈ splitU l, PartL (txU p)
instance (l : List UInt8) (most : Int) : Decidable (PartsU l most) := by unfold PartsU; infer_instance
theorem cellsU_at {L : List (List UInt8)} {t : Nat} (h : t < L.length) : (cellsU L 0)[t]? = some (.string ⟨(L[t]).toArray⟩) := by
  unfold cellsU
  simp [h, stU]
set_option maxHeartbeats 6400000 in
theorem parts_any (s : ByteArray) (hs : s.size ≤ 9223372036854775806) (most : Int) (hmo : most ≤ 1000) (w : World) :
    Calls Tryz.prog 95 #[.string s, .int .i64 most] w fun e w' => e = .returned (.bool (decide (PartsU s.data.toList most))) ∧ Frm [] w w' := by
  obtain ⟨PO, hPO⟩ : ∃ PO : Ending → World → Prop, (fun e w' => e = .returned (.bool (decide (PartsU s.data.toList most))) ∧ Frm [] w w') = PO := ⟨_, rfl⟩
  rw [hPO]
  have HP : Hid (∀ x w', (x = true ↔ PartsU s.data.toList most) → Frm [] w w' → PO (.returned (.bool x)) w') := hid (fun x w' h h2 => by rw [← hPO]; exact ⟨by rw [bool_decR h], h2⟩)
  have HC := hid (countC_any s w)
  have HSP := hid (fun hcn => split_anyR s hs hcn w)
  have HLE := hid (splitU_len s.data.toList)
  have hcl : Lib.countByte s.data.toList 47 ≤ s.size := by
    have hsz : s.data.toList.length = s.size := by have h : s.data.size = s.size := rfl; rw [Array.length_toList]; exact h
    rw [← hsz]; exact List.count_le_length
  have HPU : Hid (∀ n, Lib.countByte s.data.toList 47 = n → (PartsU s.data.toList most ↔ (n : Int) < most ∧ ∀ p ∈ splitU s.data.toList, PartL (txU p))) := hid (fun n h => by unfold PartsU; rw [h])
  obtain ⟨n, hn⟩ : ∃ n, Lib.countByte s.data.toList 47 = n := ⟨_, rfl⟩
  have HPN := hid (HPU.out n hn)
  rw [hn] at HC HLE hcl HSP
  obtain ⟨L, hL⟩ : ∃ L, splitU s.data.toList = L := ⟨_, rfl⟩
  rw [hL] at HSP HLE HPN
  clear hPO hcl hn hL HPU
  go_enter Tryz.func95, Tryz.ntmps95
  go_wp2_with fail
  refine HC.out.mono ?_
  rintro e w1 ⟨rfl, rfl⟩
  by_cases hm : most ≤ (n : Int)
  case pos =>
    go_wp2_with fail
    first | go_returns | skip
    exact HP.out _ _ (by rw [HPN.out]; simp; intro h; omega) (Frm.refl _ _)
  have hn9 : n ≤ 1000000000 := by omega
  go_wp2_with fail
  refine (HSP.out hn9).mono ?_
  rintro e w2 ⟨b, k, rfl, hk, hb, hrow, hf⟩
  have HROW := hid hrow
  have HF := hid hf
  have HLK := hid hk
  have hk9 : k ≤ 1000000001 := by rw [hk, HLE.out]; omega
  clear hk hb hrow hf HC HSP
  go_wp2_with fail
  go_loop [4, 14] (fun r i => ∃ t : Nat, t ≤ k ∧ r = .bool false ∧ i = .int .i64 (t : Int) ∧ Hid (∀ j (h : j < L.length), j < t → PartL (txU L[j]))) (fun _ i => k - (intOf i).toNat)
  case atStart => exact ⟨0, Nat.zero_le _, rfl, rfl, hid (fun j h hj => by omega)⟩
  case round =>
    obtain ⟨t, ht, rfl, rfl, hok⟩ := hrel
    have HOK := hid hok.out
    clear hok
    by_cases hlt : t < k
    case neg =>
      obtain rfl : t = k := by omega
      go_wp2_with fail
      first | go_returns | skip
      exact HP.out _ _ (by
        rw [HPN.out]; simp only [true_iff]
        refine ⟨by omega, fun p hp => ?_⟩
        obtain ⟨j, hj, rfl⟩ := List.getElem_of_mem hp
        exact HOK.out j hj (by rw [HLK.out]; exact hj)) HF.out
    have t1 : (t : Int) < (k : Int) := by omega
    have hl : t < L.length := by rw [← HLK.out]; exact hlt
    have z : w2.cell? ⟨b, t, none⟩ = some (.string ⟨(L[t]).toArray⟩) := by rw [cell_of_row _ _ _ _ _ _ HROW.out]; exact cellsU_at hl
    have HPA := hid (partW_any ⟨(L[t]).toArray⟩ w2)
    rw [txU_of] at HPA
    have HBD : Hid (PartsU s.data.toList most → PartL (txU L[t])) := hid (fun h => (HPN.out.1 h).2 _ (List.getElem_mem hl))
    have HNX : Hid (PartL (txU L[t]) → ∀ j (h : j < L.length), j < t + 1 → PartL (txU L[j])) := hid (fun h j hj hjt => by
      by_cases hj2 : j < t
      · exact HOK.out j hj hj2
      · obtain rfl : j = t := by omega
        exact h)
    obtain ⟨p, hp⟩ : ∃ p, L[t] = p := ⟨_, rfl⟩
    rw [hp] at z HPA HBD HNX
    clear hp hl HOK
    by_cases hpl : PartL (txU p)
    case neg =>
      rw [decide_eq_false hpl] at HPA
      have HNP := hid hpl
      clear hpl
      go_wp2_with fail
      refine HPA.out.mono ?_
      rintro e w3 ⟨rfl, rfl⟩
      go_wp2_with fail
      first | go_returns | skip
      exact HP.out _ _ (by simp; exact fun h => HNP.out (HBD.out h)) HF.out
    rw [decide_eq_true hpl] at HPA
    have HNP := hid hpl
    clear hpl
    go_wp2_with fail
    refine HPA.out.mono ?_
    rintro e w3 ⟨rfl, rfl⟩
    go_wp2_with fail
    go_round
    case rel => exact ⟨t + 1, by omega, rfl, by go_num, hid (HNX.out HNP.out)⟩
    case measure => first | (simp [intOf]; done) | (simp [intOf]; omega)
/-- Do numbers rise, from lo to hi? -/
def RiseL (K : List Int) (lo hi : Int) : Prop := ∀ i, i < K.length → (lo ≤ zA K i ∧ zA K i ≤ hi) ∧ (0 < i → zA K (i - 1) < zA K i)
instance (K : List Int) (lo hi : Int) : Decidable (RiseL K lo hi) := by unfold RiseL; infer_instance
/-- Numbers that can be read. -/
def RdI (w : World) (p : Option Addr) (K : List Int) : Prop := Rv w p (K.map (Value.int .i64))
theorem RdI.at {w : World} {p : Option Addr} {K : List Int} (h : RdI w p K) {i : Nat} (hi : i < K.length) : ∃ g o, p = some ⟨g, o, none⟩ ∧ ∀ j, j < K.length → w.cell? ⟨g, o + j, none⟩ = some (.int .i64 (zA K j)) := by
  rcases h with h0 | ⟨g, o, hp, hc⟩
  · have : K = [] := List.map_eq_nil_iff.1 h0
    rw [this] at hi; simp at hi
  · refine ⟨g, o, hp, fun j hj => hc j _ ?_⟩
    rw [List.getElem?_map, List.getElem?_eq_getElem hj]
    unfold zA
    rw [List.getD_eq_getElem?_getD, List.getElem?_eq_getElem hj]
    rfl
theorem RdI.kept {S : List Nat} {w w' : World} {p : Option Addr} {K : List Int} (h : RdI w p K) (hf : Frm S w w') (hn : ∀ k ∈ blk p, k ∉ S) : RdI w' p K := by
  rcases h with h0 | ⟨g, o, hp, hc⟩
  · exact Or.inl h0
  · exact Or.inr ⟨g, o, hp, fun i u hu => (hf.cell (p := ⟨g, o + i, none⟩) (World.block_lt_of_cell? _ _ (hc i u hu)) (hn g (by rw [hp]; simp [blk]))).trans (hc i u hu)⟩
set_option maxHeartbeats 6400000 in
theorem rise_any (p : Option Addr) (n c : Nat) (K : List Int) (lo hi : Int) (w : World) (hn : K.length = n) (hn9 : n ≤ 9223372036854775807) (hr : RdI w p K) :
    Calls Tryz.prog 97 #[.slice p n c, .int .i64 lo, .int .i64 hi] w fun e w' => e = .returned (.bool (decide (RiseL K lo hi))) ∧ w' = w := by
  obtain ⟨PO, hPO⟩ : ∃ PO : Ending → World → Prop, (fun e w' => e = .returned (.bool (decide (RiseL K lo hi))) ∧ w' = w) = PO := ⟨_, rfl⟩
  rw [hPO]
  have HP : Hid (∀ x, (x = true ↔ RiseL K lo hi) → PO (.returned (.bool x)) w) := hid (fun x h => by rw [← hPO]; exact ⟨by rw [bool_decR h], rfl⟩)
  have HR := hid hr
  have HN := hid hn
  have HW := hid (fun z W => within_anyR z lo hi W)
  clear hPO hr hn
  go_enter Tryz.func97, Tryz.ntmps97
  go_wp2_with fail
  go_loop [6, 11] (fun r i => ∃ t : Nat, t ≤ n ∧ r = .bool false ∧ i = .int .i64 (t : Int) ∧ Hid (∀ j, j < t → (lo ≤ zA K j ∧ zA K j ≤ hi) ∧ (0 < j → zA K (j - 1) < zA K j))) (fun _ i => n - (intOf i).toNat)
  case atStart => exact ⟨0, Nat.zero_le _, rfl, rfl, hid (fun j hj => by omega)⟩
  case round =>
    obtain ⟨t, ht, rfl, rfl, hok⟩ := hrel
    have HOK := hid hok.out
    clear hok
    by_cases hlt : t < n
    case neg =>
      obtain rfl : t = n := by omega
      go_wp2_with fail
      first | go_returns | skip
      exact HP.out _ (by simp only [true_iff]; exact fun i hi => HOK.out i (by rw [← HN.out]; exact hi))
    have t1 : (t : Int) < (n : Int) := by omega
    obtain ⟨g, o, rfl, hc⟩ := HR.out.at (i := t) (by rw [HN.out]; exact hlt)
    have z0 := hc t (by rw [HN.out]; exact hlt)
    have HBD : Hid (RiseL K lo hi → (lo ≤ zA K t ∧ zA K t ≤ hi) ∧ (0 < t → zA K (t - 1) < zA K t)) := hid (fun h => h t (by rw [HN.out]; exact hlt))
    have HNX : Hid ((lo ≤ zA K t ∧ zA K t ≤ hi) ∧ (0 < t → zA K (t - 1) < zA K t) → ∀ j, j < t + 1 → (lo ≤ zA K j ∧ zA K j ≤ hi) ∧ (0 < j → zA K (j - 1) < zA K j)) := hid (fun h j hj => by
      by_cases hj2 : j < t
      · exact HOK.out j hj2
      · obtain rfl : j = t := by omega
        exact h)
    have HWC := hid (HW.out (zA K t) w)
    by_cases hw : lo ≤ zA K t ∧ zA K t ≤ hi
    case neg =>
      rw [decide_eq_false hw] at HWC
      have HK : Hid (¬ RiseL K lo hi) := hid (fun h => hw (HBD.out h).1)
      obtain ⟨x, hx⟩ : ∃ x, zA K t = x := ⟨_, rfl⟩
      rw [hx] at z0 HWC
      clear hw hc HNX HBD hx
      go_wp2_with fail
      refine HWC.out.mono ?_
      rintro e w1 ⟨rfl, rfl⟩
      go_wp2_with fail
      first | go_returns | skip
      exact HP.out _ (by simp; exact HK.out)
    rw [decide_eq_true hw] at HWC
    by_cases h0 : t = 0
    case pos =>
      have HK := hid (HNX.out ⟨hw, fun h => by omega⟩)
      have t0 : ¬ (0 : Int) < (t : Int) := by omega
      obtain ⟨x, hx⟩ : ∃ x, zA K t = x := ⟨_, rfl⟩
      rw [hx] at z0 HWC
      clear hw hc HNX HBD hx h0
      go_wp2_with fail
      refine HWC.out.mono ?_
      rintro e w1 ⟨rfl, rfl⟩
      go_wp2_with fail
      go_round
      case rel => exact ⟨t + 1, by omega, rfl, by go_num, HK⟩
      case measure => first | (simp [intOf]; done) | (simp [intOf]; omega)
    obtain ⟨u, rfl⟩ : ∃ u, t = u + 1 := ⟨t - 1, by omega⟩
    have z1 := hc u (by rw [HN.out]; omega)
    by_cases hrs : zA K u < zA K (u + 1)
    case neg =>
      have HK : Hid (¬ RiseL K lo hi) := hid (fun h => hrs ((HBD.out h).2 (by omega)))
      obtain ⟨x, hx⟩ : ∃ x, zA K (u + 1) = x := ⟨_, rfl⟩
      obtain ⟨y, hy⟩ : ∃ y, zA K u = y := ⟨_, rfl⟩
      rw [hx] at z0 HWC hrs
      rw [hy] at z1 hrs
      have hyx : x ≤ y := by omega
      clear hw hc HNX HBD hx hy h0 hrs
      go_wp2_with fail
      refine HWC.out.mono ?_
      rintro e w1 ⟨rfl, rfl⟩
      go_wp2_with fail
      first | go_returns | skip
      exact HP.out _ (by simp; exact HK.out)
    have HK := hid (HNX.out ⟨hw, fun h => by simpa using hrs⟩)
    obtain ⟨x, hx⟩ : ∃ x, zA K (u + 1) = x := ⟨_, rfl⟩
    obtain ⟨y, hy⟩ : ∃ y, zA K u = y := ⟨_, rfl⟩
    rw [hx] at z0 HWC hrs
    rw [hy] at z1 hrs
    have hyx : ¬ x ≤ y := by omega
    clear hw hc HNX HBD hx hy h0 hrs
    go_wp2_with fail
    refine HWC.out.mono ?_
    rintro e w1 ⟨rfl, rfl⟩
    go_wp2_with fail
    go_round
    case rel => exact ⟨u + 1 + 1, by omega, rfl, by go_num, HK⟩
    case measure => first | (simp [intOf]; done) | (simp [intOf]; omega)
end
section
open Go.RowKit Go.Lib
set_option maxRecDepth 100000
set_option maxHeartbeats 6400000 in
theorem refValue_any (B : ByteArray) (hB : B.size ≤ 9223372036854775807) (w : World) :
    Calls Tryz.prog 79 #[.string B] w fun e w' => e = .returned (.bool (decide (ValL (tx B)))) ∧ w' = w := by
  obtain ⟨PO, hPO⟩ : ∃ PO : Ending → World → Prop, (fun e w' => e = .returned (.bool (decide (ValL (tx B)))) ∧ w' = w) = PO := ⟨_, rfl⟩
  rw [hPO]
  have HP : Hid (∀ x, (x = true ↔ ValL (tx B)) → PO (.returned (.bool x)) w) := hid (fun x h => by rw [← hPO]; exact ⟨by rw [bool_decR h], rfl⟩)
  have HL : Hid ((tx B).length = B.size) := hid (tx_length B)
  have HG : Hid (∀ t (h : t < B.size), zA (tx B) t = (B[t].toNat : Int)) := hid (fun t h => tx_getR B t h)
  clear hPO
  go_enter Tryz.func79, Tryz.ntmps79
  go_wp2_with fail
  go_loop [2, 3] (fun r i => ∃ t : Nat, t ≤ B.size ∧ r = .bool false ∧ i = .int .i64 (t : Int) ∧ Hid (∀ j, j < t → 32 ≤ zA (tx B) j ∧ zA (tx B) j ≤ 126)) (fun _ i => B.size - (intOf i).toNat)
  case atStart => exact ⟨0, Nat.zero_le _, rfl, rfl, hid (fun j hj => by omega)⟩
  case round =>
    obtain ⟨t, ht, rfl, rfl, hok⟩ := hrel
    have HOK := hid hok.out
    clear hok
    by_cases hlt : t < B.size
    case neg =>
      obtain rfl : t = B.size := by omega
      have HPN : Hid (PrnL (tx B)) := hid (fun i hi => HOK.out i (by rw [← HL.out]; exact hi))
      by_cases h1 : 1 ≤ B.size
      case neg =>
        have i1 : ¬ (1 : Int) ≤ (B.size : Int) := by omega
        go_wp2_with fail
        first | go_returns | skip
        exact HP.out _ (by simp; intro h; have := h.1.1; have := HL.out; omega)
      have i1 : (1 : Int) ≤ (B.size : Int) := by omega
      by_cases h2 : B.size ≤ 64
      case neg =>
        have i2 : ¬ (B.size : Int) ≤ 64 := by omega
        go_wp2_with fail
        first | go_returns | skip
        exact HP.out _ (by simp; intro h; have := h.1.2; have := HL.out; omega)
      have i2 : (B.size : Int) ≤ 64 := by omega
      go_wp2_with fail
      first | go_returns | skip
      exact HP.out _ (by simp only [true_iff]; exact ⟨by rw [HL.out]; omega, HPN.out⟩)
    have t1 : (t : Int) < (B.size : Int) := by omega
    have hb := B[t].toNat_lt
    have HNX : Hid (32 ≤ (B[t].toNat : Int) ∧ (B[t].toNat : Int) ≤ 126 → ∀ j, j < t + 1 → 32 ≤ zA (tx B) j ∧ zA (tx B) j ≤ 126) := hid (fun h j hj => by
      by_cases hj2 : j < t
      · exact HOK.out j hj2
      · obtain rfl : j = t := by omega
        rw [HG.out j hlt]; exact h)
    have HBD : Hid (ValL (tx B) → 32 ≤ (B[t].toNat : Int) ∧ (B[t].toNat : Int) ≤ 126) := hid (fun h => by rw [← HG.out t hlt]; exact h.2 t (by rw [HL.out]; exact hlt))
    clear HG HOK
    by_cases a1 : B[t].toNat < 32
    case pos =>
      have i1 : (B[t].toNat : Int) < 32 := by omega
      have HK : Hid (¬ (32 ≤ (B[t].toNat : Int) ∧ (B[t].toNat : Int) ≤ 126)) := hid (by omega)
      go_wp2_with fail
      first | go_returns | skip
      exact HP.out _ (by simp; exact fun h => HK.out (HBD.out h))
    by_cases a2 : 126 < B[t].toNat
    case pos =>
      have i1 : ¬ (B[t].toNat : Int) < 32 := by omega
      have i2 : (126 : Int) < (B[t].toNat : Int) := by omega
      have HK : Hid (¬ (32 ≤ (B[t].toNat : Int) ∧ (B[t].toNat : Int) ≤ 126)) := hid (by omega)
      go_wp2_with fail
      first | go_returns | skip
      exact HP.out _ (by simp; exact fun h => HK.out (HBD.out h))
    have i1 : ¬ (B[t].toNat : Int) < 32 := by omega
    have i2 : ¬ (126 : Int) < (B[t].toNat : Int) := by omega
    have HK : Hid (32 ≤ (B[t].toNat : Int) ∧ (B[t].toNat : Int) ≤ 126) := hid (by omega)
    go_wp2_with fail
    go_round
    case rel => exact ⟨t + 1, by omega, rfl, by go_num, hid (HNX.out HK.out)⟩
    case measure => first | (simp [intOf]; done) | (simp [intOf]; omega)
end
end Go.Proofs.YtajfjkfnmmfhmaaGreatDoor
