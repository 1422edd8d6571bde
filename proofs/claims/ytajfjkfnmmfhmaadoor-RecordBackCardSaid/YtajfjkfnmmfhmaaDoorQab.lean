/- Maps with integer keys that the call makes, entry by entry, values of any kind; a look-up with ok. Speaks of no program. Contracts of package code's writer: what each call does to the world. Contracts of package code's writer's methods. -/
import Derived.Test.YtajfjkfnmmfhmaaDoorQaa
import Derived.MapKept
import Derived.Maps.Own
import Derived.Maps.OwnOps
import Derived.Test.YtajfjkfnmmfhmaaDoorRows
import Derived.Deep.QuietTactic
import Derived.BigQuiet
import Derived.Deep.RegionHeld3
namespace Go.Proofs.YtajfjkfnmmfhmaaDoor
section
open Go.RowKit Go.Lib
set_option maxRecDepth 100000

def setsF (w : World) (b : Nat) : List (Nat × Value) → World
  | [] => w
  | (k, v) :: l => setsF (w.setCell ⟨b, k, none⟩ v) b l
theorem sets_rowF (b : Nat) (T : TypeId) (l : List (Nat × Value)) : ∀ (w : World) (row : Array Value), w.heap[b]? = some (.cells row T (0, 0)) → (setsF w b l).heap[b]? = some (.cells (l.foldl (fun r p => r.setIfInBounds p.1 p.2) row) T (0, 0)) ∧ Frm [b] w (setsF w b l) := by
  induction l with
  | nil => exact fun w row h => ⟨h, Frm.refl _ _⟩
  | cons p l ih =>
    intro w row h
    obtain ⟨h1, h2⟩ := ih (w.setCell ⟨b, p.1, none⟩ p.2) _ (heap_setCell_same w b p.1 row _ p.2 h)
    exact ⟨h1, ((Frm.refl [b] w).setCell _ _ (by simp)).trans h2 (fun i hi _ => hi)⟩
/-- The value under a key. -/
def lkR (k : Int) : List MapEntry → Option Value
  | [] => none
  | e :: es => match e.key with
    | .int _ z => if k = z then some e.val else lkR k es
    | _ => lkR k es
def IntK (es : List MapEntry) : Prop := ∀ e ∈ es, ∃ z, e.key = .int .i64 z
theorem findNow_lkR (k : Int) : ∀ (es : List MapEntry) (i : Nat), IntK es →
    (lkR k es = none ∧ Instr.findNow (.int .i64) (.int .i64 k) es i = some none) ∨ ∃ v j, lkR k es = some v ∧ Instr.findNow (.int .i64) (.int .i64 k) es i = some (some (j, v))
  | [], _, _ => Or.inl ⟨rfl, rfl⟩
  | e :: es, i, h => by
    obtain ⟨z, hz⟩ := h e (.head _)
    have ih := findNow_lkR k es (i + 1) (fun x hx => h x (.tail _ hx))
    by_cases hk : k = z
    · subst hk
      exact Or.inr ⟨e.val, i, by unfold lkR; rw [hz]; simp, by unfold Instr.findNow; rw [hz]; simp [Instr.sameNow]⟩
    · have h1 : lkR k (e :: es) = lkR k es := by
        conv => lhs; unfold lkR
        rw [hz]; simp [hk]
      have h2 : Instr.findNow (.int .i64) (.int .i64 k) (e :: es) i = Instr.findNow (.int .i64) (.int .i64 k) es (i + 1) := by
        conv => lhs; unfold Instr.findNow
        rw [hz]
        have hb : (k == z) = false := by simpa using hk
        simp only [Instr.sameNow, if_true, hb]
      rw [h1, h2]
      exact ih
theorem run_putR {P : Program} {w : World} (mty kt et : TypeId) (r clock : Nat) (es : Array MapEntry) (k : Int) (val : Value) (hm : P.underlying mty = some (.map kt et)) (hk : P.underlying kt = some (.int .i64)) (hb : w.heap[r]? = some (.map es clock)) (hi : IntK es.toList) (hn : lkR k es.toList = none) :
    (Instr.mapUpdate mty (.map (some r)) (.int .i64 k) val).run P w = .ok () { w with heap := w.heap.setIfInBounds r (.map (es.push { key := .int .i64 k, val := val, born := clock }) (clock + 1)) } := by
  have hf : Instr.findNow (.int .i64) (.int .i64 k) es.toList 0 = some none := by
    rcases findNow_lkR k es.toList 0 hi with h | ⟨v, j, h, _⟩
    · exact h.2
    · rw [hn] at h; cases h
  have hc : (Instr.checkKey false 10000 kt (.int .i64 k)).run P w = .ok () w := MapKept.run_checkKey (k := .int .i64 k) hk (by simp [MapKept.IsKey]) false 9999
  simp [Instr.mapUpdate, run_underlying hm, MapKept.run_getObj_map hb, hc, MapKept.run_findKey hk hf, MapKept.run_setObj_map _ hb, Result.andThen]
theorem run_lookR {P : Program} {w : World} (mty kt et : TypeId) (r clock : Nat) (es : Array MapEntry) (k : Int) (zero : Value) (hm : P.underlying mty = some (.map kt et)) (hk : P.underlying kt = some (.int .i64)) (hz : (zeroValue et).run P w = .ok zero w) (hb : w.heap[r]? = some (.map es clock)) (hi : IntK es.toList) :
    (Instr.lookup mty (.map (some r)) (.int .i64 k) true).run P w = .ok (.tuple #[(lkR k es.toList).getD zero, .bool (lkR k es.toList).isSome]) w := by
  have hc : (Instr.checkKey es.isEmpty 10000 kt (.int .i64 k)).run P w = .ok () w := MapKept.run_checkKey (k := .int .i64 k) hk (by simp [MapKept.IsKey]) _ 9999
  rcases findNow_lkR k es.toList 0 hi with ⟨h1, h2⟩ | ⟨v, j, h1, h2⟩
  · rw [h1]
    simp [Instr.lookup, run_underlying hm, MapKept.run_getObj_map hb, hc, MapKept.run_findKey hk h2, hz, Result.andThen]
  · rw [h1]
    simp [Instr.lookup, run_underlying hm, MapKept.run_getObj_map hb, hc, MapKept.run_findKey hk h2, Result.andThen]
theorem run_lookR1 {P : Program} {w : World} (mty kt et : TypeId) (r clock : Nat) (es : Array MapEntry) (k : Int) (zero : Value) (hm : P.underlying mty = some (.map kt et)) (hk : P.underlying kt = some (.int .i64)) (hz : (zeroValue et).run P w = .ok zero w) (hb : w.heap[r]? = some (.map es clock)) (hi : IntK es.toList) :
    (Instr.lookup mty (.map (some r)) (.int .i64 k) false).run P w = .ok ((lkR k es.toList).getD zero) w := by
  have hc : (Instr.checkKey es.isEmpty 10000 kt (.int .i64 k)).run P w = .ok () w := MapKept.run_checkKey (k := .int .i64 k) hk (by simp [MapKept.IsKey]) _ 9999
  rcases findNow_lkR k es.toList 0 hi with ⟨h1, h2⟩ | ⟨v, j, h1, h2⟩
  · rw [h1]
    simp [Instr.lookup, run_underlying hm, MapKept.run_getObj_map hb, hc, MapKept.run_findKey hk h2, hz, Result.andThen]
  · rw [h1]
    simp [Instr.lookup, run_underlying hm, MapKept.run_getObj_map hb, hc, MapKept.run_findKey hk h2, Result.andThen]
/-- One more entry, at the operation. -/
theorem wpList_putR {P : Program} {w : World} {ops : Array Oper} {rest : List Oper} {o : Oper} {a : Act} {Q : Exit → Act → World → Prop}
    (hg : o.guard = none) (m x v : Operand) (t kt et : TypeId) (hop : o.op = Op.mapUpdate t m x v) (hm : P.underlying t = some (.map kt et)) (hk : P.underlying kt = some (.int .i64)) (r clock : Nat) (es : Array MapEntry) (k : Int) (val : Value)
    (hmv : a.eval m = .map (some r)) (hx : a.eval x = .int .i64 k) (hv : a.eval v = val) (hb : w.heap[r]? = some (.map es clock)) (hi : IntK es.toList) (hn : lkR k es.toList = none)
    (hK : ∀ w' : World, w' = { w with heap := w.heap.setIfInBounds r (.map (es.push { key := .int .i64 k, val := val, born := clock }) (clock + 1)) } → wpList P ops Q rest (a.put o.dst undef) w') :
    wpList P ops Q (o :: rest) a w := by
  refine wpList_plain hg fun K' hK' => ?_
  unfold Oper.wp
  simp [execOp, hop, hmv, hx, hv, run_putR t kt et r clock es k val hm hk hb hi hn, Result.andThen]
  exact hK' _ _ (hK _ rfl)
end
section
open Go.RowKit
set_option maxRecDepth 100000

theorem infoE : (Tryd.prog.info? 5).map (fun i => (i.zero, i.size, i.bytes)) = some (some (.int .u8 0), 1, 1) := by kernel_rfl

/-- A writer at block b: its room, what was laid down, its error; fp: the blocks that are its own. -/
def IsW (w : World) (b : Nat) (fp : List Nat) (room : Int) (zs : List Int) (err : Int) : Prop :=
  ∃ p c, w.heap[b]? = some (.cells #[.int .i64 room, .slice p zs.length c, .int .i64 err] 74 (0, 0)) ∧ Own w 5 (.slice p zs.length c) zs ∧ fp = b :: blk p ∧ b ∉ blk p

theorem IsW.kept {w w' : World} {b : Nat} {fp S : List Nat} {room err : Int} {zs : List Int} (h : IsW w b fp room zs err) (hf : Frm S w w') (hn : ∀ k ∈ fp, k ∉ S) : IsW w' b fp room zs err := by
  obtain ⟨p, c, h1, h2, rfl, h4⟩ := h
  exact ⟨p, c, hf.heap h1 (hn b (by simp)), h2.kept hf (fun k hk => hn k (by rw [own_blk] at hk; simp [hk])), rfl, h4⟩
theorem IsW.lt {w : World} {b : Nat} {fp : List Nat} {room err : Int} {zs : List Int} (h : IsW w b fp room zs err) : ∀ k ∈ fp, k < w.heap.size := by
  obtain ⟨p, c, h1, h2, rfl, h4⟩ := h
  intro k hk
  simp at hk
  rcases hk with rfl | hk
  · exact lt_of_heap h1
  · exact (h2.lt k (by cases p <;> simp_all [blk, Value.ownBlock])).2

/-- What room a writer gets. -/
def roomOf (a : Int) : Int := if a < 0 then 0 else if 2147483647 < a then 2147483647 else a
set_option maxHeartbeats 400000 in
theorem newWriter_any (a : Int) (w : World) :
    Calls Tryd.prog 15 #[.int .i64 a] w fun e w' => e = .returned (.pointer (some ⟨w.heap.size, 0, none⟩)) ∧ IsW w' w.heap.size [w.heap.size] (roomOf a) [] 0 ∧ Frm [] w w' ∧ w'.heap.size = w.heap.size + 1 := by
  have fin : ∀ r : Int, roomOf a = r → (∀ W, W = w.alloc (.cells #[.int .i64 r, .slice none 0 0, .int .i64 0] 74) → IsW W w.heap.size [w.heap.size] (roomOf a) [] 0 ∧ Frm [] w W ∧ W.heap.size = w.heap.size + 1) := by
    intro r hr W hW; subst hW; subst hr
    exact ⟨⟨none, 0, heap_alloc_new _ _, Own.nil _ _, rfl, by simp [blk]⟩, (Frm.refl _ _).alloc _, by simp⟩
  go_enter Tryd.func15, Tryd.ntmps15
  by_cases h0 : a < 0
  · go_wp2
    go_ret
    exact ⟨rfl, fin 0 (by unfold roomOf; rw [if_pos h0]) _ rfl⟩
  · by_cases h1 : 2147483647 < a
    · go_wp2
      go_ret
      exact ⟨rfl, fin _ (by unfold roomOf; rw [if_neg (by omega), if_pos h1]) _ rfl⟩
    · go_wp2
      go_ret
      exact ⟨rfl, fin _ (by unfold roomOf; rw [if_neg (by omega), if_neg (by omega)]) _ rfl⟩

set_option maxHeartbeats 400000 in
theorem number_any (n : Int) (k : Nat) (_hn : 0 ≤ n) (_hn2 : n < 18446744073709551616) (hk : k ≤ 8) (w : World) :
    Calls Tryd.prog 54 #[.int .u64 n, .int .i64 k] w fun e w' => e = .returned (.slice (some ⟨w.heap.size, 0, none⟩) k k) ∧ w'.heap[w.heap.size]? = some (.cells (bv (le n k)).toArray 5 (0, 0)) ∧ Frm [] w w' := by
  have hmk := run_make_row' (P := Tryd.prog) 23 5 (.int .u8 0) 1 Tryd.underlying23 infoE rfl .i64 .i64 k (by omega) (by omega)
  go_enter Tryd.func54, Tryd.ntmps54
  go_wp2
  go_loopw [11] (fun i wr => ∃ j : Nat, j ≤ k ∧ i = .int .i64 j ∧ Hid (wr.heap[w.heap.size]? = some (.cells (bv (le n j) ++ List.replicate (k - j) (Value.int .u8 0)).toArray 5 (0, 0))) ∧ Hid (Frm [] w wr)) (fun i _ => k - (intOf i).toNat)
  case atStart =>
    refine ⟨0, Nat.zero_le _, rfl, ?_, (Frm.refl _ _).alloc _⟩
    show _ = _
    rw [heap_alloc_new]
    congr 2
    apply Array.ext'
    simp [toList_madeCells_one, bv, le]
  case round =>
    obtain ⟨j, hj, rfl, hcur, hfr⟩ := hrel
    by_cases hlt : j < k
    · have hc : wr.cell? ⟨w.heap.size, j, none⟩ = some (.int .u8 0) := by
        rw [cell_of_row wr _ j _ _ (0,0) hcur.out]
        have h := get_mid (bv (le n j)) (k - j) (Value.int .u8 0) (by omega)
        rw [bv_length, le_length] at h
        simpa using h
      have hf := frozen_of_row wr w.heap.size j _ _ hcur.out
      go_wp2
      go_roundw
      case rel =>
        refine ⟨j + 1, by omega, by go_num, ?_, hfr.out.setCell _ _ (by simp)⟩
        show _ = _
        rw [heap_setCell_same wr w.heap.size j _ _ _ hcur.out]
        congr 2
        apply Array.ext'
        have e1 : k - j = (k - (j + 1)) + 1 := by omega
        have h := set_mid (bv (le n j)) (k - (j + 1)) (Value.int .u8 0) (Value.int .u8 (n / 2 ^ (8 * j) % 256))
        rw [bv_length, le_length, ← e1] at h
        rw [le_succ, bv_append]
        simpa [bv] using h
      case measure => simp [intOf]; omega
    · obtain rfl : j = k := by omega
      go_wp2
      go_ret
      exact ⟨rfl, by simpa using hcur.out, hfr.out⟩

theorem IsW.cells {w : World} {b : Nat} {fp : List Nat} {room err : Int} {zs : List Int} (h : IsW w b fp room zs err) : ∃ p c, b < w.heap.size ∧ fp = b :: blk p ∧ b ∉ blk p ∧ Own w 5 (.slice p zs.length c) zs ∧
    w.cell? ⟨b, 0, none⟩ = some (.int .i64 room) ∧ w.cell? ⟨b, 1, none⟩ = some (.slice p zs.length c) ∧ w.cell? ⟨b, 2, none⟩ = some (.int .i64 err) ∧
    w.frozen? ⟨b, 1, none⟩ = false ∧ w.frozen? ⟨b, 2, none⟩ = false ∧ Hid (w.heap[b]? = some (.cells #[.int .i64 room, .slice p zs.length c, .int .i64 err] 74 (0, 0))) := by
  obtain ⟨p, c, h1, h2, h3, h4⟩ := h
  exact ⟨p, c, lt_of_heap h1, h3, h4, h2, by rw [cell_of_row w _ _ _ _ _ h1]; rfl, by rw [cell_of_row w _ _ _ _ _ h1]; rfl, by rw [cell_of_row w _ _ _ _ _ h1]; rfl, frozen_of_row w b 1 _ _ h1, frozen_of_row w b 2 _ _ h1, h1⟩
/-- What a writer is behind a call. -/
def NowW (w : World) (b : Nat) (fp : List Nat) (room : Int) (zs : List Int) (err : Int) (w' : World) : Prop :=
  ∃ fp', IsW w' b fp' room zs err ∧ Frm fp w w' ∧ ∀ k ∈ fp', k ∈ fp ∨ w.heap.size ≤ k
/-- What a form gives: an error, or bytes. -/
def Gives (ns : List Int) (ev : Int) (w : World) (e : Ending) (w1 : World) : Prop :=
  ∃ p n c, e = .returned (.tuple #[.slice p n c, .int .i64 ev]) ∧ Frm [] w w1 ∧ (ev = 0 → n = ns.length ∧ (ns = [] → p = none → c = 0) ∧ Rd w1 p ns)

theorem NowW.same {w w' : World} {b : Nat} {fp : List Nat} {room err : Int} {zs : List Int} (h : IsW w b fp room zs err) (hf : Frm [] w w') : NowW w b fp room zs err w' :=
  ⟨fp, h.kept hf (by simp), hf.mono (by simp), fun _ hk => Or.inl hk⟩
theorem NowW.err {w w1 : World} {b : Nat} {fp : List Nat} {room err : Int} {zs : List Int} (h : IsW w b fp room zs err) (hf : Frm [] w w1) (ev : Int) : NowW w b fp room zs ev (w1.setCell ⟨b, 2, none⟩ (.int .i64 ev)) := by
  obtain ⟨p, c, h1, h2, rfl, h4⟩ := h
  have g := hf.heap h1 (by simp)
  have hF : Frm [b] w1 (w1.setCell ⟨b, 2, none⟩ (.int .i64 ev)) := (Frm.refl _ _).setCell _ _ (by simp)
  refine ⟨_, ⟨p, c, ?_, (h2.kept hf (by simp)).kept hF (by rw [own_blk]; intro k hk; simp; rintro rfl; exact h4 hk), rfl, h4⟩, (hf.mono (by simp)).trans hF (by simp), fun _ hk => Or.inl hk⟩
  rw [heap_setCell_same w1 b 2 _ _ _ g]; rfl

theorem NowW.app {w w1 w2 : World} {b : Nat} {fp : List Nat} {room : Int} {zs xs : List Int} {p p2 : Option Addr} {c c2 : Nat} (hh : w.heap[b]? = some (.cells #[.int .i64 room, .slice p zs.length c, .int .i64 0] 74 (0, 0)))
    (hfp : fp = b :: blk p) (hnb : b ∉ blk p) (hF : Frm [] w w1) (ho : Own w2 5 (.slice p2 xs.length c2) xs) (hF2 : Frm (blk p) w1 w2) (hfr : ∀ k ∈ blk p2, k ∈ blk p ∨ w1.heap.size ≤ k) :
    NowW w b fp room xs 0 (w2.setCell ⟨b, 1, none⟩ (.slice p2 xs.length c2)) := by
  subst hfp
  have hb := lt_of_heap hh
  have hb1 := Nat.lt_of_lt_of_le hb hF.size
  have g := hF2.heap (hF.heap hh (by simp)) hnb
  have hnb2 : b ∉ blk p2 := fun h => by rcases hfr b h with h | h; exact hnb h; omega
  have hF3 : Frm [b] w2 (w2.setCell ⟨b, 1, none⟩ (.slice p2 xs.length c2)) := (Frm.refl _ _).setCell _ _ (by simp)
  refine ⟨b :: blk p2, ⟨p2, c2, ?_, ho.kept hF3 (by rw [own_blk]; intro k hk; simp; rintro rfl; exact hnb2 hk), rfl, hnb2⟩, ?_, ?_⟩
  · rw [heap_setCell_same w2 b 1 _ _ _ g]; rfl
  · exact ((hF.mono (T := b :: blk p) (by simp)).trans hF2 (by intro i hi _; simp [hi])).trans hF3 (by simp)
  · intro k hk
    simp at hk ⊢
    rcases hk with rfl | hk
    · exact Or.inl (Or.inl rfl)
    · rcases hfr k hk with h | h
      · exact Or.inl (Or.inr h)
      · exact Or.inr (Nat.le_trans hF.size h)
section
variable (b : Nat) (fp : List Nat) (room err : Int) (zs ns : List Int) (ev : Int) (f : FuncId) (cap : Array Value) (w : World)
set_option maxHeartbeats 400000 in
theorem lay_stop (fn : Fn) (hw : IsW w b fp room zs err) (he : err ≠ 0) :
    Calls Tryd.prog 52 #[.pointer (some ⟨b, 0, none⟩), .func fn #[] cap] w fun e w' => e = .returned (.tuple #[]) ∧ NowW w b fp room zs err w' := by
  obtain ⟨p, c, _, _, _, _, c0, c1, c2, f1, f2, _⟩ := hw.cells
  have HE : Hid (err ≠ 0) := he
  have HW : Hid (IsW w b fp room zs err) := hw
  have hb : (err != 0) = true := by simpa using he
  clear he hw
  go_enter Tryd.func52, Tryd.ntmps52
  go_wp2_with fail
  go_returns
  exact ⟨rfl, NowW.same HW.out (Frm.refl _ _)⟩
set_option maxHeartbeats 400000 in
theorem lay_err (hw : IsW w b fp room zs 0) (he : ev ≠ 0) (hcf : ∀ w, Sem.run Tryd.prog (callFunc f cap) w = .ok (.enter f cap) w)
    (hform : Calls Tryd.prog f cap w (Gives ns ev w)) :
    Calls Tryd.prog 52 #[.pointer (some ⟨b, 0, none⟩), .func (.func f) #[] cap] w fun e w' => e = .returned (.tuple #[]) ∧ NowW w b fp room zs ev w' := by
  obtain ⟨p, c, hlt, _, _, _, c0, c1, c2, f1, f2, _⟩ := hw.cells
  have HW : Hid (IsW w b fp room zs 0) := hw
  have hb : (ev != 0) = true := by simpa using he
  have hb2 : (ev == 0) = false := by simpa using he
  clear hw he
  go_enter Tryd.func52, Tryd.ntmps52
  go_wp2_with fail
  refine hform.mono ?_
  rintro e w1 ⟨p', n', c', rfl, hF, _⟩
  have k0 := (hF.cell (p := ⟨b, 0, none⟩) hlt (by simp)).trans c0
  have k1 := (hF.cell (p := ⟨b, 1, none⟩) hlt (by simp)).trans c1
  have k2 := (hF.cell (p := ⟨b, 2, none⟩) hlt (by simp)).trans c2
  have q2 := (hF.frozen (p := ⟨b, 2, none⟩) hlt (by simp)).trans f2
  go_wp2_with fail
  go_quiet (fail)
  go_wp2_with fail
  go_returns
  exact ⟨rfl, NowW.err HW.out (hF.drewN nq) ev⟩
set_option maxHeartbeats 400000 in
theorem lay_full (hw : IsW w b fp room zs 0) (_hr0 : 0 ≤ room) (_hr1 : room ≤ 2147483647) (hz : (zs.length : Int) ≤ room) (hfull : room - zs.length < ns.length) (hm : ns.length ≤ 140737488355328) (hcf : ∀ w, Sem.run Tryd.prog (callFunc f cap) w = .ok (.enter f cap) w)
    (hform : Calls Tryd.prog f cap w (Gives ns 0 w)) :
    Calls Tryd.prog 52 #[.pointer (some ⟨b, 0, none⟩), .func (.func f) #[] cap] w fun e w' => e = .returned (.tuple #[]) ∧ NowW w b fp room zs 12 w' := by
  obtain ⟨p, c, hlt, _, _, _, c0, c1, c2, f1, f2, _⟩ := hw.cells
  have HW : Hid (IsW w b fp room zs 0) := hw
  clear hw
  go_enter Tryd.func52, Tryd.ntmps52
  go_wp2_with fail
  refine hform.mono ?_
  rintro e w1 ⟨p', n', c', rfl, hF, hG⟩
  obtain ⟨rfl, _, _⟩ := hG rfl
  have k0 := (hF.cell (p := ⟨b, 0, none⟩) hlt (by simp)).trans c0
  have k1 := (hF.cell (p := ⟨b, 1, none⟩) hlt (by simp)).trans c1
  have k2 := (hF.cell (p := ⟨b, 2, none⟩) hlt (by simp)).trans c2
  have q2 := (hF.frozen (p := ⟨b, 2, none⟩) hlt (by simp)).trans f2
  clear hG
  go_wp2_with fail
  go_quiet (fail)
  go_wp2_with fail
  go_returns
  exact ⟨rfl, NowW.err HW.out (hF.drewN nq) 12⟩
set_option maxHeartbeats 400000 in
theorem lay_ok (hw : IsW w b fp room zs 0) (hr0 : 0 ≤ room) (hr1 : room ≤ 2147483647) (hz : (zs.length : Int) ≤ room) (hfull : ns.length ≤ room - zs.length) (hcf : ∀ w, Sem.run Tryd.prog (callFunc f cap) w = .ok (.enter f cap) w)
    (hform : Calls Tryd.prog f cap w (Gives ns 0 w)) :
    Calls Tryd.prog 52 #[.pointer (some ⟨b, 0, none⟩), .func (.func f) #[] cap] w fun e w' => e = .returned (.tuple #[]) ∧ NowW w b fp room (zs ++ ns) 0 w' := by
  obtain ⟨p, c, hlt, hfp, hnb, hown, c0, c1, c2, f1, f2, hh⟩ := hw.cells
  have HF : Hid (fp = b :: blk p) := hfp
  clear hw hfp
  go_enter Tryd.func52, Tryd.ntmps52
  go_wp2_with fail
  refine hform.mono ?_
  rintro e w1 ⟨p', n', c', rfl, hF, hG⟩
  obtain ⟨rfl, hpc, hrd⟩ := hG rfl
  have k0 := (hF.cell (p := ⟨b, 0, none⟩) hlt (by simp)).trans c0
  have k1 := (hF.cell (p := ⟨b, 1, none⟩) hlt (by simp)).trans c1
  have k2 := (hF.cell (p := ⟨b, 2, none⟩) hlt (by simp)).trans c2
  have hown1 := hown.kept hF (by simp)
  have hlt1 := Nat.lt_of_lt_of_le hlt hF.size
  clear hG
  go_wp2_with fail
  go_quiet (fail)
  have HP : Hid (ns = [] → p' = none → c' = 0) := hpc
  clear hpc
  go_wp2_with (at_builtin; refine wpList_appB rfl _ _ 23 rfl 5 Tryd.underlying23 infoE p _ c zs rfl rfl (hown1.kept ((Frm.refl [] _).drewN nq) (by simp)) p' ns.length c' ns rfl rfl HP.out (hrd.drewN nq) (by omega) ?_)
  intro xs p2 c2' w2 hxs ho hF2 hfresh
  have m1 := (hF2.out.cell (p := ⟨b, 1, none⟩) hlt1 hnb).trans k1
  have q1 := (hF2.out.frozen (p := ⟨b, 1, none⟩) hlt1 hnb).trans ((hF.frozen (p := ⟨b, 1, none⟩) hlt (by simp)).trans f1)
  have HR := hid (NowW.app hh.out HF.out hnb (hF.drewN nq) ho.out hF2.out hfresh.out)
  go_wp2_with fail
  go_returns
  have := HR.out
  rw [hxs.out] at this
  exact ⟨rfl, by rw [hxs.out]; exact this⟩
end

/-- What a call makes of a writer's state: what was laid down, and its error. -/
def stepW (room : Int) (s : List Int × Int) (g : List Int × Int) : List Int × Int :=
  if s.2 ≠ 0 then s else if g.2 ≠ 0 then (s.1, g.2) else if room - s.1.length < g.1.length then (s.1, 12) else (s.1 ++ g.1, 0)
theorem lay_any (b : Nat) (fp : List Nat) (room : Int) (s g : List Int × Int) (f : FuncId) (cap : Array Value) (w : World) (hw : IsW w b fp room s.1 s.2) (hr0 : 0 ≤ room) (hr1 : room ≤ 2147483647) (hz : (s.1.length : Int) ≤ room) (hm : g.1.length ≤ 140737488355328)
    (hcf : ∀ w, Sem.run Tryd.prog (callFunc f cap) w = .ok (.enter f cap) w) (hform : Calls Tryd.prog f cap w (Gives g.1 g.2 w)) :
    Calls Tryd.prog 52 #[.pointer (some ⟨b, 0, none⟩), .func (.func f) #[] cap] w fun e w' => e = .returned (.tuple #[]) ∧ NowW w b fp room (stepW room s g).1 (stepW room s g).2 w' := by
  obtain ⟨zs, err⟩ := s
  obtain ⟨ns, ev⟩ := g
  unfold stepW
  by_cases he : err = 0
  · subst he
    by_cases hev : ev = 0
    · subst hev
      by_cases hf : room - zs.length < ns.length
      · simp only [ne_eq, not_true, if_false, if_pos hf]
        exact lay_full b fp room zs ns f cap w hw hr0 hr1 hz hf hm hcf hform
      · simp only [ne_eq, not_true, if_false, if_neg hf]
        exact lay_ok b fp room zs ns f cap w hw hr0 hr1 hz (by omega) hcf hform
    · simp only [ne_eq, not_true, if_false, hev, not_false_eq_true, if_true]
      exact lay_err b fp room zs ns ev f cap w hw hev hcf hform
  · simp only [ne_eq, he, not_false_eq_true, if_true]
    exact lay_stop b fp room err zs cap w (.func f) hw he
theorem NowW.after {w w0 w' : World} {b : Nat} {fp : List Nat} {room err : Int} {zs : List Int} (hf : Frm [] w w0) (h : NowW w0 b fp room zs err w') : NowW w b fp room zs err w' := by
  obtain ⟨fp', h1, h2, h3⟩ := h
  exact ⟨fp', h1, (hf.mono (by simp)).trans h2 (fun i hi _ => hi), fun k hk => (h3 k hk).imp id (fun h => Nat.le_trans hf.size h)⟩
end
section
open Go.RowKit
set_option maxRecDepth 100000

/-- A number's form, or its error. -/
def numF (n k : Int) : List Int × Int := if k < 1 ∨ 8 < k then ([], 1) else if k < 8 ∧ n / 2 ^ (8 * k.toNat) ≠ 0 then ([], 11) else (le n k.toNat, 0)

theorem callable {P : Program} {f : FuncId} {fn : Func} (h : P.funcs[f]? = some fn) (h1 : (fn.name == "runtime.NumGoroutine") = false) (h2 : fn.body.isNone = false) (cap : Array Value) (w : World) : Sem.run P (callFunc f cap) w = .ok (.enter f cap) w := by
  have e1 : ¬ (fn.name = "runtime.NumGoroutine") := by simpa using h1
  have e2 : ¬ fn.body = none := by intro h; simp [h] at h2
  simp [callFunc, h, e1, e2]
theorem gives_err {w w1 : World} {p : Option Addr} {n c : Nat} {ev : Int} (hf : Frm [] w w1) (hne : ev ≠ 0) : Gives [] ev w (.returned (.tuple #[.slice p n c, .int .i64 ev])) w1 := ⟨p, n, c, rfl, hf, fun h => absurd h hne⟩
theorem gives_ok {w w1 : World} {p : Option Addr} {n c : Nat} {ns : List Int} (hf : Frm [] w w1) (hn : n = ns.length) (hc : ns = [] → p = none → c = 0) (hrd : Rd w1 p ns) : Gives ns 0 w (.returned (.tuple #[.slice p n c, .int .i64 0])) w1 := ⟨p, n, c, rfl, hf, fun _ => ⟨hn, hc, hrd⟩⟩
set_option maxHeartbeats 400000 in
theorem num1_any (x y : Nat) (n k : Int) (hn : 0 ≤ n) (hn2 : n < 18446744073709551616) (hk : -9223372036854775808 ≤ k) (hk2 : k ≤ 9223372036854775807) (w : World) (hx : w.cell? ⟨x, 0, none⟩ = some (.int .i64 k)) (hy : w.cell? ⟨y, 0, none⟩ = some (.int .u64 n)) :
    Calls Tryd.prog 53 #[.pointer (some ⟨x, 0, none⟩), .pointer (some ⟨y, 0, none⟩)] w (Gives (numF n k).1 (numF n k).2 w) := by
  by_cases h1 : k < 1 ∨ 8 < k
  · rw [show numF n k = ([], 1) by simp [numF, h1]]
    by_cases h2 : k < 1
    · go_enter Tryd.func53, Tryd.ntmps53
      go_wp2_with fail
      go_returns
      exact gives_err (Frm.refl _ _) (by decide)
    · go_enter Tryd.func53, Tryd.ntmps53
      go_wp2_with fail
      go_returns
      exact gives_err (Frm.refl _ _) (by decide)
  · obtain ⟨j, rfl⟩ : ∃ j : Nat, k = (j : Int) := ⟨k.toNat, by omega⟩
    have hj1 : 1 ≤ j := by omega
    have hj8 : j ≤ 8 := by omega
    have HN := hid (number_any n j hn hn2 hj8)
    clear hk hk2
    have hfin : ∀ w1 : World, w1.heap[w.heap.size]? = some (.cells (bv (le n j)).toArray 5 (0, 0)) → Frm [] w w1 → Gives (le n j) 0 w (.returned (.tuple #[.slice (some ⟨w.heap.size, 0, none⟩) j j, .int .i64 0])) w1 := by
      intro w1 hb hf
      have ho := own_of_block (zs := le n j) hb (by rw [le_length]; unfold maxLen; omega)
      exact gives_ok hf (le_length n j).symm (by simp) ho.rd
    have HFIN := hid hfin
    clear hfin
    by_cases h2 : j < 8
    · by_cases h3 : n / 2 ^ (8 * j) = 0
      · rw [show numF n j = (le n j, 0) by simp [numF, h1, h3]]
        have H3 : (n / 2 ^ (8 * j) != 0) = false := by simp [h3]
        have H4 : (n / 2 ^ (8 * j) == 0) = true := by simp [h3]
        clear h1 h3
        go_enter Tryd.func53, Tryd.ntmps53
        go_wp2_with fail
        refine (HN.out _).mono ?_
        rintro e w1 ⟨rfl, hb, hf⟩
        have HB := hid hb
        clear hb
        go_wp2_with fail
        go_returns
        exact HFIN.out w1 HB.out hf
      · rw [show numF n j = ([], 11) by simp [numF, h1, h3]; omega]
        have H3 : (n / 2 ^ (8 * j) != 0) = true := by simp [h3]
        have H4 : (n / 2 ^ (8 * j) == 0) = false := by simp [h3]
        clear h1 h3
        go_enter Tryd.func53, Tryd.ntmps53
        go_wp2_with fail
        go_returns
        exact gives_err (Frm.refl _ _) (by decide)
    · rw [show numF n j = (le n j, 0) by simp [numF, h1]; omega]
      clear h1
      go_enter Tryd.func53, Tryd.ntmps53
      go_wp2_with fail
      refine (HN.out _).mono ?_
      rintro e w1 ⟨rfl, hb, hf⟩
      have HB := hid hb
      clear hb
      go_wp2_with fail
      go_returns
      exact HFIN.out w1 HB.out hf
set_option maxHeartbeats 400000 in
theorem num_any (b : Nat) (fp : List Nat) (room : Int) (s : List Int × Int) (n k : Int) (w : World) (hw : IsW w b fp room s.1 s.2) (hr0 : 0 ≤ room) (hr1 : room ≤ 2147483647) (hz : (s.1.length : Int) ≤ room)
    (hn : 0 ≤ n) (hn2 : n < 18446744073709551616) (hk : -9223372036854775808 ≤ k) (hk2 : k ≤ 9223372036854775807) :
    Calls Tryd.prog 17 #[.pointer (some ⟨b, 0, none⟩), .int .u64 n, .int .i64 k] w fun e w' => e = .returned (.tuple #[]) ∧ NowW w b fp room (stepW room s (numF n k)).1 (stepW room s (numF n k)).2 w' := by
  have hl : (numF n k).1.length ≤ 140737488355328 := by unfold numF; split; simp; split; simp; simp only [le_length]; omega
  have HW := hid hw
  go_enter Tryd.func17, Tryd.ntmps17
  go_wp2_with fail
  have hF : Frm [] w ((w.alloc (Obj.cells #[Value.int IntKind.u64 n] 37)).alloc (Obj.cells #[Value.int IntKind.i64 k] 3)) := ((Frm.refl _ _).alloc _).alloc _
  refine (lay_any b fp room s (numF n k) 53 _ _ (HW.out.kept hF (by simp)) hr0 hr1 hz hl (callable Tryd.func53 (by kernel_rfl) (by kernel_rfl) _) (num1_any _ _ n k hn hn2 hk hk2 _ (by simp) (by simp))).mono ?_
  rintro e w' ⟨rfl, hq⟩
  have HQ := hid (hq.after hF)
  clear hq
  go_wp2_with fail
  go_returns
  exact ⟨rfl, HQ.out⟩
set_option maxHeartbeats 400000 in
theorem bytes1_any (x : Nat) (p : Option Addr) (ns : List Int) (c : Nat) (w : World) (hx : w.cell? ⟨x, 0, none⟩ = some (.slice p ns.length c)) (hc : ns = [] → p = none → c = 0) (hrd : Rd w p ns) :
    Calls Tryd.prog 55 #[.pointer (some ⟨x, 0, none⟩)] w (Gives ns 0 w) := by
  have HC := hid hc
  clear hc
  go_enter Tryd.func55, Tryd.ntmps55
  go_wp2_with fail
  go_returns
  exact gives_ok (Frm.refl _ _) rfl HC.out hrd
set_option maxHeartbeats 400000 in
theorem bytes_any (b : Nat) (fp : List Nat) (room : Int) (s : List Int × Int) (p : Option Addr) (ns : List Int) (c : Nat) (w : World) (hw : IsW w b fp room s.1 s.2) (hr0 : 0 ≤ room) (hr1 : room ≤ 2147483647) (hz : (s.1.length : Int) ≤ room)
    (hl : ns.length ≤ 140737488355328) (hc : ns = [] → p = none → c = 0) (hrd : Rd w p ns) :
    Calls Tryd.prog 18 #[.pointer (some ⟨b, 0, none⟩), .slice p ns.length c] w fun e w' => e = .returned (.tuple #[]) ∧ NowW w b fp room (stepW room s (ns, 0)).1 (stepW room s (ns, 0)).2 w' := by
  have HW := hid hw
  have HC := hid hc
  clear hc
  go_enter Tryd.func18, Tryd.ntmps18
  go_wp2_with fail
  have hF : Frm [] w (w.alloc (Obj.cells #[Value.slice p ns.length c] 23)) := (Frm.refl _ _).alloc _
  refine (lay_any b fp room s (ns, 0) 55 _ _ (HW.out.kept hF (by simp)) hr0 hr1 hz hl (callable Tryd.func55 (by kernel_rfl) (by kernel_rfl) _) (bytes1_any _ p ns c _ (by simp) HC.out (hrd.alloc _))).mono ?_
  rintro e w' ⟨rfl, hq⟩
  have HQ := hid (hq.after hF)
  clear hq
  go_wp2_with fail
  go_returns
  exact ⟨rfl, HQ.out⟩
def textF (s : ByteArray) : List Int × Int := if 65535 < s.size then ([], 11) else (le s.size 2 ++ tx s, 0)
set_option maxHeartbeats 400000 in
theorem text1_any (x : Nat) (s : ByteArray) (hs : s.size ≤ maxLen) (w : World) (hx : w.cell? ⟨x, 0, none⟩ = some (.string s)) :
    Calls Tryd.prog 75 #[.pointer (some ⟨x, 0, none⟩)] w (Gives (textF s).1 (textF s).2 w) := by
  unfold maxLen at hs
  by_cases h1 : 65535 < s.size
  · rw [show textF s = ([], 11) by simp [textF, h1]]
    go_enter Tryd.func75, Tryd.ntmps75
    go_wp2_with fail
    go_returns
    exact gives_err (Frm.refl _ _) (by decide)
  · rw [show textF s = (le s.size 2 ++ tx s, 0) by simp [textF, h1]]
    have hxl := World.block_lt_of_cell? w _ hx
    have hsz : s.size ≤ 65535 := by omega
    have HL := le_length (s.size : Int) 2
    have HM : (le (s.size : Int) 2).length ≤ maxLen := by rw [HL]; unfold maxLen; omega
    have HS : (le (s.size : Int) 2).length + s.size ≤ 140737488355328 := by rw [HL]; omega
    have HC : Hid (∀ w : World, Calls Tryd.prog 54 #[.int .u64 (IntKind.u64.wrap (s.size : Int)), .int .i64 2] w fun e w' => e = .returned (.slice (some ⟨w.heap.size, 0, none⟩) 2 2) ∧ w'.heap[w.heap.size]? = some (.cells (bv (le s.size 2)).toArray 5 (0, 0)) ∧ Frm [] w w') := by
      rw [IntWalk.u64_in _ (by omega)]
      exact number_any (s.size : Int) 2 (by omega) (by omega) (by omega)
    go_enter Tryd.func75, Tryd.ntmps75
    go_wp2_with fail
    go_region_held3 (fun w' => w'.cell? ⟨x, 0, none⟩ = some (.string s)) (first | go_keep | (exact q1) | (exact (hF2.out.cell (p := ⟨x, 0, none⟩) z1 z2).trans q1))
      (first | ((go_at_call 54; (with_reducible refine (HC.out _).mono ?_); rintro e w1 ⟨rfl, hb, hf⟩; replace hb := hid hb; have q1 := (hf.cell (p := ⟨x, 0, none⟩) hxl List.not_mem_nil).trans hx; have z1 := Nat.lt_of_lt_of_le hxl hf.size; have z2 : x ∉ blk (some (⟨w.heap.size, 0, none⟩ : Addr)) := fun h => Nat.ne_of_lt hxl (List.mem_singleton.1 h))) | ((refine step_appS (by rfl) _ _ 23 9 (by rfl) 5 Tryd.underlying23 Tryd.underlying9 infoE _ _ _ (le s.size 2) (by rfl) HL.symm (own_of_block' hb.out HM HL) s (by rfl) HS ?_; intro xs p2 c2 w2 hxs ho hF2 hfr)))
    go_wp2_with fail
    go_returns
    have hff : Frm [] w w1 := ((Frm.refl [] w).drew).trans hf (by simp)
    obtain ⟨p3, c3, he, _, hn, _⟩ := ho.out.shape
    simp only [Value.slice.injEq, true_and] at he
    obtain ⟨rfl, rfl⟩ := he
    rw [← hxs.out]
    exact gives_ok (hff.trans hF2.out (fun i hi hlt => absurd (List.mem_singleton.1 hi) (Nat.ne_of_lt hlt))) rfl (fun _ h => (hn h).2) ho.out.rd
set_option maxHeartbeats 400000 in
theorem text_any (b : Nat) (fp : List Nat) (room : Int) (s : List Int × Int) (t : ByteArray) (w : World) (hw : IsW w b fp room s.1 s.2) (hr0 : 0 ≤ room) (hr1 : room ≤ 2147483647) (hz : (s.1.length : Int) ≤ room) (ht : t.size ≤ maxLen) :
    Calls Tryd.prog 63 #[.pointer (some ⟨b, 0, none⟩), .string t] w fun e w' => e = .returned (.tuple #[]) ∧ NowW w b fp room (stepW room s (textF t)).1 (stepW room s (textF t)).2 w' := by
  have hl : (textF t).1.length ≤ 140737488355328 := by unfold textF; split; simp; simp only [List.length_append, le_length, tx_length]; omega
  have HW := hid hw
  go_enter Tryd.func63, Tryd.ntmps63
  go_wp2_with fail
  have hF : Frm [] w (w.alloc (Obj.cells #[Value.string t] 9)) := (Frm.refl _ _).alloc _
  refine (lay_any b fp room s (textF t) 75 _ _ (HW.out.kept hF (by simp)) hr0 hr1 hz hl (callable Tryd.func75 (by kernel_rfl) (by kernel_rfl) _) (text1_any _ t ht _ (by simp))).mono ?_
  rintro e w' ⟨rfl, hq⟩
  have HQ := hid (hq.after hF)
  clear hq
  go_wp2_with fail
  go_returns
  exact ⟨rfl, HQ.out⟩
def padF (room len to : Int) : List Int × Int := if to < len then ([], 11) else if room < to then ([], 12) else (List.replicate (to - len).toNat 0, 0)
set_option maxHeartbeats 400000 in
theorem doneW_err (b : Nat) (fp : List Nat) (room err : Int) (zs : List Int) (w : World) (hw : IsW w b fp room zs err) (he : err ≠ 0) :
    Calls Tryd.prog 16 #[.pointer (some ⟨b, 0, none⟩)] w fun e w' => e = .returned (.tuple #[.slice none 0 0, .int .i64 err]) ∧ Frm [] w w' := by
  obtain ⟨p, c, hlt, hfp, hnb, hown, c0, c1, c2, f1, f2, hh⟩ := hw.cells
  have hb : (err != 0) = true := by simpa using he
  clear hw hfp hown hnb hh he
  go_enter Tryd.func16, Tryd.ntmps16
  go_wp2_with fail
  go_quiet (fail)
  go_wp2_with fail
  go_returns
  exact ⟨rfl, (Frm.refl _ _).drewN _⟩
set_option maxHeartbeats 400000 in
theorem doneW_ok (b : Nat) (fp : List Nat) (room : Int) (zs : List Int) (w : World) (hw : IsW w b fp room zs 0) (hr1 : room ≤ 2147483647) (hz : (zs.length : Int) ≤ room) :
    Calls Tryd.prog 16 #[.pointer (some ⟨b, 0, none⟩)] w fun e w' => ∃ g, e = .returned (.tuple #[.slice (some ⟨g, 0, none⟩) zs.length zs.length, .int .i64 0]) ∧ w'.heap[g]? = some (.cells (bv zs).toArray 5 (0, 0)) ∧ Frm [] w w' ∧ w.heap.size ≤ g := by
  obtain ⟨p, c, hlt, hfp, hnb, hown, c0, c1, c2, f1, f2, hh⟩ := hw.cells
  have hmk := run_make_row' (P := Tryd.prog) 23 5 (.int .u8 0) 1 Tryd.underlying23 infoE rfl .i64 .i64 zs.length (by omega) (by omega)
  clear hw hfp hnb hh
  go_enter Tryd.func16, Tryd.ntmps16
  go_wp2_with (refine wpList_copyB rfl _ _ 23 rfl 5 Tryd.underlying23 infoE w.heap.size zs.length zs.length _ rfl (heap_alloc_new _ _) (size_madeCells _ _) p zs.length c zs rfl rfl (hown.rd.alloc _) (Nat.le_refl _) ?_)
  intro w' hb hf
  go_wp2_with fail
  go_returns
  refine ⟨w.heap.size, rfl, ?_, ?_, Nat.le_refl _⟩
  · simpa using hb
  · exact ((Frm.refl [] w).alloc _).trans hf (by simp)
end
end Go.Proofs.YtajfjkfnmmfhmaaDoor
