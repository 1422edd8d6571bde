/- Contracts of package code's writer's methods. Contracts of package code's reader. Contracts of package code's reader's methods. Contracts of package code's reader's methods: Num, Bytes. Contracts of package code's reader's methods: Bytes, Text, Pad, Left, Done. -/
import Derived.Deep.RegionHeld3
import Derived.Test.YtajfjkfnmmfhmaaGreatDoorQwaa
namespace Go.Proofs.YtajfjkfnmmfhmaaGreatDoor
section
open Go.RowKit
set_option maxRecDepth 100000
/-- A number's form, or its error. -/
def numF (n k : Int) : List Int × Int := if k < 1 ∨ 8 < k then ([], 1) else if k < 8 ∧ n / 2 ^ (8 * k.toNat) ≠ 0 then ([], 11) else (le n k.toNat, 0)
theorem callable {P : Program} {f : FuncId} {fn : Func} (h : P.funcs[f]? = some fn) (h1 : (fn.name == "runtime.NumGoroutine") = false) (h2 : fn.body.isNone = false) (cap : Array Value) (w : World) : Sem.run P (callFunc f cap) w = .ok (.enter f cap) w := by
  have e1 : ¬ (fn.name = "runtime.NumGoroutine") := by simpa using h1
  have e2 : ¬ fn.body = none := by intro h; simp [h] at h2
  simp [callFunc, h, e1, e2]
theorem gives_err {w w1 : World} {p : Option Addr} {n c : Nat} {ev : Int} (hf : Frm [] w w1) (hne : ev ≠ 0) : Gives [] ev w (.returned (.tuple #[.slice p n c, .int .i64 ev])) w1 := ⟨p, n, c, rfl, hf, fun h => absurd h hne⟩
theorem gives_ok {w w1 : World} {p : Option Addr} {n c : Nat} {ns : List Int} (hf : Frm [] w w1) (hn : n = ns.length) (hc : ns = [] → p = none → c = 0) (hrd : Rd w1 p ns) : Gives ns 0 w (.returned (.tuple #[.slice p n c, .int .i64 0])) w1 := ⟨p, n, c, rfl, hf, fun _ => ⟨hn, hc, hrd⟩⟩
set_option maxHeartbeats 400000 in
theorem num1_any (x y : Nat) (n k : Int) (hn : 0 ≤ n) (hn2 : n < 18446744073709551616) (hk : -9223372036854775808 ≤ k) (hk2 : k ≤ 9223372036854775807) (w : World) (hx : w.cell? ⟨x, 0, none⟩ = some (.int .i64 k)) (hy : w.cell? ⟨y, 0, none⟩ = some (.int .u64 n)) :
    Calls Tryz.prog 72 #[.pointer (some ⟨x, 0, none⟩), .pointer (some ⟨y, 0, none⟩)] w (Gives (numF n k).1 (numF n k).2 w) := by
  by_cases h1 : k < 1 ∨ 8 < k
  · rw [show numF n k = ([], 1) by simp [numF, h1]]
    by_cases h2 : k < 1
    · go_enter Tryz.func72, Tryz.ntmps72
      go_wp2_with fail
      go_returns
      exact gives_err (Frm.refl _ _) (by decide)
    · go_enter Tryz.func72, Tryz.ntmps72
      go_wp2_with fail
      go_returns
      exact gives_err (Frm.refl _ _) (by decide)
  · obtain ⟨j, rfl⟩ : ∃ j : Nat, k = (j : Int) := ⟨k.toNat, by omega⟩
    have hj1 : 1 ≤ j := by omega
    have hj8 : j ≤ 8 := by omega
    have HN := hid (number_any n j hn hn2 hj8)
    clear hk hk2
    have hfin : ∀ w1 : World, w1.heap[w.heap.size]? = some (.cells (bv (le n j)).toArray 5 (0, 0)) → Frm [] w w1 → Gives (le n j) 0 w (.returned (.tuple #[.slice (some ⟨w.heap.size, 0, none⟩) j j, .int .i64 0])) w1 := by
      intro w1 hb hf
      have ho := own_of_block (zs := le n j) hb (by rw [le_length]; unfold maxLen; omega)
      exact gives_ok hf (le_length n j).symm (by simp) ho.rd
    have HFIN := hid hfin
    clear hfin
    by_cases h2 : j < 8
    · by_cases h3 : n / 2 ^ (8 * j) = 0
      · rw [show numF n j = (le n j, 0) by simp [numF, h1, h3]]
        have H3 : (n / 2 ^ (8 * j) != 0) = false := by simp [h3]
        have H4 : (n / 2 ^ (8 * j) == 0) = true := by simp [h3]
        clear h1 h3
        go_enter Tryz.func72, Tryz.ntmps72
        go_wp2_with fail
        refine (HN.out _).mono ?_
        rintro e w1 ⟨rfl, hb, hf⟩
        have HB := hid hb
        clear hb
        go_wp2_with fail
        go_returns
        exact HFIN.out w1 HB.out hf
      · rw [show numF n j = ([], 11) by simp [numF, h1, h3]; omega]
        have H3 : (n / 2 ^ (8 * j) != 0) = true := by simp [h3]
        have H4 : (n / 2 ^ (8 * j) == 0) = false := by simp [h3]
        clear h1 h3
        go_enter Tryz.func72, Tryz.ntmps72
        go_wp2_with fail
        go_returns
        exact gives_err (Frm.refl _ _) (by decide)
    · rw [show numF n j = (le n j, 0) by simp [numF, h1]; omega]
      clear h1
      go_enter Tryz.func72, Tryz.ntmps72
      go_wp2_with fail
      refine (HN.out _).mono ?_
      rintro e w1 ⟨rfl, hb, hf⟩
      have HB := hid hb
      clear hb
      go_wp2_with fail
      go_returns
      exact HFIN.out w1 HB.out hf
set_option maxHeartbeats 400000 in
theorem num_any (b : Nat) (fp : List Nat) (room : Int) (s : List Int × Int) (n k : Int) (w : World) (hw : IsW w b fp room s.1 s.2) (hr0 : 0 ≤ room) (hr1 : room ≤ 2147483647) (hz : (s.1.length : Int) ≤ room)
    (hn : 0 ≤ n) (hn2 : n < 18446744073709551616) (hk : -9223372036854775808 ≤ k) (hk2 : k ≤ 9223372036854775807) :
    Calls Tryz.prog 27 #[.pointer (some ⟨b, 0, none⟩), .int .u64 n, .int .i64 k] w fun e w' => e = .returned (.tuple #[]) ∧ NowW w b fp room (stepW room s (numF n k)).1 (stepW room s (numF n k)).2 w' := by
  have hl : (numF n k).1.length ≤ 140737488355328 := by unfold numF; split; simp; split; simp; simp only [le_length]; omega
  have HW := hid hw
  go_enter Tryz.func27, Tryz.ntmps27
  go_wp2_with fail
  have hF : Frm [] w ((w.alloc (Obj.cells #[Value.int IntKind.u64 n] 27)).alloc (Obj.cells #[Value.int IntKind.i64 k] 3)) := ((Frm.refl _ _).alloc _).alloc _
  refine (lay_any b fp room s (numF n k) 72 _ _ (HW.out.kept hF (by simp)) hr0 hr1 hz hl (callable Tryz.func72 (by kernel_rfl) (by kernel_rfl) _) (num1_any _ _ n k hn hn2 hk hk2 _ (by simp) (by simp))).mono ?_
  rintro e w' ⟨rfl, hq⟩
  have HQ := hid (hq.after hF)
  clear hq
  go_wp2_with fail
  go_returns
  exact ⟨rfl, HQ.out⟩
set_option maxHeartbeats 400000 in
theorem bytes1_any (x : Nat) (p : Option Addr) (ns : List Int) (c : Nat) (w : World) (hx : w.cell? ⟨x, 0, none⟩ = some (.slice p ns.length c)) (hc : ns = [] → p = none → c = 0) (hrd : Rd w p ns) :
    Calls Tryz.prog 74 #[.pointer (some ⟨x, 0, none⟩)] w (Gives ns 0 w) := by
  have HC := hid hc
  clear hc
  go_enter Tryz.func74, Tryz.ntmps74
  go_wp2_with fail
  go_returns
  exact gives_ok (Frm.refl _ _) rfl HC.out hrd
set_option maxHeartbeats 400000 in
theorem bytes_any (b : Nat) (fp : List Nat) (room : Int) (s : List Int × Int) (p : Option Addr) (ns : List Int) (c : Nat) (w : World) (hw : IsW w b fp room s.1 s.2) (hr0 : 0 ≤ room) (hr1 : room ≤ 2147483647) (hz : (s.1.length : Int) ≤ room)
    (hl : ns.length ≤ 140737488355328) (hc : ns = [] → p = none → c = 0) (hrd : Rd w p ns) :
    Calls Tryz.prog 28 #[.pointer (some ⟨b, 0, none⟩), .slice p ns.length c] w fun e w' => e = .returned (.tuple #[]) ∧ NowW w b fp room (stepW room s (ns, 0)).1 (stepW room s (ns, 0)).2 w' := by
  have HW := hid hw
  have HC := hid hc
  clear hc
  go_enter Tryz.func28, Tryz.ntmps28
  go_wp2_with fail
  have hF : Frm [] w (w.alloc (Obj.cells #[Value.slice p ns.length c] 24)) := (Frm.refl _ _).alloc _
  refine (lay_any b fp room s (ns, 0) 74 _ _ (HW.out.kept hF (by simp)) hr0 hr1 hz hl (callable Tryz.func74 (by kernel_rfl) (by kernel_rfl) _) (bytes1_any _ p ns c _ (by simp) HC.out (hrd.alloc _))).mono ?_
  rintro e w' ⟨rfl, hq⟩
  have HQ := hid (hq.after hF)
  clear hq
  go_wp2_with fail
  go_returns
  exact ⟨rfl, HQ.out⟩
def textF (s : ByteArray) : List Int × Int := if 65535 < s.size then ([], 11) else (le s.size 2 ++ tx s, 0)
set_option maxHeartbeats 400000 in
theorem text1_any (x : Nat) (s : ByteArray) (hs : s.size ≤ maxLen) (w : World) (hx : w.cell? ⟨x, 0, none⟩ = some (.string s)) :
    Calls Tryz.prog 112 #[.pointer (some ⟨x, 0, none⟩)] w (Gives (textF s).1 (textF s).2 w) := by
  unfold maxLen at hs
  by_cases h1 : 65535 < s.size
  · rw [show textF s = ([], 11) by simp [textF, h1]]
    go_enter Tryz.func112, Tryz.ntmps112
    go_wp2_with fail
    go_returns
    exact gives_err (Frm.refl _ _) (by decide)
  · rw [show textF s = (le s.size 2 ++ tx s, 0) by simp [textF, h1]]
    have hxl := World.block_lt_of_cell? w _ hx
    have hsz : s.size ≤ 65535 := by omega
    have HL := le_length (s.size : Int) 2
    have HM : (le (s.size : Int) 2).length ≤ maxLen := by rw [HL]; unfold maxLen; omega
    have HS : (le (s.size : Int) 2).length + s.size ≤ 140737488355328 := by rw [HL]; omega
    have HC : Hid (∀ w : World, Calls Tryz.prog 73 #[.int .u64 (IntKind.u64.wrap (s.size : Int)), .int .i64 2] w fun e w' => e = .returned (.slice (some ⟨w.heap.size, 0, none⟩) 2 2) ∧ w'.heap[w.heap.size]? = some (.cells (bv (le s.size 2)).toArray 5 (0, 0)) ∧ Frm [] w w') := by
      rw [IntWalk.u64_in _ (by omega)]
      exact number_any (s.size : Int) 2 (by omega) (by omega) (by omega)
    go_enter Tryz.func112, Tryz.ntmps112
    go_wp2_with fail
    go_region_held3 (fun w' => w'.cell? ⟨x, 0, none⟩ = some (.string s)) (first | go_keep | (exact q1) | (exact (hF2.out.cell (p := ⟨x, 0, none⟩) z1 z2).trans q1))
      (first | ((go_at_call 73; (with_reducible refine (HC.out _).mono ?_); rintro e w1 ⟨rfl, hb, hf⟩; replace hb := hid hb; have q1 := (hf.cell (p := ⟨x, 0, none⟩) hxl List.not_mem_nil).trans hx; have z1 := Nat.lt_of_lt_of_le hxl hf.size; have z2 : x ∉ blk (some (⟨w.heap.size, 0, none⟩ : Addr)) := fun h => Nat.ne_of_lt hxl (List.mem_singleton.1 h))) | ((refine step_appS (by rfl) _ _ 24 9 (by rfl) 5 Tryz.underlying24 Tryz.underlying9 infoE _ _ _ (le s.size 2) (by rfl) HL.symm (own_of_block' hb.out HM HL) s (by rfl) HS ?_; intro xs p2 c2 w2 hxs ho hF2 hfr)))
    go_wp2_with fail
    go_returns
    have hff : Frm [] w w1 := ((Frm.refl [] w).drew).trans hf (by simp)
    obtain ⟨p3, c3, he, _, hn, _⟩ := ho.out.shape
    simp only [Value.slice.injEq, true_and] at he
    obtain ⟨rfl, rfl⟩ := he
    rw [← hxs.out]
    exact gives_ok (hff.trans hF2.out (fun i hi hlt => absurd (List.mem_singleton.1 hi) (Nat.ne_of_lt hlt))) rfl (fun _ h => (hn h).2) ho.out.rd
set_option maxHeartbeats 400000 in
theorem text_any (b : Nat) (fp : List Nat) (room : Int) (s : List Int × Int) (t : ByteArray) (w : World) (hw : IsW w b fp room s.1 s.2) (hr0 : 0 ≤ room) (hr1 : room ≤ 2147483647) (hz : (s.1.length : Int) ≤ room) (ht : t.size ≤ maxLen) :
    Calls Tryz.prog 92 #[.pointer (some ⟨b, 0, none⟩), .string t] w fun e w' => e = .returned (.tuple #[]) ∧ NowW w b fp room (stepW room s (textF t)).1 (stepW room s (textF t)).2 w' := by
  have hl : (textF t).1.length ≤ 140737488355328 := by unfold textF; split; simp; simp only [List.length_append, le_length, tx_length]; omega
  have HW := hid hw
  go_enter Tryz.func92, Tryz.ntmps92
  go_wp2_with fail
  have hF : Frm [] w (w.alloc (Obj.cells #[Value.string t] 9)) := (Frm.refl _ _).alloc _
  refine (lay_any b fp room s (textF t) 112 _ _ (HW.out.kept hF (by simp)) hr0 hr1 hz hl (callable Tryz.func112 (by kernel_rfl) (by kernel_rfl) _) (text1_any _ t ht _ (by simp))).mono ?_
  rintro e w' ⟨rfl, hq⟩
  have HQ := hid (hq.after hF)
  clear hq
  go_wp2_with fail
  go_returns
  exact ⟨rfl, HQ.out⟩
set_option maxHeartbeats 400000 in
theorem doneW_ok (b : Nat) (fp : List Nat) (room : Int) (zs : List Int) (w : World) (hw : IsW w b fp room zs 0) (hr1 : room ≤ 2147483647) (hz : (zs.length : Int) ≤ room) :
    Calls Tryz.prog 26 #[.pointer (some ⟨b, 0, none⟩)] w fun e w' => ∃ g, e = .returned (.tuple #[.slice (some ⟨g, 0, none⟩) zs.length zs.length, .int .i64 0]) ∧ w'.heap[g]? = some (.cells (bv zs).toArray 5 (0, 0)) ∧ Frm [] w w' ∧ w.heap.size ≤ g := by
  obtain ⟨p, c, hlt, hfp, hnb, hown, c0, c1, c2, f1, f2, hh⟩ := hw.cells
  have hmk := run_make_row' (P := Tryz.prog) 24 5 (.int .u8 0) 1 Tryz.underlying24 infoE rfl .i64 .i64 zs.length (by omega) (by omega)
  clear hw hfp hnb hh
  go_enter Tryz.func26, Tryz.ntmps26
  go_wp2_with (refine wpList_copyB rfl _ _ 24 rfl 5 Tryz.underlying24 infoE w.heap.size zs.length zs.length _ rfl (heap_alloc_new _ _) (size_madeCells _ _) p zs.length c zs rfl rfl (hown.rd.alloc _) (Nat.le_refl _) ?_)
  intro w' hb hf
  go_wp2_with fail
  go_returns
  refine ⟨w.heap.size, rfl, ?_, ?_, Nat.le_refl _⟩
  · simpa using hb
  · exact ((Frm.refl [] w).alloc _).trans hf (by simp)
end
section
open Go.RowKit
set_option maxRecDepth 100000
/-- A reader at block b over the bytes of block g: where it stands, its error. -/
def IsR (w : World) (b g : Nat) (bs : List Int) (pos : Nat) (err : Int) : Prop :=
  w.heap[b]? = some (.cells #[.slice (some ⟨g, 0, none⟩) bs.length bs.length, .int .i64 pos, .int .i64 err] 101 (0, 0)) ∧ w.heap[g]? = some (.cells (bv bs).toArray 5 (0, 0)) ∧ b ≠ g ∧ pos ≤ bs.length ∧ bs.length ≤ 140737488355328
theorem IsR.kept {w w' : World} {b g pos : Nat} {S : List Nat} {err : Int} {bs : List Int} (h : IsR w b g bs pos err) (hf : Frm S w w') (hb : b ∉ S) (hg : g ∉ S) : IsR w' b g bs pos err :=
  ⟨hf.heap h.1 hb, hf.heap h.2.1 hg, h.2.2⟩
theorem IsR.cells {w : World} {b g pos : Nat} {err : Int} {bs : List Int} (h : IsR w b g bs pos err) : b < w.heap.size ∧ g < w.heap.size ∧ b ≠ g ∧ pos ≤ bs.length ∧ bs.length ≤ 140737488355328 ∧
    w.cell? ⟨b, 0, none⟩ = some (.slice (some ⟨g, 0, none⟩) bs.length bs.length) ∧ w.cell? ⟨b, 1, none⟩ = some (.int .i64 pos) ∧ w.cell? ⟨b, 2, none⟩ = some (.int .i64 err) ∧
    w.frozen? ⟨b, 1, none⟩ = false ∧ w.frozen? ⟨b, 2, none⟩ = false ∧ Rd w (some ⟨g, 0, none⟩) bs := by
  obtain ⟨h1, h2, h3, h4, h5⟩ := h
  exact ⟨lt_of_heap h1, lt_of_heap h2, h3, h4, h5, by rw [cell_of_row w _ _ _ _ _ h1]; rfl, by rw [cell_of_row w _ _ _ _ _ h1]; rfl, by rw [cell_of_row w _ _ _ _ _ h1]; rfl, frozen_of_row w b 1 _ _ h1, frozen_of_row w b 2 _ _ h1,
    (own_of_block (E := 5) h2 (by unfold maxLen; omega)).rd⟩
set_option maxHeartbeats 400000 in
theorem newReader_any (p : Option Addr) (c : Nat) (bs : List Int) (w : World) (hrd : Rd w p bs) (hl : bs.length ≤ 140737488355328) :
    Calls Tryz.prog 41 #[.slice p bs.length c] w fun e w' => ∃ b g, e = .returned (.pointer (some ⟨b, 0, none⟩)) ∧ IsR w' b g bs 0 0 ∧ Frm [] w w' ∧ w.heap.size ≤ b ∧ w.heap.size ≤ g := by
  have hmk := run_make_row' (P := Tryz.prog) 24 5 (.int .u8 0) 1 Tryz.underlying24 infoE rfl .i64 .i64 bs.length (by omega) (by omega)
  go_enter Tryz.func41, Tryz.ntmps41
  go_wp2_with (refine wpList_copyB rfl _ _ 24 rfl 5 Tryz.underlying24 infoE w.heap.size bs.length bs.length _ rfl (heap_alloc_new _ _) (size_madeCells _ _) p bs.length c bs rfl rfl (hrd.alloc _) (Nat.le_refl _) ?_)
  intro w' hb hf
  have HB := hid hb
  clear hb
  go_wp2_with fail
  go_returns
  have hl1 : w.heap.size < w'.heap.size := lt_of_heap HB.out
  have hF : Frm [] w w' := ((Frm.refl [] w).alloc _).trans hf (by simp)
  refine ⟨w'.heap.size, w.heap.size, rfl, ⟨heap_alloc_new _ _, ?_, by omega, Nat.zero_le _, hl⟩, hF.alloc _, hF.size, Nat.le_refl _⟩
  rw [Below.heap_alloc _ _ _ hl1]
  exact HB.out
/-- Behind a form, the reader is set anew. -/
theorem IsR.setPos {w : World} {b g pos : Nat} {err : Int} {bs : List Int} (h : IsR w b g bs pos err) {n : Nat} (hn : n ≤ bs.length) : IsR (w.setCell ⟨b, 1, none⟩ (.int .i64 n)) b g bs n err := by
  obtain ⟨h1, h2, h3, h4, h5⟩ := h
  refine ⟨?_, by rw [heap_setCell_other _ _ _ _ (Ne.symm h3)]; exact h2, h3, hn, h5⟩
  rw [heap_setCell_same w b 1 _ _ _ h1]; rfl
theorem IsR.setErr {w : World} {b g pos : Nat} {err : Int} {bs : List Int} (h : IsR w b g bs pos err) (ev : Int) : IsR (w.setCell ⟨b, 2, none⟩ (.int .i64 ev)) b g bs pos ev := by
  obtain ⟨h1, h2, h3, h4, h5⟩ := h
  refine ⟨?_, by rw [heap_setCell_other _ _ _ _ (Ne.symm h3)]; exact h2, h3, h4, h5⟩
  rw [heap_setCell_same w b 2 _ _ _ h1]; rfl
/-- What a form gives: a number and an error, and what R says of the world. -/
def GivesR (n : Nat) (ev : Int) (S : List Nat) (R : World → Prop) (w : World) (e : Ending) (w1 : World) : Prop := e = .returned (.tuple #[.int .i64 n, .int .i64 ev]) ∧ R w1 ∧ Frm S w w1
section
variable (b g pos n : Nat) (err ev : Int) (bs : List Int) (S : List Nat) (R : World → Prop) (f : FuncId) (cap : Array Value) (w : World)
set_option maxHeartbeats 400000 in
theorem take_stop (fn : Fn) (hw : IsR w b g bs pos err) (he : err ≠ 0) :
    Calls Tryz.prog 86 #[.pointer (some ⟨b, 0, none⟩), .func fn #[] cap] w fun e w' => e = .returned (.tuple #[]) ∧ w = w' := by
  obtain ⟨hlt, hlg, hbg, hpos, hlen, c0, c1, c2, f1, f2, hrd⟩ := hw.cells
  have hb : (err != 0) = true := by simpa using he
  clear he hw hrd
  go_enter Tryz.func86, Tryz.ntmps86
  go_wp2_with fail
  go_returns
  exact ⟨rfl, rfl⟩
/-- What a call of take makes of the world. -/
def TakeQ (b g pos n : Nat) (ev : Int) (bs : List Int) (S : List Nat) (R : World → Prop) (w : World) (w' : World) : Prop :=
  ∃ w1, R w1 ∧ Frm S w w1 ∧ Frm [b] w1 w' ∧ IsR w' b g bs (if ev = 0 then pos + n else pos) ev
theorem takeQ_ok {b g pos n : Nat} {bs : List Int} {S : List Nat} {R : World → Prop} {w w1 : World} (hw : IsR w b g bs pos 0) (hbS : b ∉ S) (hgS : g ∉ S) (hn : pos + n ≤ bs.length) (hR : R w1) (hS : Frm S w.drew w1) {k : Int} (hk : k = ((pos + n : Nat) : Int)) :
    TakeQ b g pos n 0 bs S R w (w1.setCell ⟨b, 1, none⟩ (.int .i64 k)) := by
  subst hk
  have hS' : Frm S w w1 := ((Frm.refl S w).drew).trans hS (fun i hi _ => hi)
  exact ⟨w1, hR, hS', (Frm.refl _ _).setCell _ _ (by simp), by rw [if_pos rfl]; exact (hw.kept hS' hbS hgS).setPos hn⟩
theorem takeQ_err {b g pos n : Nat} {ev : Int} {bs : List Int} {S : List Nat} {R : World → Prop} {w w1 : World} (hw : IsR w b g bs pos 0) (hbS : b ∉ S) (hgS : g ∉ S) (he : ev ≠ 0) (hR : R w1) (hS : Frm S w.drew w1) :
    TakeQ b g pos n ev bs S R w (w1.setCell ⟨b, 2, none⟩ (.int .i64 ev)) := by
  have hS' : Frm S w w1 := ((Frm.refl S w).drew).trans hS (fun i hi _ => hi)
  exact ⟨w1, hR, hS', (Frm.refl _ _).setCell _ _ (by simp), by rw [if_neg he]; exact (hw.kept hS' hbS hgS).setErr ev⟩
set_option maxHeartbeats 400000 in
theorem take_end (hw : IsR w b g bs pos 0) (hc : pos = bs.length) (hbS : b ∉ S) (hgS : g ∉ S) (hn : ev = 0 → pos + n ≤ bs.length) (hcf : ∀ (l : Value) (w : World), Sem.run Tryz.prog (callFunc f (#[l] ++ cap)) w = .ok (.enter f (#[l] ++ cap)) w)
    (hform : Calls Tryz.prog f (#[.slice (some ⟨g, 0, none⟩) 0 0] ++ cap) w.drew (GivesR n ev S R w.drew)) :
    Calls Tryz.prog 86 #[.pointer (some ⟨b, 0, none⟩), .func (.func f) #[] cap] w fun e w' => e = .returned (.tuple #[]) ∧ TakeQ b g pos n ev bs S R w w' := by
  obtain ⟨hlt, hlg, hbg, hpos, hlen, c0, c1, c2, f1, f2, _⟩ := hw.cells
  have HW := hid hw
  have HN := hid hn
  have HF := hid hform
  clear hw hn hform
  subst hc
  by_cases he : ev = 0
  · subst he
    have hn0 := HN.out rfl
    go_enter Tryz.func86, Tryz.ntmps86
    go_wp2_with fail
    go_region_with (((with_reducible refine HF.out.mono ?_); rintro e w1 ⟨rfl, hR, hS⟩))
    all_goals
      have k1 := (hS.cell (p := ⟨b, 1, none⟩) hlt hbS).trans c1
      have q1 := (hS.frozen (p := ⟨b, 1, none⟩) hlt hbS).trans f1
      go_wp2_with fail
      go_returns
      exact ⟨rfl, takeQ_ok HW.out hbS hgS hn0 hR hS (by omega)⟩
  · have HE : Hid (ev ≠ 0) := he
    have hb : (ev != 0) = true := by simpa using he
    clear he
    go_enter Tryz.func86, Tryz.ntmps86
    go_wp2_with fail
    go_region_with (((with_reducible refine HF.out.mono ?_); rintro e w1 ⟨rfl, hR, hS⟩))
    all_goals
      have k1 := (hS.cell (p := ⟨b, 2, none⟩) hlt hbS).trans c2
      have q1 := (hS.frozen (p := ⟨b, 2, none⟩) hlt hbS).trans f2
      go_wp2_with fail
      go_returns
      exact ⟨rfl, takeQ_err HW.out hbS hgS HE.out hR hS⟩
set_option maxHeartbeats 400000 in
theorem take_mid (hw : IsR w b g bs pos 0) (hc : pos < bs.length) (hbS : b ∉ S) (hgS : g ∉ S) (hn : ev = 0 → pos + n ≤ bs.length) (hcf : ∀ (l : Value) (w : World), Sem.run Tryz.prog (callFunc f (#[l] ++ cap)) w = .ok (.enter f (#[l] ++ cap)) w)
    (hform : Calls Tryz.prog f (#[.slice (some ⟨g, pos, none⟩) (bs.length - pos) (bs.length - pos)] ++ cap) w.drew (GivesR n ev S R w.drew)) :
    Calls Tryz.prog 86 #[.pointer (some ⟨b, 0, none⟩), .func (.func f) #[] cap] w fun e w' => e = .returned (.tuple #[]) ∧ TakeQ b g pos n ev bs S R w w' := by
  obtain ⟨hlt, hlg, hbg, hpos, hlen, c0, c1, c2, f1, f2, _⟩ := hw.cells
  have HW := hid hw
  have HN := hid hn
  have HF := hid hform
  clear hw hn hform
  have hc1 : ¬ bs.length = pos := by omega
  have hc2 : (pos : Int) ≤ (bs.length : Int) := by omega
  have hc3 : (0 : Int) ≤ (pos : Int) := by omega
  by_cases he : ev = 0
  · subst he
    have hn0 := HN.out rfl
    go_enter Tryz.func86, Tryz.ntmps86
    go_wp2_with fail
    go_region_with (((with_reducible refine HF.out.mono ?_); rintro e w1 ⟨rfl, hR, hS⟩))
    all_goals
      have k1 := (hS.cell (p := ⟨b, 1, none⟩) hlt hbS).trans c1
      have q1 := (hS.frozen (p := ⟨b, 1, none⟩) hlt hbS).trans f1
      go_wp2_with fail
      go_returns
      exact ⟨rfl, takeQ_ok HW.out hbS hgS hn0 hR hS (by omega)⟩
  · have HE : Hid (ev ≠ 0) := he
    have hb : (ev != 0) = true := by simpa using he
    clear he
    go_enter Tryz.func86, Tryz.ntmps86
    go_wp2_with fail
    go_region_with (((with_reducible refine HF.out.mono ?_); rintro e w1 ⟨rfl, hR, hS⟩))
    all_goals
      have k1 := (hS.cell (p := ⟨b, 2, none⟩) hlt hbS).trans c2
      have q1 := (hS.frozen (p := ⟨b, 2, none⟩) hlt hbS).trans f2
      go_wp2_with fail
      go_returns
      exact ⟨rfl, takeQ_err HW.out hbS hgS HE.out hR hS⟩
theorem take_both (hw : IsR w b g bs pos 0) (hbS : b ∉ S) (hgS : g ∉ S) (hn : pos + n ≤ bs.length) (hcf : ∀ (l : Value) (w : World), Sem.run Tryz.prog (callFunc f (#[l] ++ cap)) w = .ok (.enter f (#[l] ++ cap)) w)
    (hform : ∀ o c, (bs.drop pos).length ≤ c ∧ c ≤ 140737488355328 → Rd w.drew (some ⟨g, o, none⟩) (bs.drop pos) → Calls Tryz.prog f (#[.slice (some ⟨g, o, none⟩) (bs.drop pos).length c] ++ cap) w.drew (GivesR n ev S R w.drew)) :
    Calls Tryz.prog 86 #[.pointer (some ⟨b, 0, none⟩), .func (.func f) #[] cap] w fun e w' => e = .returned (.tuple #[]) ∧ TakeQ b g pos n ev bs S R w w' := by
  obtain ⟨_, _, _, hpos, hlen, _, _, _, _, _, hrd⟩ := hw.cells
  by_cases hc : pos = bs.length
  · have h := hform 0 0 ⟨by simp; omega, by omega⟩ (Or.inl (by simp; omega))
    rw [show (bs.drop pos).length = 0 by simp; omega] at h
    exact take_end b g pos n ev bs S R f cap w hw hc hbS hgS (fun _ => hn) hcf h
  · have h0 := hrd.drop pos
    rw [Nat.zero_add] at h0
    have h := hform pos (bs.length - pos) ⟨by simp, by omega⟩ h0
    rw [show (bs.drop pos).length = bs.length - pos by simp] at h
    exact take_mid b g pos n ev bs S R f cap w hw (by omega) hbS hgS (fun _ => hn) hcf h
end
end
section
open Go.RowKit
set_option maxRecDepth 100000
/-- The number that bytes say, the lowest first. -/
def leV : List Int → Int
  | [] => 0
  | z :: zs => z + 256 * leV zs
theorem leV_snoc (l : List Int) (z : Int) : leV (l ++ [z]) = leV l + z * 2 ^ (8 * l.length) := by
  induction l with
  | nil => simp [leV]
  | cons a l ih =>
    have e : (2 : Int) ^ (8 * (l.length + 1)) = 2 ^ (8 * l.length) * 256 := by rw [Nat.mul_add, Int.pow_add]; rfl
    simp only [List.cons_append, leV, ih, List.length_cons, e]
    generalize (2 : Int) ^ (8 * l.length) = q
    rw [Int.mul_add, ← Int.mul_assoc z q 256, Int.mul_comm (z * q) 256]
    omega
theorem leV_bd (l : List Int) (h : ∀ z ∈ l, 0 ≤ z ∧ z < 256) : 0 ≤ leV l ∧ leV l < 2 ^ (8 * l.length) := by
  induction l with
  | nil => simp [leV]
  | cons a l ih =>
    have e : (2 : Int) ^ (8 * (l.length + 1)) = 2 ^ (8 * l.length) * 256 := by rw [Nat.mul_add, Int.pow_add]; rfl
    have h1 := ih (fun z hz => h z (by simp [hz]))
    have h2 := h a (by simp)
    simp only [leV, List.length_cons, e]
    generalize (2 : Int) ^ (8 * l.length) = q at *
    omega
theorem or_shift (a x : Int) (j : Nat) (hj : j < 8) (h0 : 0 ≤ a) (ha : a < 2 ^ (8 * j)) (hx0 : 0 ≤ x) (hx : x < 256) :
    bits .or .u64 a (IntKind.u64.wrap (x * 2 ^ (8 * j))) = a + x * 2 ^ (8 * j) := by
  obtain ⟨n, rfl⟩ := Int.eq_ofNat_of_zero_le h0
  obtain ⟨y, rfl⟩ := Int.eq_ofNat_of_zero_le hx0
  have hq : (2 : Nat) ^ (8 * j) ≤ 2 ^ 56 := Nat.pow_le_pow_right (by decide) (by omega)
  have ec : ((2 : Int) ^ (8 * j)) = ((2 ^ (8 * j) : Nat) : Int) := by simp
  rw [ec] at ha ⊢
  have hn : n < 2 ^ (8 * j) := by omega
  have hm : y * 2 ^ (8 * j) ≤ 255 * 2 ^ 56 := Nat.mul_le_mul (by omega) hq
  have hp : ((y : Int) * ((2 ^ (8 * j) : Nat) : Int)) = ((y * 2 ^ (8 * j) : Nat) : Int) := by simp
  rw [hp, IntWalk.u64_in _ (by omega), u64_or_nat n _ (by omega) (by omega)]
  have := Nat.two_pow_add_eq_or_of_lt hn y
  rw [Nat.mul_comm y, Nat.or_comm, ← this]
  omega
set_option maxHeartbeats 400000 in
theorem value_any (p : Option Addr) (c : Nat) (zs : List Int) (hz : ∀ z ∈ zs, 0 ≤ z ∧ z < 256) (hl : zs.length ≤ 8) (w : World) (hrd : Rd w p zs) :
    Calls Tryz.prog 88 #[.slice p zs.length c] w fun e w' => e = .returned (.int .u64 (leV zs)) ∧ Frm [] w w' := by
  go_enter Tryz.func88, Tryz.ntmps88
  go_wp2_with fail
  have HR : Hid (∀ i, i < zs.length → ∃ g o, p = some ⟨g, o, none⟩ ∧ w.cell? ⟨g, o + i, none⟩ = some (.int .u8 (zs.getD i 0))) := by
    intro i hi
    rcases hrd with h | ⟨g, o, h1, h2⟩
    · subst h; simp at hi
    · exact ⟨g, o, h1, h2 i hi⟩
  have HZ := hid hz
  clear hrd hz
  go_loopw [3, 8] (fun v i wr => ∃ j : Nat, j ≤ zs.length ∧ i = .int .i64 j ∧ v = .int .u64 (leV (zs.take j)) ∧ Hid (Frm [] w wr)) (fun _ i _ => zs.length - (intOf i).toNat)
  case atStart => exact ⟨0, Nat.zero_le _, rfl, rfl, Frm.refl _ _⟩
  case round =>
    obtain ⟨j, hj, rfl, rfl, hfr⟩ := hrel
    by_cases hlt : j < zs.length
    · obtain ⟨g, o, rfl, hc⟩ := HR.out j hlt
      have hx := HZ.out (zs.getD j 0) (by simp [List.getD, hlt])
      generalize hzj : zs.getD j 0 = x at hc hx
      have HZJ := hid hzj
      clear hzj
      obtain ⟨hx0, hx1⟩ := hx
      have hc' := (hfr.out.cell (p := ⟨g, o + j, none⟩) (World.block_lt_of_cell? w _ hc) (by simp)).trans hc
      have HB := hid (leV_bd (zs.take j) (fun z hz => HZ.out z (List.mem_of_mem_take hz)))
      go_wp2_with fail
      go_roundw
      case rel =>
        refine ⟨j + 1, by omega, by go_num, ?_, hfr⟩
        have e1 : (zs.take j).length = j := by simp; omega
        have e2 := HB.out
        rw [e1] at e2
        rw [or_shift _ x j (by omega) e2.1 e2.2 hx0 hx1]
        have e3 : zs.take (j + 1) = zs.take j ++ [x] := by
          rw [List.take_succ_eq_append_getElem hlt, ← HZJ.out]; simp [List.getD, hlt]
        rw [e3, leV_snoc, e1]
      case measure => simp [intOf]; omega
    · obtain rfl : j = zs.length := by omega
      go_wp2_with fail
      go_ret
      exact ⟨congrArg (fun l => Ending.returned (Value.int .u64 (leV l))) List.take_length, hfr.out⟩
end
section
open Go.RowKit
set_option maxRecDepth 100000
/-- What stands in a captured variable. -/
def Holds (y : Nat) (v : Value) (w : World) : Prop := w.cell? ⟨y, 0, none⟩ = some v
theorem holds_set {w : World} {y : Nat} {u : Value} (h : w.cell? ⟨y, 0, none⟩ = some u) (v : Value) : Holds y v (w.setCell ⟨y, 0, none⟩ v) := by
  exact World.cell?_setCell_same _ _ _ h
theorem Holds.kept {w w' : World} {y : Nat} {v : Value} {S : List Nat} (h : Holds y v w) (hf : Frm S w w') (hn : y ∉ S) : w'.cell? ⟨y, 0, none⟩ = some v :=
  (hf.cell (p := ⟨y, 0, none⟩) (World.block_lt_of_cell? w _ h) hn).trans h
/-- A number's reading: the number, how many bytes, the error. -/
def numT (ls : List Int) (k : Int) : Int × Nat × Int := if k < 1 ∨ 8 < k then (0, 0, 1) else if ls.length < k then (0, 0, 10) else (leV (ls.take k.toNat), k.toNat, 0)
set_option maxHeartbeats 400000 in
theorem num1R_any (x y g o c : Nat) (k : Int) (ls : List Int) (hb : ∀ z ∈ ls, 0 ≤ z ∧ z < 256) (w : World) (hrd : Rd w (some ⟨g, o, none⟩) ls) (hc : ls.length ≤ c) (_hc2 : c ≤ 140737488355328) (hxy : x ≠ y)
    (hk : -9223372036854775808 ≤ k) (hk2 : k ≤ 9223372036854775807) (hx : w.cell? ⟨x, 0, none⟩ = some (.int .i64 k)) (hy : w.cell? ⟨y, 0, none⟩ = some (.int .u64 0)) (hyf : w.frozen? ⟨y, 0, none⟩ = false) :
    Calls Tryz.prog 87 #[.slice (some ⟨g, o, none⟩) ls.length c, .pointer (some ⟨x, 0, none⟩), .pointer (some ⟨y, 0, none⟩)] w (GivesR (numT ls k).2.1 (numT ls k).2.2 [y] (Holds y (.int .u64 (numT ls k).1)) w) := by
  by_cases h1 : k < 1 ∨ 8 < k
  · rw [show numT ls k = (0, 0, 1) by unfold numT; rw [if_pos h1]]
    have HY := hid hy
    by_cases h2 : k < 1
    · go_enter Tryz.func87, Tryz.ntmps87
      go_wp2_with fail
      go_returns
      exact ⟨rfl, HY.out, Frm.refl _ _⟩
    · go_enter Tryz.func87, Tryz.ntmps87
      go_wp2_with fail
      go_returns
      exact ⟨rfl, HY.out, Frm.refl _ _⟩
  · obtain ⟨j, rfl⟩ : ∃ j : Nat, k = (j : Int) := ⟨k.toNat, by omega⟩
    have hj1 : 1 ≤ j := by omega
    have hj8 : j ≤ 8 := by omega
    by_cases h2 : ls.length < j
    · rw [show numT ls j = (0, 0, 10) by unfold numT; rw [if_neg h1, if_pos (by omega)]]
      have HY := hid hy
      clear h1
      go_enter Tryz.func87, Tryz.ntmps87
      go_wp2_with fail
      go_returns
      exact ⟨rfl, HY.out, Frm.refl _ _⟩
    · rw [show numT ls j = (leV (ls.take j), j, 0) by unfold numT; rw [if_neg h1, if_neg (by omega)]; simp]
      have HV := hid (fun w' (h : Rd w' (some ⟨g, o, none⟩) ls) => value_any (some ⟨g, o, none⟩) c (ls.take j) (fun z hz => hb z (List.mem_of_mem_take hz)) (by simp; omega) w' (h.take j))
      rw [show (ls.take j).length = j by simp; omega] at HV
      have HB := hid hb
      have HRD := hid hrd
      have hyl := World.block_lt_of_cell? w _ hy
      have hxl := World.block_lt_of_cell? w _ hx
      clear h1 hb hrd
      go_enter Tryz.func87, Tryz.ntmps87
      go_wp2_with fail
      refine (HV.out w HRD.out).mono ?_
      rintro e w1 ⟨rfl, hf⟩
      have k1 := (hf.cell (p := ⟨x, 0, none⟩) hxl (by simp)).trans hx
      have k2 := (hf.cell (p := ⟨y, 0, none⟩) hyl (by simp)).trans hy
      have k3 := (hf.frozen (p := ⟨y, 0, none⟩) hyl (by simp)).trans hyf
      have HK := hid k2
      go_wp2_with fail
      go_returns
      refine ⟨rfl, ?_, (hf.mono (by simp)).trans ((Frm.refl _ _).setCell _ _ (by simp)) (fun i hi _ => hi)⟩
      exact holds_set HK.out _
/-- What a reading call makes of a reader: the answer, the place, the error. -/
def readS {α : Type} (z : α) (pos : Nat) (err : Int) (r : α × Nat × Int) : α × Nat × Int :=
  if err ≠ 0 then (z, pos, err) else if r.2.2 = 0 then (r.1, pos + r.2.1, 0) else (r.1, pos, r.2.2)
theorem readS_ok {α : Type} (z : α) (pos : Nat) (r : α × Nat × Int) : readS z pos 0 r = (r.1, (if r.2.2 = 0 then pos + r.2.1 else pos), r.2.2) := by
  unfold readS
  by_cases h : r.2.2 = 0
  · simp [h]
  · simp [h]
/-- Two steps one behind the other: a captured variable's block is a new one. -/
theorem two_steps {w W w1 w' : World} {b y : Nat} (hF : Frm [] w W) (h2 : Frm [y] W w1) (h3 : Frm [b] w1 w') (hy : w.heap.size ≤ y) : Frm [b] w w' :=
  ((hF.mono (T := [b]) (by simp)).trans h2 (by intro i hi hlt; simp at hi; omega)).trans h3 (fun i hi _ => hi)
theorem numT_len (ls : List Int) (k : Int) : (numT ls k).2.1 ≤ ls.length := by
  unfold numT
  split
  · simp
  · split
    · simp
    · simp; omega
set_option maxHeartbeats 400000 in
theorem numR_any (b g pos : Nat) (bs : List Int) (hb : ∀ z ∈ bs, 0 ≤ z ∧ z < 256) (err k : Int) (w : World) (hw : IsR w b g bs pos err) (hk : -9223372036854775808 ≤ k) (hk2 : k ≤ 9223372036854775807) :
    Calls Tryz.prog 42 #[.pointer (some ⟨b, 0, none⟩), .int .i64 k] w fun e w' => e = .returned (.int .u64 (readS 0 pos err (numT (bs.drop pos) k)).1) ∧
      IsR w' b g bs (readS 0 pos err (numT (bs.drop pos) k)).2.1 (readS 0 pos err (numT (bs.drop pos) k)).2.2 ∧ Frm [b] w w' := by
  obtain ⟨hlt, hlg, hbg, hpos, hlen, _⟩ := hw.cells
  have HW := hid hw
  have HB := hid hb
  obtain ⟨r, hr⟩ : ∃ r, numT (bs.drop pos) k = r := ⟨_, rfl⟩
  have HR := hid hr
  rw [hr]
  clear hw hb hr
  by_cases he : err = 0
  · subst he
    go_enter Tryz.func42, Tryz.ntmps42
    go_wp2_with fail
    have hF : Frm [] w ((w.alloc (Obj.cells #[Value.int IntKind.i64 k] 3)).alloc (Obj.cells #[Value.int IntKind.u64 0] 27)) := ((Frm.refl _ _).alloc _).alloc _
    obtain ⟨W, hWd⟩ : ∃ W, W = ((w.alloc (Obj.cells #[Value.int IntKind.i64 k] 3)).alloc (Obj.cells #[Value.int IntKind.u64 0] 27)) := ⟨_, rfl⟩
    have hx : W.cell? ⟨w.heap.size, 0, none⟩ = some (.int .i64 k) := by subst hWd; simp
    have hy : W.cell? ⟨w.heap.size + 1, 0, none⟩ = some (.int .u64 0) := by subst hWd; simp
    have hyf : W.frozen? ⟨w.heap.size + 1, 0, none⟩ = false := by subst hWd; simp
    rw [← hWd] at hF ⊢
    have hW0 := HW.out.kept hF (by simp) (by simp)
    refine (take_both b g pos r.2.1 r.2.2 bs [w.heap.size + 1] (Holds (w.heap.size + 1) (.int .u64 r.1)) 87 _ W hW0 (by simp; omega) (by simp; omega) (by have := numT_len (bs.drop pos) k; rw [HR.out] at this; simp at this; omega) (fun l w => callable Tryz.func87 (by kernel_rfl) (by kernel_rfl) _ _) ?_).mono ?_
    · intro o c hc hrd
      have := num1R_any w.heap.size (w.heap.size + 1) g o c k (bs.drop pos) (fun z hz => HB.out z (List.mem_of_mem_drop hz)) W.drew hrd hc.1 hc.2 (by omega) hk hk2 hx hy hyf
      rw [HR.out] at this
      exact this
    rintro e w' ⟨rfl, w1, h1, h2, h3, h4⟩
    have hv := h1.kept h3 (by simp; omega)
    go_wp2_with fail
    go_returns
    rw [readS_ok]
    exact ⟨rfl, h4, two_steps hF h2 h3 (by omega)⟩
  · have HE : Hid (err ≠ 0) := he
    clear he
    go_enter Tryz.func42, Tryz.ntmps42
    go_wp2_with fail
    have hF : Frm [] w ((w.alloc (Obj.cells #[Value.int IntKind.i64 k] 3)).alloc (Obj.cells #[Value.int IntKind.u64 0] 27)) := ((Frm.refl _ _).alloc _).alloc _
    refine (take_stop b g pos err bs _ _ _ (HW.out.kept hF (by simp) (by simp)) HE.out).mono ?_
    rintro e w' ⟨rfl, rfl⟩
    go_wp2_with fail
    go_returns
    unfold readS
    rw [if_pos HE.out]
    exact ⟨rfl, HW.out.kept hF (by simp) (by simp), hF.mono (by simp)⟩
end
section
open Go.RowKit
set_option maxRecDepth 100000
/-- In a captured variable stands a row of bytes of its own, new since w. -/
def HoldsB (y : Nat) (zs : List Int) (m : Nat) (w1 : World) : Prop := ∃ p c, Holds y (.slice p zs.length c) w1 ∧ Own w1 5 (.slice p zs.length c) zs ∧ ∀ k ∈ blk p, m ≤ k
/-- Bytes' reading. -/
def bytesT (ls : List Int) (k : Int) : List Int × Nat × Int := if k < 0 then ([], 0, 1) else if ls.length < k then ([], 0, 10) else (ls.take k.toNat, k.toNat, 0)
theorem heap_alloc_at (w : World) (o : Obj) {k : Nat} (h : w.heap.size = k) : (w.alloc o).heap[k]? = some o := by subst h; exact heap_alloc_new _ _
theorem bytesT_len (ls : List Int) (k : Int) : (bytesT ls k).2.1 ≤ ls.length := by
  unfold bytesT
  split
  · simp
  · split
    · simp
    · simp; omega
theorem holdsB_nil {y m : Nat} {w : World} (h : Holds y (.slice none 0 0) w) : HoldsB y [] m w := ⟨none, 0, h, Own.nil _ _, by simp [blk]⟩
set_option maxHeartbeats 400000 in
theorem bytes1R_any (x y g o c : Nat) (k : Int) (ls : List Int) (w : World) (hrd : Rd w (some ⟨g, o, none⟩) ls) (hc : ls.length ≤ c) (hc2 : c ≤ 140737488355328) (hxy : x ≠ y) (hyg : y ≠ g)
    (hk : -9223372036854775808 ≤ k) (hk2 : k ≤ 9223372036854775807) (hx : w.cell? ⟨x, 0, none⟩ = some (.int .i64 k)) (hy : w.cell? ⟨y, 0, none⟩ = some (.slice none 0 0)) (hyf : w.frozen? ⟨y, 0, none⟩ = false) :
    Calls Tryz.prog 118 #[.slice (some ⟨g, o, none⟩) ls.length c, .pointer (some ⟨x, 0, none⟩), .pointer (some ⟨y, 0, none⟩)] w (GivesR (bytesT ls k).2.1 (bytesT ls k).2.2 [y] (HoldsB y (bytesT ls k).1 w.heap.size) w) := by
  have HY := hid (holdsB_nil (m := w.heap.size) hy)
  by_cases h1 : k < 0
  · rw [show bytesT ls k = ([], 0, 1) by unfold bytesT; rw [if_pos h1]]
    go_enter Tryz.func118, Tryz.ntmps118
    go_wp2_with fail
    go_returns
    exact ⟨rfl, HY.out, Frm.refl _ _⟩
  · obtain ⟨j, rfl⟩ : ∃ j : Nat, k = (j : Int) := ⟨k.toNat, by omega⟩
    by_cases h2 : ls.length < j
    · rw [show bytesT ls j = ([], 0, 10) by unfold bytesT; rw [if_neg h1, if_pos (by omega)]]
      go_enter Tryz.func118, Tryz.ntmps118
      go_wp2_with fail
      go_returns
      exact ⟨rfl, HY.out, Frm.refl _ _⟩
    · rw [show bytesT ls j = (ls.take j, j, 0) by unfold bytesT; rw [if_neg h1, if_neg (by omega)]; simp]
      by_cases h3 : j = 0
      · subst h3
        go_enter Tryz.func118, Tryz.ntmps118
        go_wp2_with fail
        go_returns
        exact ⟨rfl, HY.out, Frm.refl _ _⟩
      · have hj : 0 < j := by omega
        have hmk := run_make_row' (P := Tryz.prog) 24 5 (.int .u8 0) 1 Tryz.underlying24 infoE rfl .i64 .i64 j (by omega) (by omega)
        have hyl := World.block_lt_of_cell? w _ hy
        have hxl := World.block_lt_of_cell? w _ hx
        have HRD := hid hrd
        clear h1 h3 hrd
        have HG : Frm [y] w ((w.setCell ⟨y, 0, none⟩ (.slice (some ⟨w.heap.size, 0, none⟩) j j)).alloc (.cells (madeCells #[Value.int IntKind.u8 0] j) 5)) := ((Frm.refl _ _).setCell _ _ (by simp)).alloc _
        have hrd2 := HRD.out.kept HG (by intro k hk; simp [blk] at hk ⊢; omega)
        have hh := heap_alloc_at (w.setCell ⟨y, 0, none⟩ (.slice (some ⟨w.heap.size, 0, none⟩) j j)) (.cells (madeCells #[Value.int IntKind.u8 0] j) 5) (World.size_setCell _ _ _)
        have HS := holds_set hy (.slice (some ⟨w.heap.size, 0, none⟩) j j)
        have HH := hid hh
        have HR2 := hid hrd2
        clear hh hrd2
        go_enter Tryz.func118, Tryz.ntmps118
        go_wp2_with (refine wpList_copyB rfl _ _ 24 rfl 5 Tryz.underlying24 infoE w.heap.size j j (madeCells #[Value.int IntKind.u8 0] j) rfl HH.out (size_madeCells _ _) (some ⟨g, o, none⟩) ls.length c ls rfl rfl HR2.out (by omega) ?_)
        intro w' hb hf
        have HB := hid hb
        clear hb
        have k1 := (hf.cell (p := ⟨x, 0, none⟩) (by simpa [World.setCell] using Nat.lt_succ_of_lt hxl) (by simp; omega)).trans ((HG.cell (p := ⟨x, 0, none⟩) hxl (by simp; omega)).trans hx)
        go_wp2_with fail
        go_returns
        have HS2 : Holds y (.slice (some ⟨w.heap.size, 0, none⟩) j j) ((w.setCell ⟨y, 0, none⟩ (.slice (some ⟨w.heap.size, 0, none⟩) j j)).alloc (.cells (madeCells #[Value.int IntKind.u8 0] j) 5)) := HS.kept ((Frm.refl [] _).alloc _) (by simp)
        have e1 : (ls.take j).length = j := by simp; omega
        refine ⟨rfl, ⟨some ⟨w.heap.size, 0, none⟩, j, ?_, own_of_block' HB.out (by rw [e1]; unfold maxLen; omega) e1, by simp [blk]⟩, HG.trans hf (by simp)⟩
        rw [e1]
        exact HS2.kept hf (by simp; omega)
set_option maxHeartbeats 400000 in
theorem bytesR_any (b g pos : Nat) (bs : List Int) (err k : Int) (w : World) (hw : IsR w b g bs pos err) (hk : -9223372036854775808 ≤ k) (hk2 : k ≤ 9223372036854775807) :
    Calls Tryz.prog 100 #[.pointer (some ⟨b, 0, none⟩), .int .i64 k] w fun e w' => ∃ p n c, e = .returned (.slice p n c) ∧ n = (readS [] pos err (bytesT (bs.drop pos) k)).1.length ∧ Own w' 5 (.slice p n c) (readS [] pos err (bytesT (bs.drop pos) k)).1 ∧ (∀ k ∈ blk p, w.heap.size ≤ k) ∧
      IsR w' b g bs (readS [] pos err (bytesT (bs.drop pos) k)).2.1 (readS [] pos err (bytesT (bs.drop pos) k)).2.2 ∧ Frm [b] w w' := by
  obtain ⟨hlt, hlg, hbg, hpos, hlen, _⟩ := hw.cells
  have HW := hid hw
  obtain ⟨r, hr⟩ : ∃ r, bytesT (bs.drop pos) k = r := ⟨_, rfl⟩
  have HR := hid hr
  rw [hr]
  clear hw hr
  by_cases he : err = 0
  · subst he
    go_enter Tryz.func100, Tryz.ntmps100
    go_wp2_with fail
    have hF : Frm [] w ((w.alloc (Obj.cells #[Value.int IntKind.i64 k] 3)).alloc (Obj.cells #[Value.slice none 0 0] 24)) := ((Frm.refl _ _).alloc _).alloc _
    obtain ⟨W, hWd⟩ : ∃ W, W = ((w.alloc (Obj.cells #[Value.int IntKind.i64 k] 3)).alloc (Obj.cells #[Value.slice none 0 0] 24)) := ⟨_, rfl⟩
    have hx : W.cell? ⟨w.heap.size, 0, none⟩ = some (.int .i64 k) := by subst hWd; simp
    have hy : W.cell? ⟨w.heap.size + 1, 0, none⟩ = some (.slice none 0 0) := by subst hWd; simp
    have hyf : W.frozen? ⟨w.heap.size + 1, 0, none⟩ = false := by subst hWd; simp
    have hWs : w.heap.size ≤ W.heap.size := by subst hWd; simp; omega
    rw [← hWd] at hF ⊢
    have hW0 := HW.out.kept hF (by simp) (by simp)
    refine (take_both b g pos r.2.1 r.2.2 bs [w.heap.size + 1] (HoldsB (w.heap.size + 1) r.1 W.heap.size) 118 _ W hW0 (by simp; omega) (by simp; omega) (by have := bytesT_len (bs.drop pos) k; rw [HR.out] at this; simp at this; omega) (fun l w => callable Tryz.func118 (by kernel_rfl) (by kernel_rfl) _ _) ?_).mono ?_
    · intro o c hc hrd
      have := bytes1R_any w.heap.size (w.heap.size + 1) g o c k (bs.drop pos) W.drew hrd hc.1 hc.2 (by omega) (by omega) hk hk2 hx hy hyf
      rw [HR.out] at this
      exact this
    rintro e w' ⟨rfl, w1, ⟨p, c, h1, ho, hfr⟩, h2, h3, h4⟩
    have hv := h1.kept h3 (by simp; omega)
    have hbp : ∀ k ∈ blk p, k ∉ [b] := by intro k hk; simp; have := hfr k hk; have := hF.size; omega
    have HO := hid (ho.kept h3 (by rw [own_blk]; exact hbp))
    have HFR := hid hfr
    clear hfr ho
    go_wp2_with fail
    go_returns
    rw [readS_ok]
    exact ⟨p, r.1.length, c, rfl, rfl, HO.out, fun k hk => Nat.le_trans hWs (HFR.out k hk), h4, two_steps hF h2 h3 (by omega)⟩
  · have HE : Hid (err ≠ 0) := he
    clear he
    go_enter Tryz.func100, Tryz.ntmps100
    go_wp2_with fail
    have hF : Frm [] w ((w.alloc (Obj.cells #[Value.int IntKind.i64 k] 3)).alloc (Obj.cells #[Value.slice none 0 0] 24)) := ((Frm.refl _ _).alloc _).alloc _
    refine (take_stop b g pos err bs _ _ _ (HW.out.kept hF (by simp) (by simp)) HE.out).mono ?_
    rintro e w' ⟨rfl, rfl⟩
    go_wp2_with fail
    go_returns
    unfold readS
    rw [if_pos HE.out]
    exact ⟨none, 0, 0, rfl, rfl, Own.nil _ _, by simp [blk], HW.out.kept hF (by simp) (by simp), hF.mono (by simp)⟩
end
end Go.Proofs.YtajfjkfnmmfhmaaGreatDoor
