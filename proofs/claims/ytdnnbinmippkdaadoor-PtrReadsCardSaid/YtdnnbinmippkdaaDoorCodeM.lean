/- Contracts of package code's writer's methods. -/
import Derived.Test.YtdnnbinmippkdaaDoorCodeW
import Derived.Deep.RegionHeld3
namespace Go.Proofs.YtdnnbinmippkdaaDoor
open Go.RowKit
set_option maxRecDepth 100000

/-- A number's form, or its error. -/
def numF (n k : Int) : List Int × Int := if k < 1 ∨ 8 < k then ([], 1) else if k < 8 ∧ n / 2 ^ (8 * k.toNat) ≠ 0 then ([], 11) else (le n k.toNat, 0)

theorem callable {P : Program} {f : FuncId} {fn : Func} (h : P.funcs[f]? = some fn) (h1 : (fn.name == "runtime.NumGoroutine") = false) (h2 : fn.body.isNone = false) (cap : Array Value) (w : World) : Sem.run P (callFunc f cap) w = .ok (.enter f cap) w := by
  have e1 : ¬ (fn.name = "runtime.NumGoroutine") := by simpa using h1
  have e2 : ¬ fn.body = none := by intro h; simp [h] at h2
  simp [callFunc, h, e1, e2]
theorem gives_err {w w1 : World} {p : Option Addr} {n c : Nat} {ev : Int} (hf : Frm [] w w1) (hne : ev ≠ 0) : Gives [] ev w (.returned (.tuple #[.slice p n c, .int .i64 ev])) w1 := ⟨p, n, c, rfl, hf, fun h => absurd h hne⟩
theorem gives_ok {w w1 : World} {p : Option Addr} {n c : Nat} {ns : List Int} (hf : Frm [] w w1) (hn : n = ns.length) (hc : ns = [] → p = none → c = 0) (hrd : Rd w1 p ns) : Gives ns 0 w (.returned (.tuple #[.slice p n c, .int .i64 0])) w1 := ⟨p, n, c, rfl, hf, fun _ => ⟨hn, hc, hrd⟩⟩
set_option maxHeartbeats 400000 in
theorem num1_any (x y : Nat) (n k : Int) (hn : 0 ≤ n) (hn2 : n < 18446744073709551616) (hk : -9223372036854775808 ≤ k) (hk2 : k ≤ 9223372036854775807) (w : World) (hx : w.cell? ⟨x, 0, none⟩ = some (.int .i64 k)) (hy : w.cell? ⟨y, 0, none⟩ = some (.int .u64 n)) :
    Calls Tryd.prog 71 #[.pointer (some ⟨x, 0, none⟩), .pointer (some ⟨y, 0, none⟩)] w (Gives (numF n k).1 (numF n k).2 w) := by
  by_cases h1 : k < 1 ∨ 8 < k
  · rw [show numF n k = ([], 1) by simp [numF, h1]]
    by_cases h2 : k < 1
    · go_enter Tryd.func71, Tryd.ntmps71
      go_wp2_with fail
      go_returns
      exact gives_err (Frm.refl _ _) (by decide)
    · go_enter Tryd.func71, Tryd.ntmps71
      go_wp2_with fail
      go_returns
      exact gives_err (Frm.refl _ _) (by decide)
  · obtain ⟨j, rfl⟩ : ∃ j : Nat, k = (j : Int) := ⟨k.toNat, by omega⟩
    have hj1 : 1 ≤ j := by omega
    have hj8 : j ≤ 8 := by omega
    have HN := hid (number_any n j hn hn2 hj8)
    clear hk hk2
    have hfin : ∀ w1 : World, w1.heap[w.heap.size]? = some (.cells (bv (le n j)).toArray 5 (0, 0)) → Frm [] w w1 → Gives (le n j) 0 w (.returned (.tuple #[.slice (some ⟨w.heap.size, 0, none⟩) j j, .int .i64 0])) w1 := by
      intro w1 hb hf
      have ho := own_of_block (zs := le n j) hb (by rw [le_length]; unfold maxLen; omega)
      exact gives_ok hf (le_length n j).symm (by simp) ho.rd
    have HFIN := hid hfin
    clear hfin
    by_cases h2 : j < 8
    · by_cases h3 : n / 2 ^ (8 * j) = 0
      · rw [show numF n j = (le n j, 0) by simp [numF, h1, h3]]
        have H3 : (n / 2 ^ (8 * j) != 0) = false := by simp [h3]
        have H4 : (n / 2 ^ (8 * j) == 0) = true := by simp [h3]
        clear h1 h3
        go_enter Tryd.func71, Tryd.ntmps71
        go_wp2_with fail
        refine (HN.out _).mono ?_
        rintro e w1 ⟨rfl, hb, hf⟩
        have HB := hid hb
        clear hb
        go_wp2_with fail
        go_returns
        exact HFIN.out w1 HB.out hf
      · rw [show numF n j = ([], 11) by simp [numF, h1, h3]; omega]
        have H3 : (n / 2 ^ (8 * j) != 0) = true := by simp [h3]
        have H4 : (n / 2 ^ (8 * j) == 0) = false := by simp [h3]
        clear h1 h3
        go_enter Tryd.func71, Tryd.ntmps71
        go_wp2_with fail
        go_returns
        exact gives_err (Frm.refl _ _) (by decide)
    · rw [show numF n j = (le n j, 0) by simp [numF, h1]; omega]
      clear h1
      go_enter Tryd.func71, Tryd.ntmps71
      go_wp2_with fail
      refine (HN.out _).mono ?_
      rintro e w1 ⟨rfl, hb, hf⟩
      have HB := hid hb
      clear hb
      go_wp2_with fail
      go_returns
      exact HFIN.out w1 HB.out hf
set_option maxHeartbeats 400000 in
theorem num_any (b : Nat) (fp : List Nat) (room : Int) (s : List Int × Int) (n k : Int) (w : World) (hw : IsW w b fp room s.1 s.2) (hr0 : 0 ≤ room) (hr1 : room ≤ 2147483647) (hz : (s.1.length : Int) ≤ room)
    (hn : 0 ≤ n) (hn2 : n < 18446744073709551616) (hk : -9223372036854775808 ≤ k) (hk2 : k ≤ 9223372036854775807) :
    Calls Tryd.prog 57 #[.pointer (some ⟨b, 0, none⟩), .int .u64 n, .int .i64 k] w fun e w' => e = .returned (.tuple #[]) ∧ NowW w b fp room (stepW room s (numF n k)).1 (stepW room s (numF n k)).2 w' := by
  have hl : (numF n k).1.length ≤ 140737488355328 := by unfold numF; split; simp; split; simp; simp only [le_length]; omega
  have HW := hid hw
  go_enter Tryd.func57, Tryd.ntmps57
  go_wp2_with fail
  have hF : Frm [] w ((w.alloc (Obj.cells #[Value.int IntKind.u64 n] 22)).alloc (Obj.cells #[Value.int IntKind.i64 k] 3)) := ((Frm.refl _ _).alloc _).alloc _
  refine (lay_any b fp room s (numF n k) 71 _ _ (HW.out.kept hF (by simp)) hr0 hr1 hz hl (callable Tryd.func71 (by kernel_rfl) (by kernel_rfl) _) (num1_any _ _ n k hn hn2 hk hk2 _ (by simp) (by simp))).mono ?_
  rintro e w' ⟨rfl, hq⟩
  have HQ := hid (hq.after hF)
  clear hq
  go_wp2_with fail
  go_returns
  exact ⟨rfl, HQ.out⟩
set_option maxHeartbeats 400000 in
theorem bytes1_any (x : Nat) (p : Option Addr) (ns : List Int) (c : Nat) (w : World) (hx : w.cell? ⟨x, 0, none⟩ = some (.slice p ns.length c)) (hc : ns = [] → p = none → c = 0) (hrd : Rd w p ns) :
    Calls Tryd.prog 76 #[.pointer (some ⟨x, 0, none⟩)] w (Gives ns 0 w) := by
  have HC := hid hc
  clear hc
  go_enter Tryd.func76, Tryd.ntmps76
  go_wp2_with fail
  go_returns
  exact gives_ok (Frm.refl _ _) rfl HC.out hrd
set_option maxHeartbeats 400000 in
theorem bytes_any (b : Nat) (fp : List Nat) (room : Int) (s : List Int × Int) (p : Option Addr) (ns : List Int) (c : Nat) (w : World) (hw : IsW w b fp room s.1 s.2) (hr0 : 0 ≤ room) (hr1 : room ≤ 2147483647) (hz : (s.1.length : Int) ≤ room)
    (hl : ns.length ≤ 140737488355328) (hc : ns = [] → p = none → c = 0) (hrd : Rd w p ns) :
    Calls Tryd.prog 61 #[.pointer (some ⟨b, 0, none⟩), .slice p ns.length c] w fun e w' => e = .returned (.tuple #[]) ∧ NowW w b fp room (stepW room s (ns, 0)).1 (stepW room s (ns, 0)).2 w' := by
  have HW := hid hw
  have HC := hid hc
  clear hc
  go_enter Tryd.func61, Tryd.ntmps61
  go_wp2_with fail
  have hF : Frm [] w (w.alloc (Obj.cells #[Value.slice p ns.length c] 28)) := (Frm.refl _ _).alloc _
  refine (lay_any b fp room s (ns, 0) 76 _ _ (HW.out.kept hF (by simp)) hr0 hr1 hz hl (callable Tryd.func76 (by kernel_rfl) (by kernel_rfl) _) (bytes1_any _ p ns c _ (by simp) HC.out (hrd.alloc _))).mono ?_
  rintro e w' ⟨rfl, hq⟩
  have HQ := hid (hq.after hF)
  clear hq
  go_wp2_with fail
  go_returns
  exact ⟨rfl, HQ.out⟩
def textF (s : ByteArray) : List Int × Int := if 65535 < s.size then ([], 11) else (le s.size 2 ++ tx s, 0)
def padF (room len to : Int) : List Int × Int := if to < len then ([], 11) else if room < to then ([], 12) else (List.replicate (to - len).toNat 0, 0)
set_option maxHeartbeats 400000 in
theorem pad1_any (x y b : Nat) (fp : List Nat) (room err : Int) (zs : List Int) (to : Int) (w : World) (hw : IsW w b fp room zs err) (hr0 : 0 ≤ room) (hr1 : room ≤ 2147483647)
    (hx : w.cell? ⟨x, 0, none⟩ = some (.int .i64 to)) (hy : w.cell? ⟨y, 0, none⟩ = some (.pointer (some ⟨b, 0, none⟩))) :
    Calls Tryd.prog 70 #[.pointer (some ⟨x, 0, none⟩), .pointer (some ⟨y, 0, none⟩)] w (Gives (padF room zs.length to).1 (padF room zs.length to).2 w) := by
  obtain ⟨p, c, hlt, hfp, hnb, hown, c0, c1, c2, f1, f2, hh⟩ := hw.cells
  clear hw hfp hown hnb hh
  by_cases h1 : to < zs.length
  · rw [show padF room zs.length to = ([], 11) by unfold padF; rw [if_pos h1]]
    go_enter Tryd.func70, Tryd.ntmps70
    go_wp2_with fail
    go_quiet (fail)
    go_wp2_with fail
    go_returns
    exact gives_err ((Frm.refl _ _).drewN _) (by decide)
  · by_cases h2 : room < to
    · rw [show padF room zs.length to = ([], 12) by unfold padF; rw [if_neg h1, if_pos h2]]
      go_enter Tryd.func70, Tryd.ntmps70
      go_wp2_with fail
      go_quiet (fail)
      go_wp2_with fail
      go_quiet (fail)
      go_wp2_with fail
      go_returns
      exact gives_err (((Frm.refl _ _).drewN _).drewN _) (by decide)
    · rw [show padF room zs.length to = (List.replicate (to - zs.length).toNat 0, 0) by unfold padF; rw [if_neg h1, if_neg h2]]
      obtain ⟨m, hm⟩ : ∃ m : Nat, (to - zs.length).toNat = m := ⟨_, rfl⟩
      have hmk := run_make_row' (P := Tryd.prog) 28 5 (.int .u8 0) 1 Tryd.underlying28 infoE rfl .i64 .i64 m (by omega) (by omega)
      rw [show ((m : Nat) : Int) = IntKind.i64.wrap (to - zs.length) by rw [IntWalk.i64_in _ (by omega)]; omega] at hmk
      rw [hm]
      have HM := hid hm
      clear hm
      go_enter Tryd.func70, Tryd.ntmps70
      go_wp2_with fail
      go_quiet (fail)
      go_wp2_with fail
      go_quiet (fail)
      go_wp2_with fail
      go_region_held3 (fun w' => w'.cell? ⟨x, 0, none⟩ = some (.int .i64 to) ∧ w'.cell? ⟨y, 0, none⟩ = some (.pointer (some ⟨b, 0, none⟩)) ∧ w'.cell? ⟨b, 1, none⟩ = some (.slice p zs.length c)) (go_keep) (fail)
      go_wp2_with fail
      go_returns
      refine gives_ok (((Frm.refl _ _).drewN _).alloc _) (by simp) (by simp) ?_
      refine (own_of_block (E := 5) (zs := List.replicate m 0) ?_ (by rw [List.length_replicate]; have := HM.out; unfold maxLen; omega)).rd
      rw [show w.heap.size = (w.drewN (_ : Nat)).heap.size from rfl, heap_alloc_new]
      congr 2
      apply Array.ext'
      simp [toList_madeCells_one, bv]
set_option maxHeartbeats 400000 in
theorem pad_any (b : Nat) (fp : List Nat) (room : Int) (s : List Int × Int) (to : Int) (w : World) (hw : IsW w b fp room s.1 s.2) (hr0 : 0 ≤ room) (hr1 : room ≤ 2147483647) (hz : (s.1.length : Int) ≤ room) :
    Calls Tryd.prog 55 #[.pointer (some ⟨b, 0, none⟩), .int .i64 to] w fun e w' => e = .returned (.tuple #[]) ∧ NowW w b fp room (stepW room s (padF room s.1.length to)).1 (stepW room s (padF room s.1.length to)).2 w' := by
  have hl : (padF room s.1.length to).1.length ≤ 140737488355328 := by unfold padF; split; simp; split; simp; simp; omega
  have HW := hid hw
  go_enter Tryd.func55, Tryd.ntmps55
  go_wp2_with fail
  have hF : Frm [] w ((w.alloc (Obj.cells #[Value.pointer (some ⟨b, 0, none⟩)] 82)).alloc (Obj.cells #[Value.int IntKind.i64 to] 3)) := ((Frm.refl _ _).alloc _).alloc _
  refine (lay_any b fp room s (padF room s.1.length to) 70 _ _ (HW.out.kept hF (by simp)) hr0 hr1 hz hl (callable Tryd.func70 (by kernel_rfl) (by kernel_rfl) _) (pad1_any _ _ b fp room s.2 s.1 to _ (HW.out.kept hF (by simp)) hr0 hr1 (by simp) (by simp))).mono ?_
  rintro e w' ⟨rfl, hq⟩
  have HQ := hid (hq.after hF)
  clear hq
  go_wp2_with fail
  go_returns
  exact ⟨rfl, HQ.out⟩
set_option maxHeartbeats 400000 in
theorem doneW_err (b : Nat) (fp : List Nat) (room err : Int) (zs : List Int) (w : World) (hw : IsW w b fp room zs err) (he : err ≠ 0) :
    Calls Tryd.prog 56 #[.pointer (some ⟨b, 0, none⟩)] w fun e w' => e = .returned (.tuple #[.slice none 0 0, .int .i64 err]) ∧ Frm [] w w' := by
  obtain ⟨p, c, hlt, hfp, hnb, hown, c0, c1, c2, f1, f2, hh⟩ := hw.cells
  have hb : (err != 0) = true := by simpa using he
  clear hw hfp hown hnb hh he
  go_enter Tryd.func56, Tryd.ntmps56
  go_wp2_with fail
  go_quiet (fail)
  go_wp2_with fail
  go_returns
  exact ⟨rfl, (Frm.refl _ _).drewN _⟩
set_option maxHeartbeats 400000 in
theorem doneW_ok (b : Nat) (fp : List Nat) (room : Int) (zs : List Int) (w : World) (hw : IsW w b fp room zs 0) (hr1 : room ≤ 2147483647) (hz : (zs.length : Int) ≤ room) :
    Calls Tryd.prog 56 #[.pointer (some ⟨b, 0, none⟩)] w fun e w' => ∃ g, e = .returned (.tuple #[.slice (some ⟨g, 0, none⟩) zs.length zs.length, .int .i64 0]) ∧ w'.heap[g]? = some (.cells (bv zs).toArray 5 (0, 0)) ∧ Frm [] w w' ∧ w.heap.size ≤ g := by
  obtain ⟨p, c, hlt, hfp, hnb, hown, c0, c1, c2, f1, f2, hh⟩ := hw.cells
  have hmk := run_make_row' (P := Tryd.prog) 28 5 (.int .u8 0) 1 Tryd.underlying28 infoE rfl .i64 .i64 zs.length (by omega) (by omega)
  clear hw hfp hnb hh
  go_enter Tryd.func56, Tryd.ntmps56
  go_wp2_with (refine wpList_copyB rfl _ _ 28 rfl 5 Tryd.underlying28 infoE w.heap.size zs.length zs.length _ rfl (heap_alloc_new _ _) (size_madeCells _ _) p zs.length c zs rfl rfl (hown.rd.alloc _) (Nat.le_refl _) ?_)
  intro w' hb hf
  go_wp2_with fail
  go_returns
  refine ⟨w.heap.size, rfl, ?_, ?_, Nat.le_refl _⟩
  · simpa using hb
  · exact ((Frm.refl [] w).alloc _).trans hf (by simp)
end Go.Proofs.YtdnnbinmippkdaaDoor
