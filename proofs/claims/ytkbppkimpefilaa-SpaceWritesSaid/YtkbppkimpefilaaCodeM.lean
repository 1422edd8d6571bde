/- Contracts of package code's writer's methods. -/
import Derived.Test.YtkbppkimpefilaaCodeW
import Derived.Deep.RegionHeld3
namespace Go.Proofs.Ytkbppkimpefilaa
open Go.RowKit
set_option maxRecDepth 100000

/-- A number's form, or its error. -/
def numF (n k : Int) : List Int × Int := if k < 1 ∨ 8 < k then ([], 1) else if k < 8 ∧ n / 2 ^ (8 * k.toNat) ≠ 0 then ([], 11) else (le n k.toNat, 0)

theorem callable {P : Program} {f : FuncId} {fn : Func} (h : P.funcs[f]? = some fn) (h1 : (fn.name == "runtime.NumGoroutine") = false) (h2 : fn.body.isNone = false) (cap : Array Value) (w : World) : Sem.run P (callFunc f cap) w = .ok (.enter f cap) w := by
  have e1 : ¬ (fn.name = "runtime.NumGoroutine") := by simpa using h1
  have e2 : ¬ fn.body = none := by intro h; simp [h] at h2
  simp [callFunc, h, e1, e2]
theorem gives_err {w w1 : World} {p : Option Addr} {n c : Nat} {ev : Int} (hf : Frm [] w w1) (hne : ev ≠ 0) : Gives [] ev w (.returned (.tuple #[.slice p n c, .int .i64 ev])) w1 := ⟨p, n, c, rfl, hf, fun h => absurd h hne⟩
theorem gives_ok {w w1 : World} {p : Option Addr} {n c : Nat} {ns : List Int} (hf : Frm [] w w1) (hn : n = ns.length) (hc : ns = [] → p = none → c = 0) (hrd : Rd w1 p ns) : Gives ns 0 w (.returned (.tuple #[.slice p n c, .int .i64 0])) w1 := ⟨p, n, c, rfl, hf, fun _ => ⟨hn, hc, hrd⟩⟩
set_option maxHeartbeats 400000 in
theorem num1_any (x y : Nat) (n k : Int) (hn : 0 ≤ n) (hn2 : n < 18446744073709551616) (hk : -9223372036854775808 ≤ k) (hk2 : k ≤ 9223372036854775807) (w : World) (hx : w.cell? ⟨x, 0, none⟩ = some (.int .i64 k)) (hy : w.cell? ⟨y, 0, none⟩ = some (.int .u64 n)) :
    Calls Try.prog 83 #[.pointer (some ⟨x, 0, none⟩), .pointer (some ⟨y, 0, none⟩)] w (Gives (numF n k).1 (numF n k).2 w) := by
  by_cases h1 : k < 1 ∨ 8 < k
  · rw [show numF n k = ([], 1) by simp [numF, h1]]
    by_cases h2 : k < 1
    · go_enter Try.func83, Try.ntmps83
      go_wp2_with fail
      go_returns
      exact gives_err (Frm.refl _ _) (by decide)
    · go_enter Try.func83, Try.ntmps83
      go_wp2_with fail
      go_returns
      exact gives_err (Frm.refl _ _) (by decide)
  · obtain ⟨j, rfl⟩ : ∃ j : Nat, k = (j : Int) := ⟨k.toNat, by omega⟩
    have hj1 : 1 ≤ j := by omega
    have hj8 : j ≤ 8 := by omega
    have HN := hid (number_any n j hn hn2 hj8)
    clear hk hk2
    have hfin : ∀ w1 : World, w1.heap[w.heap.size]? = some (.cells (bv (le n j)).toArray 5 (0, 0)) → Frm [] w w1 → Gives (le n j) 0 w (.returned (.tuple #[.slice (some ⟨w.heap.size, 0, none⟩) j j, .int .i64 0])) w1 := by
      intro w1 hb hf
      have ho := own_of_block (zs := le n j) hb (by rw [le_length]; unfold maxLen; omega)
      exact gives_ok hf (le_length n j).symm (by simp) ho.rd
    have HFIN := hid hfin
    clear hfin
    by_cases h2 : j < 8
    · by_cases h3 : n / 2 ^ (8 * j) = 0
      · rw [show numF n j = (le n j, 0) by simp [numF, h1, h3]]
        have H3 : (n / 2 ^ (8 * j) != 0) = false := by simp [h3]
        have H4 : (n / 2 ^ (8 * j) == 0) = true := by simp [h3]
        clear h1 h3
        go_enter Try.func83, Try.ntmps83
        go_wp2_with fail
        refine (HN.out _).mono ?_
        rintro e w1 ⟨rfl, hb, hf⟩
        have HB := hid hb
        clear hb
        go_wp2_with fail
        go_returns
        exact HFIN.out w1 HB.out hf
      · rw [show numF n j = ([], 11) by simp [numF, h1, h3]; omega]
        have H3 : (n / 2 ^ (8 * j) != 0) = true := by simp [h3]
        have H4 : (n / 2 ^ (8 * j) == 0) = false := by simp [h3]
        clear h1 h3
        go_enter Try.func83, Try.ntmps83
        go_wp2_with fail
        go_returns
        exact gives_err (Frm.refl _ _) (by decide)
    · rw [show numF n j = (le n j, 0) by simp [numF, h1]; omega]
      clear h1
      go_enter Try.func83, Try.ntmps83
      go_wp2_with fail
      refine (HN.out _).mono ?_
      rintro e w1 ⟨rfl, hb, hf⟩
      have HB := hid hb
      clear hb
      go_wp2_with fail
      go_returns
      exact HFIN.out w1 HB.out hf
set_option maxHeartbeats 400000 in
theorem num_any (b : Nat) (fp : List Nat) (room : Int) (s : List Int × Int) (n k : Int) (w : World) (hw : IsW w b fp room s.1 s.2) (hr0 : 0 ≤ room) (hr1 : room ≤ 2147483647) (hz : (s.1.length : Int) ≤ room)
    (hn : 0 ≤ n) (hn2 : n < 18446744073709551616) (hk : -9223372036854775808 ≤ k) (hk2 : k ≤ 9223372036854775807) :
    Calls Try.prog 47 #[.pointer (some ⟨b, 0, none⟩), .int .u64 n, .int .i64 k] w fun e w' => e = .returned (.tuple #[]) ∧ NowW w b fp room (stepW room s (numF n k)).1 (stepW room s (numF n k)).2 w' := by
  have hl : (numF n k).1.length ≤ 140737488355328 := by unfold numF; split; simp; split; simp; simp only [le_length]; omega
  have HW := hid hw
  go_enter Try.func47, Try.ntmps47
  go_wp2_with fail
  have hF : Frm [] w ((w.alloc (Obj.cells #[Value.int IntKind.u64 n] 63)).alloc (Obj.cells #[Value.int IntKind.i64 k] 3)) := ((Frm.refl _ _).alloc _).alloc _
  refine (lay_any b fp room s (numF n k) 83 _ _ (HW.out.kept hF (by simp)) hr0 hr1 hz hl (callable Try.func83 (by kernel_rfl) (by kernel_rfl) _) (num1_any _ _ n k hn hn2 hk hk2 _ (by simp) (by simp))).mono ?_
  rintro e w' ⟨rfl, hq⟩
  have HQ := hid (hq.after hF)
  clear hq
  go_wp2_with fail
  go_returns
  exact ⟨rfl, HQ.out⟩
def textF (s : ByteArray) : List Int × Int := if 65535 < s.size then ([], 11) else (le s.size 2 ++ tx s, 0)
def padF (room len to : Int) : List Int × Int := if to < len then ([], 11) else if room < to then ([], 12) else (List.replicate (to - len).toNat 0, 0)
set_option maxHeartbeats 400000 in
theorem doneW_err (b : Nat) (fp : List Nat) (room err : Int) (zs : List Int) (w : World) (hw : IsW w b fp room zs err) (he : err ≠ 0) :
    Calls Try.prog 48 #[.pointer (some ⟨b, 0, none⟩)] w fun e w' => e = .returned (.tuple #[.slice none 0 0, .int .i64 err]) ∧ Frm [] w w' := by
  obtain ⟨p, c, hlt, hfp, hnb, hown, c0, c1, c2, f1, f2, hh⟩ := hw.cells
  have hb : (err != 0) = true := by simpa using he
  clear hw hfp hown hnb hh he
  go_enter Try.func48, Try.ntmps48
  go_wp2_with fail
  go_quiet (fail)
  go_wp2_with fail
  go_returns
  exact ⟨rfl, (Frm.refl _ _).drewN _⟩
set_option maxHeartbeats 400000 in
theorem doneW_ok (b : Nat) (fp : List Nat) (room : Int) (zs : List Int) (w : World) (hw : IsW w b fp room zs 0) (hr1 : room ≤ 2147483647) (hz : (zs.length : Int) ≤ room) :
    Calls Try.prog 48 #[.pointer (some ⟨b, 0, none⟩)] w fun e w' => ∃ g, e = .returned (.tuple #[.slice (some ⟨g, 0, none⟩) zs.length zs.length, .int .i64 0]) ∧ w'.heap[g]? = some (.cells (bv zs).toArray 5 (0, 0)) ∧ Frm [] w w' ∧ w.heap.size ≤ g := by
  obtain ⟨p, c, hlt, hfp, hnb, hown, c0, c1, c2, f1, f2, hh⟩ := hw.cells
  have hmk := run_make_row' (P := Try.prog) 25 5 (.int .u8 0) 1 Try.underlying25 infoE rfl .i64 .i64 zs.length (by omega) (by omega)
  clear hw hfp hnb hh
  go_enter Try.func48, Try.ntmps48
  go_wp2_with (refine wpList_copyB rfl _ _ 25 rfl 5 Try.underlying25 infoE w.heap.size zs.length zs.length _ rfl (heap_alloc_new _ _) (size_madeCells _ _) p zs.length c zs rfl rfl (hown.rd.alloc _) (Nat.le_refl _) ?_)
  intro w' hb hf
  go_wp2_with fail
  go_returns
  refine ⟨w.heap.size, rfl, ?_, ?_, Nat.le_refl _⟩
  · simpa using hb
  · exact ((Frm.refl [] w).alloc _).trans hf (by simp)
end Go.Proofs.Ytkbppkimpefilaa
