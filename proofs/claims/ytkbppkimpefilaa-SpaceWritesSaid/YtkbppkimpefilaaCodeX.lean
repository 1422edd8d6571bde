/- Contracts of package code's reader's methods: Text, Pad, Left, Done. -/
import Derived.Test.YtkbppkimpefilaaCodeT
namespace Go.Proofs.Ytkbppkimpefilaa
open Go.RowKit
set_option maxRecDepth 100000

/-- string(b), of bytes that stand somewhere. -/
theorem conv_rd {P : Program} {w : World} (src e dst : TypeId) (hs : P.underlying src = some (.slice e)) (he : P.underlying e = some (.int .u8)) (hd : P.underlying dst = some .string) {g o n : Nat} {zs : List Int} (hrd : Rd w (some ⟨g, o, none⟩) zs) (cap : Nat) (hn : zs.length = n) :
    Sem.run P (convert src dst (.slice (some ⟨g, o, none⟩) n cap)) w = .ok (.string (strOfNums zs)) w := by
  refine run_convert_bytes_arg (P := P) (w := w) src e hs he g o n cap zs hn (fun i hi => ?_) dst hd
  rcases hrd with rfl | ⟨g', o', h, hc⟩
  · simp at hn; omega
  · simp at h; obtain ⟨rfl, rfl⟩ := h; exact hc i (by omega)
/-- A text's reading. -/
def textT (ls : List Int) (most : Int) : List Int × Nat × Int :=
  if ls.length < 2 then ([], 0, 10) else if most < leV (ls.take 2) then ([], 0, 11) else if ls.length < 2 + (leV (ls.take 2)).toNat then ([], 0, 10) else ((ls.drop 2).take (leV (ls.take 2)).toNat, 2 + (leV (ls.take 2)).toNat, 0)
theorem textT_len (ls : List Int) (k : Int) : (textT ls k).2.1 ≤ ls.length := by
  unfold textT
  split
  · simp
  · split
    · simp
    · split
      · simp
      · simp; omega
theorem int_eq {a c : Int} (h : a = c) : Ending.returned (.int .i64 a) = Ending.returned (.int .i64 c) := by rw [h]
theorem tup_eq {a c : Int} {v : Value} (h : a = c) : Ending.returned (.tuple #[.int .i64 a, v]) = Ending.returned (.tuple #[.int .i64 c, v]) := by rw [h]
/-- Noughts' reading: of the rest ls at pos, of so many bytes in all. -/
def padT (ls : List Int) (pos : Nat) (to : Int) : Unit × Nat × Int :=
  if to < pos then ((), 0, 11) else if ((pos + ls.length : Nat) : Int) < to then ((), 0, 10) else if ((ls.take (to - pos).toNat).all (· == 0)) = false then ((), 0, 14) else ((), (to - pos).toNat, 0)
theorem padT_len (ls : List Int) (pos : Nat) (k : Int) : (padT ls pos k).2.1 ≤ ls.length := by
  unfold padT
  split
  · simp
  · split
    · simp
    · split
      · simp
      · simp; omega
set_option maxHeartbeats 400000 in
theorem left_any (b g pos : Nat) (bs : List Int) (err : Int) (w : World) (hw : IsR w b g bs pos err) :
    Calls Try.prog 59 #[.pointer (some ⟨b, 0, none⟩)] w fun e w' => e = .returned (.int .i64 ((bs.length - pos : Nat) : Int)) ∧ ∃ n, w' = w.drewN n := by
  obtain ⟨hlt, hlg, hbg, hpos, hlen, c0, c1, c2, f1, f2, _⟩ := hw.cells
  clear hw
  go_enter Try.func59, Try.ntmps59
  go_wp2_with fail
  go_quiet (fail)
  go_wp2_with fail
  go_returns
  exact ⟨int_eq (by omega), nq, rfl⟩
def doneS (len pos : Nat) (err : Int) : Int := if err = 0 ∧ pos < len then 13 else err
set_option maxHeartbeats 400000 in
theorem doneR_any (b g pos : Nat) (bs : List Int) (err : Int) (w : World) (hw : IsR w b g bs pos err) :
    Calls Try.prog 60 #[.pointer (some ⟨b, 0, none⟩)] w fun e w' => e = .returned (.int .i64 (doneS bs.length pos err)) ∧ ∃ n, w' = w.drewN n := by
  obtain ⟨hlt, hlg, hbg, hpos, hlen, c0, c1, c2, f1, f2, _⟩ := hw.cells
  have HW := hid hw
  clear hw
  by_cases he : err = 0
  · subst he
    by_cases hp : pos < bs.length
    · rw [show doneS bs.length pos 0 = 13 by simp [doneS, hp]]
      go_enter Try.func60, Try.ntmps60
      go_wp2_with fail
      refine (left_any b g pos bs 0 _ HW.out).mono ?_
      rintro e w' ⟨rfl, n, rfl⟩
      have hpp : (0 : Int) < ((bs.length - pos : Nat) : Int) := by omega
      go_wp2_with fail
      go_returns
      exact ⟨rfl, _, rfl⟩
    · rw [show doneS bs.length pos 0 = 0 by simp [doneS]; omega]
      go_enter Try.func60, Try.ntmps60
      go_wp2_with fail
      refine (left_any b g pos bs 0 _ HW.out).mono ?_
      rintro e w' ⟨rfl, n, rfl⟩
      have hpp : ¬ (0 : Int) < ((bs.length - pos : Nat) : Int) := by omega
      go_wp2_with fail
      go_returns
      exact ⟨rfl, _, rfl⟩
  · rw [show doneS bs.length pos err = err by simp [doneS, he]]
    have hb : (err == 0) = false := by simpa using he
    have hb2 : (err != 0) = true := by simpa using he
    clear he
    go_enter Try.func60, Try.ntmps60
    go_wp2_with fail
    go_returns
    exact ⟨rfl, 0, rfl⟩
end Go.Proofs.Ytkbppkimpefilaa
