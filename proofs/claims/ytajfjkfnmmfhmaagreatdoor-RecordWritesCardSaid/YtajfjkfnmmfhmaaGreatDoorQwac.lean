/- Contracts of package code's reader's methods: Text, Pad, Left, Done. The statements of layer 1: walks. Rows of cells of any kind: read, and laid behind a row of one's own. Speaks of no program. Laws of bytes for all packages: conversion to text, a copy into the midst of a block, one's own bytes set. Contracts of package sum: turns to the right, words. -/
import Derived.Test.YtajfjkfnmmfhmaaGreatDoorQwab
import Derived.Test.YtajfjkfnmmfhmaaGreatDoorQwaa
import Derived.Test.YtajfjkfnmmfhmaaGreatDoorRows
import Derived.Laws.OwnMore
import Derived.Deep.QuietTactic
import Derived.BigQuiet
import Derived.Deep.RegionHeld3
import Derived.Laws.BitsAllLaws
namespace Go.Proofs.YtajfjkfnmmfhmaaGreatDoor
section
open Go.RowKit
set_option maxRecDepth 100000
/-- string(b), of bytes that stand somewhere. -/
theorem conv_rd {P : Program} {w : World} (src e dst : TypeId) (hs : P.underlying src = some (.slice e)) (he : P.underlying e = some (.int .u8)) (hd : P.underlying dst = some .string) {g o n : Nat} {zs : List Int} (hrd : Rd w (some ⟨g, o, none⟩) zs) (cap : Nat) (hn : zs.length = n) :
    Sem.run P (convert src dst (.slice (some ⟨g, o, none⟩) n cap)) w = .ok (.string (strOfNums zs)) w := by
  refine run_convert_bytes_arg (P := P) (w := w) src e hs he g o n cap zs hn (fun i hi => ?_) dst hd
  rcases hrd with rfl | ⟨g', o', h, hc⟩
  · simp at hn; omega
  · simp at h; obtain ⟨rfl, rfl⟩ := h; exact hc i (by omega)
/-- A text's reading. -/
def textT (ls : List Int) (most : Int) : List Int × Nat × Int :=
  if ls.length < 2 then ([], 0, 10) else if most < leV (ls.take 2) then ([], 0, 11) else if ls.length < 2 + (leV (ls.take 2)).toNat then ([], 0, 10) else ((ls.drop 2).take (leV (ls.take 2)).toNat, 2 + (leV (ls.take 2)).toNat, 0)
theorem textT_len (ls : List Int) (k : Int) : (textT ls k).2.1 ≤ ls.length := by
  unfold textT
  split
  · simp
  · split
    · simp
    · split
      · simp
      · simp; omega
set_option maxHeartbeats 400000 in
theorem text1R_any (x y g o c : Nat) (k : Int) (ls : List Int) (hb : ∀ z ∈ ls, 0 ≤ z ∧ z < 256) (w : World) (hrd : Rd w (some ⟨g, o, none⟩) ls) (hc : ls.length ≤ c) (hc2 : c ≤ 140737488355328)
    (hk : -9223372036854775808 ≤ k) (hk2 : k ≤ 9223372036854775807) (hx : w.cell? ⟨x, 0, none⟩ = some (.int .i64 k)) (hy : w.cell? ⟨y, 0, none⟩ = some (.string (strOfNums []))) (hyf : w.frozen? ⟨y, 0, none⟩ = false) :
    Calls Tryz.prog 113 #[.slice (some ⟨g, o, none⟩) ls.length c, .pointer (some ⟨x, 0, none⟩), .pointer (some ⟨y, 0, none⟩)] w (GivesR (textT ls k).2.1 (textT ls k).2.2 [y] (Holds y (.string (strOfNums (textT ls k).1))) w) := by
  have HY : Hid (Holds y (.string (strOfNums [])) w) := hy
  by_cases h1 : ls.length < 2
  · rw [show textT ls k = ([], 0, 10) by unfold textT; rw [if_pos h1]]
    go_enter Tryz.func113, Tryz.ntmps113
    go_wp2_with fail
    go_returns
    exact ⟨rfl, HY.out, Frm.refl _ _⟩
  · have hbd := leV_bd (ls.take 2) (fun z hz => hb z (List.mem_of_mem_take hz))
    rw [show (ls.take 2).length = 2 by simp; omega] at hbd
    have HV := hid (fun w' (h : Rd w' (some ⟨g, o, none⟩) ls) => value_any (some ⟨g, o, none⟩) c (ls.take 2) (fun z hz => hb z (List.mem_of_mem_take hz)) (by simp; omega) w' (h.take 2))
    rw [show (ls.take 2).length = 2 by simp; omega] at HV
    have e0 : textT ls k = if k < leV (ls.take 2) then ([], 0, 11) else if ls.length < 2 + (leV (ls.take 2)).toNat then ([], 0, 10) else ((ls.drop 2).take (leV (ls.take 2)).toNat, 2 + (leV (ls.take 2)).toNat, 0) := by unfold textT; rw [if_neg h1]
    rw [e0]
    clear e0
    generalize leV (ls.take 2) = N at hbd HV ⊢
    obtain ⟨n, rfl⟩ := Int.eq_ofNat_of_zero_le hbd.1
    rw [Int.toNat_natCast]
    have hn : n < 65536 := by have := hbd.2; simp at this; omega
    have HRD := hid hrd
    have hyl := World.block_lt_of_cell? w _ hy
    have hxl := World.block_lt_of_cell? w _ hx
    have h1' : 2 ≤ ls.length := by omega
    clear hbd hb hrd h1
    have step : ∀ w1 : World, Frm [] w w1 → w1.cell? ⟨x, 0, none⟩ = some (.int .i64 k) ∧ w1.cell? ⟨y, 0, none⟩ = some (.string (strOfNums [])) ∧ w1.frozen? ⟨y, 0, none⟩ = false := fun w1 hf =>
      ⟨(hf.cell (p := ⟨x, 0, none⟩) hxl (by simp)).trans hx, (hf.cell (p := ⟨y, 0, none⟩) hyl (by simp)).trans hy, (hf.frozen (p := ⟨y, 0, none⟩) hyl (by simp)).trans hyf⟩
    have ST := hid step
    clear step
    by_cases h2 : k < n
    · rw [if_pos h2]
      go_enter Tryz.func113, Tryz.ntmps113
      go_wp2_with fail
      refine (HV.out w HRD.out).mono ?_
      rintro e w1 ⟨rfl, hf⟩
      obtain ⟨k1, k2, k3⟩ := ST.out w1 hf
      have K2 := hid k2
      go_wp2_with fail
      go_returns
      exact ⟨rfl, K2.out, hf.mono (by simp)⟩
    · rw [if_neg h2]
      by_cases h3 : ls.length < 2 + n
      · rw [if_pos h3]
        go_enter Tryz.func113, Tryz.ntmps113
        go_wp2_with fail
        refine (HV.out w HRD.out).mono ?_
        rintro e w1 ⟨rfl, hf⟩
        obtain ⟨k1, k2, k3⟩ := ST.out w1 hf
        have K2 := hid k2
        go_wp2_with fail
        go_returns
        exact ⟨rfl, K2.out, hf.mono (by simp)⟩
      · rw [if_neg h3]
        have fin : ∀ w1 : World, Frm [] w w1 → w1.cell? ⟨y, 0, none⟩ = some (.string (strOfNums [])) → GivesR (2 + n) 0 [y] (Holds y (.string (strOfNums ((ls.drop 2).take n)))) w (.returned (.tuple #[.int .i64 (2 + n), .int .i64 0])) (w1.setCell ⟨y, 0, none⟩ (.string (strOfNums ((ls.drop 2).take n)))) := fun w1 hf k2 =>
          ⟨by simp, holds_set k2 _, (hf.mono (by simp)).trans ((Frm.refl _ _).setCell _ _ (by simp)) (fun i hi _ => hi)⟩
        have FIN := hid fin
        clear fin
        by_cases h4 : c = 2
        · obtain rfl : n = 0 := by omega
          subst h4
          go_enter Tryz.func113, Tryz.ntmps113
          go_wp2_with fail
          refine (HV.out w HRD.out).mono ?_
          rintro e w1 ⟨rfl, hf⟩
          obtain ⟨k1, k2, k3⟩ := ST.out w1 hf
          have K2 := hid k2
          have hcv := conv_rd (P := Tryz.prog) (w := w1) 24 5 9 Tryz.underlying24 Tryz.underlying5 Tryz.underlying9 (g := g) (o := o) (n := 0) (Or.inl (List.take_zero (l := ls.drop 2))) 0 (by simp)
          go_wp2_with fail
          go_returns
          exact FIN.out w1 hf K2.out
        · have hcv := fun w1 (h : Rd w1 (some ⟨g, o, none⟩) ls) => conv_rd (P := Tryz.prog) (w := w1) 24 5 9 Tryz.underlying24 Tryz.underlying5 Tryz.underlying9 (n := n) ((h.drop 2).take n) (c - 2) (by simp; omega)
          have HCV := hid hcv
          clear hcv
          go_enter Tryz.func113, Tryz.ntmps113
          go_wp2_with fail
          refine (HV.out w HRD.out).mono ?_
          rintro e w1 ⟨rfl, hf⟩
          obtain ⟨k1, k2, k3⟩ := ST.out w1 hf
          have K2 := hid k2
          have hcv := HCV.out w1 (HRD.out.kept hf (by simp))
          go_wp2_with fail
          go_returns
          exact FIN.out w1 hf K2.out
set_option maxHeartbeats 400000 in
theorem textR_any (b g pos : Nat) (bs : List Int) (hb : ∀ z ∈ bs, 0 ≤ z ∧ z < 256) (err k : Int) (w : World) (hw : IsR w b g bs pos err) (hk : -9223372036854775808 ≤ k) (hk2 : k ≤ 9223372036854775807) :
    Calls Tryz.prog 93 #[.pointer (some ⟨b, 0, none⟩), .int .i64 k] w fun e w' => e = .returned (.string (strOfNums (readS [] pos err (textT (bs.drop pos) k)).1)) ∧
      IsR w' b g bs (readS [] pos err (textT (bs.drop pos) k)).2.1 (readS [] pos err (textT (bs.drop pos) k)).2.2 ∧ Frm [b] w w' := by
  obtain ⟨hlt, hlg, hbg, hpos, hlen, _⟩ := hw.cells
  have HW := hid hw
  have HB := hid hb
  obtain ⟨r, hr⟩ : ∃ r, textT (bs.drop pos) k = r := ⟨_, rfl⟩
  have HR := hid hr
  rw [hr]
  clear hw hb hr
  by_cases he : err = 0
  · subst he
    go_enter Tryz.func93, Tryz.ntmps93
    go_wp2_with fail
    have hF : Frm [] w ((w.alloc (Obj.cells #[Value.int IntKind.i64 k] 3)).alloc (Obj.cells #[Value.string { data := #[] }] 9)) := ((Frm.refl _ _).alloc _).alloc _
    obtain ⟨W, hWd⟩ : ∃ W, W = ((w.alloc (Obj.cells #[Value.int IntKind.i64 k] 3)).alloc (Obj.cells #[Value.string { data := #[] }] 9)) := ⟨_, rfl⟩
    have hx : W.cell? ⟨w.heap.size, 0, none⟩ = some (.int .i64 k) := by subst hWd; simp
    have hy : W.cell? ⟨w.heap.size + 1, 0, none⟩ = some (.string (strOfNums [])) := by subst hWd; simp [strOfNums]
    have hyf : W.frozen? ⟨w.heap.size + 1, 0, none⟩ = false := by subst hWd; simp
    rw [← hWd] at hF ⊢
    have hW0 := HW.out.kept hF (by simp) (by simp)
    refine (take_both b g pos r.2.1 r.2.2 bs [w.heap.size + 1] (Holds (w.heap.size + 1) (.string (strOfNums r.1))) 113 _ W hW0 (by simp; omega) (by simp; omega) (by have := textT_len (bs.drop pos) k; rw [HR.out] at this; simp at this; omega) (fun l w => callable Tryz.func113 (by kernel_rfl) (by kernel_rfl) _ _) ?_).mono ?_
    · intro o c hc hrd
      have := text1R_any w.heap.size (w.heap.size + 1) g o c k (bs.drop pos) (fun z hz => HB.out z (List.mem_of_mem_drop hz)) W.drew hrd hc.1 hc.2 hk hk2 hx hy hyf
      rw [HR.out] at this
      exact this
    rintro e w' ⟨rfl, w1, h1, h2, h3, h4⟩
    have hv := h1.kept h3 (by simp; omega)
    go_wp2_with fail
    go_returns
    rw [readS_ok]
    exact ⟨rfl, h4, two_steps hF h2 h3 (by omega)⟩
  · have HE : Hid (err ≠ 0) := he
    clear he
    go_enter Tryz.func93, Tryz.ntmps93
    go_wp2_with fail
    have hF : Frm [] w ((w.alloc (Obj.cells #[Value.int IntKind.i64 k] 3)).alloc (Obj.cells #[Value.string { data := #[] }] 9)) := ((Frm.refl _ _).alloc _).alloc _
    refine (take_stop b g pos err bs _ _ _ (HW.out.kept hF (by simp) (by simp)) HE.out).mono ?_
    rintro e w' ⟨rfl, rfl⟩
    go_wp2_with fail
    go_returns
    unfold readS
    rw [if_pos HE.out]
    exact ⟨rfl, HW.out.kept hF (by simp) (by simp), hF.mono (by simp)⟩
theorem int_eq {a c : Int} (h : a = c) : Ending.returned (.int .i64 a) = Ending.returned (.int .i64 c) := by rw [h]
set_option maxHeartbeats 400000 in
theorem left_any (b g pos : Nat) (bs : List Int) (err : Int) (w : World) (hw : IsR w b g bs pos err) :
    Calls Tryz.prog 89 #[.pointer (some ⟨b, 0, none⟩)] w fun e w' => e = .returned (.int .i64 ((bs.length - pos : Nat) : Int)) ∧ ∃ n, w' = w.drewN n := by
  obtain ⟨hlt, hlg, hbg, hpos, hlen, c0, c1, c2, f1, f2, _⟩ := hw.cells
  clear hw
  go_enter Tryz.func89, Tryz.ntmps89
  go_wp2_with fail
  go_quiet (fail)
  go_wp2_with fail
  go_returns
  exact ⟨int_eq (by omega), nq, rfl⟩
def doneS (len pos : Nat) (err : Int) : Int := if err = 0 ∧ pos < len then 13 else err
set_option maxHeartbeats 400000 in
theorem doneR_any (b g pos : Nat) (bs : List Int) (err : Int) (w : World) (hw : IsR w b g bs pos err) :
    Calls Tryz.prog 43 #[.pointer (some ⟨b, 0, none⟩)] w fun e w' => e = .returned (.int .i64 (doneS bs.length pos err)) ∧ ∃ n, w' = w.drewN n := by
  obtain ⟨hlt, hlg, hbg, hpos, hlen, c0, c1, c2, f1, f2, _⟩ := hw.cells
  have HW := hid hw
  clear hw
  by_cases he : err = 0
  · subst he
    by_cases hp : pos < bs.length
    · rw [show doneS bs.length pos 0 = 13 by simp [doneS, hp]]
      go_enter Tryz.func43, Tryz.ntmps43
      go_wp2_with fail
      refine (left_any b g pos bs 0 _ HW.out).mono ?_
      rintro e w' ⟨rfl, n, rfl⟩
      have hpp : (0 : Int) < ((bs.length - pos : Nat) : Int) := by omega
      go_wp2_with fail
      go_returns
      exact ⟨rfl, _, rfl⟩
    · rw [show doneS bs.length pos 0 = 0 by simp [doneS]; omega]
      go_enter Tryz.func43, Tryz.ntmps43
      go_wp2_with fail
      refine (left_any b g pos bs 0 _ HW.out).mono ?_
      rintro e w' ⟨rfl, n, rfl⟩
      have hpp : ¬ (0 : Int) < ((bs.length - pos : Nat) : Int) := by omega
      go_wp2_with fail
      go_returns
      exact ⟨rfl, _, rfl⟩
  · rw [show doneS bs.length pos err = err by simp [doneS, he]]
    have hb : (err == 0) = false := by simpa using he
    have hb2 : (err != 0) = true := by simpa using he
    clear he
    go_enter Tryz.func43, Tryz.ntmps43
    go_wp2_with fail
    go_returns
    exact ⟨rfl, 0, rfl⟩
end
section
open Go.RowKit
set_option maxRecDepth 100000
/-- The blocks of A are as they were. -/
def Keeps (A : List Nat) (w w' : World) : Prop := ∀ k ∈ A, w'.heap[k]? = w.heap[k]?
theorem Rd.keeps {w w' : World} {p : Option Addr} {zs : List Int} {A : List Nat} (h : Rd w p zs) (hk : Keeps A w w') (hp : ∀ k ∈ blk p, k ∈ A) : Rd w' p zs := by
  rcases h with h | ⟨g, o, rfl, hc⟩
  · exact Or.inl h
  · refine Or.inr ⟨g, o, rfl, fun i hi => ?_⟩
    rw [World.cell?_of_block (hk g (hp g (by simp [blk])))]
    exact hc i hi
theorem Frm.keeps {S A : List Nat} {w w' : World} (h : Frm S w w') (hA : ∀ k ∈ A, k ∉ S ∧ k < w.heap.size) : Keeps A w w' := fun k hk => h.block k (hA k hk).2 (hA k hk).1
/-- A writer that is new since w0, and nothing elder has turned since; of the blocks of A none is its own. -/
def FreshW (w0 w : World) (b : Nat) (room : Int) (s : List Int × Int) (A : List Nat) : Prop := ∃ fp, IsW w b fp room s.1 s.2 ∧ Frm [] w0 w ∧ (∀ k ∈ fp, w0.heap.size ≤ k) ∧ ∀ k ∈ A, k ∉ fp ∧ k < w.heap.size
theorem FreshW.next {w0 w w' : World} {b : Nat} {room : Int} {fp A : List Nat} {s : List Int × Int} (hF : Frm [] w0 w) (hfp : ∀ k ∈ fp, w0.heap.size ≤ k) (hA : ∀ k ∈ A, k ∉ fp ∧ k < w.heap.size) (h : NowW w b fp room s.1 s.2 w') : FreshW w0 w' b room s A ∧ Keeps A w w' := by
  obtain ⟨fp', h1, h2, h3⟩ := h
  refine ⟨⟨fp', h1, hF.trans h2 (fun i hi hlt => absurd (hfp i hi) (Nat.not_le.2 hlt)), fun k hk => (h3 k hk).elim (hfp k) (fun h => Nat.le_trans hF.size h), fun k hk => ⟨fun hk' => ?_, Nat.lt_of_lt_of_le (hA k hk).2 h2.size⟩⟩, h2.keeps hA⟩
  rcases h3 k hk' with h | h
  · exact (hA k hk).1 h
  · exact absurd (hA k hk).2 (Nat.not_lt.2 h)
theorem FreshW.born {w0 w : World} {b : Nat} {room : Int} (h : IsW w b [b] room [] 0) (hf : Frm [] w0 w) (hb : w0.heap.size ≤ b) : FreshW w0 w b room ([], 0) [] := ⟨[b], h, hf, by simpa using hb, by simp⟩
theorem FreshW.frm {w0 w : World} {b : Nat} {room : Int} {s : List Int × Int} {A : List Nat} (h : FreshW w0 w b room s A) : Frm [] w0 w := by obtain ⟨_, _, h, _⟩ := h; exact h
section
variable (w0 w : World) (b : Nat) (room : Int) (s : List Int × Int) (A : List Nat) (hw : FreshW w0 w b room s A) (hr0 : 0 ≤ room) (hr1 : room ≤ 2147483647) (hz : (s.1.length : Int) ≤ room)
include hw hr0 hr1 hz
theorem numF_any (n k : Int) (hn : 0 ≤ n) (hn2 : n < 18446744073709551616) (hk : -9223372036854775808 ≤ k) (hk2 : k ≤ 9223372036854775807) :
    Calls Tryz.prog 27 #[.pointer (some ⟨b, 0, none⟩), .int .u64 n, .int .i64 k] w fun e w' => e = .returned (.tuple #[]) ∧ FreshW w0 w' b room (stepW room s (numF n k)) A ∧ Keeps A w w' := by
  obtain ⟨fp, h1, h2, h3, h4⟩ := hw
  exact (num_any b fp room s n k w h1 hr0 hr1 hz hn hn2 hk hk2).mono fun e w' h => ⟨h.1, FreshW.next h2 h3 h4 h.2⟩
theorem bytesF_any (p : Option Addr) (ns : List Int) (c : Nat) (hl : ns.length ≤ 140737488355328) (hc : ns = [] → p = none → c = 0) (hrd : Rd w p ns) :
    Calls Tryz.prog 28 #[.pointer (some ⟨b, 0, none⟩), .slice p ns.length c] w fun e w' => e = .returned (.tuple #[]) ∧ FreshW w0 w' b room (stepW room s (ns, 0)) A ∧ Keeps A w w' := by
  obtain ⟨fp, h1, h2, h3, h4⟩ := hw
  exact (bytes_any b fp room s p ns c w h1 hr0 hr1 hz hl hc hrd).mono fun e w' h => ⟨h.1, FreshW.next h2 h3 h4 h.2⟩
theorem textF_any (t : ByteArray) (ht : t.size ≤ maxLen) :
    Calls Tryz.prog 92 #[.pointer (some ⟨b, 0, none⟩), .string t] w fun e w' => e = .returned (.tuple #[]) ∧ FreshW w0 w' b room (stepW room s (textF t)) A ∧ Keeps A w w' := by
  obtain ⟨fp, h1, h2, h3, h4⟩ := hw
  exact (text_any b fp room s t w h1 hr0 hr1 hz ht).mono fun e w' h => ⟨h.1, FreshW.next h2 h3 h4 h.2⟩
end
theorem doneWF_ok (w0 w : World) (b : Nat) (room : Int) (zs : List Int) (A : List Nat) (hw : FreshW w0 w b room (zs, 0) A) (hr1 : room ≤ 2147483647) (hz : (zs.length : Int) ≤ room) :
    Calls Tryz.prog 26 #[.pointer (some ⟨b, 0, none⟩)] w fun e w' => ∃ g, e = .returned (.tuple #[.slice (some ⟨g, 0, none⟩) zs.length zs.length, .int .i64 0]) ∧ Rd w' (some ⟨g, 0, none⟩) zs ∧ FreshW w0 w' b room (zs, 0) (g :: A) ∧ Keeps A w w' ∧ w0.heap.size ≤ g ∧ g < w'.heap.size := by
  obtain ⟨fp, h1, h2, h3, h4⟩ := hw
  refine (doneW_ok b fp room zs w h1 hr1 hz).mono ?_
  rintro e w' ⟨g, he, hg, hf, hsz⟩
  refine ⟨g, he, (own_of_block (E := 5) hg (by unfold maxLen; omega)).rd, ⟨fp, h1.kept hf (by simp), h2.trans hf (by simp), h3, ?_⟩, hf.keeps (fun k hk => ⟨by simp, (h4 k hk).2⟩), Nat.le_trans h2.size hsz, lt_of_heap hg⟩
  intro k hk
  simp at hk
  rcases hk with rfl | hk
  · exact ⟨fun h => absurd (h1.lt k h) (Nat.not_lt.2 hsz), lt_of_heap hg⟩
  · exact ⟨(h4 k hk).1, Nat.lt_of_lt_of_le (h4 k hk).2 hf.size⟩
/-- A reader that is new since w0, and nothing elder has turned since. -/
def FreshR (w0 w : World) (b g : Nat) (bs : List Int) (pos : Nat) (err : Int) : Prop := IsR w b g bs pos err ∧ Frm [] w0 w ∧ w0.heap.size ≤ b ∧ w0.heap.size ≤ g
theorem FreshR.next {w0 w w' : World} {b g : Nat} {bs : List Int} {pos pos' : Nat} {err err' : Int} (h : FreshR w0 w b g bs pos err) (hr : IsR w' b g bs pos' err') (hf : Frm [b] w w') : FreshR w0 w' b g bs pos' err' :=
  ⟨hr, h.2.1.trans hf (fun i hi hlt => by simp at hi; have := h.2.2.1; omega), h.2.2⟩
theorem FreshR.drewN {w0 w : World} {b g : Nat} {bs : List Int} {pos : Nat} {err : Int} (h : FreshR w0 w b g bs pos err) (n : Nat) : FreshR w0 (w.drewN n) b g bs pos err :=
  ⟨h.1.kept ((Frm.refl [] w).drewN n) (by simp) (by simp), h.2.1.drewN n, h.2.2⟩
theorem le_bd (n : Int) (k : Nat) : ∀ z ∈ le n k, 0 ≤ z ∧ z < 256 := by
  intro z hz; simp [le] at hz; obtain ⟨i, _, rfl⟩ := hz; omega
theorem leV_le (n : Nat) (k : Nat) : leV (le (n : Int) k) = ((n % 2 ^ (8 * k) : Nat) : Int) := by
  induction k with
  | zero => simp [le, leV, Nat.mod_one]
  | succ k ih =>
    rw [le_succ, leV_snoc, ih, le_length]
    have e : (2 : Nat) ^ (8 * (k + 1)) = 2 ^ (8 * k) * 256 := by rw [Nat.mul_add, Nat.pow_add]
    rw [e, Nat.mod_mul, show ((2 : Int) ^ (8 * k)) = ((2 ^ (8 * k) : Nat) : Int) by simp]
    generalize 2 ^ (8 * k) = q
    rw [Int.natCast_add, Int.natCast_mul, Int.natCast_emod (n / q) 256, Int.natCast_ediv, Int.mul_comm]
    rfl
theorem leV_fit (n : Int) (k : Nat) (hn : 0 ≤ n) (h : n / 2 ^ (8 * k) = 0) : leV (le n k) = n := by
  obtain ⟨m, rfl⟩ := Int.eq_ofNat_of_zero_le hn
  rw [leV_le]
  have h2 : ((m / 2 ^ (8 * k) : Nat) : Int) = 0 := by rw [Int.natCast_ediv]; simpa using h
  have h3 : m / 2 ^ (8 * k) = 0 := by omega
  have hq : 0 < 2 ^ (8 * k) := Nat.pow_pos (by decide)
  rw [Nat.mod_eq_of_lt]
  exact (Nat.div_eq_zero_iff_lt hq).1 h3
end
section
open Go.RowKit Go.Lib
/-- From a place on there stand these cells (of none nothing is asked). -/
def Rv (w : World) (p : Option Addr) (vs : List Value) : Prop :=
  vs = [] ∨ ∃ g o, p = some ⟨g, o, none⟩ ∧ ∀ i u, vs[i]? = some u → w.cell? ⟨g, o + i, none⟩ = some u
theorem Rv.kept {S : List Nat} {w w' : World} {p : Option Addr} {vs : List Value} (h : Rv w p vs) (hf : Frm S w w') (hn : ∀ k ∈ blk p, k ∉ S) : Rv w' p vs := by
  rcases h with h | ⟨g, o, rfl, hc⟩
  · exact Or.inl h
  · refine Or.inr ⟨g, o, rfl, fun i u hi => ?_⟩
    have hlt : g < w.heap.size := World.block_lt_of_cell? w _ (hc i u hi)
    rw [hf.cell (p := ⟨g, o + i, none⟩) hlt (hn g (by simp [blk]))]
    exact hc i u hi
theorem Rd.rv {w : World} {p : Option Addr} {zs : List Int} (h : Rd w p zs) : Rv w p (bv zs) := by
  rcases h with rfl | ⟨g, o, rfl, hc⟩
  · exact Or.inl rfl
  · refine Or.inr ⟨g, o, rfl, fun i u hu => ?_⟩
    have hj : i < zs.length := by have := (List.getElem?_eq_some_iff.1 hu).1; simpa [bv] using this
    rw [bv_get hj] at hu
    rw [hc i hj]
    exact hu
/-- A new block of cells is read whole. -/
theorem rv_block {w : World} {g : Nat} {cs : Array Value} {E : TypeId} (h : w.heap[g]? = some (.cells cs E (0, 0))) : Rv w (some ⟨g, 0, none⟩) cs.toList :=
  Or.inr ⟨g, 0, rfl, fun i u hu => by rw [Nat.zero_add, cell_of_row w g i cs E (0, 0) h]; simpa using hu⟩
section
variable {P : Program} {w : World}
theorem add_lit (g o j : Nat) : (⟨g, o, none⟩ : Addr).add j = ⟨g, o + j, none⟩ := by unfold Addr.add; split <;> simp_all
/-- append to a row of one's own: it stays in its block, or goes into a new one. -/
theorem run_appV (t ty E : TypeId) (sz bytes : Nat) (z : Value) (ht : P.underlying t = some (.slice E)) (hI : (P.info? E).map (fun i => (i.zero, i.size, i.bytes)) = some (some z, sz, bytes)) (hzs : z.cells.size = sz) (hsz : 0 < sz)
    (v : Value) (n : Nat) (xs : List Value) (hown : w.ownsRow 0 E sz v n xs) (p : Option Addr) (m c : Nat) (ns : List Value) (hnl : ns.length = m * sz) (hp : m = 0 → p = none → c = 0) (hrd : Rv w p ns) (h1 : ∀ u ∈ ns, u.oneCell' = true)
    (hmax : n + m ≤ maxLen) (hb : (n + m) * bytes ≤ 140737488355328) :
    ∃ v' w', (Builtin.append_ #[t, t] ty #[v, .slice p m c]).run P w = .ok v' w' ∧ w'.ownsRow 0 E sz v' (n + m) (xs ++ ns) ∧ Frm v.ownBlock.toList w w' ∧ (∀ k ∈ v'.ownBlock.toList, k ∈ v.ownBlock.toList ∨ w.heap.size ≤ k) := by
  obtain ⟨i, hi, hz, hs, hby⟩ := info_parts hI
  by_cases hm : m = 0
  · subst hm
    obtain rfl : ns = [] := List.eq_nil_of_length_eq_zero (by simpa using hnl)
    cases p with
    | none =>
      obtain rfl := hp rfl rfl
      have hr := run_append_owned_none (P := P) w 0 t ty E i sz ht hi v n xs hown
      exact ⟨v, w, hr, by simpa using hown, Frm.refl _ _, fun k hk => Or.inl hk⟩
    | some ad =>
      obtain ⟨v', w', hr, ho, hg, _⟩ := run_append_own (P := P) w 0 t ty E i z sz bytes ht hi hz hs hby hzs hsz v n xs hown ad 0 c [] (by simp) (by simp) (by simp) hmax hb (Nat.zero_le _)
      refine ⟨v', w', hr, ho, (Frm.refl _ _).grown hg (fun k hk _ => by simp [hk]), ?_⟩
      rcases hown.2 with ⟨rfl, rfl⟩ | ⟨g, cap, cur, rfl, _, hgg, hc, hcm, hcs, htk⟩
      · obtain rfl : xs = [] := List.eq_nil_of_length_eq_zero (by simpa using hown.1)
        obtain ⟨v2, w2, hr2, ho2, _, _⟩ := run_append_own (P := P) w w.heap.size t ty E i z sz bytes ht hi hz hs hby hzs hsz (.slice none 0 0) 0 [] (World.ownsRow_nil w _ E sz) ad 0 c [] (by simp) (by simp) (by simp) hmax hb (Nat.le_refl _)
        obtain ⟨rfl, rfl⟩ := oks (hr.symm.trans hr2)
        intro k hk; exact Or.inr (ho2.lt k (by simpa using hk)).1
      · have hr2 := run_append_room (P := P) w t ty E i ht hi g n cap cur hgg ad 0 c [] (by simp) (by simp) (by simp) (by omega) (by simp [hs, hcs]; exact Nat.mul_le_mul_right _ hc)
        obtain ⟨rfl, rfl⟩ := oks (hr.symm.trans hr2)
        intro k hk; exact Or.inl (by simpa [Value.ownBlock] using hk)
  · have hne : ns ≠ [] := by
      intro h; subst h
      have h0 : m * sz = 0 := by simpa using hnl.symm
      rcases Nat.mul_eq_zero.1 h0 with h | h
      · exact hm h
      · omega
    obtain ⟨g0, o0, rfl, hc0⟩ : ∃ g o, p = some ⟨g, o, none⟩ ∧ ∀ i u, ns[i]? = some u → w.cell? ⟨g, o + i, none⟩ = some u := by
      rcases hrd with h | h
      · exact absurd h hne
      · exact h
    have hnews : ∀ j u, ns[j]? = some u → w.cell? ((⟨g0, o0, none⟩ : Addr).add j) = some u := by
      intro j u hu; rw [add_lit]; exact hc0 j u hu
    obtain ⟨v', w', hr, ho, hg, _⟩ := run_append_own (P := P) w 0 t ty E i z sz bytes ht hi hz hs hby hzs hsz v n xs hown ⟨g0, o0, none⟩ m c ns hnl hnews h1 hmax hb (Nat.zero_le _)
    refine ⟨v', w', hr, ho, (Frm.refl _ _).grown hg (fun k hk _ => by simp [hk]), ?_⟩
    have hpos : 0 < m := by omega
    have hm63 : n + m ≤ 9223372036854775807 := by unfold maxLen at hmax; omega
    rcases hown.2 with ⟨rfl, rfl⟩ | ⟨g, cap, cur, rfl, _, hgg, hc, hcm, hcs, htk⟩
    · have hr2 := run_append_nil (P := P) w t ty E i z ht hi hz ⟨g0, o0, none⟩ m c ns (by rw [hs]; exact hnl) hnews hpos (by omega) (by rw [hby]; rw [Nat.zero_add] at hb; omega)
      obtain ⟨rfl, rfl⟩ := oks (hr.symm.trans hr2)
      intro k hk; simp [Value.ownBlock] at hk; exact Or.inr (by omega)
    · by_cases hroom : n + m ≤ cap
      · have hr2 := run_append_room (P := P) w t ty E i ht hi g n cap cur hgg ⟨g0, o0, none⟩ m c ns (by rw [hs]; exact hnl) hnews h1 hroom (by rw [hnl, hs, hcs, ← Nat.add_mul]; exact Nat.mul_le_mul_right _ hroom)
        obtain ⟨rfl, rfl⟩ := oks (hr.symm.trans hr2)
        intro k hk; exact Or.inl (by simpa [Value.ownBlock] using hk)
      · have holds := World.ownsRow.cells (g := g) hown rfl
        have hr2 := run_append_grow (P := P) w t ty E i z ht hi hz ⟨g, 0, none⟩ n cap xs (by rw [hs]; exact hown.1) holds ⟨g0, o0, none⟩ m c ns (by rw [hs]; exact hnl) hnews (by omega) (by omega) (growslice_fits (by omega) (by rw [hby]; exact hb))
        obtain ⟨rfl, rfl⟩ := oks (hr.symm.trans hr2)
        intro k hk; simp [Value.ownBlock] at hk; exact Or.inr (by omega)
theorem ownsRow_shape {E : TypeId} {sz n : Nat} {v : Value} {xs : List Value} (h : w.ownsRow 0 E sz v n xs) : ∃ p c, v = .slice p n c := by
  rcases h.2 with ⟨rfl, rfl⟩ | ⟨g, c, cur, rfl, _⟩
  · exact ⟨none, 0, rfl⟩
  · exact ⟨_, c, rfl⟩
theorem wpList_appV {ops : Array Oper} {rest : List Oper} {o : Oper} {a : Act} {Q : Exit → Act → World → Prop} (hgd : o.guard = none) (s x : Operand) (t : TypeId)
    (ho : o.op = .call { callee := .builtin .append, args := #[s, x], argTypes := #[t, t] })
    (E : TypeId) (sz bytes : Nat) (z : Value) (ht : P.underlying t = some (.slice E)) (hI : (P.info? E).map (fun i => (i.zero, i.size, i.bytes)) = some (some z, sz, bytes)) (hzs : z.cells.size = sz) (hsz : 0 < sz)
    (p0 : Option Addr) (n c0 : Nat) (xs : List Value) (hs : a.eval s = .slice p0 n c0) (hown : w.ownsRow 0 E sz (.slice p0 n c0) n xs)
    (p : Option Addr) (m c : Nat) (ns : List Value) (hx : a.eval x = .slice p m c) (hnl : ns.length = m * sz) (hp : m = 0 → p = none → c = 0) (hrd : Rv w p ns) (h1 : ∀ u ∈ ns, u.oneCell' = true)
    (hmax : n + m ≤ maxLen) (hb : (n + m) * bytes ≤ 140737488355328)
    (h : ∀ p2 c2 w', Hid (w'.ownsRow 0 E sz (.slice p2 (n + m) c2) (n + m) (xs ++ ns)) → Hid (Frm (blk p0) w w') → Hid (∀ k ∈ blk p2, k ∈ blk p0 ∨ w.heap.size ≤ k) → wpList P ops Q rest (a.put o.dst (.slice p2 (n + m) c2)) w') :
    wpList P ops Q (o :: rest) a w := by
  refine wpList_plain hgd fun K hK => ?_
  obtain ⟨v', w', hrun, h2, h3, h4⟩ := run_appV (P := P) (w := w) t o.type E sz bytes z ht hI hzs hsz _ n xs hown p m c ns hnl hp hrd h1 hmax hb
  obtain ⟨p2, c2, rfl⟩ := ownsRow_shape h2
  rw [own_blk] at h4
  rw [own_blk] at h3 h4
  unfold Oper.wp
  simp [execOp, ho, resolve, invoke, builtin, hs, hx, hrun, Result.andThen]
  exact hK _ _ (h p2 c2 w' h2 h3 h4)
theorem ownsRow_kept {S : List Nat} {w' : World} {E : TypeId} {sz n : Nat} {p : Option Addr} {c : Nat} {xs : List Value} (h : w.ownsRow 0 E sz (.slice p n c) n xs) (hf : Frm S w w') (hn : ∀ k ∈ blk p, k ∉ S) : w'.ownsRow 0 E sz (.slice p n c) n xs := by
  refine ⟨h.1, ?_⟩
  rcases h.2 with h0 | ⟨g, c, cur, he, hb, hg, r⟩
  · exact Or.inl h0
  · simp only [Value.slice.injEq] at he
    obtain ⟨rfl, _, rfl⟩ := he
    exact Or.inr ⟨g, _, cur, rfl, hb, hf.heap hg (hn g (by simp [blk])), r⟩
theorem ownsRow_low {E : TypeId} {sz n : Nat} {p : Option Addr} {c : Nat} {xs : List Value} (h : w.ownsRow 0 E sz (.slice p n c) n xs) : ∀ k ∈ blk p, k < w.heap.size := by
  intro k hk
  exact (h.lt k (by cases p <;> simp_all [blk, Value.ownBlock])).2
end
end
section
open Go.RowKit Go.Lib
set_option maxRecDepth 100000
theorem infoB : (Tryz.prog.info? 5).map (fun i => (i.zero, i.size, i.bytes)) = some (some (.int .u8 0), 1, 1) := by kernel_rfl
theorem cv_any {P : Program} {w : World} (src e dst : TypeId) (hs : P.underlying src = some (.slice e)) (he : P.underlying e = some (.int .u8)) (hd : P.underlying dst = some .string) {p : Option Addr} {n : Nat} {zs : List Int} (hrd : Rd w p zs) (cap : Nat) (hn : zs.length = n) :
    Sem.run P (convert src dst (.slice p n cap)) w = .ok (.string (strOfNums zs)) w := by
  rcases hrd with rfl | ⟨g, o, rfl, hc⟩
  · simp at hn
    subst hn
    cases p with
    | none => exact run_convert_bytes_nil (P := P) (w := w) src e hs he 0 cap dst hd
    | some a =>
      rw [run_convert_bytes_string w src dst e _ _ _ hs he hd, run_bytesToString w a 0 cap [] (by simp [loadCells, loadCellsFrom])]
      rfl
  · exact run_convert_bytes_arg (P := P) (w := w) src e hs he g o n cap zs hn (fun i hi => hc i (by omega)) dst hd
/-- Bytes with others in their midst. -/
def splice (bs : List Int) (at_ : Nat) (zs : List Int) : List Int := bs.take at_ ++ zs ++ bs.drop (at_ + zs.length)
section
variable {P : Program} {w : World}
/-- copy into the midst of a block. -/
theorem run_copyS (T ty : TypeId) (E : TypeId) (B : TypeId) (ht : P.underlying T = some (.slice E)) (hI : (P.info? E).map (fun i => (i.zero, i.size, i.bytes)) = some (some (.int .u8 0), 1, 1))
    (dp : Option Addr) (dn dc : Nat) (g off : Nat) (bs : List Int) (hg : w.heap[g]? = some (.cells (bv bs).toArray B (0, 0))) (hdp : 0 < dn → dp = some ⟨g, off, none⟩) (hdn : off + dn ≤ bs.length)
    (p : Option Addr) (c : Nat) (ns : List Int) (hrd : Rd w p ns) (k : Nat) (hk : k = min ns.length dn) :
    ∃ w', (Builtin.copy_ #[T, T] ty #[.slice dp dn dc, .slice p ns.length c]).run P w = .ok (.int .i64 (k : Int)) w' ∧ w'.heap[g]? = some (.cells (bv (splice bs off (ns.take k))).toArray B (0, 0)) ∧ Frm [g] w w' := by
  obtain ⟨i, hi, hz, h1, h2⟩ := info_parts hI
  have hsz : (P.info? E).map (·.size) = some 1 := by simp [hi, h1]
  by_cases hn : k = 0
  · have hrun := run_copy_none (P := P) w T T ty E dp p dn dc ns.length c ht hsz (by show min ns.length dn = 0; omega)
    refine ⟨w, by rw [hn]; exact hrun, by rw [hn]; simpa [splice] using hg, Frm.refl _ _⟩
  · have hne : ns ≠ [] := by intro e; subst e; simp at hk; omega
    obtain ⟨ad, rfl, hnews⟩ := bytes_at hrd hne
    have hdn0 : 0 < dn := by omega
    have hkl : k ≤ ns.length ∧ k ≤ dn := by omega
    have hl : (bv (ns.take k)).length = k := by simp [bv]; omega
    obtain rfl := hdp hdn0
    have hrun := run_copy_row (P := P) w T T ty E g off dn dc ad ns.length c _ B (bv (ns.take k)) ht hsz hg (by rw [hl]; exact hk) (by
      intro j v hj
      have hjn : j < k := by have := (List.getElem?_eq_some_iff.1 hj).1; omega
      refine hnews j v ?_
      rw [bv_take, List.getElem?_take, if_pos hjn] at hj
      exact hj) (by rw [hl]; simp [bv]; omega) bv_one
    rw [hl] at hrun
    refine ⟨_, hrun, ?_, ⟨rfl, rfl, rfl, by simp, fun j _ hj => setRow_other w g j _ (by simpa using hj)⟩⟩
    rw [setRow_heap w g _ _ B _ hg]
    congr 2
    apply Array.ext'
    have e1 : (ns.take k).length = k := by simp; omega
    unfold splice
    rw [e1]
    simp [bv, List.map_take, List.map_drop]
theorem wpList_copyS {ops : Array Oper} {rest : List Oper} {o : Oper} {a : Act} {Q : Exit → Act → World → Prop} (hgd : o.guard = none) (d s : Operand) (T : TypeId)
    (ho : o.op = .call { callee := .builtin .copy, args := #[d, s], argTypes := #[T, T] })
    (E B : TypeId) (ht : P.underlying T = some (.slice E)) (hI : (P.info? E).map (fun i => (i.zero, i.size, i.bytes)) = some (some (.int .u8 0), 1, 1))
    (dp : Option Addr) (dn dc : Nat) (hd : a.eval d = .slice dp dn dc) (g off : Nat) (bs : List Int) (hg : w.heap[g]? = some (.cells (bv bs).toArray B (0, 0))) (hdp : 0 < dn → dp = some ⟨g, off, none⟩) (hdn : off + dn ≤ bs.length)
    (p : Option Addr) (m c : Nat) (ns : List Int) (hx : a.eval s = .slice p m c) (hm : m = ns.length) (hrd : Rd w p ns)
    (h : ∀ w' k, Hid (k = min m dn) → Hid (w'.heap[g]? = some (.cells (bv (splice bs off (ns.take k))).toArray B (0, 0))) → Hid (Frm [g] w w') → wpList P ops Q rest (a.put o.dst (.int .i64 (k : Int))) w') :
    wpList P ops Q (o :: rest) a w := by
  refine wpList_plain hgd fun K hK => ?_
  subst hm
  obtain ⟨w', hrun, h1, h2⟩ := run_copyS (P := P) (w := w) T o.type E B ht hI dp dn dc g off bs hg hdp hdn p c ns hrd _ rfl
  unfold Oper.wp
  simp only [execOp, ho, resolve, invoke, builtin, Sem.run_bind, Sem.run_pure, Result.andThen_ok, List.map_toArray, List.map_cons, List.map_nil, hd, hx, hrun]
  exact hK _ _ (h w' _ rfl h1 h2)
end
theorem Own.lows {w : World} {E : TypeId} {p : Option Addr} {n c : Nat} {zs : List Int} (h : Own w E (.slice p n c) zs) : ∀ k ∈ blk p, k < w.heap.size := by
  obtain ⟨p', c', he, _, _, hh, _⟩ := h.shape
  simp only [Value.slice.injEq] at he
  obtain ⟨rfl, _, rfl⟩ := he
  intro k hk
  cases p with
  | none => simp [blk] at hk
  | some a => simp [blk] at hk; subst hk; exact (hh a rfl).2.2
theorem Rd.lows {w : World} {p : Option Addr} {zs : List Int} (h : Rd w p zs) (hne : zs ≠ []) : ∀ k ∈ blk p, k < w.heap.size := by
  rcases h with h | ⟨g, o, rfl, hc⟩
  · exact absurd h hne
  · intro k hk
    simp [blk] at hk
    subst hk
    exact World.block_lt_of_cell? w _ (hc 0 (by cases zs with | nil => exact absurd rfl hne | cons _ _ => simp))
theorem heap_alloc_to (w : World) (o : Obj) {k : Nat} (h : w.heap.size = k) : (w.alloc o).heap[k]? = some o := by subst h; exact heap_alloc_new _ _
end
section
open Go.RowKit
set_option maxRecDepth 100000
theorem rd_byte {w : World} {p : Option Addr} {zs : List Int} {i : Nat} (h : Rd w p zs) (hi : i < zs.length) : ∃ g o, p = some ⟨g, o, none⟩ ∧ w.cell? ⟨g, o + i, none⟩ = some (.int .u8 (zs.getD i 0)) := by
  rcases h with h | ⟨g, o, rfl, hc⟩
  · subst h; simp at hi
  · exact ⟨g, o, rfl, hc i hi⟩
/-- x turned to the right by k bits (k from 1 to 31). -/
def ror (x : Int) (k : Nat) : Int := bits .or .u32 (IntKind.u32.wrap (x * 2 ^ (32 - k))) (x / 2 ^ k)
theorem rotl_2 (x : Int) (w : World) :
    Calls Tryz.prog 132 #[.int .u32 x, .int .i64 (-2)] w fun e w' => e = .returned (.int .u32 (ror x 2)) ∧ w' = w := by
  have h1 : bits .and .u64 (IntKind.u64.wrap (-2)) 31 = 30 := by decide +kernel
  go_enter Tryz.func132, Tryz.ntmps132
  go_wp2_with fail
  go_returns
  exact ⟨rfl, rfl⟩
theorem right_2 (x : Int) (w : World) :
    Calls Tryz.prog 129 #[.int .u32 x, .int .i64 2] w fun e w' => e = .returned (.int .u32 (ror x 2)) ∧ w' = w := by
  go_enter Tryz.func129, Tryz.ntmps129
  go_wp2_with fail
  refine (rotl_2 x w).mono ?_
  rintro e w1 ⟨rfl, rfl⟩
  go_wp2_with fail
  go_returns
  exact ⟨rfl, rfl⟩
theorem rotl_6 (x : Int) (w : World) :
    Calls Tryz.prog 132 #[.int .u32 x, .int .i64 (-6)] w fun e w' => e = .returned (.int .u32 (ror x 6)) ∧ w' = w := by
  have h1 : bits .and .u64 (IntKind.u64.wrap (-6)) 31 = 26 := by decide +kernel
  go_enter Tryz.func132, Tryz.ntmps132
  go_wp2_with fail
  go_returns
  exact ⟨rfl, rfl⟩
theorem right_6 (x : Int) (w : World) :
    Calls Tryz.prog 129 #[.int .u32 x, .int .i64 6] w fun e w' => e = .returned (.int .u32 (ror x 6)) ∧ w' = w := by
  go_enter Tryz.func129, Tryz.ntmps129
  go_wp2_with fail
  refine (rotl_6 x w).mono ?_
  rintro e w1 ⟨rfl, rfl⟩
  go_wp2_with fail
  go_returns
  exact ⟨rfl, rfl⟩
theorem rotl_7 (x : Int) (w : World) :
    Calls Tryz.prog 132 #[.int .u32 x, .int .i64 (-7)] w fun e w' => e = .returned (.int .u32 (ror x 7)) ∧ w' = w := by
  have h1 : bits .and .u64 (IntKind.u64.wrap (-7)) 31 = 25 := by decide +kernel
  go_enter Tryz.func132, Tryz.ntmps132
  go_wp2_with fail
  go_returns
  exact ⟨rfl, rfl⟩
theorem right_7 (x : Int) (w : World) :
    Calls Tryz.prog 129 #[.int .u32 x, .int .i64 7] w fun e w' => e = .returned (.int .u32 (ror x 7)) ∧ w' = w := by
  go_enter Tryz.func129, Tryz.ntmps129
  go_wp2_with fail
  refine (rotl_7 x w).mono ?_
  rintro e w1 ⟨rfl, rfl⟩
  go_wp2_with fail
  go_returns
  exact ⟨rfl, rfl⟩
theorem rotl_11 (x : Int) (w : World) :
    Calls Tryz.prog 132 #[.int .u32 x, .int .i64 (-11)] w fun e w' => e = .returned (.int .u32 (ror x 11)) ∧ w' = w := by
  have h1 : bits .and .u64 (IntKind.u64.wrap (-11)) 31 = 21 := by decide +kernel
  go_enter Tryz.func132, Tryz.ntmps132
  go_wp2_with fail
  go_returns
  exact ⟨rfl, rfl⟩
theorem right_11 (x : Int) (w : World) :
    Calls Tryz.prog 129 #[.int .u32 x, .int .i64 11] w fun e w' => e = .returned (.int .u32 (ror x 11)) ∧ w' = w := by
  go_enter Tryz.func129, Tryz.ntmps129
  go_wp2_with fail
  refine (rotl_11 x w).mono ?_
  rintro e w1 ⟨rfl, rfl⟩
  go_wp2_with fail
  go_returns
  exact ⟨rfl, rfl⟩
theorem rotl_13 (x : Int) (w : World) :
    Calls Tryz.prog 132 #[.int .u32 x, .int .i64 (-13)] w fun e w' => e = .returned (.int .u32 (ror x 13)) ∧ w' = w := by
  have h1 : bits .and .u64 (IntKind.u64.wrap (-13)) 31 = 19 := by decide +kernel
  go_enter Tryz.func132, Tryz.ntmps132
  go_wp2_with fail
  go_returns
  exact ⟨rfl, rfl⟩
theorem right_13 (x : Int) (w : World) :
    Calls Tryz.prog 129 #[.int .u32 x, .int .i64 13] w fun e w' => e = .returned (.int .u32 (ror x 13)) ∧ w' = w := by
  go_enter Tryz.func129, Tryz.ntmps129
  go_wp2_with fail
  refine (rotl_13 x w).mono ?_
  rintro e w1 ⟨rfl, rfl⟩
  go_wp2_with fail
  go_returns
  exact ⟨rfl, rfl⟩
theorem rotl_17 (x : Int) (w : World) :
    Calls Tryz.prog 132 #[.int .u32 x, .int .i64 (-17)] w fun e w' => e = .returned (.int .u32 (ror x 17)) ∧ w' = w := by
  have h1 : bits .and .u64 (IntKind.u64.wrap (-17)) 31 = 15 := by decide +kernel
  go_enter Tryz.func132, Tryz.ntmps132
  go_wp2_with fail
  go_returns
  exact ⟨rfl, rfl⟩
theorem right_17 (x : Int) (w : World) :
    Calls Tryz.prog 129 #[.int .u32 x, .int .i64 17] w fun e w' => e = .returned (.int .u32 (ror x 17)) ∧ w' = w := by
  go_enter Tryz.func129, Tryz.ntmps129
  go_wp2_with fail
  refine (rotl_17 x w).mono ?_
  rintro e w1 ⟨rfl, rfl⟩
  go_wp2_with fail
  go_returns
  exact ⟨rfl, rfl⟩
theorem rotl_18 (x : Int) (w : World) :
    Calls Tryz.prog 132 #[.int .u32 x, .int .i64 (-18)] w fun e w' => e = .returned (.int .u32 (ror x 18)) ∧ w' = w := by
  have h1 : bits .and .u64 (IntKind.u64.wrap (-18)) 31 = 14 := by decide +kernel
  go_enter Tryz.func132, Tryz.ntmps132
  go_wp2_with fail
  go_returns
  exact ⟨rfl, rfl⟩
theorem right_18 (x : Int) (w : World) :
    Calls Tryz.prog 129 #[.int .u32 x, .int .i64 18] w fun e w' => e = .returned (.int .u32 (ror x 18)) ∧ w' = w := by
  go_enter Tryz.func129, Tryz.ntmps129
  go_wp2_with fail
  refine (rotl_18 x w).mono ?_
  rintro e w1 ⟨rfl, rfl⟩
  go_wp2_with fail
  go_returns
  exact ⟨rfl, rfl⟩
theorem rotl_19 (x : Int) (w : World) :
    Calls Tryz.prog 132 #[.int .u32 x, .int .i64 (-19)] w fun e w' => e = .returned (.int .u32 (ror x 19)) ∧ w' = w := by
  have h1 : bits .and .u64 (IntKind.u64.wrap (-19)) 31 = 13 := by decide +kernel
  go_enter Tryz.func132, Tryz.ntmps132
  go_wp2_with fail
  go_returns
  exact ⟨rfl, rfl⟩
theorem right_19 (x : Int) (w : World) :
    Calls Tryz.prog 129 #[.int .u32 x, .int .i64 19] w fun e w' => e = .returned (.int .u32 (ror x 19)) ∧ w' = w := by
  go_enter Tryz.func129, Tryz.ntmps129
  go_wp2_with fail
  refine (rotl_19 x w).mono ?_
  rintro e w1 ⟨rfl, rfl⟩
  go_wp2_with fail
  go_returns
  exact ⟨rfl, rfl⟩
theorem rotl_22 (x : Int) (w : World) :
    Calls Tryz.prog 132 #[.int .u32 x, .int .i64 (-22)] w fun e w' => e = .returned (.int .u32 (ror x 22)) ∧ w' = w := by
  have h1 : bits .and .u64 (IntKind.u64.wrap (-22)) 31 = 10 := by decide +kernel
  go_enter Tryz.func132, Tryz.ntmps132
  go_wp2_with fail
  go_returns
  exact ⟨rfl, rfl⟩
theorem right_22 (x : Int) (w : World) :
    Calls Tryz.prog 129 #[.int .u32 x, .int .i64 22] w fun e w' => e = .returned (.int .u32 (ror x 22)) ∧ w' = w := by
  go_enter Tryz.func129, Tryz.ntmps129
  go_wp2_with fail
  refine (rotl_22 x w).mono ?_
  rintro e w1 ⟨rfl, rfl⟩
  go_wp2_with fail
  go_returns
  exact ⟨rfl, rfl⟩
theorem rotl_25 (x : Int) (w : World) :
    Calls Tryz.prog 132 #[.int .u32 x, .int .i64 (-25)] w fun e w' => e = .returned (.int .u32 (ror x 25)) ∧ w' = w := by
  have h1 : bits .and .u64 (IntKind.u64.wrap (-25)) 31 = 7 := by decide +kernel
  go_enter Tryz.func132, Tryz.ntmps132
  go_wp2_with fail
  go_returns
  exact ⟨rfl, rfl⟩
theorem right_25 (x : Int) (w : World) :
    Calls Tryz.prog 129 #[.int .u32 x, .int .i64 25] w fun e w' => e = .returned (.int .u32 (ror x 25)) ∧ w' = w := by
  go_enter Tryz.func129, Tryz.ntmps129
  go_wp2_with fail
  refine (rotl_25 x w).mono ?_
  rintro e w1 ⟨rfl, rfl⟩
  go_wp2_with fail
  go_returns
  exact ⟨rfl, rfl⟩
/-- The turns of SHA-256. -/
def turnK (K : Int) : Bool := K == 2 || K == 6 || K == 7 || K == 11 || K == 13 || K == 17 || K == 18 || K == 19 || K == 22 || K == 25
def rorI (x K : Int) : Int := ror x K.toNat
theorem right_all (x K : Int) (hK : turnK K = true) (w : World) :
    Calls Tryz.prog 129 #[.int .u32 x, .int .i64 K] w fun e w' => e = .returned (.int .u32 (rorI x K)) ∧ w' = w := by
  simp only [turnK, Bool.or_eq_true, beq_iff_eq] at hK
  rcases hK with ((((((((rfl | rfl) | rfl) | rfl) | rfl) | rfl) | rfl) | rfl) | rfl) | rfl
  · exact right_2 x w
  · exact right_6 x w
  · exact right_7 x w
  · exact right_11 x w
  · exact right_13 x w
  · exact right_17 x w
  · exact right_18 x w
  · exact right_19 x w
  · exact right_22 x w
  · exact right_25 x w
/-- The word of four bytes, the lowest first. -/
def lowW (a b c d : Int) : Int := bits .or .u32 (bits .or .u32 (bits .or .u32 a (b * 256)) (c * 65536)) (d * 16777216)
theorem low_any (a b c d : Int) (w : World) (ha : 0 ≤ a ∧ a < 256) (hb : 0 ≤ b ∧ b < 256) (hc : 0 ≤ c ∧ c < 256) (hd : 0 ≤ d ∧ d < 256) :
    Calls Tryz.prog 121 #[.int .u8 a, .int .u8 b, .int .u8 c, .int .u8 d] w fun e w' => e = .returned (.int .u32 (lowW a b c d)) ∧ w' = w := by
  obtain ⟨a0, a1⟩ := ha
  obtain ⟨b0, b1⟩ := hb
  obtain ⟨c0, c1⟩ := hc
  obtain ⟨d0, d1⟩ := hd
  go_enter Tryz.func121, Tryz.ntmps121
  go_wp2_with fail
  go_returns
  exact ⟨rfl, rfl⟩
def pairW (h l : Int) : Int := bits .or .u64 (h * 4294967296) l
theorem pair_any (h l : Int) (w : World) (hh : 0 ≤ h ∧ h < 4294967296) (hl : 0 ≤ l ∧ l < 4294967296) :
    Calls Tryz.prog 123 #[.int .u32 h, .int .u32 l] w fun e w' => e = .returned (.int .u64 (pairW h l)) ∧ w' = w := by
  obtain ⟨a0, a1⟩ := hh
  obtain ⟨b0, b1⟩ := hl
  go_enter Tryz.func123, Tryz.ntmps123
  go_wp2_with fail
  go_returns
  exact ⟨rfl, rfl⟩
end
end Go.Proofs.YtajfjkfnmmfhmaaGreatDoor
