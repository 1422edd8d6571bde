/- Contracts of package code's reader's methods: Text, Pad, Left, Done. -/
import Derived.Test.YtajfjkfnmmfhmaaGreatDoorQraa
import Derived.Test.YtajfjkfnmmfhmaaGreatDoorRows
import Derived.Laws.OwnMore
import Derived.Deep.QuietTactic
import Derived.BigQuiet
import Derived.Deep.RegionHeld3
import Derived.Laws.BitsAllLaws
import Derived.StillTailTactics
import Derived.BigRegion
namespace Go.Proofs.YtajfjkfnmmfhmaaGreatDoor
set_option maxRecDepth 100000
set_option maxHeartbeats 25600000
section
open Go.RowKit
theorem conv_rd {P : Program} {w : World} (src e dst : TypeId) (hs : P.underlying src = some (.slice e)) (he : P.underlying e = some (.int .u8)) (hd : P.underlying dst = some .string) {g o n : Nat} {zs : List Int} (hrd : Rd w (some ⟨g, o, none⟩) zs) (cap : Nat) (hn : zs.length = n) :
  Sem.run P (convert src dst (.slice (some ⟨g, o, none⟩) n cap)) w = .ok (.string (strOfNums zs)) w := by
 refine run_convert_bytes_arg (P := P) (w := w) src e hs he g o n cap zs hn (fun i hi => ?_) dst hd
 rcases hrd with rfl | ⟨g', o', h, hc⟩
 ·simp at hn; omega
 ·simp at h; obtain ⟨rfl, rfl⟩ := h; exact hc i (by omega)
def textT (ls : List Int) (most : Int) : List Int × Nat × Int :=
 if ls.length < 2 then ([], 0, 10) else if most < leV (ls.take 2) then ([], 0, 11) else if ls.length < 2 + (leV (ls.take 2)).toNat then ([], 0, 10) else ((ls.drop 2).take (leV (ls.take 2)).toNat, 2 + (leV (ls.take 2)).toNat, 0)
theorem textT_len (ls : List Int) (k : Int) : (textT ls k).2.1 ≤ ls.length := by
 unfold textT
 split
 ·simp
 ·split
  ·simp
  ·split
   ·simp
   ·simp; omega
theorem text1R_any (x y g o c : Nat) (k : Int) (ls : List Int) (hb : ∀ z ∈ ls, 0 ≤ z ∧ z < 256) (w : World) (hrd : Rd w (some ⟨g, o, none⟩) ls) (hc : ls.length ≤ c) (hc2 : c ≤ 140737488355328)
  (hk : -9223372036854775808 ≤ k) (hk2 : k ≤ 9223372036854775807) (hx : w.cell? ⟨x, 0, none⟩ = some (.int .i64 k)) (hy : w.cell? ⟨y, 0, none⟩ = some (.string (strOfNums []))) (hyf : w.frozen? ⟨y, 0, none⟩ = false) :
  Calls Tryz.prog 113 #[.slice (some ⟨g, o, none⟩) ls.length c, .pointer (some ⟨x, 0, none⟩), .pointer (some ⟨y, 0, none⟩)] w (GivesR (textT ls k).2.1 (textT ls k).2.2 [y] (Holds y (.string (strOfNums (textT ls k).1))) w) := by
 have HY : Hid (Holds y (.string (strOfNums [])) w) := hy
 by_cases h1 : ls.length < 2
 ·rw [show textT ls k = ([], 0, 10) by unfold textT; rw [if_pos h1]]
  go_enter Tryz.func113, Tryz.ntmps113
  go_wp2_with fail
  go_returns
  exact ⟨rfl, HY.out, Frm.refl _ _⟩
 ·have hbd := leV_bd (ls.take 2) (fun z hz => hb z (List.mem_of_mem_take hz))
  rw [show (ls.take 2).length = 2 by simp; omega] at hbd
  have HV := hid (fun w' (h : Rd w' (some ⟨g, o, none⟩) ls) => value_any (some ⟨g, o, none⟩) c (ls.take 2) (fun z hz => hb z (List.mem_of_mem_take hz)) (by simp; omega) w' (h.take 2))
  rw [show (ls.take 2).length = 2 by simp; omega] at HV
  have e0 : textT ls k = if k < leV (ls.take 2) then ([], 0, 11) else if ls.length < 2 + (leV (ls.take 2)).toNat then ([], 0, 10) else ((ls.drop 2).take (leV (ls.take 2)).toNat, 2 + (leV (ls.take 2)).toNat, 0) := by unfold textT; rw [if_neg h1]
  rw [e0]
  clear e0
  generalize leV (ls.take 2) = N at hbd HV ⊢
  obtain ⟨n, rfl⟩ := Int.eq_ofNat_of_zero_le hbd.1
  rw [Int.toNat_natCast]
  have hn : n < 65536 := by have := hbd.2; simp at this; omega
  have HRD := hid hrd
  have hyl := World.block_lt_of_cell? w _ hy
  have hxl := World.block_lt_of_cell? w _ hx
  have h1' : 2 ≤ ls.length := by omega
  clear hbd hb hrd h1
  have step : ∀ w1 : World, Frm [] w w1 → w1.cell? ⟨x, 0, none⟩ = some (.int .i64 k) ∧ w1.cell? ⟨y, 0, none⟩ = some (.string (strOfNums [])) ∧ w1.frozen? ⟨y, 0, none⟩ = false := fun w1 hf =>
   ⟨(hf.cell (p := ⟨x, 0, none⟩) hxl (by simp)).trans hx, (hf.cell (p := ⟨y, 0, none⟩) hyl (by simp)).trans hy, (hf.frozen (p := ⟨y, 0, none⟩) hyl (by simp)).trans hyf⟩
  have ST := hid step
  clear step
  by_cases h2 : k < n
  ·rw [if_pos h2]
   go_enter Tryz.func113, Tryz.ntmps113
   go_wp2_with fail
   refine (HV.out w HRD.out).mono ?_
   rintro e w1 ⟨rfl, hf⟩
   obtain ⟨k1, k2, k3⟩ := ST.out w1 hf
   have K2 := hid k2
   go_wp2_with fail
   go_returns
   exact ⟨rfl, K2.out, hf.mono (by simp)⟩
  ·rw [if_neg h2]
   by_cases h3 : ls.length < 2 + n
   ·rw [if_pos h3]
    go_enter Tryz.func113, Tryz.ntmps113
    go_wp2_with fail
    refine (HV.out w HRD.out).mono ?_
    rintro e w1 ⟨rfl, hf⟩
    obtain ⟨k1, k2, k3⟩ := ST.out w1 hf
    have K2 := hid k2
    go_wp2_with fail
    go_returns
    exact ⟨rfl, K2.out, hf.mono (by simp)⟩
   ·rw [if_neg h3]
    have fin : ∀ w1 : World, Frm [] w w1 → w1.cell? ⟨y, 0, none⟩ = some (.string (strOfNums [])) → GivesR (2 + n) 0 [y] (Holds y (.string (strOfNums ((ls.drop 2).take n)))) w (.returned (.tuple #[.int .i64 (2 + n), .int .i64 0])) (w1.setCell ⟨y, 0, none⟩ (.string (strOfNums ((ls.drop 2).take n)))) := fun w1 hf k2 =>
     ⟨by simp, holds_set k2 _, (hf.mono (by simp)).trans ((Frm.refl _ _).setCell _ _ (by simp)) (fun i hi _ => hi)⟩
    have FIN := hid fin
    clear fin
    by_cases h4 : c = 2
    ·obtain rfl : n = 0 := by omega
     subst h4
     go_enter Tryz.func113, Tryz.ntmps113
     go_wp2_with fail
     refine (HV.out w HRD.out).mono ?_
     rintro e w1 ⟨rfl, hf⟩
     obtain ⟨k1, k2, k3⟩ := ST.out w1 hf
     have K2 := hid k2
     have hcv := conv_rd (P := Tryz.prog) (w := w1) 24 5 9 Tryz.underlying24 Tryz.underlying5 Tryz.underlying9 (g := g) (o := o) (n := 0) (Or.inl (List.take_zero (l := ls.drop 2))) 0 (by simp)
     go_wp2_with fail
     go_returns
     exact FIN.out w1 hf K2.out
    ·have hcv := fun w1 (h : Rd w1 (some ⟨g, o, none⟩) ls) => conv_rd (P := Tryz.prog) (w := w1) 24 5 9 Tryz.underlying24 Tryz.underlying5 Tryz.underlying9 (n := n) ((h.drop 2).take n) (c - 2) (by simp; omega)
     have HCV := hid hcv
     clear hcv
     go_enter Tryz.func113, Tryz.ntmps113
     go_wp2_with fail
     refine (HV.out w HRD.out).mono ?_
     rintro e w1 ⟨rfl, hf⟩
     obtain ⟨k1, k2, k3⟩ := ST.out w1 hf
     have K2 := hid k2
     have hcv := HCV.out w1 (HRD.out.kept hf (by simp))
     go_wp2_with fail
     go_returns
     exact FIN.out w1 hf K2.out
theorem textR_any (b g pos : Nat) (bs : List Int) (hb : ∀ z ∈ bs, 0 ≤ z ∧ z < 256) (err k : Int) (w : World) (hw : IsR w b g bs pos err) (hk : -9223372036854775808 ≤ k) (hk2 : k ≤ 9223372036854775807) :
  Calls Tryz.prog 93 #[.pointer (some ⟨b, 0, none⟩), .int .i64 k] w fun e w' => e = .returned (.string (strOfNums (readS [] pos err (textT (bs.drop pos) k)).1)) ∧
   IsR w' b g bs (readS [] pos err (textT (bs.drop pos) k)).2.1 (readS [] pos err (textT (bs.drop pos) k)).2.2 ∧ Frm [b] w w' := by
 obtain ⟨hlt, hlg, hbg, hpos, hlen, _⟩ := hw.cells
 have HW := hid hw
 have HB := hid hb
 obtain ⟨r, hr⟩ := eX (textT (bs.drop pos) k)
 have HR := hid hr
 rw [hr]
 clear hw hb hr
 by_cases he : err = 0
 ·subst he
  go_enter Tryz.func93, Tryz.ntmps93
  go_wp2_with fail
  have hF : Frm [] w ((w.alloc (Obj.cells #[Value.int IntKind.i64 k] 3)).alloc (Obj.cells #[Value.string { data := #[] }] 9)) := ((Frm.refl _ _).alloc _).alloc _
  obtain ⟨W, hWd⟩ : ∃ W, W = ((w.alloc (Obj.cells #[Value.int IntKind.i64 k] 3)).alloc (Obj.cells #[Value.string { data := #[] }] 9)) := ⟨_, rfl⟩
  have hx : W.cell? ⟨w.heap.size, 0, none⟩ = some (.int .i64 k) := by subst hWd; simp
  have hy : W.cell? ⟨w.heap.size + 1, 0, none⟩ = some (.string (strOfNums [])) := by subst hWd; simp [strOfNums]
  have hyf : W.frozen? ⟨w.heap.size + 1, 0, none⟩ = false := by subst hWd; simp
  rw [← hWd] at hF ⊢
  have hW0 := HW.out.kept hF (by simp) (by simp)
  refine (take_both b g pos r.2.1 r.2.2 bs [w.heap.size + 1] (Holds (w.heap.size + 1) (.string (strOfNums r.1))) 113 _ W hW0 (by simp; omega) (by simp; omega) (by have := textT_len (bs.drop pos) k; rw [HR.out] at this; simp at this; omega) (fun l w => callable Tryz.func113 (by kernel_rfl) (by kernel_rfl) _ _) ?_).mono ?_
  ·intro o c hc hrd
   have := text1R_any w.heap.size (w.heap.size + 1) g o c k (bs.drop pos) (fun z hz => HB.out z (List.mem_of_mem_drop hz)) W.drew hrd hc.1 hc.2 hk hk2 hx hy hyf
   rw [HR.out] at this
   exact this
  rintro e w' ⟨rfl, w1, h1, h2, h3, h4⟩
  have hv := h1.kept h3 (by simp; omega)
  go_wp2_with fail
  go_returns
  rw [readS_ok]
  exact ⟨rfl, h4, two_steps hF h2 h3 (by omega)⟩
 ·have HE : Hid (err ≠ 0) := he
  clear he
  go_enter Tryz.func93, Tryz.ntmps93
  go_wp2_with fail
  have hF : Frm [] w ((w.alloc (Obj.cells #[Value.int IntKind.i64 k] 3)).alloc (Obj.cells #[Value.string { data := #[] }] 9)) := ((Frm.refl _ _).alloc _).alloc _
  refine (take_stop b g pos err bs _ _ _ (HW.out.kept hF (by simp) (by simp)) HE.out).mono ?_
  rintro e w' ⟨rfl, rfl⟩
  go_wp2_with fail
  go_returns
  unfold readS
  rw [if_pos HE.out]
  exact ⟨rfl, HW.out.kept hF (by simp) (by simp), hF.mono (by simp)⟩
theorem int_eq {a c : Int} (h : a = c) : Ending.returned (.int .i64 a) = Ending.returned (.int .i64 c) := by rw [h]
theorem left_any (b g pos : Nat) (bs : List Int) (err : Int) (w : World) (hw : IsR w b g bs pos err) :
  Calls Tryz.prog 89 #[.pointer (some ⟨b, 0, none⟩)] w fun e w' => e = .returned (.int .i64 ((bs.length - pos : Nat) : Int)) ∧ ∃ n, w' = w.drewN n := by
 obtain ⟨hlt, hlg, hbg, hpos, hlen, c0, c1, c2, f1, f2, _⟩ := hw.cells
 clear hw
 go_enter Tryz.func89, Tryz.ntmps89
 go_wp2_with fail
 go_quiet (fail)
 go_wp2_with fail
 go_returns
 exact ⟨int_eq (by omega), nq, rfl⟩
def doneS (len pos : Nat) (err : Int) : Int := if err = 0 ∧ pos < len then 13 else err
theorem doneR_any (b g pos : Nat) (bs : List Int) (err : Int) (w : World) (hw : IsR w b g bs pos err) :
  Calls Tryz.prog 43 #[.pointer (some ⟨b, 0, none⟩)] w fun e w' => e = .returned (.int .i64 (doneS bs.length pos err)) ∧ ∃ n, w' = w.drewN n := by
 obtain ⟨hlt, hlg, hbg, hpos, hlen, c0, c1, c2, f1, f2, _⟩ := hw.cells
 have HW := hid hw
 clear hw
 by_cases he : err = 0
 ·subst he
  by_cases hp : pos < bs.length
  ·rw [show doneS bs.length pos 0 = 13 by simp [doneS, hp]]
   go_enter Tryz.func43, Tryz.ntmps43
   go_wp2_with fail
   refine (left_any b g pos bs 0 _ HW.out).mono ?_
   rintro e w' ⟨rfl, n, rfl⟩
   have hpp : (0 : Int) < ((bs.length - pos : Nat) : Int) := by omega
   go_wp2_with fail
   go_returns
   exact ⟨rfl, _, rfl⟩
  ·rw [show doneS bs.length pos 0 = 0 by simp [doneS]; omega]
   go_enter Tryz.func43, Tryz.ntmps43
   go_wp2_with fail
   refine (left_any b g pos bs 0 _ HW.out).mono ?_
   rintro e w' ⟨rfl, n, rfl⟩
   have hpp : ¬ (0 : Int) < ((bs.length - pos : Nat) : Int) := by omega
   go_wp2_with fail
   go_returns
   exact ⟨rfl, _, rfl⟩
 ·rw [show doneS bs.length pos err = err by simp [doneS, he]]
  have hb : (err == 0) = false := by simpa using he
  have hb2 : (err != 0) = true := by simpa using he
  clear he
  go_enter Tryz.func43, Tryz.ntmps43
  go_wp2_with fail
  go_returns
  exact ⟨rfl, 0, rfl⟩
end
section
open Go.RowKit
def Keeps (A : List Nat) (w w' : World) : Prop := ∀ k ∈ A, w'.heap[k]? = w.heap[k]?
theorem Rd.keeps {w w' : World} {p : Option Addr} {zs : List Int} {A : List Nat} (h : Rd w p zs) (hk : Keeps A w w') (hp : ∀ k ∈ blk p, k ∈ A) : Rd w' p zs := by
 rcases h with h | ⟨g, o, rfl, hc⟩
 ·exact Or.inl h
 ·refine Or.inr ⟨g, o, rfl, fun i hi => ?_⟩
  rw [World.cell?_of_block (hk g (hp g (by simp [blk])))]
  exact hc i hi
theorem Frm.keeps {S A : List Nat} {w w' : World} (h : Frm S w w') (hA : ∀ k ∈ A, k ∉ S ∧ k < w.heap.size) : Keeps A w w' := fun k hk => h.block k (hA k hk).2 (hA k hk).1
def FreshW (w0 w : World) (b : Nat) (room : Int) (s : List Int × Int) (A : List Nat) : Prop := ∃ fp, IsW w b fp room s.1 s.2 ∧ Frm [] w0 w ∧ (∀ k ∈ fp, w0.heap.size ≤ k) ∧ ∀ k ∈ A, k ∉ fp ∧ k < w.heap.size
theorem FreshW.next {w0 w w' : World} {b : Nat} {room : Int} {fp A : List Nat} {s : List Int × Int} (hF : Frm [] w0 w) (hfp : ∀ k ∈ fp, w0.heap.size ≤ k) (hA : ∀ k ∈ A, k ∉ fp ∧ k < w.heap.size) (h : NowW w b fp room s.1 s.2 w') : FreshW w0 w' b room s A ∧ Keeps A w w' := by
 obtain ⟨fp', h1, h2, h3⟩ := h
 refine ⟨⟨fp', h1, hF.trans h2 (fun i hi hlt => absurd (hfp i hi) (Nat.not_le.2 hlt)), fun k hk => (h3 k hk).elim (hfp k) (fun h => Nat.le_trans hF.size h), fun k hk => ⟨fun hk' => ?_, Nat.lt_of_lt_of_le (hA k hk).2 h2.size⟩⟩, h2.keeps hA⟩
 rcases h3 k hk' with h | h
 ·exact (hA k hk).1 h
 ·exact absurd (hA k hk).2 (Nat.not_lt.2 h)
theorem FreshW.born {w0 w : World} {b : Nat} {room : Int} (h : IsW w b [b] room [] 0) (hf : Frm [] w0 w) (hb : w0.heap.size ≤ b) : FreshW w0 w b room ([], 0) [] := ⟨[b], h, hf, by simpa using hb, by simp⟩
theorem FreshW.frm {w0 w : World} {b : Nat} {room : Int} {s : List Int × Int} {A : List Nat} (h : FreshW w0 w b room s A) : Frm [] w0 w := by obtain ⟨_, _, h, _⟩ := h; exact h
section
variable (w0 w : World) (b : Nat) (room : Int) (s : List Int × Int) (A : List Nat) (hw : FreshW w0 w b room s A) (hr0 : 0 ≤ room) (hr1 : room ≤ 2147483647) (hz : (s.1.length : Int) ≤ room)
include hw hr0 hr1 hz
theorem numF_any (n k : Int) (hn : 0 ≤ n) (hn2 : n < 18446744073709551616) (hk : -9223372036854775808 ≤ k) (hk2 : k ≤ 9223372036854775807) :
  Calls Tryz.prog 27 #[.pointer (some ⟨b, 0, none⟩), .int .u64 n, .int .i64 k] w fun e w' => e = .returned (.tuple #[]) ∧ FreshW w0 w' b room (stepW room s (numF n k)) A ∧ Keeps A w w' := by
 obtain ⟨fp, h1, h2, h3, h4⟩ := hw
 exact (num_any b fp room s n k w h1 hr0 hr1 hz hn hn2 hk hk2).mono fun e w' h => ⟨h.1, FreshW.next h2 h3 h4 h.2⟩
theorem bytesF_any (p : Option Addr) (ns : List Int) (c : Nat) (hl : ns.length ≤ 140737488355328) (hc : ns = [] → p = none → c = 0) (hrd : Rd w p ns) :
  Calls Tryz.prog 28 #[.pointer (some ⟨b, 0, none⟩), .slice p ns.length c] w fun e w' => e = .returned (.tuple #[]) ∧ FreshW w0 w' b room (stepW room s (ns, 0)) A ∧ Keeps A w w' := by
 obtain ⟨fp, h1, h2, h3, h4⟩ := hw
 exact (bytes_any b fp room s p ns c w h1 hr0 hr1 hz hl hc hrd).mono fun e w' h => ⟨h.1, FreshW.next h2 h3 h4 h.2⟩
theorem textF_any (t : ByteArray) (ht : t.size ≤ maxLen) :
  Calls Tryz.prog 92 #[.pointer (some ⟨b, 0, none⟩), .string t] w fun e w' => e = .returned (.tuple #[]) ∧ FreshW w0 w' b room (stepW room s (textF t)) A ∧ Keeps A w w' := by
 obtain ⟨fp, h1, h2, h3, h4⟩ := hw
 exact (text_any b fp room s t w h1 hr0 hr1 hz ht).mono fun e w' h => ⟨h.1, FreshW.next h2 h3 h4 h.2⟩
end
theorem doneWF_ok (w0 w : World) (b : Nat) (room : Int) (zs : List Int) (A : List Nat) (hw : FreshW w0 w b room (zs, 0) A) (hr1 : room ≤ 2147483647) (hz : (zs.length : Int) ≤ room) :
  Calls Tryz.prog 26 #[.pointer (some ⟨b, 0, none⟩)] w fun e w' => ∃ g, e = .returned (.tuple #[.slice (some ⟨g, 0, none⟩) zs.length zs.length, .int .i64 0]) ∧ Rd w' (some ⟨g, 0, none⟩) zs ∧ FreshW w0 w' b room (zs, 0) (g :: A) ∧ Keeps A w w' ∧ w0.heap.size ≤ g ∧ g < w'.heap.size := by
 obtain ⟨fp, h1, h2, h3, h4⟩ := hw
 refine (doneW_ok b fp room zs w h1 hr1 hz).mono ?_
 rintro e w' ⟨g, he, hg, hf, hsz⟩
 refine ⟨g, he, (own_of_block (E := 5) hg (by unfold maxLen; omega)).rd, ⟨fp, h1.kept hf (by simp), h2.trans hf (by simp), h3, ?_⟩, hf.keeps (fun k hk => ⟨by simp, (h4 k hk).2⟩), Nat.le_trans h2.size hsz, lt_of_heap hg⟩
 intro k hk
 simp at hk
 rcases hk with rfl | hk
 ·exact ⟨fun h => absurd (h1.lt k h) (Nat.not_lt.2 hsz), lt_of_heap hg⟩
 ·exact ⟨(h4 k hk).1, Nat.lt_of_lt_of_le (h4 k hk).2 hf.size⟩
def FreshR (w0 w : World) (b g : Nat) (bs : List Int) (pos : Nat) (err : Int) : Prop := IsR w b g bs pos err ∧ Frm [] w0 w ∧ w0.heap.size ≤ b ∧ w0.heap.size ≤ g
theorem FreshR.next {w0 w w' : World} {b g : Nat} {bs : List Int} {pos pos' : Nat} {err err' : Int} (h : FreshR w0 w b g bs pos err) (hr : IsR w' b g bs pos' err') (hf : Frm [b] w w') : FreshR w0 w' b g bs pos' err' :=
 ⟨hr, h.2.1.trans hf (fun i hi hlt => by simp at hi; have := h.2.2.1; omega), h.2.2⟩
theorem FreshR.drewN {w0 w : World} {b g : Nat} {bs : List Int} {pos : Nat} {err : Int} (h : FreshR w0 w b g bs pos err) (n : Nat) : FreshR w0 (w.drewN n) b g bs pos err :=
 ⟨h.1.kept ((Frm.refl [] w).drewN n) (by simp) (by simp), h.2.1.drewN n, h.2.2⟩
theorem le_bd (n : Int) (k : Nat) : ∀ z ∈ le n k, 0 ≤ z ∧ z < 256 := by
 intro z hz; simp [le] at hz; obtain ⟨i, _, rfl⟩ := hz; omega
theorem leV_le (n : Nat) (k : Nat) : leV (le (n : Int) k) = ((n % 2 ^ (8 * k) : Nat) : Int) := by
 induction k with
 | zero => simp [le, leV, Nat.mod_one]
 | succ k ih =>
  rw [le_succ, leV_snoc, ih, le_length]
  have e : (2 : Nat) ^ (8 * (k + 1)) = 2 ^ (8 * k) * 256 := by rw [Nat.mul_add, Nat.pow_add]
  rw [e, Nat.mod_mul, show ((2 : Int) ^ (8 * k)) = ((2 ^ (8 * k) : Nat) : Int) by simp]
  generalize 2 ^ (8 * k) = q
  rw [Int.natCast_add, Int.natCast_mul, Int.natCast_emod (n / q) 256, Int.natCast_ediv, Int.mul_comm]
  rfl
theorem leV_fit (n : Int) (k : Nat) (hn : 0 ≤ n) (h : n / 2 ^ (8 * k) = 0) : leV (le n k) = n := by
 obtain ⟨m, rfl⟩ := Int.eq_ofNat_of_zero_le hn
 rw [leV_le]
 have h2 : ((m / 2 ^ (8 * k) : Nat) : Int) = 0 := by rw [Int.natCast_ediv]; simpa using h
 have h3 : m / 2 ^ (8 * k) = 0 := by omega
 have hq : 0 < 2 ^ (8 * k) := Nat.pow_pos (by decide)
 rw [Nat.mod_eq_of_lt]
 exact (Nat.div_eq_zero_iff_lt hq).1 h3
end
section
open Go.RowKit Go.Lib
def Rv (w : World) (p : Option Addr) (vs : List Value) : Prop :=
 vs = [] ∨ ∃ g o, p = some ⟨g, o, none⟩ ∧ ∀ i u, vs[i]? = some u → w.cell? ⟨g, o + i, none⟩ = some u
theorem Rv.kept {S : List Nat} {w w' : World} {p : Option Addr} {vs : List Value} (h : Rv w p vs) (hf : Frm S w w') (hn : ∀ k ∈ blk p, k ∉ S) : Rv w' p vs := by
 rcases h with h | ⟨g, o, rfl, hc⟩
 ·exact Or.inl h
 ·refine Or.inr ⟨g, o, rfl, fun i u hi => ?_⟩
  have hlt : g < w.heap.size := World.block_lt_of_cell? w _ (hc i u hi)
  rw [hf.cell (p := ⟨g, o + i, none⟩) hlt (hn g (by simp [blk]))]
  exact hc i u hi
theorem Rd.rv {w : World} {p : Option Addr} {zs : List Int} (h : Rd w p zs) : Rv w p (bv zs) := by
 rcases h with rfl | ⟨g, o, rfl, hc⟩
 ·exact Or.inl rfl
 ·refine Or.inr ⟨g, o, rfl, fun i u hu => ?_⟩
  have hj : i < zs.length := by have := (List.getElem?_eq_some_iff.1 hu).1; simpa [bv] using this
  rw [bv_get hj] at hu
  rw [hc i hj]
  exact hu
theorem rv_block {w : World} {g : Nat} {cs : Array Value} {E : TypeId} (h : w.heap[g]? = some (.cells cs E (0, 0))) : Rv w (some ⟨g, 0, none⟩) cs.toList :=
 Or.inr ⟨g, 0, rfl, fun i u hu => by rw [Nat.zero_add, cell_of_row w g i cs E (0, 0) h]; simpa using hu⟩
section
variable {P : Program} {w : World}
theorem add_lit (g o j : Nat) : (⟨g, o, none⟩ : Addr).add j = ⟨g, o + j, none⟩ := by unfold Addr.add; split <;> simp_all
theorem run_appV (t ty E : TypeId) (sz bytes : Nat) (z : Value) (ht : P.underlying t = some (.slice E)) (hI : (P.info? E).map (fun i => (i.zero, i.size, i.bytes)) = some (some z, sz, bytes)) (hzs : z.cells.size = sz) (hsz : 0 < sz)
  (v : Value) (n : Nat) (xs : List Value) (hown : w.ownsRow 0 E sz v n xs) (p : Option Addr) (m c : Nat) (ns : List Value) (hnl : ns.length = m * sz) (hp : m = 0 → p = none → c = 0) (hrd : Rv w p ns) (h1 : ∀ u ∈ ns, u.oneCell' = true)
  (hmax : n + m ≤ maxLen) (hb : (n + m) * bytes ≤ 140737488355328) :
  ∃ v' w', (Builtin.append_ #[t, t] ty #[v, .slice p m c]).run P w = .ok v' w' ∧ w'.ownsRow 0 E sz v' (n + m) (xs ++ ns) ∧ Frm v.ownBlock.toList w w' ∧ (∀ k ∈ v'.ownBlock.toList, k ∈ v.ownBlock.toList ∨ w.heap.size ≤ k) := by
 obtain ⟨i, hi, hz, hs, hby⟩ := info_parts hI
 by_cases hm : m = 0
 ·subst hm
  obtain rfl : ns = [] := List.eq_nil_of_length_eq_zero (by simpa using hnl)
  cases p with
  | none =>
   obtain rfl := hp rfl rfl
   have hr := run_append_owned_none (P := P) w 0 t ty E i sz ht hi v n xs hown
   exact ⟨v, w, hr, by simpa using hown, Frm.refl _ _, fun k hk => Or.inl hk⟩
  | some ad =>
   obtain ⟨v', w', hr, ho, hg, _⟩ := run_append_own (P := P) w 0 t ty E i z sz bytes ht hi hz hs hby hzs hsz v n xs hown ad 0 c [] (by simp) (by simp) (by simp) hmax hb (Nat.zero_le _)
   refine ⟨v', w', hr, ho, (Frm.refl _ _).grown hg (fun k hk _ => by simp [hk]), ?_⟩
   rcases hown.2 with ⟨rfl, rfl⟩ | ⟨g, cap, cur, rfl, _, hgg, hc, hcm, hcs, htk⟩
   ·obtain rfl : xs = [] := List.eq_nil_of_length_eq_zero (by simpa using hown.1)
    obtain ⟨v2, w2, hr2, ho2, _, _⟩ := run_append_own (P := P) w w.heap.size t ty E i z sz bytes ht hi hz hs hby hzs hsz (.slice none 0 0) 0 [] (World.ownsRow_nil w _ E sz) ad 0 c [] (by simp) (by simp) (by simp) hmax hb (Nat.le_refl _)
    obtain ⟨rfl, rfl⟩ := oks (hr.symm.trans hr2)
    intro k hk; exact Or.inr (ho2.lt k (by simpa using hk)).1
   ·have hr2 := run_append_room (P := P) w t ty E i ht hi g n cap cur hgg ad 0 c [] (by simp) (by simp) (by simp) (by omega) (by simp [hs, hcs]; exact Nat.mul_le_mul_right _ hc)
    obtain ⟨rfl, rfl⟩ := oks (hr.symm.trans hr2)
    intro k hk; exact Or.inl (by simpa [Value.ownBlock] using hk)
 ·have hne : ns ≠ [] := by
   intro h; subst h
   have h0 : m * sz = 0 := by simpa using hnl.symm
   rcases Nat.mul_eq_zero.1 h0 with h | h
   ·exact hm h
   ·omega
  obtain ⟨g0, o0, rfl, hc0⟩ : ∃ g o, p = some ⟨g, o, none⟩ ∧ ∀ i u, ns[i]? = some u → w.cell? ⟨g, o + i, none⟩ = some u := by
   rcases hrd with h | h
   ·exact absurd h hne
   ·exact h
  have hnews : ∀ j u, ns[j]? = some u → w.cell? ((⟨g0, o0, none⟩ : Addr).add j) = some u := by
   intro j u hu; rw [add_lit]; exact hc0 j u hu
  obtain ⟨v', w', hr, ho, hg, _⟩ := run_append_own (P := P) w 0 t ty E i z sz bytes ht hi hz hs hby hzs hsz v n xs hown ⟨g0, o0, none⟩ m c ns hnl hnews h1 hmax hb (Nat.zero_le _)
  refine ⟨v', w', hr, ho, (Frm.refl _ _).grown hg (fun k hk _ => by simp [hk]), ?_⟩
  have hpos : 0 < m := by omega
  have hm63 : n + m ≤ 9223372036854775807 := by unfold maxLen at hmax; omega
  rcases hown.2 with ⟨rfl, rfl⟩ | ⟨g, cap, cur, rfl, _, hgg, hc, hcm, hcs, htk⟩
  ·have hr2 := run_append_nil (P := P) w t ty E i z ht hi hz ⟨g0, o0, none⟩ m c ns (by rw [hs]; exact hnl) hnews hpos (by omega) (by rw [hby]; rw [Nat.zero_add] at hb; omega)
   obtain ⟨rfl, rfl⟩ := oks (hr.symm.trans hr2)
   intro k hk; simp [Value.ownBlock] at hk; exact Or.inr (by omega)
  ·by_cases hroom : n + m ≤ cap
   ·have hr2 := run_append_room (P := P) w t ty E i ht hi g n cap cur hgg ⟨g0, o0, none⟩ m c ns (by rw [hs]; exact hnl) hnews h1 hroom (by rw [hnl, hs, hcs, ← Nat.add_mul]; exact Nat.mul_le_mul_right _ hroom)
    obtain ⟨rfl, rfl⟩ := oks (hr.symm.trans hr2)
    intro k hk; exact Or.inl (by simpa [Value.ownBlock] using hk)
   ·have holds := World.ownsRow.cells (g := g) hown rfl
    have hr2 := run_append_grow (P := P) w t ty E i z ht hi hz ⟨g, 0, none⟩ n cap xs (by rw [hs]; exact hown.1) holds ⟨g0, o0, none⟩ m c ns (by rw [hs]; exact hnl) hnews (by omega) (by omega) (growslice_fits (by omega) (by rw [hby]; exact hb))
    obtain ⟨rfl, rfl⟩ := oks (hr.symm.trans hr2)
    intro k hk; simp [Value.ownBlock] at hk; exact Or.inr (by omega)
theorem ownsRow_shape {E : TypeId} {sz n : Nat} {v : Value} {xs : List Value} (h : w.ownsRow 0 E sz v n xs) : ∃ p c, v = .slice p n c := by
 rcases h.2 with ⟨rfl, rfl⟩ | ⟨g, c, cur, rfl, _⟩
 ·exact ⟨none, 0, rfl⟩
 ·exact ⟨_, c, rfl⟩
theorem wpList_appV {ops : Array Oper} {rest : List Oper} {o : Oper} {a : Act} {Q : Exit → Act → World → Prop} (hgd : o.guard = none) (s x : Operand) (t : TypeId)
  (ho : o.op = .call { callee := .builtin .append, args := #[s, x], argTypes := #[t, t] })
  (E : TypeId) (sz bytes : Nat) (z : Value) (ht : P.underlying t = some (.slice E)) (hI : (P.info? E).map (fun i => (i.zero, i.size, i.bytes)) = some (some z, sz, bytes)) (hzs : z.cells.size = sz) (hsz : 0 < sz)
  (p0 : Option Addr) (n c0 : Nat) (xs : List Value) (hs : a.eval s = .slice p0 n c0) (hown : w.ownsRow 0 E sz (.slice p0 n c0) n xs)
  (p : Option Addr) (m c : Nat) (ns : List Value) (hx : a.eval x = .slice p m c) (hnl : ns.length = m * sz) (hp : m = 0 → p = none → c = 0) (hrd : Rv w p ns) (h1 : ∀ u ∈ ns, u.oneCell' = true)
  (hmax : n + m ≤ maxLen) (hb : (n + m) * bytes ≤ 140737488355328)
  (h : ∀ p2 c2 w', Hid (w'.ownsRow 0 E sz (.slice p2 (n + m) c2) (n + m) (xs ++ ns)) → Hid (Frm (blk p0) w w') → Hid (∀ k ∈ blk p2, k ∈ blk p0 ∨ w.heap.size ≤ k) → wpList P ops Q rest (a.put o.dst (.slice p2 (n + m) c2)) w') :
  wpList P ops Q (o :: rest) a w := by
 refine wpList_plain hgd fun K hK => ?_
 obtain ⟨v', w', hrun, h2, h3, h4⟩ := run_appV (P := P) (w := w) t o.type E sz bytes z ht hI hzs hsz _ n xs hown p m c ns hnl hp hrd h1 hmax hb
 obtain ⟨p2, c2, rfl⟩ := ownsRow_shape h2
 rw [own_blk] at h4
 rw [own_blk] at h3 h4
 unfold Oper.wp
 simp [execOp, ho, resolve, invoke, builtin, hs, hx, hrun, Result.andThen]
 exact hK _ _ (h p2 c2 w' h2 h3 h4)
theorem ownsRow_kept {S : List Nat} {w' : World} {E : TypeId} {sz n : Nat} {p : Option Addr} {c : Nat} {xs : List Value} (h : w.ownsRow 0 E sz (.slice p n c) n xs) (hf : Frm S w w') (hn : ∀ k ∈ blk p, k ∉ S) : w'.ownsRow 0 E sz (.slice p n c) n xs := by
 refine ⟨h.1, ?_⟩
 rcases h.2 with h0 | ⟨g, c, cur, he, hb, hg, r⟩
 ·exact Or.inl h0
 ·simp only [Value.slice.injEq] at he
  obtain ⟨rfl, _, rfl⟩ := he
  exact Or.inr ⟨g, _, cur, rfl, hb, hf.heap hg (hn g (by simp [blk])), r⟩
theorem ownsRow_low {E : TypeId} {sz n : Nat} {p : Option Addr} {c : Nat} {xs : List Value} (h : w.ownsRow 0 E sz (.slice p n c) n xs) : ∀ k ∈ blk p, k < w.heap.size := by
 intro k hk
 exact (h.lt k (by cases p <;> simp_all [blk, Value.ownBlock])).2
end
end
section
open Go.RowKit Go.Lib
theorem infoB : (Tryz.prog.info? 5).map (fun i => (i.zero, i.size, i.bytes)) = some (some (.int .u8 0), 1, 1) := by kernel_rfl
theorem cv_any {P : Program} {w : World} (src e dst : TypeId) (hs : P.underlying src = some (.slice e)) (he : P.underlying e = some (.int .u8)) (hd : P.underlying dst = some .string) {p : Option Addr} {n : Nat} {zs : List Int} (hrd : Rd w p zs) (cap : Nat) (hn : zs.length = n) :
  Sem.run P (convert src dst (.slice p n cap)) w = .ok (.string (strOfNums zs)) w := by
 rcases hrd with rfl | ⟨g, o, rfl, hc⟩
 ·simp at hn
  subst hn
  cases p with
  | none => exact run_convert_bytes_nil (P := P) (w := w) src e hs he 0 cap dst hd
  | some a =>
   rw [run_convert_bytes_string w src dst e _ _ _ hs he hd, run_bytesToString w a 0 cap [] (by simp [loadCells, loadCellsFrom])]
   rfl
 ·exact run_convert_bytes_arg (P := P) (w := w) src e hs he g o n cap zs hn (fun i hi => hc i (by omega)) dst hd
def splice (bs : List Int) (at_ : Nat) (zs : List Int) : List Int := bs.take at_ ++ zs ++ bs.drop (at_ + zs.length)
section
variable {P : Program} {w : World}
theorem run_copyS (T ty : TypeId) (E : TypeId) (B : TypeId) (ht : P.underlying T = some (.slice E)) (hI : (P.info? E).map (fun i => (i.zero, i.size, i.bytes)) = some (some (.int .u8 0), 1, 1))
  (dp : Option Addr) (dn dc : Nat) (g off : Nat) (bs : List Int) (hg : w.heap[g]? = some (.cells (bv bs).toArray B (0, 0))) (hdp : 0 < dn → dp = some ⟨g, off, none⟩) (hdn : off + dn ≤ bs.length)
  (p : Option Addr) (c : Nat) (ns : List Int) (hrd : Rd w p ns) (k : Nat) (hk : k = min ns.length dn) :
  ∃ w', (Builtin.copy_ #[T, T] ty #[.slice dp dn dc, .slice p ns.length c]).run P w = .ok (.int .i64 (k : Int)) w' ∧ w'.heap[g]? = some (.cells (bv (splice bs off (ns.take k))).toArray B (0, 0)) ∧ Frm [g] w w' := by
 obtain ⟨i, hi, hz, h1, h2⟩ := info_parts hI
 have hsz : (P.info? E).map (·.size) = some 1 := by simp [hi, h1]
 by_cases hn : k = 0
 ·have hrun := run_copy_none (P := P) w T T ty E dp p dn dc ns.length c ht hsz (by show min ns.length dn = 0; omega)
  refine ⟨w, by rw [hn]; exact hrun, by rw [hn]; simpa [splice] using hg, Frm.refl _ _⟩
 ·have hne : ns ≠ [] := by intro e; subst e; simp at hk; omega
  obtain ⟨ad, rfl, hnews⟩ := bytes_at hrd hne
  have hdn0 : 0 < dn := by omega
  have hkl : k ≤ ns.length ∧ k ≤ dn := by omega
  have hl : (bv (ns.take k)).length = k := by simp [bv]; omega
  obtain rfl := hdp hdn0
  have hrun := run_copy_row (P := P) w T T ty E g off dn dc ad ns.length c _ B (bv (ns.take k)) ht hsz hg (by rw [hl]; exact hk) (by
   intro j v hj
   have hjn : j < k := by have := (List.getElem?_eq_some_iff.1 hj).1; omega
   refine hnews j v ?_
   rw [bv_take, List.getElem?_take, if_pos hjn] at hj
   exact hj) (by rw [hl]; simp [bv]; omega) bv_one
  rw [hl] at hrun
  refine ⟨_, hrun, ?_, ⟨rfl, rfl, rfl, by simp, fun j _ hj => setRow_other w g j _ (by simpa using hj)⟩⟩
  rw [setRow_heap w g _ _ B _ hg]
  congr 2
  apply Array.ext'
  have e1 : (ns.take k).length = k := by simp; omega
  unfold splice
  rw [e1]
  simp [bv, List.map_take, List.map_drop]
theorem wpList_copyS {ops : Array Oper} {rest : List Oper} {o : Oper} {a : Act} {Q : Exit → Act → World → Prop} (hgd : o.guard = none) (d s : Operand) (T : TypeId)
  (ho : o.op = .call { callee := .builtin .copy, args := #[d, s], argTypes := #[T, T] })
  (E B : TypeId) (ht : P.underlying T = some (.slice E)) (hI : (P.info? E).map (fun i => (i.zero, i.size, i.bytes)) = some (some (.int .u8 0), 1, 1))
  (dp : Option Addr) (dn dc : Nat) (hd : a.eval d = .slice dp dn dc) (g off : Nat) (bs : List Int) (hg : w.heap[g]? = some (.cells (bv bs).toArray B (0, 0))) (hdp : 0 < dn → dp = some ⟨g, off, none⟩) (hdn : off + dn ≤ bs.length)
  (p : Option Addr) (m c : Nat) (ns : List Int) (hx : a.eval s = .slice p m c) (hm : m = ns.length) (hrd : Rd w p ns)
  (h : ∀ w' k, Hid (k = min m dn) → Hid (w'.heap[g]? = some (.cells (bv (splice bs off (ns.take k))).toArray B (0, 0))) → Hid (Frm [g] w w') → wpList P ops Q rest (a.put o.dst (.int .i64 (k : Int))) w') :
  wpList P ops Q (o :: rest) a w := by
 refine wpList_plain hgd fun K hK => ?_
 subst hm
 obtain ⟨w', hrun, h1, h2⟩ := run_copyS (P := P) (w := w) T o.type E B ht hI dp dn dc g off bs hg hdp hdn p c ns hrd _ rfl
 unfold Oper.wp
 simp only [execOp, ho, resolve, invoke, builtin, Sem.run_bind, Sem.run_pure, Result.andThen_ok, List.map_toArray, List.map_cons, List.map_nil, hd, hx, hrun]
 exact hK _ _ (h w' _ rfl h1 h2)
end
theorem Own.lows {w : World} {E : TypeId} {p : Option Addr} {n c : Nat} {zs : List Int} (h : Own w E (.slice p n c) zs) : ∀ k ∈ blk p, k < w.heap.size := by
 obtain ⟨p', c', he, _, _, hh, _⟩ := h.shape
 simp only [Value.slice.injEq] at he
 obtain ⟨rfl, _, rfl⟩ := he
 intro k hk
 cases p with
 | none => simp [blk] at hk
 | some a => simp [blk] at hk; subst hk; exact (hh a rfl).2.2
theorem Rd.lows {w : World} {p : Option Addr} {zs : List Int} (h : Rd w p zs) (hne : zs ≠ []) : ∀ k ∈ blk p, k < w.heap.size := by
 rcases h with h | ⟨g, o, rfl, hc⟩
 ·exact absurd h hne
 ·intro k hk
  simp [blk] at hk
  subst hk
  exact World.block_lt_of_cell? w _ (hc 0 (by cases zs with | nil => exact absurd rfl hne | cons _ _ => simp))
theorem Own.setAt {w : World} {E : TypeId} {p : Option Addr} {n c i : Nat} {ys : List Int} (h : Own w E (.slice p n c) ys) (hn : ys.length = n) (hi : i < n) :
  ∃ g, p = some ⟨g, 0, none⟩ ∧ g < w.heap.size ∧ w.cell? ⟨g, i, none⟩ = some (.int .u8 (ys.getD i 0)) ∧ w.frozen? ⟨g, i, none⟩ = false ∧ ∀ z, Own (w.setCell ⟨g, i, none⟩ (.int .u8 z)) E (.slice p n c) (ys.set i z) := by
 subst hn
 obtain ⟨p', c', he, _, hnn, hh, _⟩ := h.shape
 simp only [Value.slice.injEq, true_and] at he
 obtain ⟨rfl, rfl⟩ := he
 cases p with
 | none => obtain ⟨h0, _⟩ := hnn rfl; subst h0; simp at hi
 | some a =>
  obtain ⟨h1, h2, h3⟩ := hh a rfl
  obtain ⟨g, o, sp⟩ := a
  simp only at h1 h2 h3
  subst h1 h2
  refine ⟨g, rfl, h3, ?_, World.ownsRow.frozenAt h i, fun z => ?_⟩
  ·rw [World.ownsRow.cellAt h i (by omega), bv_get hi]
  ·have := (World.ownsRow.stored h i (.int .u8 z)).1
   unfold Own
   rw [List.length_set]
   simpa [bv, List.map_set] using this
theorem heap_alloc_to (w : World) (o : Obj) {k : Nat} (h : w.heap.size = k) : (w.alloc o).heap[k]? = some o := by subst h; exact heap_alloc_new _ _
end
section
open Go.RowKit
theorem rd_byte {w : World} {p : Option Addr} {zs : List Int} {i : Nat} (h : Rd w p zs) (hi : i < zs.length) : ∃ g o, p = some ⟨g, o, none⟩ ∧ w.cell? ⟨g, o + i, none⟩ = some (.int .u8 (zs.getD i 0)) := by
 rcases h with h | ⟨g, o, rfl, hc⟩
 ·subst h; simp at hi
 ·exact ⟨g, o, rfl, hc i hi⟩
def ror (x : Int) (k : Nat) : Int := bits .or .u32 (IntKind.u32.wrap (x * 2 ^ (32 - k))) (x / 2 ^ k)
theorem rotl_2 (x : Int) (w : World) :
  Calls Tryz.prog 132 #[.int .u32 x, .int .i64 (-2)] w fun e w' => e = .returned (.int .u32 (ror x 2)) ∧ w' = w := by
 have h1 : bits .and .u64 (IntKind.u64.wrap (-2)) 31 = 30 := by decide +kernel
 go_enter Tryz.func132, Tryz.ntmps132
 go_wp2_with fail
 go_returns
 exact ⟨rfl, rfl⟩
theorem right_2 (x : Int) (w : World) :
  Calls Tryz.prog 129 #[.int .u32 x, .int .i64 2] w fun e w' => e = .returned (.int .u32 (ror x 2)) ∧ w' = w := by
 go_enter Tryz.func129, Tryz.ntmps129
 go_wp2_with fail
 refine (rotl_2 x w).mono ?_
 rintro e w1 ⟨rfl, rfl⟩
 go_wp2_with fail
 go_returns
 exact ⟨rfl, rfl⟩
theorem rotl_6 (x : Int) (w : World) :
  Calls Tryz.prog 132 #[.int .u32 x, .int .i64 (-6)] w fun e w' => e = .returned (.int .u32 (ror x 6)) ∧ w' = w := by
 have h1 : bits .and .u64 (IntKind.u64.wrap (-6)) 31 = 26 := by decide +kernel
 go_enter Tryz.func132, Tryz.ntmps132
 go_wp2_with fail
 go_returns
 exact ⟨rfl, rfl⟩
theorem right_6 (x : Int) (w : World) :
  Calls Tryz.prog 129 #[.int .u32 x, .int .i64 6] w fun e w' => e = .returned (.int .u32 (ror x 6)) ∧ w' = w := by
 go_enter Tryz.func129, Tryz.ntmps129
 go_wp2_with fail
 refine (rotl_6 x w).mono ?_
 rintro e w1 ⟨rfl, rfl⟩
 go_wp2_with fail
 go_returns
 exact ⟨rfl, rfl⟩
theorem rotl_7 (x : Int) (w : World) :
  Calls Tryz.prog 132 #[.int .u32 x, .int .i64 (-7)] w fun e w' => e = .returned (.int .u32 (ror x 7)) ∧ w' = w := by
 have h1 : bits .and .u64 (IntKind.u64.wrap (-7)) 31 = 25 := by decide +kernel
 go_enter Tryz.func132, Tryz.ntmps132
 go_wp2_with fail
 go_returns
 exact ⟨rfl, rfl⟩
theorem right_7 (x : Int) (w : World) :
  Calls Tryz.prog 129 #[.int .u32 x, .int .i64 7] w fun e w' => e = .returned (.int .u32 (ror x 7)) ∧ w' = w := by
 go_enter Tryz.func129, Tryz.ntmps129
 go_wp2_with fail
 refine (rotl_7 x w).mono ?_
 rintro e w1 ⟨rfl, rfl⟩
 go_wp2_with fail
 go_returns
 exact ⟨rfl, rfl⟩
theorem rotl_11 (x : Int) (w : World) :
  Calls Tryz.prog 132 #[.int .u32 x, .int .i64 (-11)] w fun e w' => e = .returned (.int .u32 (ror x 11)) ∧ w' = w := by
 have h1 : bits .and .u64 (IntKind.u64.wrap (-11)) 31 = 21 := by decide +kernel
 go_enter Tryz.func132, Tryz.ntmps132
 go_wp2_with fail
 go_returns
 exact ⟨rfl, rfl⟩
theorem right_11 (x : Int) (w : World) :
  Calls Tryz.prog 129 #[.int .u32 x, .int .i64 11] w fun e w' => e = .returned (.int .u32 (ror x 11)) ∧ w' = w := by
 go_enter Tryz.func129, Tryz.ntmps129
 go_wp2_with fail
 refine (rotl_11 x w).mono ?_
 rintro e w1 ⟨rfl, rfl⟩
 go_wp2_with fail
 go_returns
 exact ⟨rfl, rfl⟩
theorem rotl_13 (x : Int) (w : World) :
  Calls Tryz.prog 132 #[.int .u32 x, .int .i64 (-13)] w fun e w' => e = .returned (.int .u32 (ror x 13)) ∧ w' = w := by
 have h1 : bits .and .u64 (IntKind.u64.wrap (-13)) 31 = 19 := by decide +kernel
 go_enter Tryz.func132, Tryz.ntmps132
 go_wp2_with fail
 go_returns
 exact ⟨rfl, rfl⟩
theorem right_13 (x : Int) (w : World) :
  Calls Tryz.prog 129 #[.int .u32 x, .int .i64 13] w fun e w' => e = .returned (.int .u32 (ror x 13)) ∧ w' = w := by
 go_enter Tryz.func129, Tryz.ntmps129
 go_wp2_with fail
 refine (rotl_13 x w).mono ?_
 rintro e w1 ⟨rfl, rfl⟩
 go_wp2_with fail
 go_returns
 exact ⟨rfl, rfl⟩
theorem rotl_17 (x : Int) (w : World) :
  Calls Tryz.prog 132 #[.int .u32 x, .int .i64 (-17)] w fun e w' => e = .returned (.int .u32 (ror x 17)) ∧ w' = w := by
 have h1 : bits .and .u64 (IntKind.u64.wrap (-17)) 31 = 15 := by decide +kernel
 go_enter Tryz.func132, Tryz.ntmps132
 go_wp2_with fail
 go_returns
 exact ⟨rfl, rfl⟩
theorem right_17 (x : Int) (w : World) :
  Calls Tryz.prog 129 #[.int .u32 x, .int .i64 17] w fun e w' => e = .returned (.int .u32 (ror x 17)) ∧ w' = w := by
 go_enter Tryz.func129, Tryz.ntmps129
 go_wp2_with fail
 refine (rotl_17 x w).mono ?_
 rintro e w1 ⟨rfl, rfl⟩
 go_wp2_with fail
 go_returns
 exact ⟨rfl, rfl⟩
theorem rotl_18 (x : Int) (w : World) :
  Calls Tryz.prog 132 #[.int .u32 x, .int .i64 (-18)] w fun e w' => e = .returned (.int .u32 (ror x 18)) ∧ w' = w := by
 have h1 : bits .and .u64 (IntKind.u64.wrap (-18)) 31 = 14 := by decide +kernel
 go_enter Tryz.func132, Tryz.ntmps132
 go_wp2_with fail
 go_returns
 exact ⟨rfl, rfl⟩
theorem right_18 (x : Int) (w : World) :
  Calls Tryz.prog 129 #[.int .u32 x, .int .i64 18] w fun e w' => e = .returned (.int .u32 (ror x 18)) ∧ w' = w := by
 go_enter Tryz.func129, Tryz.ntmps129
 go_wp2_with fail
 refine (rotl_18 x w).mono ?_
 rintro e w1 ⟨rfl, rfl⟩
 go_wp2_with fail
 go_returns
 exact ⟨rfl, rfl⟩
theorem rotl_19 (x : Int) (w : World) :
  Calls Tryz.prog 132 #[.int .u32 x, .int .i64 (-19)] w fun e w' => e = .returned (.int .u32 (ror x 19)) ∧ w' = w := by
 have h1 : bits .and .u64 (IntKind.u64.wrap (-19)) 31 = 13 := by decide +kernel
 go_enter Tryz.func132, Tryz.ntmps132
 go_wp2_with fail
 go_returns
 exact ⟨rfl, rfl⟩
theorem right_19 (x : Int) (w : World) :
  Calls Tryz.prog 129 #[.int .u32 x, .int .i64 19] w fun e w' => e = .returned (.int .u32 (ror x 19)) ∧ w' = w := by
 go_enter Tryz.func129, Tryz.ntmps129
 go_wp2_with fail
 refine (rotl_19 x w).mono ?_
 rintro e w1 ⟨rfl, rfl⟩
 go_wp2_with fail
 go_returns
 exact ⟨rfl, rfl⟩
theorem rotl_22 (x : Int) (w : World) :
  Calls Tryz.prog 132 #[.int .u32 x, .int .i64 (-22)] w fun e w' => e = .returned (.int .u32 (ror x 22)) ∧ w' = w := by
 have h1 : bits .and .u64 (IntKind.u64.wrap (-22)) 31 = 10 := by decide +kernel
 go_enter Tryz.func132, Tryz.ntmps132
 go_wp2_with fail
 go_returns
 exact ⟨rfl, rfl⟩
theorem right_22 (x : Int) (w : World) :
  Calls Tryz.prog 129 #[.int .u32 x, .int .i64 22] w fun e w' => e = .returned (.int .u32 (ror x 22)) ∧ w' = w := by
 go_enter Tryz.func129, Tryz.ntmps129
 go_wp2_with fail
 refine (rotl_22 x w).mono ?_
 rintro e w1 ⟨rfl, rfl⟩
 go_wp2_with fail
 go_returns
 exact ⟨rfl, rfl⟩
theorem rotl_25 (x : Int) (w : World) :
  Calls Tryz.prog 132 #[.int .u32 x, .int .i64 (-25)] w fun e w' => e = .returned (.int .u32 (ror x 25)) ∧ w' = w := by
 have h1 : bits .and .u64 (IntKind.u64.wrap (-25)) 31 = 7 := by decide +kernel
 go_enter Tryz.func132, Tryz.ntmps132
 go_wp2_with fail
 go_returns
 exact ⟨rfl, rfl⟩
theorem right_25 (x : Int) (w : World) :
  Calls Tryz.prog 129 #[.int .u32 x, .int .i64 25] w fun e w' => e = .returned (.int .u32 (ror x 25)) ∧ w' = w := by
 go_enter Tryz.func129, Tryz.ntmps129
 go_wp2_with fail
 refine (rotl_25 x w).mono ?_
 rintro e w1 ⟨rfl, rfl⟩
 go_wp2_with fail
 go_returns
 exact ⟨rfl, rfl⟩
def turnK (K : Int) : Bool := K == 2 || K == 6 || K == 7 || K == 11 || K == 13 || K == 17 || K == 18 || K == 19 || K == 22 || K == 25
def rorI (x K : Int) : Int := ror x K.toNat
theorem right_all (x K : Int) (hK : turnK K = true) (w : World) :
  Calls Tryz.prog 129 #[.int .u32 x, .int .i64 K] w fun e w' => e = .returned (.int .u32 (rorI x K)) ∧ w' = w := by
 simp only [turnK, Bool.or_eq_true, beq_iff_eq] at hK
 rcases hK with ((((((((rfl | rfl) | rfl) | rfl) | rfl) | rfl) | rfl) | rfl) | rfl) | rfl
 ·exact right_2 x w
 ·exact right_6 x w
 ·exact right_7 x w
 ·exact right_11 x w
 ·exact right_13 x w
 ·exact right_17 x w
 ·exact right_18 x w
 ·exact right_19 x w
 ·exact right_22 x w
 ·exact right_25 x w
def lowW (a b c d : Int) : Int := bits .or .u32 (bits .or .u32 (bits .or .u32 a (b * 256)) (c * 65536)) (d * 16777216)
theorem low_any (a b c d : Int) (w : World) (ha : 0 ≤ a ∧ a < 256) (hb : 0 ≤ b ∧ b < 256) (hc : 0 ≤ c ∧ c < 256) (hd : 0 ≤ d ∧ d < 256) :
  Calls Tryz.prog 121 #[.int .u8 a, .int .u8 b, .int .u8 c, .int .u8 d] w fun e w' => e = .returned (.int .u32 (lowW a b c d)) ∧ w' = w := by
 obtain ⟨a0, a1⟩ := ha
 obtain ⟨b0, b1⟩ := hb
 obtain ⟨c0, c1⟩ := hc
 obtain ⟨d0, d1⟩ := hd
 go_enter Tryz.func121, Tryz.ntmps121
 go_wp2_with fail
 go_returns
 exact ⟨rfl, rfl⟩
def pairW (h l : Int) : Int := bits .or .u64 (h * 4294967296) l
theorem pair_any (h l : Int) (w : World) (hh : 0 ≤ h ∧ h < 4294967296) (hl : 0 ≤ l ∧ l < 4294967296) :
  Calls Tryz.prog 123 #[.int .u32 h, .int .u32 l] w fun e w' => e = .returned (.int .u64 (pairW h l)) ∧ w' = w := by
 obtain ⟨a0, a1⟩ := hh
 obtain ⟨b0, b1⟩ := hl
 go_enter Tryz.func123, Tryz.ntmps123
 go_wp2_with fail
 go_returns
 exact ⟨rfl, rfl⟩
end
section
open Go.RowKit
structure V8 where
 a : Int
 b : Int
 c : Int
 d : Int
 e : Int
 f : Int
 g : Int
 h : Int
def V8.arr (v : V8) : Array Value := #[.int .u32 v.a, .int .u32 v.b, .int .u32 v.c, .int .u32 v.d, .int .u32 v.e, .int .u32 v.f, .int .u32 v.g, .int .u32 v.h]
def zA (zs : List Int) (i : Nat) : Int := zs.getD i 0
def wA (zs : List Int) : Nat → List Int
 | 0 => List.replicate 64 0
 | t + 1 => (wA zs t).set t (lowW (zA zs (4 * t + 3)) (zA zs (4 * t + 2)) (zA zs (4 * t + 1)) (zA zs (4 * t)))
def sg0 (x : Int) : Int := bits .xor .u32 (bits .xor .u32 (rorI x 7) (rorI x 18)) (x / 8)
def sg1 (x : Int) : Int := bits .xor .u32 (bits .xor .u32 (rorI x 17) (rorI x 19)) (x / 1024)
def wN (c : List Int) (t : Nat) : Int := (zA c (t - 16) + sg0 (zA c (t - 15)) + zA c (t - 7) + sg1 (zA c (t - 2))) % 4294967296
def wB (c : List Int) : Nat → List Int
 | 0 => c
 | t + 1 => (wB c t).set (16 + t) (wN (wB c t) (16 + t))
def wv (l : List Int) : List Value := l.map (fun z => Value.int .u32 z)
structure StB (w0 w : World) (x y : Nat) (v : V8) (cur : List Int) : Prop where
 h0 : w.heap[x]? = some (.cells v.arr 124 (0, 0))
 h1 : w.heap[x + 1]? = some (.cells #[.int .u32 0, .int .u32 0, .int .u32 0, .int .u32 0, .int .u32 0, .int .u32 0, .int .u32 0, .int .u32 0] 124 (0, 0))
 h2 : w.heap[y]? = some (.cells (wv cur).toArray 130 (0, 0))
 len : cur.length = 64
 hy : x + 2 = y
 fr : Frm [] w0 w
theorem StB.drewN {w0 w : World} {x y : Nat} {v : V8} {cur : List Int} (h : StB w0 w x y v cur) (n : Nat) : StB w0 (w.drewN n) x y v cur :=
 have f : Frm [] w (w.drewN n) := (Frm.refl [] w).drewN n
 ⟨f.heap h.h0 (by simp), f.heap h.h1 (by simp), f.heap h.h2 (by simp), h.len, h.hy, h.fr.drewN n⟩
theorem StB.drew {w0 w : World} {x y : Nat} {v : V8} {cur : List Int} (h : StB w0 w x y v cur) : StB w0 w.drew x y v cur := h.drewN 1
theorem StB.set {w0 w : World} {x y : Nat} {v : V8} {cur : List Int} (h : StB w0 w x y v cur) (hx : w0.heap.size ≤ x) (t : Nat) (z : Int) : StB w0 (w.setCell ⟨y, t, none⟩ (.int .u32 z)) x y v (cur.set t z) := by
 have f : Frm [y] w (w.setCell ⟨y, t, none⟩ (.int .u32 z)) := (Frm.refl _ _).setCell _ _ (by simp)
 have e := h.hy
 refine ⟨f.heap h.h0 (by simp; omega), f.heap h.h1 (by simp; omega), ?_, by simp [h.len], e, h.fr.trans f (fun i hi hl => by simp at hi; omega)⟩
 rw [heap_setCell_same w y t _ _ _ h.h2]
 congr 2
 apply Array.ext'
 simp [wv, List.map_set]
theorem StB.at {w0 w : World} {x y : Nat} {v : V8} {cur : List Int} (h : StB w0 w x y v cur) (t : Nat) (ht : t < 64) : w.cell? ⟨y, t, none⟩ = some (.int .u32 (zA cur t)) := by
 rw [cell_of_row w _ _ _ _ _ h.h2]
 have := h.len
 simp [wv, zA, List.getD_eq_getElem?_getD, show t < cur.length by omega]
theorem StB.free {w0 w : World} {x y : Nat} {v : V8} {cur : List Int} (h : StB w0 w x y v cur) (t : Nat) : w.frozen? ⟨y, t, none⟩ = false := fZ t h.h2
def t1F (r : V8) (k w : Int) : Int := ((r.h + bits .xor .u32 (bits .xor .u32 (rorI r.e 6) (rorI r.e 11)) (rorI r.e 25) + bits .xor .u32 (bits .and .u32 r.e r.f) (bits .and .u32 (bits .xor .u32 (if IntKind.u32.signed = true then -1 else IntKind.u32.max) r.e) r.g) + k) % 4294967296 + w) % 4294967296
def t2F (r : V8) : Int := (bits .xor .u32 (bits .xor .u32 (rorI r.a 2) (rorI r.a 13)) (rorI r.a 22) + bits .xor .u32 (bits .xor .u32 (bits .and .u32 r.a r.b) (bits .and .u32 r.a r.c)) (bits .and .u32 r.b r.c)) % 4294967296
def rnd (r : V8) (k w : Int) : V8 := ⟨(t1F r k w + t2F r) % 4294967296, r.a, r.b, r.c, (r.d + t1F r k w) % 4294967296, r.e, r.f, r.g⟩
def PR : List Int := [1116352408, 1899447441, 3049323471, 3921009573, 961987163, 1508970993, 2453635748, 2870763221, 3624381080, 310598401, 607225278, 1426881987, 1925078388, 2162078206, 2614888103, 3248222580, 3835390401, 4022224774, 264347078, 604807628, 770255983, 1249150122, 1555081692, 1996064986, 2554220882, 2821834349, 2952996808, 3210313671, 3336571891, 3584528711, 113926993, 338241895, 666307205, 773529912, 1294757372, 1396182291, 1695183700, 1986661051, 2177026350, 2456956037, 2730485921, 2820302411, 3259730800, 3345764771, 3516065817, 3600352804, 4094571909, 275423344, 430227734, 506948616, 659060556, 883997877, 958139571, 1322822218, 1537002063, 1747873779, 1955562222, 2024104815, 2227730452, 2361852424, 2428436474, 2756734187, 3204031479, 3329325298]
def Primes (w : World) : Prop := ∀ t, t < 64 → w.cell? ⟨2, t, none⟩ = some (.int .u32 (zA PR t))
theorem Primes.kept {w w' : World} (h : Primes w) (hf : Frm [] w w') : Primes w' := fun t ht =>
 (hf.cell (p := ⟨2, t, none⟩) (World.block_lt_of_cell? w _ (h t ht)) (by simp)).trans (h t ht)
def rnds (ws : List Int) (v : V8) : Nat → V8
 | 0 => v
 | t + 1 => rnd (rnds ws v t) (zA PR t) (zA ws t)
def addV (v r : V8) : V8 := ⟨(v.a + r.a) % 4294967296, (v.b + r.b) % 4294967296, (v.c + r.c) % 4294967296, (v.d + r.d) % 4294967296, (v.e + r.e) % 4294967296, (v.f + r.f) % 4294967296, (v.g + r.g) % 4294967296, (v.h + r.h) % 4294967296⟩
def blockV (v : V8) (zs : List Int) : V8 := addV v (rnds (wB (wA zs 16) 48) v 64)
theorem block_any (v : V8) (p : Option Addr) (n c : Nat) (zs : List Int) (w : World) (hn : zs.length = n) (h64 : 64 ≤ n) (hnb : n ≤ 9223372036854775807) (hrd : Rd w p zs) (hb : ∀ z ∈ zs, 0 ≤ z ∧ z < 256) (hpr : Primes w) :
  Calls Tryz.prog 122 #[.agg v.arr, .slice p n c] w fun e w' => e = .returned (.agg (blockV v zs).arr) ∧ Frm [] w w' := by
 have HRD := hid hrd
 have HZB := hid hb
 have HN := hid hn
 have HPR := hid hpr
 have hst : StB w (((w.alloc (.cells v.arr 124)).alloc (.cells #[.int .u32 0, .int .u32 0, .int .u32 0, .int .u32 0, .int .u32 0, .int .u32 0, .int .u32 0, .int .u32 0] 124)).alloc (.cells (wv (List.replicate 64 0)).toArray 130)) w.heap.size (w.heap.size + 2) v (List.replicate 64 0) := by
  have f1 := (Frm.refl [] w).alloc (.cells v.arr 124)
  have f2 := (Frm.refl [] (w.alloc (.cells v.arr 124))).alloc (.cells #[.int .u32 0, .int .u32 0, .int .u32 0, .int .u32 0, .int .u32 0, .int .u32 0, .int .u32 0, .int .u32 0] 124)
  have f3 := (Frm.refl [] ((w.alloc (.cells v.arr 124)).alloc (.cells #[.int .u32 0, .int .u32 0, .int .u32 0, .int .u32 0, .int .u32 0, .int .u32 0, .int .u32 0, .int .u32 0] 124))).alloc (.cells (wv (List.replicate 64 0)).toArray 130)
  refine ⟨f3.heap (f2.heap (heap_alloc_new _ _) (by simp)) (by simp), f3.heap ?_ (by simp), ?_, by simp, rfl, (f1.trans f2 (by simp)).trans f3 (by simp)⟩
  ·exact heap_alloc_to _ _ (by simp)
  ·exact heap_alloc_to _ _ (by simp)
 have HST := hid hst
 clear hrd hb hn hst hpr
 unfold V8.arr at HST ⊢
 go_enter Tryz.func122, Tryz.ntmps122
 go_wp2_with fail
 generalize hxb : w.heap.size + 1 + 1 = xb
 have hxb2 : w.heap.size + 2 = xb := hxb
 rw [hxb2] at HST
 clear hxb hxb2
 go_loopw [21] (fun i wr => ∃ t : Nat, t ≤ 16 ∧ i = .int .i64 t ∧ Hid (StB w wr w.heap.size xb v (wA zs t))) (fun i _ => 16 - (intOf i).toNat)
 case atStart => exact ⟨0, by omega, rfl, HST⟩
 case round =>
  clear HST
  obtain ⟨t, ht, rfl, hst⟩ := hrel
  by_cases hlt : t < 16
  ·have hz3 := HZB.out (zA zs (4 * t + 3))
   have rd : ∀ i, i < n → ∃ g o, p = some ⟨g, o, none⟩ ∧ wr.cell? ⟨g, o + i, none⟩ = some (.int .u8 (zA zs i)) ∧ (0 ≤ zA zs i ∧ zA zs i < 256) := fun i hi => by
    obtain ⟨g, o, e1, e2⟩ := rd_byte (i := i) (HRD.out.kept hst.out.fr (by simp)) (by rw [HN.out]; exact hi)
    refine ⟨g, o, e1, e2, HZB.out _ ?_⟩
    unfold zA
    rw [List.getD_eq_getElem?_getD, List.getElem?_eq_getElem (by rw [HN.out]; exact hi)]
    exact List.getElem_mem _
   obtain ⟨g, o, rfl, c0, b0⟩ := rd (4 * t) (by omega)
   obtain ⟨_, _, e1, c1, b1⟩ := rd (4 * t + 1) (by omega)
   obtain ⟨_, _, e2, c2, b2⟩ := rd (4 * t + 2) (by omega)
   obtain ⟨_, _, e3, c3, b3⟩ := rd (4 * t + 3) (by omega)
   simp only [Option.some.injEq, Addr.mk.injEq, and_true] at e1 e2 e3
   obtain ⟨rfl, rfl⟩ := e1
   obtain ⟨rfl, rfl⟩ := e2
   obtain ⟨rfl, rfl⟩ := e3
   have HLO := hid (low_any _ _ _ _ wr.drew b3 b2 b1 b0)
   have hnx : (wA zs t).set t (lowW (zA zs (4 * t + 3)) (zA zs (4 * t + 2)) (zA zs (4 * t + 1)) (zA zs (4 * t))) = wA zs (t + 1) := rfl
   have HNX := hid hnx
   generalize zA zs (4 * t) = y0 at c0 HLO HNX
   generalize zA zs (4 * t + 1) = y1 at c1 HLO HNX
   generalize zA zs (4 * t + 2) = y2 at c2 HLO HNX
   generalize zA zs (4 * t + 3) = y3 at c3 HLO HNX
   have cw := hst.out.at t (by omega)
   have fz := hst.out.free t
   have s0 : (0 : Int) ≤ (t : Int) := by omega
   have s1 : (t : Int) < 64 := by omega
   have s2 : (4 * (t : Int)).toNat = 4 * t := by omega
   have s3 : (4 * (t : Int) + 1).toNat = 4 * t + 1 := by omega
   have s4 : (4 * (t : Int) + 2).toNat = 4 * t + 2 := by omega
   have s5 : (4 * (t : Int) + 3).toNat = 4 * t + 3 := by omega
   have i0 : 4 * (t : Int) < (n : Int) := by omega
   have i1 : 4 * (t : Int) + 1 < (n : Int) := by omega
   have i2 : 4 * (t : Int) + 2 < (n : Int) := by omega
   have i3 : 4 * (t : Int) + 3 < (n : Int) := by omega
   have j0 : (0 : Int) ≤ 4 * (t : Int) := by omega
   have j1 : (0 : Int) ≤ 4 * (t : Int) + 1 := by omega
   have j2 : (0 : Int) ≤ 4 * (t : Int) + 2 := by omega
   have j3 : (0 : Int) ≤ 4 * (t : Int) + 3 := by omega
   have k0 : IntKind.i64.wrap (4 * (t : Int)) = 4 * (t : Int) := IntWalk.i64_in _ (by omega)
   have k1 : IntKind.i64.wrap (4 * (t : Int) + 1) = 4 * (t : Int) + 1 := IntWalk.i64_in _ (by omega)
   have k2 : IntKind.i64.wrap (4 * (t : Int) + 2) = 4 * (t : Int) + 2 := IntWalk.i64_in _ (by omega)
   have k3 : IntKind.i64.wrap (4 * (t : Int) + 3) = 4 * (t : Int) + 3 := IntWalk.i64_in _ (by omega)
   clear hz3 rd hnx b0 b1 b2 b3
   go_wp2_with fail
   go_still_tail 26, (by kernel_rfl)
   refine wpStill_step (fun K hK => ?_)
   go_simp
   refine ⟨_, HLO.out, hK _ ?_⟩
   clear hK K
   repeat still_step
   refine wpStill_nil ?_
   change wpList _ _ _ _ _ wr.drew
   have HS4 := hid hst.out.drew
   obtain ⟨w4, hw4⟩ := eX (wr.drew)
   have cw4 : w4.cell? ⟨xb, t, none⟩ = some (.int .u32 (zA (wA zs t) t)) := by rw [← hw4]; exact cw
   have fz4 : w4.frozen? ⟨xb, t, none⟩ = false := by rw [← hw4]; exact fz
   rw [hw4] at HS4 ⊢
   clear hw4 c0 c1 c2 c3 cw fz HLO
   go_wp2_with fail
   go_roundw
   case rel => exact ⟨t + 1, by omega, by go_num, hid (by have h := HS4.out.set (Nat.le_refl _) t (lowW y3 y2 y1 y0); rwa [HNX.out] at h)⟩
   case measure => simp [intOf]; omega
  ·obtain rfl : t = 16 := by omega
   clear hlt
   rw [show ((16 : Nat) : Int) = 16 from rfl]
   go_wp2_with fail
   go_loopw [7] (fun i wr => ∃ t u : Nat, Hid (t = 16 + u) ∧ 16 ≤ t ∧ t ≤ 64 ∧ i = .int .i64 t ∧ Hid (StB w wr w.heap.size xb v (wB (wA zs 16) u))) (fun i _ => 64 - (intOf i).toNat)
   case atStart => exact ⟨16, 0, hid rfl, by omega, by omega, rfl, hst⟩
   case round =>
    clear hst
    obtain ⟨t, u, htu, ht6, ht, rfl, hst⟩ := hrel
    by_cases hlt : t < 64
    ·have hnx : (wB (wA zs 16) u).set t (wN (wB (wA zs 16) u) t) = wB (wA zs 16) (u + 1) := by rw [htu.out]; rfl
     have HNX := hid hnx
     obtain ⟨cur, hcur⟩ := eX (wB (wA zs 16) u)
     rw [hcur] at hst HNX
     have HC : Hid (∀ w', StB w w' w.heap.size xb v cur → w'.cell? ⟨xb, t - 16, none⟩ = some (.int .u32 (zA cur (t - 16))) ∧ w'.cell? ⟨xb, t - 15, none⟩ = some (.int .u32 (zA cur (t - 15))) ∧ w'.cell? ⟨xb, t - 7, none⟩ = some (.int .u32 (zA cur (t - 7))) ∧ w'.cell? ⟨xb, t - 2, none⟩ = some (.int .u32 (zA cur (t - 2))) ∧ w'.cell? ⟨xb, t, none⟩ = some (.int .u32 (zA cur t)) ∧ w'.frozen? ⟨xb, t, none⟩ = false) := hid (fun w' h => ⟨h.at _ (by omega), h.at _ (by omega), h.at _ (by omega), h.at _ (by omega), h.at _ (by omega), h.free t⟩)
     unfold wN sg0 sg1 at HNX
     generalize zA cur (t - 16) = x16 at HC HNX
     generalize zA cur (t - 15) = x15 at HC HNX
     generalize zA cur (t - 7) = x7 at HC HNX
     generalize zA cur (t - 2) = x2 at HC HNX
     generalize zA cur t = xt at HC
     obtain ⟨c16, c15, c7, c2, cw, fz⟩ := HC.out wr hst.out
     have k16 : IntKind.i64.wrap ((t : Int) - 16) = (t : Int) - 16 := IntWalk.i64_in _ (by omega)
     have k15 : IntKind.i64.wrap ((t : Int) - 15) = (t : Int) - 15 := IntWalk.i64_in _ (by omega)
     have k7 : IntKind.i64.wrap ((t : Int) - 7) = (t : Int) - 7 := IntWalk.i64_in _ (by omega)
     have k2 : IntKind.i64.wrap ((t : Int) - 2) = (t : Int) - 2 := IntWalk.i64_in _ (by omega)
     have n16 : ((t : Int) - 16).toNat = t - 16 := by omega
     have n15 : ((t : Int) - 15).toNat = t - 15 := by omega
     have n7 : ((t : Int) - 7).toNat = t - 7 := by omega
     have n2 : ((t : Int) - 2).toNat = t - 2 := by omega
     have a16 : (0 : Int) ≤ (t : Int) - 16 := by omega
     have a15 : (0 : Int) ≤ (t : Int) - 15 := by omega
     have a7 : (0 : Int) ≤ (t : Int) - 7 := by omega
     have a2 : (0 : Int) ≤ (t : Int) - 2 := by omega
     have b16 : (t : Int) - 16 < 64 := by omega
     have b15 : (t : Int) - 15 < 64 := by omega
     have b7 : (t : Int) - 7 < 64 := by omega
     have b2 : (t : Int) - 2 < 64 := by omega
     have s0 : (0 : Int) ≤ (t : Int) := by omega
     have s1 : (t : Int) < 64 := by omega
     clear hnx hcur
     go_wp2_with fail
     go_quiet ((go_at_call 129; refine Calls.quiet_of_same (right_all _ _ rfl _)))
     have HS5 := hid (hst.out.drewN nq)
     obtain ⟨w5, hw5⟩ := eX (wr.drewN nq)
     rw [hw5] at HS5 ⊢
     clear c16 c15 c7 c2 cw fz hw5 hst
     obtain ⟨c16, c15, c7, c2, cw, fz⟩ := HC.out w5 HS5.out
     go_wp2_with fail
     go_quiet ((go_at_call 129; refine Calls.quiet_of_same (right_all _ _ rfl _)))
     have HS6 := hid (HS5.out.drewN nq)
     obtain ⟨w6, hw6⟩ := eX (w5.drewN nq)
     rw [hw6] at HS6 ⊢
     clear c16 c15 c7 c2 cw fz hw6 HS5
     obtain ⟨c16, c15, c7, c2, cw, fz⟩ := HC.out w6 HS6.out
     go_wp2_with fail
     have q16 : (16 : Int) ≤ (t : Int) := by omega
     have q7 : (7 : Int) ≤ (t : Int) := by omega
     go_still_tail 15, (by kernel_rfl)
     change wpList _ _ _ _ _ w6.drew
     have HS7 := hid (HS6.out.drew)
     obtain ⟨w7, hw7⟩ := eX (w6.drew)
     rw [hw7] at HS7 ⊢
     clear c16 c15 c7 c2 cw fz hw7 HS6
     obtain ⟨_, _, _, _, cw, fz⟩ := HC.out w7 HS7.out
     go_wp2_with fail
     go_roundw
     case rel => exact ⟨t + 1, u + 1, hid (by have := htu.out; omega), by omega, by omega, by go_num, hid (by rw [← HNX.out]; exact HS7.out.set (Nat.le_refl _) t _)⟩
     case measure => simp [intOf]; omega
    ·obtain rfl : t = 64 := by omega
     clear hlt
     obtain rfl : u = 48 := by have := htu.out; omega
     rw [show ((64 : Nat) : Int) = 64 from rfl]
     go_wp2_with fail
     have HH : Hid (∀ w', StB w w' w.heap.size xb v (wB (wA zs 16) 48) → w'.cell? ⟨w.heap.size, 0, none⟩ = some (.int .u32 v.a) ∧ w'.cell? ⟨w.heap.size, 1, none⟩ = some (.int .u32 v.b) ∧ w'.cell? ⟨w.heap.size, 2, none⟩ = some (.int .u32 v.c) ∧ w'.cell? ⟨w.heap.size, 3, none⟩ = some (.int .u32 v.d) ∧ w'.cell? ⟨w.heap.size, 4, none⟩ = some (.int .u32 v.e) ∧ w'.cell? ⟨w.heap.size, 5, none⟩ = some (.int .u32 v.f) ∧ w'.cell? ⟨w.heap.size, 6, none⟩ = some (.int .u32 v.g) ∧ w'.cell? ⟨w.heap.size, 7, none⟩ = some (.int .u32 v.h)) := hid (fun w' h => by
      refine ⟨?_, ?_, ?_, ?_, ?_, ?_, ?_, ?_⟩ <;> rw [cell_of_row w' _ _ _ _ _ h.h0] <;> rfl)
     obtain ⟨e0, e1, e2, e3, e4, e5, e6, e7⟩ := HH.out _ hst.out
     go_quiet (fail)
     have HS8 := hid (hst.out.drewN nq)
     obtain ⟨w8, hw8⟩ := eX (wr.drewN nq)
     rw [hw8] at HS8 ⊢
     clear e0 e1 e2 e3 e4 e5 e6 e7 hw8 hst
     go_wp2_with fail
     obtain ⟨ws, hws⟩ := eX (wB (wA zs 16) 48)
     rw [hws] at HS8 HH
     go_loopw [120, 10, 11, 12, 13, 14, 15, 16, 17] (fun i sa sb sc sd se sf sg sh wr => ∃ (t : Nat) (r : V8), t ≤ 64 ∧ i = .int .i64 t ∧ sa = .int .u32 r.a ∧ sb = .int .u32 r.b ∧ sc = .int .u32 r.c ∧ sd = .int .u32 r.d ∧ se = .int .u32 r.e ∧ sf = .int .u32 r.f ∧ sg = .int .u32 r.g ∧ sh = .int .u32 r.h ∧ Hid (rnds ws v t = r) ∧ Hid (StB w wr w.heap.size xb v ws)) (fun i _ _ _ _ _ _ _ _ _ => 64 - (intOf i).toNat)
     case atStart => exact ⟨0, v, by omega, rfl, rfl, rfl, rfl, rfl, rfl, rfl, rfl, rfl, hid rfl, HS8⟩
     case round =>
      clear HS8
      obtain ⟨t, r, ht, rfl, rfl, rfl, rfl, rfl, rfl, rfl, rfl, rfl, hr, hst⟩ := hrel
      by_cases hlt : t < 64
      ·have cw := hst.out.at t (by omega)
       have cp := (HPR.out.kept hst.out.fr) t hlt
       have s0 : (0 : Int) ≤ (t : Int) := by omega
       have s1 : (t : Int) < 64 := by omega
       go_wp2_with fail
       go_quiet ((go_at_call 129; refine Calls.quiet_of_same (right_all _ _ rfl _)))
       have e1 : ((r.h + bits .xor .u32 (bits .xor .u32 (rorI r.e 6) (rorI r.e 11)) (rorI r.e 25) + bits .xor .u32 (bits .and .u32 r.e r.f) (bits .and .u32 (bits .xor .u32 (if IntKind.u32.signed = true then -1 else IntKind.u32.max) r.e) r.g) + zA PR t) % 4294967296 + zA ws t) % 4294967296 = t1F r (zA PR t) (zA ws t) := rfl
       rw [e1]
       obtain ⟨T1, hT1⟩ := eX (t1F r (zA PR t) (zA ws t))
       rw [hT1]
       have HT1 := hid hT1
       clear e1 hT1
       have HS9 := hid (hst.out.drewN nq)
       obtain ⟨w9, hw9⟩ := eX (wr.drewN nq)
       rw [hw9] at HS9 ⊢
       clear hw9 cw cp hst
       generalize (if IntKind.u32.signed = true then (-1 : Int) else IntKind.u32.max) = MX
       go_wp2_with fail
       refine (right_all _ 2 rfl _).mono ?_
       rintro e w10 ⟨rfl, rfl⟩
       go_wp2_with fail
       refine (right_all _ 13 rfl _).mono ?_
       rintro e w10 ⟨rfl, rfl⟩
       go_wp2_with fail
       refine (right_all _ 22 rfl _).mono ?_
       rintro e w10 ⟨rfl, rfl⟩
       go_wp2_with fail
       go_roundw
       case rel =>
        refine ⟨t + 1, rnd r (zA PR t) (zA ws t), by omega, by go_num, ?_, rfl, rfl, rfl, ?_, rfl, rfl, rfl, hid (by rw [rnds, hr.out]), HS9⟩
        ·rw [rnd, HT1.out]; rfl
        ·rw [rnd, HT1.out]
       case measure => simp [intOf]; omega
      ·obtain rfl : t = 64 := by omega
       clear hlt
       obtain ⟨e0, e1, e2, e3, e4, e5, e6, e7⟩ := HH.out _ hst.out
       have h1 := hst.out.h1
       have o0 : wr.cell? ⟨w.heap.size + 1, 0, none⟩ = some (.int .u32 0) := by rw [cell_of_row wr _ _ _ _ _ h1]; rfl
       have f0 : wr.frozen? ⟨w.heap.size + 1, 0, none⟩ = false := fZ 0 h1
       have o1 : wr.cell? ⟨w.heap.size + 1, 1, none⟩ = some (.int .u32 0) := by rw [cell_of_row wr _ _ _ _ _ h1]; rfl
       have f1 : wr.frozen? ⟨w.heap.size + 1, 1, none⟩ = false := fZ 1 h1
       have o2 : wr.cell? ⟨w.heap.size + 1, 2, none⟩ = some (.int .u32 0) := by rw [cell_of_row wr _ _ _ _ _ h1]; rfl
       have f2 : wr.frozen? ⟨w.heap.size + 1, 2, none⟩ = false := fZ 2 h1
       have o3 : wr.cell? ⟨w.heap.size + 1, 3, none⟩ = some (.int .u32 0) := by rw [cell_of_row wr _ _ _ _ _ h1]; rfl
       have f3 : wr.frozen? ⟨w.heap.size + 1, 3, none⟩ = false := fZ 3 h1
       have o4 : wr.cell? ⟨w.heap.size + 1, 4, none⟩ = some (.int .u32 0) := by rw [cell_of_row wr _ _ _ _ _ h1]; rfl
       have f4 : wr.frozen? ⟨w.heap.size + 1, 4, none⟩ = false := fZ 4 h1
       have o5 : wr.cell? ⟨w.heap.size + 1, 5, none⟩ = some (.int .u32 0) := by rw [cell_of_row wr _ _ _ _ _ h1]; rfl
       have f5 : wr.frozen? ⟨w.heap.size + 1, 5, none⟩ = false := fZ 5 h1
       have o6 : wr.cell? ⟨w.heap.size + 1, 6, none⟩ = some (.int .u32 0) := by rw [cell_of_row wr _ _ _ _ _ h1]; rfl
       have f6 : wr.frozen? ⟨w.heap.size + 1, 6, none⟩ = false := fZ 6 h1
       have o7 : wr.cell? ⟨w.heap.size + 1, 7, none⟩ = some (.int .u32 0) := by rw [cell_of_row wr _ _ _ _ _ h1]; rfl
       have f7 : wr.frozen? ⟨w.heap.size + 1, 7, none⟩ = false := fZ 7 h1
       have HF := hid hst.out.fr
       have HB1 := hid h1
       clear h1 hst
       go_wp2_with fail
       obtain ⟨wz, hwz⟩ := eX ((((((((wr.setCell ⟨w.heap.size + 1, 0, none⟩ (.int .u32 ((v.a + r.a) % 4294967296))).setCell ⟨w.heap.size + 1, 1, none⟩ (.int .u32 ((v.b + r.b) % 4294967296))).setCell ⟨w.heap.size + 1, 2, none⟩ (.int .u32 ((v.c + r.c) % 4294967296))).setCell ⟨w.heap.size + 1, 3, none⟩ (.int .u32 ((v.d + r.d) % 4294967296))).setCell ⟨w.heap.size + 1, 4, none⟩ (.int .u32 ((v.e + r.e) % 4294967296))).setCell ⟨w.heap.size + 1, 5, none⟩ (.int .u32 ((v.f + r.f) % 4294967296))).setCell ⟨w.heap.size + 1, 6, none⟩ (.int .u32 ((v.g + r.g) % 4294967296))).setCell ⟨w.heap.size + 1, 7, none⟩ (.int .u32 ((v.h + r.h) % 4294967296)))
       have hb : wr.heap[w.heap.size + 1]? = some (.cells #[.int .u32 0, .int .u32 0, .int .u32 0, .int .u32 0, .int .u32 0, .int .u32 0, .int .u32 0, .int .u32 0] 124 (0, 0)) := HB1.out
       have hb0 : ((wr.setCell ⟨w.heap.size + 1, 0, none⟩ (.int .u32 ((v.a + r.a) % 4294967296)))).heap[w.heap.size + 1]? = some (.cells #[.int .u32 ((v.a + r.a) % 4294967296), .int .u32 0, .int .u32 0, .int .u32 0, .int .u32 0, .int .u32 0, .int .u32 0, .int .u32 0] 124 (0, 0)) := by rw [heap_setCell_same _ _ 0 _ _ _ hb]; rfl
       have hb1 : (((wr.setCell ⟨w.heap.size + 1, 0, none⟩ (.int .u32 ((v.a + r.a) % 4294967296))).setCell ⟨w.heap.size + 1, 1, none⟩ (.int .u32 ((v.b + r.b) % 4294967296)))).heap[w.heap.size + 1]? = some (.cells #[.int .u32 ((v.a + r.a) % 4294967296), .int .u32 ((v.b + r.b) % 4294967296), .int .u32 0, .int .u32 0, .int .u32 0, .int .u32 0, .int .u32 0, .int .u32 0] 124 (0, 0)) := by rw [heap_setCell_same _ _ 1 _ _ _ hb0]; rfl
       have hb2 : ((((wr.setCell ⟨w.heap.size + 1, 0, none⟩ (.int .u32 ((v.a + r.a) % 4294967296))).setCell ⟨w.heap.size + 1, 1, none⟩ (.int .u32 ((v.b + r.b) % 4294967296))).setCell ⟨w.heap.size + 1, 2, none⟩ (.int .u32 ((v.c + r.c) % 4294967296)))).heap[w.heap.size + 1]? = some (.cells #[.int .u32 ((v.a + r.a) % 4294967296), .int .u32 ((v.b + r.b) % 4294967296), .int .u32 ((v.c + r.c) % 4294967296), .int .u32 0, .int .u32 0, .int .u32 0, .int .u32 0, .int .u32 0] 124 (0, 0)) := by rw [heap_setCell_same _ _ 2 _ _ _ hb1]; rfl
       have hb3 : (((((wr.setCell ⟨w.heap.size + 1, 0, none⟩ (.int .u32 ((v.a + r.a) % 4294967296))).setCell ⟨w.heap.size + 1, 1, none⟩ (.int .u32 ((v.b + r.b) % 4294967296))).setCell ⟨w.heap.size + 1, 2, none⟩ (.int .u32 ((v.c + r.c) % 4294967296))).setCell ⟨w.heap.size + 1, 3, none⟩ (.int .u32 ((v.d + r.d) % 4294967296)))).heap[w.heap.size + 1]? = some (.cells #[.int .u32 ((v.a + r.a) % 4294967296), .int .u32 ((v.b + r.b) % 4294967296), .int .u32 ((v.c + r.c) % 4294967296), .int .u32 ((v.d + r.d) % 4294967296), .int .u32 0, .int .u32 0, .int .u32 0, .int .u32 0] 124 (0, 0)) := by rw [heap_setCell_same _ _ 3 _ _ _ hb2]; rfl
       have hb4 : ((((((wr.setCell ⟨w.heap.size + 1, 0, none⟩ (.int .u32 ((v.a + r.a) % 4294967296))).setCell ⟨w.heap.size + 1, 1, none⟩ (.int .u32 ((v.b + r.b) % 4294967296))).setCell ⟨w.heap.size + 1, 2, none⟩ (.int .u32 ((v.c + r.c) % 4294967296))).setCell ⟨w.heap.size + 1, 3, none⟩ (.int .u32 ((v.d + r.d) % 4294967296))).setCell ⟨w.heap.size + 1, 4, none⟩ (.int .u32 ((v.e + r.e) % 4294967296)))).heap[w.heap.size + 1]? = some (.cells #[.int .u32 ((v.a + r.a) % 4294967296), .int .u32 ((v.b + r.b) % 4294967296), .int .u32 ((v.c + r.c) % 4294967296), .int .u32 ((v.d + r.d) % 4294967296), .int .u32 ((v.e + r.e) % 4294967296), .int .u32 0, .int .u32 0, .int .u32 0] 124 (0, 0)) := by rw [heap_setCell_same _ _ 4 _ _ _ hb3]; rfl
       have hb5 : (((((((wr.setCell ⟨w.heap.size + 1, 0, none⟩ (.int .u32 ((v.a + r.a) % 4294967296))).setCell ⟨w.heap.size + 1, 1, none⟩ (.int .u32 ((v.b + r.b) % 4294967296))).setCell ⟨w.heap.size + 1, 2, none⟩ (.int .u32 ((v.c + r.c) % 4294967296))).setCell ⟨w.heap.size + 1, 3, none⟩ (.int .u32 ((v.d + r.d) % 4294967296))).setCell ⟨w.heap.size + 1, 4, none⟩ (.int .u32 ((v.e + r.e) % 4294967296))).setCell ⟨w.heap.size + 1, 5, none⟩ (.int .u32 ((v.f + r.f) % 4294967296)))).heap[w.heap.size + 1]? = some (.cells #[.int .u32 ((v.a + r.a) % 4294967296), .int .u32 ((v.b + r.b) % 4294967296), .int .u32 ((v.c + r.c) % 4294967296), .int .u32 ((v.d + r.d) % 4294967296), .int .u32 ((v.e + r.e) % 4294967296), .int .u32 ((v.f + r.f) % 4294967296), .int .u32 0, .int .u32 0] 124 (0, 0)) := by rw [heap_setCell_same _ _ 5 _ _ _ hb4]; rfl
       have hb6 : ((((((((wr.setCell ⟨w.heap.size + 1, 0, none⟩ (.int .u32 ((v.a + r.a) % 4294967296))).setCell ⟨w.heap.size + 1, 1, none⟩ (.int .u32 ((v.b + r.b) % 4294967296))).setCell ⟨w.heap.size + 1, 2, none⟩ (.int .u32 ((v.c + r.c) % 4294967296))).setCell ⟨w.heap.size + 1, 3, none⟩ (.int .u32 ((v.d + r.d) % 4294967296))).setCell ⟨w.heap.size + 1, 4, none⟩ (.int .u32 ((v.e + r.e) % 4294967296))).setCell ⟨w.heap.size + 1, 5, none⟩ (.int .u32 ((v.f + r.f) % 4294967296))).setCell ⟨w.heap.size + 1, 6, none⟩ (.int .u32 ((v.g + r.g) % 4294967296)))).heap[w.heap.size + 1]? = some (.cells #[.int .u32 ((v.a + r.a) % 4294967296), .int .u32 ((v.b + r.b) % 4294967296), .int .u32 ((v.c + r.c) % 4294967296), .int .u32 ((v.d + r.d) % 4294967296), .int .u32 ((v.e + r.e) % 4294967296), .int .u32 ((v.f + r.f) % 4294967296), .int .u32 ((v.g + r.g) % 4294967296), .int .u32 0] 124 (0, 0)) := by rw [heap_setCell_same _ _ 6 _ _ _ hb5]; rfl
       have hb7 : (((((((((wr.setCell ⟨w.heap.size + 1, 0, none⟩ (.int .u32 ((v.a + r.a) % 4294967296))).setCell ⟨w.heap.size + 1, 1, none⟩ (.int .u32 ((v.b + r.b) % 4294967296))).setCell ⟨w.heap.size + 1, 2, none⟩ (.int .u32 ((v.c + r.c) % 4294967296))).setCell ⟨w.heap.size + 1, 3, none⟩ (.int .u32 ((v.d + r.d) % 4294967296))).setCell ⟨w.heap.size + 1, 4, none⟩ (.int .u32 ((v.e + r.e) % 4294967296))).setCell ⟨w.heap.size + 1, 5, none⟩ (.int .u32 ((v.f + r.f) % 4294967296))).setCell ⟨w.heap.size + 1, 6, none⟩ (.int .u32 ((v.g + r.g) % 4294967296))).setCell ⟨w.heap.size + 1, 7, none⟩ (.int .u32 ((v.h + r.h) % 4294967296)))).heap[w.heap.size + 1]? = some (.cells #[.int .u32 ((v.a + r.a) % 4294967296), .int .u32 ((v.b + r.b) % 4294967296), .int .u32 ((v.c + r.c) % 4294967296), .int .u32 ((v.d + r.d) % 4294967296), .int .u32 ((v.e + r.e) % 4294967296), .int .u32 ((v.f + r.f) % 4294967296), .int .u32 ((v.g + r.g) % 4294967296), .int .u32 ((v.h + r.h) % 4294967296)] 124 (0, 0)) := by rw [heap_setCell_same _ _ 7 _ _ _ hb6]; rfl
       rw [hwz] at hb7 ⊢
       have hfz : Frm [] w wz := by
        rw [← hwz]
        have h8 : Frm [w.heap.size + 1] wr ((((((((wr.setCell ⟨w.heap.size + 1, 0, none⟩ (.int .u32 ((v.a + r.a) % 4294967296))).setCell ⟨w.heap.size + 1, 1, none⟩ (.int .u32 ((v.b + r.b) % 4294967296))).setCell ⟨w.heap.size + 1, 2, none⟩ (.int .u32 ((v.c + r.c) % 4294967296))).setCell ⟨w.heap.size + 1, 3, none⟩ (.int .u32 ((v.d + r.d) % 4294967296))).setCell ⟨w.heap.size + 1, 4, none⟩ (.int .u32 ((v.e + r.e) % 4294967296))).setCell ⟨w.heap.size + 1, 5, none⟩ (.int .u32 ((v.f + r.f) % 4294967296))).setCell ⟨w.heap.size + 1, 6, none⟩ (.int .u32 ((v.g + r.g) % 4294967296))).setCell ⟨w.heap.size + 1, 7, none⟩ (.int .u32 ((v.h + r.h) % 4294967296))) := ((((((((Frm.refl _ wr).setCell _ _ (by simp)).setCell _ _ (by simp)).setCell _ _ (by simp)).setCell _ _ (by simp)).setCell _ _ (by simp)).setCell _ _ (by simp)).setCell _ _ (by simp)).setCell _ _ (by simp)
        exact HF.out.trans h8 (fun i hi hl => by simp at hi; omega)
       have g0 : wz.cell? ⟨w.heap.size + 1, 0, none⟩ = some (.int .u32 ((v.a + r.a) % 4294967296)) := by rw [cell_of_row wz _ _ _ _ _ hb7]; rfl
       have g1 : wz.cell? ⟨w.heap.size + 1, 1, none⟩ = some (.int .u32 ((v.b + r.b) % 4294967296)) := by rw [cell_of_row wz _ _ _ _ _ hb7]; rfl
       have g2 : wz.cell? ⟨w.heap.size + 1, 2, none⟩ = some (.int .u32 ((v.c + r.c) % 4294967296)) := by rw [cell_of_row wz _ _ _ _ _ hb7]; rfl
       have g3 : wz.cell? ⟨w.heap.size + 1, 3, none⟩ = some (.int .u32 ((v.d + r.d) % 4294967296)) := by rw [cell_of_row wz _ _ _ _ _ hb7]; rfl
       have g4 : wz.cell? ⟨w.heap.size + 1, 4, none⟩ = some (.int .u32 ((v.e + r.e) % 4294967296)) := by rw [cell_of_row wz _ _ _ _ _ hb7]; rfl
       have g5 : wz.cell? ⟨w.heap.size + 1, 5, none⟩ = some (.int .u32 ((v.f + r.f) % 4294967296)) := by rw [cell_of_row wz _ _ _ _ _ hb7]; rfl
       have g6 : wz.cell? ⟨w.heap.size + 1, 6, none⟩ = some (.int .u32 ((v.g + r.g) % 4294967296)) := by rw [cell_of_row wz _ _ _ _ _ hb7]; rfl
       have g7 : wz.cell? ⟨w.heap.size + 1, 7, none⟩ = some (.int .u32 ((v.h + r.h) % 4294967296)) := by rw [cell_of_row wz _ _ _ _ _ hb7]; rfl
       clear hwz hb hb0 hb1 hb2 hb3 hb4 hb5 hb6 hb7
       refine bodyPost_ret (v := .agg #[.int .u32 ((v.a + r.a) % 4294967296), .int .u32 ((v.b + r.b) % 4294967296), .int .u32 ((v.c + r.c) % 4294967296), .int .u32 ((v.d + r.d) % 4294967296), .int .u32 ((v.e + r.e) % 4294967296), .int .u32 ((v.f + r.f) % 4294967296), .int .u32 ((v.g + r.g) % 4294967296), .int .u32 ((v.h + r.h) % 4294967296)]) (by simp [results, Tryz.results122, go_sem, g0, g1, g2, g3, g4, g5, g6, g7]) rfl ⟨?_, hfz⟩
       have hrr := hr.out
       subst hrr
       rw [← hws]
       rfl
end
section
open Go.RowKit
structure S4 where
 a : Int
 b : Int
 c : Int
 d : Int
def S4.arr (s : S4) : Array Value := #[.int .u64 s.a, .int .u64 s.b, .int .u64 s.c, .int .u64 s.d]
theorem set4 {w : World} {b : Nat} {T : TypeId} {x0 x1 x2 x3 y0 y1 y2 y3 : Value} (h : w.heap[b]? = some (.cells #[x0, x1, x2, x3] T (0, 0))) :
  ((((w.setCell ⟨b, 0, none⟩ y0).setCell ⟨b, 1, none⟩ y1).setCell ⟨b, 2, none⟩ y2).setCell ⟨b, 3, none⟩ y3).heap[b]? = some (.cells #[y0, y1, y2, y3] T (0, 0)) ∧ Frm [b] w ((((w.setCell ⟨b, 0, none⟩ y0).setCell ⟨b, 1, none⟩ y1).setCell ⟨b, 2, none⟩ y2).setCell ⟨b, 3, none⟩ y3) := by
 refine ⟨?_, ((((Frm.refl _ w).setCell _ _ (by simp)).setCell _ _ (by simp)).setCell _ _ (by simp)).setCell _ _ (by simp)⟩
 have h0 : (w.setCell ⟨b, 0, none⟩ y0).heap[b]? = some (.cells #[y0, x1, x2, x3] T (0, 0)) := by rw [heap_setCell_same _ _ 0 _ _ _ h]; rfl
 have h1 : ((w.setCell ⟨b, 0, none⟩ y0).setCell ⟨b, 1, none⟩ y1).heap[b]? = some (.cells #[y0, y1, x2, x3] T (0, 0)) := by rw [heap_setCell_same _ _ 1 _ _ _ h0]; rfl
 have h2 : (((w.setCell ⟨b, 0, none⟩ y0).setCell ⟨b, 1, none⟩ y1).setCell ⟨b, 2, none⟩ y2).heap[b]? = some (.cells #[y0, y1, y2, x3] T (0, 0)) := by rw [heap_setCell_same _ _ 2 _ _ _ h1]; rfl
 have h3 : ((((w.setCell ⟨b, 0, none⟩ y0).setCell ⟨b, 1, none⟩ y1).setCell ⟨b, 2, none⟩ y2).setCell ⟨b, 3, none⟩ y3).heap[b]? = some (.cells #[y0, y1, y2, y3] T (0, 0)) := by rw [heap_setCell_same _ _ 3 _ _ _ h2]; rfl
 exact h3
theorem set8 {w : World} {b : Nat} {T : TypeId} {x0 x1 x2 x3 x4 x5 x6 x7 y0 y1 y2 y3 y4 y5 y6 y7 : Value} (h : w.heap[b]? = some (.cells #[x0, x1, x2, x3, x4, x5, x6, x7] T (0, 0))) :
  ((((((((w.setCell ⟨b, 0, none⟩ y0).setCell ⟨b, 1, none⟩ y1).setCell ⟨b, 2, none⟩ y2).setCell ⟨b, 3, none⟩ y3).setCell ⟨b, 4, none⟩ y4).setCell ⟨b, 5, none⟩ y5).setCell ⟨b, 6, none⟩ y6).setCell ⟨b, 7, none⟩ y7).heap[b]? = some (.cells #[y0, y1, y2, y3, y4, y5, y6, y7] T (0, 0)) ∧ Frm [b] w ((((((((w.setCell ⟨b, 0, none⟩ y0).setCell ⟨b, 1, none⟩ y1).setCell ⟨b, 2, none⟩ y2).setCell ⟨b, 3, none⟩ y3).setCell ⟨b, 4, none⟩ y4).setCell ⟨b, 5, none⟩ y5).setCell ⟨b, 6, none⟩ y6).setCell ⟨b, 7, none⟩ y7) := by
 refine ⟨?_, ((((((((Frm.refl _ w).setCell _ _ (by simp)).setCell _ _ (by simp)).setCell _ _ (by simp)).setCell _ _ (by simp)).setCell _ _ (by simp)).setCell _ _ (by simp)).setCell _ _ (by simp)).setCell _ _ (by simp)⟩
 have h0 : (w.setCell ⟨b, 0, none⟩ y0).heap[b]? = some (.cells #[y0, x1, x2, x3, x4, x5, x6, x7] T (0, 0)) := by rw [heap_setCell_same _ _ 0 _ _ _ h]; rfl
 have h1 : ((w.setCell ⟨b, 0, none⟩ y0).setCell ⟨b, 1, none⟩ y1).heap[b]? = some (.cells #[y0, y1, x2, x3, x4, x5, x6, x7] T (0, 0)) := by rw [heap_setCell_same _ _ 1 _ _ _ h0]; rfl
 have h2 : (((w.setCell ⟨b, 0, none⟩ y0).setCell ⟨b, 1, none⟩ y1).setCell ⟨b, 2, none⟩ y2).heap[b]? = some (.cells #[y0, y1, y2, x3, x4, x5, x6, x7] T (0, 0)) := by rw [heap_setCell_same _ _ 2 _ _ _ h1]; rfl
 have h3 : ((((w.setCell ⟨b, 0, none⟩ y0).setCell ⟨b, 1, none⟩ y1).setCell ⟨b, 2, none⟩ y2).setCell ⟨b, 3, none⟩ y3).heap[b]? = some (.cells #[y0, y1, y2, y3, x4, x5, x6, x7] T (0, 0)) := by rw [heap_setCell_same _ _ 3 _ _ _ h2]; rfl
 have h4 : (((((w.setCell ⟨b, 0, none⟩ y0).setCell ⟨b, 1, none⟩ y1).setCell ⟨b, 2, none⟩ y2).setCell ⟨b, 3, none⟩ y3).setCell ⟨b, 4, none⟩ y4).heap[b]? = some (.cells #[y0, y1, y2, y3, y4, x5, x6, x7] T (0, 0)) := by rw [heap_setCell_same _ _ 4 _ _ _ h3]; rfl
 have h5 : ((((((w.setCell ⟨b, 0, none⟩ y0).setCell ⟨b, 1, none⟩ y1).setCell ⟨b, 2, none⟩ y2).setCell ⟨b, 3, none⟩ y3).setCell ⟨b, 4, none⟩ y4).setCell ⟨b, 5, none⟩ y5).heap[b]? = some (.cells #[y0, y1, y2, y3, y4, y5, x6, x7] T (0, 0)) := by rw [heap_setCell_same _ _ 5 _ _ _ h4]; rfl
 have h6 : (((((((w.setCell ⟨b, 0, none⟩ y0).setCell ⟨b, 1, none⟩ y1).setCell ⟨b, 2, none⟩ y2).setCell ⟨b, 3, none⟩ y3).setCell ⟨b, 4, none⟩ y4).setCell ⟨b, 5, none⟩ y5).setCell ⟨b, 6, none⟩ y6).heap[b]? = some (.cells #[y0, y1, y2, y3, y4, y5, y6, x7] T (0, 0)) := by rw [heap_setCell_same _ _ 6 _ _ _ h5]; rfl
 have h7 : ((((((((w.setCell ⟨b, 0, none⟩ y0).setCell ⟨b, 1, none⟩ y1).setCell ⟨b, 2, none⟩ y2).setCell ⟨b, 3, none⟩ y3).setCell ⟨b, 4, none⟩ y4).setCell ⟨b, 5, none⟩ y5).setCell ⟨b, 6, none⟩ y6).setCell ⟨b, 7, none⟩ y7).heap[b]? = some (.cells #[y0, y1, y2, y3, y4, y5, y6, y7] T (0, 0)) := by rw [heap_setCell_same _ _ 7 _ _ _ h6]; rfl
 exact h7
def H0 : V8 := ⟨1779033703, 3144134277, 1013904242, 2773480762, 1359893119, 2600822924, 528734635, 1541459225⟩
theorem zero_tail (w : World) : (zeroValue 139).run Tryz.prog w = .ok (.agg (bv (List.replicate 128 0)).toArray) w := by
 have h : (Tryz.prog.info? 139).map (fun i => i.zero) = some (some (.agg (bv (List.replicate 128 0)).toArray)) := by kernel_rfl
 obtain ⟨i, hi, hz⟩ := Option.map_eq_some_iff.1 h
 simp [zeroValue, typeInfo, hi, hz]
def OkB (T : List Int) : Prop := ∀ z ∈ T, 0 ≤ z ∧ z < 256
theorem OkB.set {T : List Int} (h : OkB T) (i : Nat) {z : Int} (hz : 0 ≤ z ∧ z < 256) : OkB (T.set i z) := fun y hy => by
 rcases List.mem_or_eq_of_mem_set hy with hy | hy
 ·exact h y hy
 ·rw [hy]; exact hz
def V8.ok (v : V8) : Prop := (0 ≤ v.a ∧ v.a < 4294967296) ∧ (0 ≤ v.b ∧ v.b < 4294967296) ∧ (0 ≤ v.c ∧ v.c < 4294967296) ∧ (0 ≤ v.d ∧ v.d < 4294967296) ∧ (0 ≤ v.e ∧ v.e < 4294967296) ∧ (0 ≤ v.f ∧ v.f < 4294967296) ∧ (0 ≤ v.g ∧ v.g < 4294967296) ∧ (0 ≤ v.h ∧ v.h < 4294967296)
theorem blockV_ok (v : V8) (zs : List Int) : (blockV v zs).ok := by
 unfold blockV addV V8.ok
 refine ⟨?_, ?_, ?_, ?_, ?_, ?_, ?_, ?_⟩ <;> simp only <;> omega
def sumV (v : V8) : S4 := ⟨pairW v.a v.b, pairW v.c v.d, pairW v.e v.f, pairW v.g v.h⟩
theorem cut_tail (b : Nat) (W : World) : (Instr.sliceAt 139 (.pointer (some ⟨b, 0, none⟩)) (some (.int .i64 0)) (some (.int .i64 64)) none).run Tryz.prog W = .ok (.slice (some ⟨b, 0, none⟩) 64 128) W := by
 rw [run_sliceAt_array_lh W 139 _ (by kernel_rfl) .i64 .i64 0 64 (by omega) (by omega) (by rw [show Tryz.prog.arrayLen 139 = 128 from by kernel_rfl]; omega)]
 rw [show ∀ W : World, (sizeOf (Tryz.prog.elem 139)).run Tryz.prog W = .ok 1 W from fun W => by kernel_rfl]
 rw [show Tryz.prog.arrayLen 139 = 128 from by kernel_rfl]
 simp [Result.andThen_ok, slicedAt, Addr.add]
end
section
open Go.RowKit
def wordS (s : S4) (x : Int) : S4 := ⟨IntKind.u64.wrap (s.a + x), IntKind.u64.wrap (s.b + IntKind.u64.wrap (s.a + x)), IntKind.u64.wrap (s.c + IntKind.u64.wrap (s.b + IntKind.u64.wrap (s.a + x))), IntKind.u64.wrap (s.d + IntKind.u64.wrap (s.c + IntKind.u64.wrap (s.b + IntKind.u64.wrap (s.a + x))))⟩
theorem lowW_bd (a b c d : Int) : 0 ≤ lowW a b c d ∧ lowW a b c d < 4294967296 := by
 have h : ∀ n : Int, 0 ≤ IntKind.u32.wrap n ∧ IntKind.u32.wrap n < 4294967296 := fun n => by
  show 0 ≤ n % 4294967296 ∧ n % 4294967296 < 4294967296
  omega
 exact h _
theorem elem_of {P : Program} {t e : TypeId} (ht : P.underlying t = some (.slice e)) : P.underlying t = some (.slice (P.elem t)) := by simp [Program.elem, ht]
theorem slice_low {P : Program} {t e : TypeId} (ht : P.underlying t = some (.slice e)) (hI : (P.info? e).map (fun i => (i.zero, i.size, i.bytes)) = some (some (.int .u8 0), 1, 1)) (p : Option Addr) (zs : List Int) (n c lo : Nat) (hn : zs.length = n) (hlo : lo ≤ n) (hc : n ≤ c) (w : World) (hr : Rd w p zs) :
  ∃ pp, (∀ W : World, (Instr.slice t (.slice p n c) (some (.int .i64 (lo : Int))) none none).run P W = .ok (.slice pp (n - lo) (c - lo)) W) ∧ Rd w pp (zs.drop lo) := by
 obtain ⟨i, hi, hz, h1, h2⟩ := info_parts hI
 have he : P.elem t = e := by simp [Program.elem, ht]
 refine ⟨if c = lo then p else p.map (·.add lo), fun W => ?_, ?_⟩
 ·rw [run_slice_l W t _ _ _ (elem_of ht) .i64 _ (by omega) (by omega), he]
  have hs : (sizeOf e).run P W = .ok 1 W := by simp [sizeOf, typeInfo, hi, h1, Result.andThen]
  rw [hs]
  simp [Result.andThen, sliced]
 ·by_cases h : c = lo
  ·rw [if_pos h, List.drop_eq_nil_of_le (by omega)]
   exact Rd.nil _ _
  ·rw [if_neg h]
   rcases hr with hr | ⟨g, o, rfl, hr⟩
   ·subst hr
    rw [List.drop_nil]
    exact Rd.nil _ _
   ·have h2 := Rd.drop (Or.inr ⟨g, o, rfl, hr⟩ : Rd w (some ⟨g, o, none⟩) zs) lo
    by_cases h0 : lo = 0
    ·simpa [Addr.add, h0] using h2
    ·simpa [Addr.add, h0] using h2
end
end Go.Proofs.YtajfjkfnmmfhmaaGreatDoor
