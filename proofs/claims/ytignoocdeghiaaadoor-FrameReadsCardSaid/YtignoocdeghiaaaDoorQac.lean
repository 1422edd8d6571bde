/- Contracts of package code's reader's methods: Text, Pad, Left, Done. The statements of layer 1: walks. Frames: a request; may it be? A region that draws its order, whose last operations come in one order: what comes ahead of them is taken under a condition on the world, which the last ones may break. Speaks of no program. Small laws: The statement CodeCut: plain facts and the walk. -/
import Derived.Test.YtignoocdeghiaaaDoorQab
import Derived.OrdersHeld
import Derived.StillTail
import Derived.Deep.RegionHeld3
namespace Go.Proofs.YtignoocdeghiaaaDoor
section
open Go.RowKit
set_option maxRecDepth 100000

/-- string(b), of bytes that stand somewhere. -/
theorem conv_rd {P : Program} {w : World} (src e dst : TypeId) (hs : P.underlying src = some (.slice e)) (he : P.underlying e = some (.int .u8)) (hd : P.underlying dst = some .string) {g o n : Nat} {zs : List Int} (hrd : Rd w (some ⟨g, o, none⟩) zs) (cap : Nat) (hn : zs.length = n) :
    Sem.run P (convert src dst (.slice (some ⟨g, o, none⟩) n cap)) w = .ok (.string (strOfNums zs)) w := by
  refine run_convert_bytes_arg (P := P) (w := w) src e hs he g o n cap zs hn (fun i hi => ?_) dst hd
  rcases hrd with rfl | ⟨g', o', h, hc⟩
  · simp at hn; omega
  · simp at h; obtain ⟨rfl, rfl⟩ := h; exact hc i (by omega)
/-- A text's reading. -/
def textT (ls : List Int) (most : Int) : List Int × Nat × Int :=
  if ls.length < 2 then ([], 0, 10) else if most < leV (ls.take 2) then ([], 0, 11) else if ls.length < 2 + (leV (ls.take 2)).toNat then ([], 0, 10) else ((ls.drop 2).take (leV (ls.take 2)).toNat, 2 + (leV (ls.take 2)).toNat, 0)
theorem textT_len (ls : List Int) (k : Int) : (textT ls k).2.1 ≤ ls.length := by
  unfold textT
  split
  · simp
  · split
    · simp
    · split
      · simp
      · simp; omega
set_option maxHeartbeats 400000 in
theorem text1R_any (x y g o c : Nat) (k : Int) (ls : List Int) (hb : ∀ z ∈ ls, 0 ≤ z ∧ z < 256) (w : World) (hrd : Rd w (some ⟨g, o, none⟩) ls) (hc : ls.length ≤ c) (hc2 : c ≤ 140737488355328)
    (hk : -9223372036854775808 ≤ k) (hk2 : k ≤ 9223372036854775807) (hx : w.cell? ⟨x, 0, none⟩ = some (.int .i64 k)) (hy : w.cell? ⟨y, 0, none⟩ = some (.string (strOfNums []))) (hyf : w.frozen? ⟨y, 0, none⟩ = false) :
    Calls Tryd.prog 89 #[.slice (some ⟨g, o, none⟩) ls.length c, .pointer (some ⟨x, 0, none⟩), .pointer (some ⟨y, 0, none⟩)] w (GivesR (textT ls k).2.1 (textT ls k).2.2 [y] (Holds y (.string (strOfNums (textT ls k).1))) w) := by
  have HY : Hid (Holds y (.string (strOfNums [])) w) := hy
  by_cases h1 : ls.length < 2
  · rw [show textT ls k = ([], 0, 10) by unfold textT; rw [if_pos h1]]
    go_enter Tryd.func89, Tryd.ntmps89
    go_wp2_with fail
    go_returns
    exact ⟨rfl, HY.out, Frm.refl _ _⟩
  · have hbd := leV_bd (ls.take 2) (fun z hz => hb z (List.mem_of_mem_take hz))
    rw [show (ls.take 2).length = 2 by simp; omega] at hbd
    have HV := hid (fun w' (h : Rd w' (some ⟨g, o, none⟩) ls) => value_any (some ⟨g, o, none⟩) c (ls.take 2) (fun z hz => hb z (List.mem_of_mem_take hz)) (by simp; omega) w' (h.take 2))
    rw [show (ls.take 2).length = 2 by simp; omega] at HV
    have e0 : textT ls k = if k < leV (ls.take 2) then ([], 0, 11) else if ls.length < 2 + (leV (ls.take 2)).toNat then ([], 0, 10) else ((ls.drop 2).take (leV (ls.take 2)).toNat, 2 + (leV (ls.take 2)).toNat, 0) := by unfold textT; rw [if_neg h1]
    rw [e0]
    clear e0
    generalize leV (ls.take 2) = N at hbd HV ⊢
    obtain ⟨n, rfl⟩ := Int.eq_ofNat_of_zero_le hbd.1
    rw [Int.toNat_natCast]
    have hn : n < 65536 := by have := hbd.2; simp at this; omega
    have HRD := hid hrd
    have hyl := World.block_lt_of_cell? w _ hy
    have hxl := World.block_lt_of_cell? w _ hx
    have h1' : 2 ≤ ls.length := by omega
    clear hbd hb hrd h1
    have step : ∀ w1 : World, Frm [] w w1 → w1.cell? ⟨x, 0, none⟩ = some (.int .i64 k) ∧ w1.cell? ⟨y, 0, none⟩ = some (.string (strOfNums [])) ∧ w1.frozen? ⟨y, 0, none⟩ = false := fun w1 hf =>
      ⟨(hf.cell (p := ⟨x, 0, none⟩) hxl (by simp)).trans hx, (hf.cell (p := ⟨y, 0, none⟩) hyl (by simp)).trans hy, (hf.frozen (p := ⟨y, 0, none⟩) hyl (by simp)).trans hyf⟩
    have ST := hid step
    clear step
    by_cases h2 : k < n
    · rw [if_pos h2]
      go_enter Tryd.func89, Tryd.ntmps89
      go_wp2_with fail
      refine (HV.out w HRD.out).mono ?_
      rintro e w1 ⟨rfl, hf⟩
      obtain ⟨k1, k2, k3⟩ := ST.out w1 hf
      have K2 := hid k2
      go_wp2_with fail
      go_returns
      exact ⟨rfl, K2.out, hf.mono (by simp)⟩
    · rw [if_neg h2]
      by_cases h3 : ls.length < 2 + n
      · rw [if_pos h3]
        go_enter Tryd.func89, Tryd.ntmps89
        go_wp2_with fail
        refine (HV.out w HRD.out).mono ?_
        rintro e w1 ⟨rfl, hf⟩
        obtain ⟨k1, k2, k3⟩ := ST.out w1 hf
        have K2 := hid k2
        go_wp2_with fail
        go_returns
        exact ⟨rfl, K2.out, hf.mono (by simp)⟩
      · rw [if_neg h3]
        have fin : ∀ w1 : World, Frm [] w w1 → w1.cell? ⟨y, 0, none⟩ = some (.string (strOfNums [])) → GivesR (2 + n) 0 [y] (Holds y (.string (strOfNums ((ls.drop 2).take n)))) w (.returned (.tuple #[.int .i64 (2 + n), .int .i64 0])) (w1.setCell ⟨y, 0, none⟩ (.string (strOfNums ((ls.drop 2).take n)))) := fun w1 hf k2 =>
          ⟨by simp, holds_set k2 _, (hf.mono (by simp)).trans ((Frm.refl _ _).setCell _ _ (by simp)) (fun i hi _ => hi)⟩
        have FIN := hid fin
        clear fin
        by_cases h4 : c = 2
        · obtain rfl : n = 0 := by omega
          subst h4
          go_enter Tryd.func89, Tryd.ntmps89
          go_wp2_with fail
          refine (HV.out w HRD.out).mono ?_
          rintro e w1 ⟨rfl, hf⟩
          obtain ⟨k1, k2, k3⟩ := ST.out w1 hf
          have K2 := hid k2
          have hcv := conv_rd (P := Tryd.prog) (w := w1) 22 5 9 Tryd.underlying22 Tryd.underlying5 Tryd.underlying9 (g := g) (o := o) (n := 0) (Or.inl (List.take_zero (l := ls.drop 2))) 0 (by simp)
          go_wp2_with fail
          go_returns
          exact FIN.out w1 hf K2.out
        · have hcv := fun w1 (h : Rd w1 (some ⟨g, o, none⟩) ls) => conv_rd (P := Tryd.prog) (w := w1) 22 5 9 Tryd.underlying22 Tryd.underlying5 Tryd.underlying9 (n := n) ((h.drop 2).take n) (c - 2) (by simp; omega)
          have HCV := hid hcv
          clear hcv
          go_enter Tryd.func89, Tryd.ntmps89
          go_wp2_with fail
          refine (HV.out w HRD.out).mono ?_
          rintro e w1 ⟨rfl, hf⟩
          obtain ⟨k1, k2, k3⟩ := ST.out w1 hf
          have K2 := hid k2
          have hcv := HCV.out w1 (HRD.out.kept hf (by simp))
          go_wp2_with fail
          go_returns
          exact FIN.out w1 hf K2.out
set_option maxHeartbeats 400000 in
theorem textR_any (b g pos : Nat) (bs : List Int) (hb : ∀ z ∈ bs, 0 ≤ z ∧ z < 256) (err k : Int) (w : World) (hw : IsR w b g bs pos err) (hk : -9223372036854775808 ≤ k) (hk2 : k ≤ 9223372036854775807) :
    Calls Tryd.prog 84 #[.pointer (some ⟨b, 0, none⟩), .int .i64 k] w fun e w' => e = .returned (.string (strOfNums (readS [] pos err (textT (bs.drop pos) k)).1)) ∧
      IsR w' b g bs (readS [] pos err (textT (bs.drop pos) k)).2.1 (readS [] pos err (textT (bs.drop pos) k)).2.2 ∧ Frm [b] w w' := by
  obtain ⟨hlt, hlg, hbg, hpos, hlen, _⟩ := hw.cells
  have HW := hid hw
  have HB := hid hb
  obtain ⟨r, hr⟩ : ∃ r, textT (bs.drop pos) k = r := ⟨_, rfl⟩
  have HR := hid hr
  rw [hr]
  clear hw hb hr
  by_cases he : err = 0
  · subst he
    go_enter Tryd.func84, Tryd.ntmps84
    go_wp2_with fail
    have hF : Frm [] w ((w.alloc (Obj.cells #[Value.int IntKind.i64 k] 3)).alloc (Obj.cells #[Value.string { data := #[] }] 9)) := ((Frm.refl _ _).alloc _).alloc _
    obtain ⟨W, hWd⟩ : ∃ W, W = ((w.alloc (Obj.cells #[Value.int IntKind.i64 k] 3)).alloc (Obj.cells #[Value.string { data := #[] }] 9)) := ⟨_, rfl⟩
    have hx : W.cell? ⟨w.heap.size, 0, none⟩ = some (.int .i64 k) := by subst hWd; simp
    have hy : W.cell? ⟨w.heap.size + 1, 0, none⟩ = some (.string (strOfNums [])) := by subst hWd; simp [strOfNums]
    have hyf : W.frozen? ⟨w.heap.size + 1, 0, none⟩ = false := by subst hWd; simp
    rw [← hWd] at hF ⊢
    have hW0 := HW.out.kept hF (by simp) (by simp)
    refine (take_both b g pos r.2.1 r.2.2 bs [w.heap.size + 1] (Holds (w.heap.size + 1) (.string (strOfNums r.1))) 89 _ W hW0 (by simp; omega) (by simp; omega) (by have := textT_len (bs.drop pos) k; rw [HR.out] at this; simp at this; omega) (fun l w => callable Tryd.func89 (by kernel_rfl) (by kernel_rfl) _ _) ?_).mono ?_
    · intro o c hc hrd
      have := text1R_any w.heap.size (w.heap.size + 1) g o c k (bs.drop pos) (fun z hz => HB.out z (List.mem_of_mem_drop hz)) W.drew hrd hc.1 hc.2 hk hk2 hx hy hyf
      rw [HR.out] at this
      exact this
    rintro e w' ⟨rfl, w1, h1, h2, h3, h4⟩
    have hv := h1.kept h3 (by simp; omega)
    go_wp2_with fail
    go_returns
    rw [readS_ok]
    exact ⟨rfl, h4, two_steps hF h2 h3 (by omega)⟩
  · have HE : Hid (err ≠ 0) := he
    clear he
    go_enter Tryd.func84, Tryd.ntmps84
    go_wp2_with fail
    have hF : Frm [] w ((w.alloc (Obj.cells #[Value.int IntKind.i64 k] 3)).alloc (Obj.cells #[Value.string { data := #[] }] 9)) := ((Frm.refl _ _).alloc _).alloc _
    refine (take_stop b g pos err bs _ _ _ (HW.out.kept hF (by simp) (by simp)) HE.out).mono ?_
    rintro e w' ⟨rfl, rfl⟩
    go_wp2_with fail
    go_returns
    unfold readS
    rw [if_pos HE.out]
    exact ⟨rfl, HW.out.kept hF (by simp) (by simp), hF.mono (by simp)⟩
theorem int_eq {a c : Int} (h : a = c) : Ending.returned (.int .i64 a) = Ending.returned (.int .i64 c) := by rw [h]
theorem tup_eq {a c : Int} {v : Value} (h : a = c) : Ending.returned (.tuple #[.int .i64 a, v]) = Ending.returned (.tuple #[.int .i64 c, v]) := by rw [h]
/-- Noughts' reading: of the rest ls at pos, of so many bytes in all. -/
def padT (ls : List Int) (pos : Nat) (to : Int) : Unit × Nat × Int :=
  if to < pos then ((), 0, 11) else if ((pos + ls.length : Nat) : Int) < to then ((), 0, 10) else if ((ls.take (to - pos).toNat).all (· == 0)) = false then ((), 0, 14) else ((), (to - pos).toNat, 0)
theorem padT_len (ls : List Int) (pos : Nat) (k : Int) : (padT ls pos k).2.1 ≤ ls.length := by
  unfold padT
  split
  · simp
  · split
    · simp
    · split
      · simp
      · simp; omega
set_option maxHeartbeats 400000 in
theorem left_any (b g pos : Nat) (bs : List Int) (err : Int) (w : World) (hw : IsR w b g bs pos err) :
    Calls Tryd.prog 67 #[.pointer (some ⟨b, 0, none⟩)] w fun e w' => e = .returned (.int .i64 ((bs.length - pos : Nat) : Int)) ∧ ∃ n, w' = w.drewN n := by
  obtain ⟨hlt, hlg, hbg, hpos, hlen, c0, c1, c2, f1, f2, _⟩ := hw.cells
  clear hw
  go_enter Tryd.func67, Tryd.ntmps67
  go_wp2_with fail
  go_quiet (fail)
  go_wp2_with fail
  go_returns
  exact ⟨int_eq (by omega), nq, rfl⟩
def doneS (len pos : Nat) (err : Int) : Int := if err = 0 ∧ pos < len then 13 else err
set_option maxHeartbeats 400000 in
theorem doneR_any (b g pos : Nat) (bs : List Int) (err : Int) (w : World) (hw : IsR w b g bs pos err) :
    Calls Tryd.prog 64 #[.pointer (some ⟨b, 0, none⟩)] w fun e w' => e = .returned (.int .i64 (doneS bs.length pos err)) ∧ ∃ n, w' = w.drewN n := by
  obtain ⟨hlt, hlg, hbg, hpos, hlen, c0, c1, c2, f1, f2, _⟩ := hw.cells
  have HW := hid hw
  clear hw
  by_cases he : err = 0
  · subst he
    by_cases hp : pos < bs.length
    · rw [show doneS bs.length pos 0 = 13 by simp [doneS, hp]]
      go_enter Tryd.func64, Tryd.ntmps64
      go_wp2_with fail
      refine (left_any b g pos bs 0 _ HW.out).mono ?_
      rintro e w' ⟨rfl, n, rfl⟩
      have hpp : (0 : Int) < ((bs.length - pos : Nat) : Int) := by omega
      go_wp2_with fail
      go_returns
      exact ⟨rfl, _, rfl⟩
    · rw [show doneS bs.length pos 0 = 0 by simp [doneS]; omega]
      go_enter Tryd.func64, Tryd.ntmps64
      go_wp2_with fail
      refine (left_any b g pos bs 0 _ HW.out).mono ?_
      rintro e w' ⟨rfl, n, rfl⟩
      have hpp : ¬ (0 : Int) < ((bs.length - pos : Nat) : Int) := by omega
      go_wp2_with fail
      go_returns
      exact ⟨rfl, _, rfl⟩
  · rw [show doneS bs.length pos err = err by simp [doneS, he]]
    have hb : (err == 0) = false := by simpa using he
    have hb2 : (err != 0) = true := by simpa using he
    clear he
    go_enter Tryd.func64, Tryd.ntmps64
    go_wp2_with fail
    go_returns
    exact ⟨rfl, 0, rfl⟩
end
section
open Go.RowKit
set_option maxRecDepth 100000

/-- The blocks of A are as they were. -/
def Keeps (A : List Nat) (w w' : World) : Prop := ∀ k ∈ A, w'.heap[k]? = w.heap[k]?
theorem Rd.keeps {w w' : World} {p : Option Addr} {zs : List Int} {A : List Nat} (h : Rd w p zs) (hk : Keeps A w w') (hp : ∀ k ∈ blk p, k ∈ A) : Rd w' p zs := by
  rcases h with h | ⟨g, o, rfl, hc⟩
  · exact Or.inl h
  · refine Or.inr ⟨g, o, rfl, fun i hi => ?_⟩
    rw [World.cell?_of_block (hk g (hp g (by simp [blk])))]
    exact hc i hi
theorem Frm.keeps {S A : List Nat} {w w' : World} (h : Frm S w w') (hA : ∀ k ∈ A, k ∉ S ∧ k < w.heap.size) : Keeps A w w' := fun k hk => h.block k (hA k hk).2 (hA k hk).1
/-- A writer that is new since w0, and nothing elder has turned since; of the blocks of A none is its own. -/
def FreshW (w0 w : World) (b : Nat) (room : Int) (s : List Int × Int) (A : List Nat) : Prop := ∃ fp, IsW w b fp room s.1 s.2 ∧ Frm [] w0 w ∧ (∀ k ∈ fp, w0.heap.size ≤ k) ∧ ∀ k ∈ A, k ∉ fp ∧ k < w.heap.size
theorem FreshW.next {w0 w w' : World} {b : Nat} {room : Int} {fp A : List Nat} {s : List Int × Int} (hF : Frm [] w0 w) (hfp : ∀ k ∈ fp, w0.heap.size ≤ k) (hA : ∀ k ∈ A, k ∉ fp ∧ k < w.heap.size) (h : NowW w b fp room s.1 s.2 w') : FreshW w0 w' b room s A ∧ Keeps A w w' := by
  obtain ⟨fp', h1, h2, h3⟩ := h
  refine ⟨⟨fp', h1, hF.trans h2 (fun i hi hlt => absurd (hfp i hi) (Nat.not_le.2 hlt)), fun k hk => (h3 k hk).elim (hfp k) (fun h => Nat.le_trans hF.size h), fun k hk => ⟨fun hk' => ?_, Nat.lt_of_lt_of_le (hA k hk).2 h2.size⟩⟩, h2.keeps hA⟩
  rcases h3 k hk' with h | h
  · exact (hA k hk).1 h
  · exact absurd (hA k hk).2 (Nat.not_lt.2 h)
theorem FreshW.born {w0 w : World} {b : Nat} {room : Int} (h : IsW w b [b] room [] 0) (hf : Frm [] w0 w) (hb : w0.heap.size ≤ b) : FreshW w0 w b room ([], 0) [] := ⟨[b], h, hf, by simpa using hb, by simp⟩
theorem FreshW.frm {w0 w : World} {b : Nat} {room : Int} {s : List Int × Int} {A : List Nat} (h : FreshW w0 w b room s A) : Frm [] w0 w := by obtain ⟨_, _, h, _⟩ := h; exact h
section
variable (w0 w : World) (b : Nat) (room : Int) (s : List Int × Int) (A : List Nat) (hw : FreshW w0 w b room s A) (hr0 : 0 ≤ room) (hr1 : room ≤ 2147483647) (hz : (s.1.length : Int) ≤ room)
include hw hr0 hr1 hz
theorem numF_any (n k : Int) (hn : 0 ≤ n) (hn2 : n < 18446744073709551616) (hk : -9223372036854775808 ≤ k) (hk2 : k ≤ 9223372036854775807) :
    Calls Tryd.prog 47 #[.pointer (some ⟨b, 0, none⟩), .int .u64 n, .int .i64 k] w fun e w' => e = .returned (.tuple #[]) ∧ FreshW w0 w' b room (stepW room s (numF n k)) A ∧ Keeps A w w' := by
  obtain ⟨fp, h1, h2, h3, h4⟩ := hw
  exact (num_any b fp room s n k w h1 hr0 hr1 hz hn hn2 hk hk2).mono fun e w' h => ⟨h.1, FreshW.next h2 h3 h4 h.2⟩
theorem bytesF_any (p : Option Addr) (ns : List Int) (c : Nat) (hl : ns.length ≤ 140737488355328) (hc : ns = [] → p = none → c = 0) (hrd : Rd w p ns) :
    Calls Tryd.prog 49 #[.pointer (some ⟨b, 0, none⟩), .slice p ns.length c] w fun e w' => e = .returned (.tuple #[]) ∧ FreshW w0 w' b room (stepW room s (ns, 0)) A ∧ Keeps A w w' := by
  obtain ⟨fp, h1, h2, h3, h4⟩ := hw
  exact (bytes_any b fp room s p ns c w h1 hr0 hr1 hz hl hc hrd).mono fun e w' h => ⟨h.1, FreshW.next h2 h3 h4 h.2⟩
theorem textF_any (t : ByteArray) (ht : t.size ≤ maxLen) :
    Calls Tryd.prog 52 #[.pointer (some ⟨b, 0, none⟩), .string t] w fun e w' => e = .returned (.tuple #[]) ∧ FreshW w0 w' b room (stepW room s (textF t)) A ∧ Keeps A w w' := by
  obtain ⟨fp, h1, h2, h3, h4⟩ := hw
  exact (text_any b fp room s t w h1 hr0 hr1 hz ht).mono fun e w' h => ⟨h.1, FreshW.next h2 h3 h4 h.2⟩
end
theorem doneWF_ok (w0 w : World) (b : Nat) (room : Int) (zs : List Int) (A : List Nat) (hw : FreshW w0 w b room (zs, 0) A) (hr1 : room ≤ 2147483647) (hz : (zs.length : Int) ≤ room) :
    Calls Tryd.prog 48 #[.pointer (some ⟨b, 0, none⟩)] w fun e w' => ∃ g, e = .returned (.tuple #[.slice (some ⟨g, 0, none⟩) zs.length zs.length, .int .i64 0]) ∧ Rd w' (some ⟨g, 0, none⟩) zs ∧ FreshW w0 w' b room (zs, 0) (g :: A) ∧ Keeps A w w' ∧ w0.heap.size ≤ g ∧ g < w'.heap.size := by
  obtain ⟨fp, h1, h2, h3, h4⟩ := hw
  refine (doneW_ok b fp room zs w h1 hr1 hz).mono ?_
  rintro e w' ⟨g, he, hg, hf, hsz⟩
  refine ⟨g, he, (own_of_block (E := 5) hg (by unfold maxLen; omega)).rd, ⟨fp, h1.kept hf (by simp), h2.trans hf (by simp), h3, ?_⟩, hf.keeps (fun k hk => ⟨by simp, (h4 k hk).2⟩), Nat.le_trans h2.size hsz, lt_of_heap hg⟩
  intro k hk
  simp at hk
  rcases hk with rfl | hk
  · exact ⟨fun h => absurd (h1.lt k h) (Nat.not_lt.2 hsz), lt_of_heap hg⟩
  · exact ⟨(h4 k hk).1, Nat.lt_of_lt_of_le (h4 k hk).2 hf.size⟩
theorem doneWF_err (w0 w : World) (b : Nat) (room err : Int) (zs : List Int) (A : List Nat) (hw : FreshW w0 w b room (zs, err) A) (he : err ≠ 0) :
    Calls Tryd.prog 48 #[.pointer (some ⟨b, 0, none⟩)] w fun e w' => e = .returned (.tuple #[.slice none 0 0, .int .i64 err]) ∧ FreshW w0 w' b room (zs, err) A ∧ Keeps A w w' := by
  obtain ⟨fp, h1, h2, h3, h4⟩ := hw
  refine (doneW_err b fp room err zs w h1 he).mono ?_
  rintro e w' ⟨he, hf⟩
  exact ⟨he, ⟨fp, h1.kept hf (by simp), h2.trans hf (by simp), h3, fun k hk => ⟨(h4 k hk).1, Nat.lt_of_lt_of_le (h4 k hk).2 hf.size⟩⟩, hf.keeps (fun k hk => ⟨by simp, (h4 k hk).2⟩)⟩
/-- A reader that is new since w0, and nothing elder has turned since. -/
def FreshR (w0 w : World) (b g : Nat) (bs : List Int) (pos : Nat) (err : Int) : Prop := IsR w b g bs pos err ∧ Frm [] w0 w ∧ w0.heap.size ≤ b ∧ w0.heap.size ≤ g
theorem FreshR.next {w0 w w' : World} {b g : Nat} {bs : List Int} {pos pos' : Nat} {err err' : Int} (h : FreshR w0 w b g bs pos err) (hr : IsR w' b g bs pos' err') (hf : Frm [b] w w') : FreshR w0 w' b g bs pos' err' :=
  ⟨hr, h.2.1.trans hf (fun i hi hlt => by simp at hi; have := h.2.2.1; omega), h.2.2⟩
theorem FreshR.drewN {w0 w : World} {b g : Nat} {bs : List Int} {pos : Nat} {err : Int} (h : FreshR w0 w b g bs pos err) (n : Nat) : FreshR w0 (w.drewN n) b g bs pos err :=
  ⟨h.1.kept ((Frm.refl [] w).drewN n) (by simp) (by simp), h.2.1.drewN n, h.2.2⟩
theorem le_bd (n : Int) (k : Nat) : ∀ z ∈ le n k, 0 ≤ z ∧ z < 256 := by
  intro z hz; simp [le] at hz; obtain ⟨i, _, rfl⟩ := hz; omega
theorem leV_le (n : Nat) (k : Nat) : leV (le (n : Int) k) = ((n % 2 ^ (8 * k) : Nat) : Int) := by
  induction k with
  | zero => simp [le, leV, Nat.mod_one]
  | succ k ih =>
    rw [le_succ, leV_snoc, ih, le_length]
    have e : (2 : Nat) ^ (8 * (k + 1)) = 2 ^ (8 * k) * 256 := by rw [Nat.mul_add, Nat.pow_add]
    rw [e, Nat.mod_mul, show ((2 : Int) ^ (8 * k)) = ((2 ^ (8 * k) : Nat) : Int) by simp]
    generalize 2 ^ (8 * k) = q
    rw [Int.natCast_add, Int.natCast_mul, Int.natCast_emod (n / q) 256, Int.natCast_ediv, Int.mul_comm]
    rfl
theorem leV_fit (n : Int) (k : Nat) (hn : 0 ≤ n) (h : n / 2 ^ (8 * k) = 0) : leV (le n k) = n := by
  obtain ⟨m, rfl⟩ := Int.eq_ofNat_of_zero_le hn
  rw [leV_le]
  have h2 : ((m / 2 ^ (8 * k) : Nat) : Int) = 0 := by rw [Int.natCast_ediv]; simpa using h
  have h3 : m / 2 ^ (8 * k) = 0 := by omega
  have hq : 0 < 2 ^ (8 * k) := Nat.pow_pos (by decide)
  rw [Nat.mod_eq_of_lt]
  exact (Nat.div_eq_zero_iff_lt hq).1 h3
end
section
open Go.RowKit Go.Lib
set_option maxRecDepth 100000

/-- A request. -/
structure Rq where
  ses : Int
  id : Int
  verb : Int
  name : ByteArray
  item : ByteArray
  other : ByteArray
  path : ByteArray
  at_ : Int
  many : Int
  dp : Option Addr
  dl : Nat
  dc : Nat
def Rq.arr (r : Rq) : Array Value := #[.int .i64 r.ses, .int .i64 r.id, .int .i64 r.verb, .string r.name, .string r.item, .string r.other, .string r.path, .int .i64 r.at_, .int .i64 r.many, .slice r.dp r.dl r.dc]
def MayQ (r : Rq) : Prop := (1 ≤ r.ses ∧ r.ses ≤ 8) ∧ (1 ≤ r.id ∧ r.id ≤ 1073741824) ∧ (1 ≤ r.verb ∧ r.verb ≤ 255) ∧ (r.name.size ≤ 240) ∧ (r.item.size ≤ 240) ∧ (r.other.size ≤ 240) ∧ (r.path.size ≤ 240) ∧ (0 ≤ r.at_ ∧ r.at_ ≤ 1099511627776) ∧ (0 ≤ r.many ∧ r.many ≤ 1099511627776) ∧ (r.dl ≤ 2048)
instance (r : Rq) : Decidable (MayQ r) := by unfold MayQ; infer_instance
theorem rq_cells {W : World} {b : Nat} {r : Rq} {T : TypeId} (h : W.heap[b]? = some (.cells r.arr T (0, 0))) : W.cell? ⟨b, 0, none⟩ = some (.int .i64 r.ses) ∧ W.cell? ⟨b, 1, none⟩ = some (.int .i64 r.id) ∧ W.cell? ⟨b, 2, none⟩ = some (.int .i64 r.verb) ∧ W.cell? ⟨b, 3, none⟩ = some (.string r.name) ∧ W.cell? ⟨b, 4, none⟩ = some (.string r.item) ∧ W.cell? ⟨b, 5, none⟩ = some (.string r.other) ∧ W.cell? ⟨b, 6, none⟩ = some (.string r.path) ∧ W.cell? ⟨b, 7, none⟩ = some (.int .i64 r.at_) ∧ W.cell? ⟨b, 8, none⟩ = some (.int .i64 r.many) ∧ W.cell? ⟨b, 9, none⟩ = some (.slice r.dp r.dl r.dc) := by
  refine ⟨?_, ?_, ?_, ?_, ?_, ?_, ?_, ?_, ?_, ?_⟩ <;> (rw [cell_of_row W _ _ _ _ _ h]; rfl)
theorem bool_dec {x : Bool} {p : Prop} [Decidable p] (h : x = true ↔ p) : x = decide p := Bool.eq_iff_iff.2 (by rw [decide_eq_true_iff]; exact h)
theorem within_any (n a b : Int) (w : World) : Calls Tryd.prog 51 #[.int .i64 n, .int .i64 a, .int .i64 b] w fun e w' => e = .returned (.bool (decide (a ≤ n ∧ n ≤ b))) ∧ w' = w := by
  obtain ⟨PO, hPO⟩ : ∃ PO : Ending → World → Prop, (fun e w' => e = .returned (.bool (decide (a ≤ n ∧ n ≤ b))) ∧ w' = w) = PO := ⟨_, rfl⟩
  rw [hPO]
  have HP : Hid (∀ x, (x = true ↔ (a ≤ n ∧ n ≤ b)) → PO (.returned (.bool x)) w) := hid (fun x h => by rw [← hPO]; exact ⟨by rw [bool_dec h], rfl⟩)
  clear hPO
  go_enter Tryd.func51, Tryd.ntmps51
  by_cases h1 : a ≤ n
  · by_cases h2 : n ≤ b
    · go_wp2_with fail
      first | go_returns | skip
      exact HP.out _ ⟨fun _ => ⟨h1, h2⟩, fun _ => rfl⟩
    · go_wp2_with fail
      first | go_returns | skip
      exact HP.out _ ⟨fun h => by simp at h, fun h => by have := h.2; omega⟩
  · go_wp2_with fail
    first | go_returns | skip
    exact HP.out _ ⟨fun h => by simp at h, fun h => by have := h.1; omega⟩
set_option maxHeartbeats 6400000 in
theorem mayQ_any (r : Rq) (w : World) : Calls Tryd.prog 27 #[.agg r.arr] w fun e w' => e = .returned (.bool (decide (MayQ r))) ∧ Frm [] w w' := by
  obtain ⟨PO, hPO⟩ : ∃ PO : Ending → World → Prop, (fun e w' => e = .returned (.bool (decide (MayQ r))) ∧ Frm [] w w') = PO := ⟨_, rfl⟩
  rw [hPO]
  have HP : Hid (∀ x w', (x = true ↔ MayQ r) → Frm [] w w' → PO (.returned (.bool x)) w') := hid (fun x w' h h2 => by rw [← hPO]; exact ⟨by rw [bool_dec h], h2⟩)
  clear hPO
  have HFA := hid ((Frm.refl [] w).alloc (.cells r.arr 24))
  have HROW := hid (heap_alloc_new w (.cells r.arr 24))
  obtain ⟨wa, hwa⟩ : ∃ z, w.alloc (.cells r.arr 24) = z := ⟨_, rfl⟩
  rw [hwa] at HFA HROW
  obtain ⟨bx, hbx⟩ : ∃ z, w.heap.size = z := ⟨_, rfl⟩
  rw [hbx] at HROW
  obtain ⟨q0, q1, q2, q3, q4, q5, q6, q7, q8, q9⟩ := rq_cells HROW.out
  obtain ⟨ses, id, verb, name, item, other, path, at_, many, dp, dl, dc⟩ := r
  unfold MayQ at HP
  unfold Rq.arr at hwa ⊢
  simp only at HP hwa q0 q1 q2 q3 q4 q5 q6 q7 q8 q9 ⊢
  clear HROW
  go_enter Tryd.func27, Tryd.ntmps27
  go_wp2_with fail
  refine (within_any ses 1 8 wa).mono ?_
  rintro e w0 ⟨rfl, h0⟩
  rw [h0]
  clear h0
  by_cases g0 : 1 ≤ ses ∧ ses ≤ 8
  case neg =>
    have N := hid g0
    have d : decide (1 ≤ ses ∧ ses ≤ 8) = false := decide_eq_false g0
    clear g0
    rw [d]
    clear d
    go_wp2_with fail
    first | go_returns | skip
    exact HP.out _ _ ⟨fun h => by simp at h, fun h => absurd (h.1) N.out⟩ HFA.out
  have d : decide (1 ≤ ses ∧ ses ≤ 8) = true := decide_eq_true g0
  rw [d]
  clear d
  have G0 := hid g0
  clear g0
  go_wp2_with fail
  refine (within_any id 1 1073741824 wa).mono ?_
  rintro e w1 ⟨rfl, h0⟩
  rw [h0]
  clear h0
  by_cases g1 : 1 ≤ id ∧ id ≤ 1073741824
  case neg =>
    have N := hid g1
    have d : decide (1 ≤ id ∧ id ≤ 1073741824) = false := decide_eq_false g1
    clear g1
    rw [d]
    clear d
    go_wp2_with fail
    first | go_returns | skip
    exact HP.out _ _ ⟨fun h => by simp at h, fun h => absurd (h.2.1) N.out⟩ HFA.out
  have d : decide (1 ≤ id ∧ id ≤ 1073741824) = true := decide_eq_true g1
  rw [d]
  clear d
  have G1 := hid g1
  clear g1
  go_wp2_with fail
  refine (within_any verb 1 255 wa).mono ?_
  rintro e w2 ⟨rfl, h0⟩
  rw [h0]
  clear h0
  by_cases g2 : 1 ≤ verb ∧ verb ≤ 255
  case neg =>
    have N := hid g2
    have d : decide (1 ≤ verb ∧ verb ≤ 255) = false := decide_eq_false g2
    clear g2
    rw [d]
    clear d
    go_wp2_with fail
    first | go_returns | skip
    exact HP.out _ _ ⟨fun h => by simp at h, fun h => absurd (h.2.2.1) N.out⟩ HFA.out
  have d : decide (1 ≤ verb ∧ verb ≤ 255) = true := decide_eq_true g2
  rw [d]
  clear d
  have G2 := hid g2
  clear g2
  by_cases g3 : name.size ≤ 240
  case neg =>
    have N := hid g3
    have d : (240 : Int) < ((name.size : Nat) : Int) := by omega
    have d2 : ¬ (((name.size : Nat) : Int) ≤ 240) := by omega
    have d3 : decide (((name.size : Nat) : Int) ≤ 240) = false := decide_eq_false d2
    go_wp2_with fail
    first | go_returns | skip
    exact HP.out _ _ ⟨fun h => by simp at h, fun h => absurd (h.2.2.2.1) N.out⟩ HFA.out
  have e3 : (((name.size : Nat) : Int) ≤ 240) := by omega
  have f3 : decide (((name.size : Nat) : Int) ≤ 240) = true := decide_eq_true e3
  by_cases g4 : item.size ≤ 240
  case neg =>
    have N := hid g4
    have d : (240 : Int) < ((item.size : Nat) : Int) := by omega
    have d2 : ¬ (((item.size : Nat) : Int) ≤ 240) := by omega
    have d3 : decide (((item.size : Nat) : Int) ≤ 240) = false := decide_eq_false d2
    go_wp2_with fail
    first | go_returns | skip
    exact HP.out _ _ ⟨fun h => by simp at h, fun h => absurd (h.2.2.2.2.1) N.out⟩ HFA.out
  have e4 : (((item.size : Nat) : Int) ≤ 240) := by omega
  have f4 : decide (((item.size : Nat) : Int) ≤ 240) = true := decide_eq_true e4
  by_cases g5 : other.size ≤ 240
  case neg =>
    have N := hid g5
    have d : (240 : Int) < ((other.size : Nat) : Int) := by omega
    have d2 : ¬ (((other.size : Nat) : Int) ≤ 240) := by omega
    have d3 : decide (((other.size : Nat) : Int) ≤ 240) = false := decide_eq_false d2
    go_wp2_with fail
    first | go_returns | skip
    exact HP.out _ _ ⟨fun h => by simp at h, fun h => absurd (h.2.2.2.2.2.1) N.out⟩ HFA.out
  have e5 : (((other.size : Nat) : Int) ≤ 240) := by omega
  have f5 : decide (((other.size : Nat) : Int) ≤ 240) = true := decide_eq_true e5
  by_cases g6 : path.size ≤ 240
  case neg =>
    have N := hid g6
    have d : (240 : Int) < ((path.size : Nat) : Int) := by omega
    have d2 : ¬ (((path.size : Nat) : Int) ≤ 240) := by omega
    have d3 : decide (((path.size : Nat) : Int) ≤ 240) = false := decide_eq_false d2
    go_wp2_with fail
    first | go_returns | skip
    exact HP.out _ _ ⟨fun h => by simp at h, fun h => absurd (h.2.2.2.2.2.2.1) N.out⟩ HFA.out
  have e6 : (((path.size : Nat) : Int) ≤ 240) := by omega
  have f6 : decide (((path.size : Nat) : Int) ≤ 240) = true := decide_eq_true e6
  go_wp2_with fail
  refine (within_any at_ 0 1099511627776 wa).mono ?_
  rintro e w7 ⟨rfl, h0⟩
  rw [h0]
  clear h0
  by_cases g7 : 0 ≤ at_ ∧ at_ ≤ 1099511627776
  case neg =>
    have N := hid g7
    have d : decide (0 ≤ at_ ∧ at_ ≤ 1099511627776) = false := decide_eq_false g7
    clear g7
    rw [d]
    clear d
    go_wp2_with fail
    first | go_returns | skip
    exact HP.out _ _ ⟨fun h => by simp at h, fun h => absurd (h.2.2.2.2.2.2.2.1) N.out⟩ HFA.out
  have d : decide (0 ≤ at_ ∧ at_ ≤ 1099511627776) = true := decide_eq_true g7
  rw [d]
  clear d
  have G7 := hid g7
  clear g7
  go_wp2_with fail
  refine (within_any many 0 1099511627776 wa).mono ?_
  rintro e w8 ⟨rfl, h0⟩
  rw [h0]
  clear h0
  by_cases g8 : 0 ≤ many ∧ many ≤ 1099511627776
  case neg =>
    have N := hid g8
    have d : decide (0 ≤ many ∧ many ≤ 1099511627776) = false := decide_eq_false g8
    clear g8
    rw [d]
    clear d
    go_wp2_with fail
    first | go_returns | skip
    exact HP.out _ _ ⟨fun h => by simp at h, fun h => absurd (h.2.2.2.2.2.2.2.2.1) N.out⟩ HFA.out
  have d : decide (0 ≤ many ∧ many ≤ 1099511627776) = true := decide_eq_true g8
  rw [d]
  clear d
  have G8 := hid g8
  clear g8
  by_cases g9 : dl ≤ 2048
  case neg =>
    have N := hid g9
    have d : (2048 : Int) < ((dl : Nat) : Int) := by omega
    have d2 : ¬ (((dl : Nat) : Int) ≤ 2048) := by omega
    have d3 : decide (((dl : Nat) : Int) ≤ 2048) = false := decide_eq_false d2
    go_wp2_with fail
    first | go_returns | skip
    exact HP.out _ _ ⟨fun h => by simp at h, fun h => absurd (h.2.2.2.2.2.2.2.2.2) N.out⟩ HFA.out
  have e9 : (((dl : Nat) : Int) ≤ 2048) := by omega
  have f9 : decide (((dl : Nat) : Int) ≤ 2048) = true := decide_eq_true e9
  go_wp2_with fail
  first | go_returns | skip
  exact HP.out _ _ ⟨fun _ => ⟨G0.out, G1.out, G2.out, g3, g4, g5, g6, G7.out, G8.out, g9⟩, fun _ => rfl⟩ HFA.out
end
section
section
variable {P : Program} {ops : Array Oper} {Q : Exit → Act → World → Prop} {md : Region.Mode} {S : World → Prop}
/-- The first so many operations in whatever order, the condition behind each of them; then what 'L' says. -/
def wpAnyHT (P : Program) (md : Region.Mode) (ops : Array Oper) (Q : Exit → Act → World → Prop) (S : World → Prop) (n : Nat) (L : Array Bool → Act → World → Prop) : Nat → Array Bool → Act → World → Prop
  | 0, listed, a, w => L listed a w
  | f + 1, listed, a, w =>
    Region.ready md ops listed ≠ [] ∧ ∀ i ∈ Region.ready md ops listed, i < n ∧ wpOp P ops Q i (fun a' w' => S w' ∧ wpAnyHT P md ops Q S n L f (listed.setIfInBounds i true) a' w') a w
theorem wpAny_of_headT {n g : Nat} {L : Array Bool → Act → World → Prop} (hL : ∀ listed a w, L listed a w → wpAny P md ops Q g listed a w) :
    ∀ (f : Nat) (listed : Array Bool) (a : Act) (w : World), wpAnyHT P md ops Q S n L f listed a w → wpAny P md ops Q (f + g) listed a w
  | 0, listed, a, w, h => by rw [Nat.zero_add]; exact hL _ _ _ h
  | f + 1, listed, a, w, h => by
    rw [show f + 1 + g = (f + g) + 1 by omega]
    exact ⟨fun h0 => absurd h0 h.1, fun i hi => wpOp_mono (fun a' w' h' => wpAny_of_headT hL f _ a' w' h'.2) (h.2 i hi).2⟩
theorem wpAnyHT_first {n i : Nat} {oi : Oper} {v : Value} {L : Array Bool → Act → World → Prop} (hi : ops[i]? = some oi) (hsel : ∀ (j : Nat) (o : Oper) cs b, ops[j]? = some o → o.op ≠ .select cs b)
    (hQ : ∀ c a w, Q (.panic c) (a.put oi.dst v) w → Q (.panic c) a w)
    (hs : Region.sinkB md ops n = true) (hc : Region.chainB md ops n = true) (hn : n < ops.size) (hin : i < n)
    (hdone : ∀ listed a w, L listed a w → ∀ j ∈ Region.ready md ops listed, n ≤ j) :
    ∀ (f : Nat) (listed : Array Bool) (a : Act) (w : World), HeadInv md ops n listed →
      (∀ j oj, ops[j]? = some oj → j ≠ i → listed.getD j true = false → (∀ e ∈ oj.after, Region.binds md e = true → e.on ≠ i) → oi.apart ops oj = true) →
      i ∈ Region.ready md ops listed → YieldsIf P ops S oi v a → S w →
      wpAnyHT P md ops Q S n L f (listed.setIfInBounds i true) (a.put oi.dst v) w → wpAnyHT P md ops Q S n L (f + 1) listed a w := by
  intro f
  induction f with
  | zero =>
    intro listed a w inv _ hr hy hS H
    have hun := (mem_ready.1 hr).1
    refine ⟨fun h => (by rw [h] at hr; cases hr), fun j hj => ?_⟩
    have hjn : j < n := by
      rcases Nat.lt_or_ge j n with h | h
      · exact h
      · exact absurd hj (tail_waits hs hc hn inv _ i rfl hin hun j h)
    refine ⟨hjn, ?_⟩
    by_cases hji : j = i
    · subst hji; exact hy.wpOp hi hS ⟨hS, H⟩
    · have := hdone _ _ _ H j (ready_mono hj hji)
      omega
  | succ f ih =>
    intro listed a w inv hfree hr hy hS H
    have hun := (mem_ready.1 hr).1
    refine ⟨fun h => (by rw [h] at hr; cases hr), fun j hj => ?_⟩
    have hjn : j < n := by
      rcases Nat.lt_or_ge j n with h | h
      · exact h
      · exact absurd hj (tail_waits hs hc hn inv _ i rfl hin hun j h)
    refine ⟨hjn, ?_⟩
    by_cases hji : j = i
    · subst hji; exact hy.wpOp hi hS ⟨hS, H⟩
    · have h1 := (H.2 j (ready_mono hj hji)).2
      obtain ⟨hjun, oj, hoj, hall⟩ := mem_ready.1 hj
      have hnot : ∀ e ∈ oj.after, Region.binds md e = true → e.on ≠ i := fun e he hb heq => by
        have h1 := hall e he hb
        rw [heq, getD_both hun] at h1
        cases h1
      have h2 := wpOp_putIf hoj (hfree j oj hoj hji hjun hnot) (fun cs b => hsel i oi cs b hi) (fun cs b => hsel j oj cs b hoj) hQ hy h1
      have hfree' : ∀ k ok, ops[k]? = some ok → k ≠ i → (listed.setIfInBounds j true).getD k true = false →
          (∀ e ∈ ok.after, Region.binds md e = true → e.on ≠ i) → oi.apart ops ok = true := fun k ok hk hki hun hno => by
        refine hfree k ok hk hki ?_ hno
        by_cases hjk : j = k
        · subst hjk; exact hjun
        · rw [getD_set_ne true hjk] at hun; exact hun
      refine wpOp_mono (fun a' w' h3 => ⟨h3.2.1, ih (listed.setIfInBounds j true) a' w' (inv.set hj hjn) hfree' (ready_mono hr (Ne.symm hji)) h3.1 h3.2.1 ?_⟩) h2
      rw [Array.setIfInBounds_comm _ _ hji]
      exact h3.2.2
/-- What 'HeadInv' asks, as a Bool. -/
def headInvB (md : Region.Mode) (ops : Array Oper) (n : Nat) (listed : Array Bool) : Bool :=
  decide (listed.size = ops.size) &&
  ((List.range ops.size).all fun j => !listed.getD j false || (match ops[j]? with | some oj => oj.after.all fun e => !Region.binds md e || listed.getD e.on false | none => true)) &&
  ((List.range ops.size).all fun t => decide (t < n) || !listed.getD t true)
theorem headInv_of {n : Nat} {listed : Array Bool} (h : headInvB md ops n listed = true) : HeadInv md ops n listed := by
  unfold headInvB at h
  simp only [Bool.and_eq_true, decide_eq_true_eq] at h
  obtain ⟨⟨h1, h2⟩, h3⟩ := h
  refine ⟨h1, fun j oj hj hl e he hb => ?_, fun t ht htl => ?_⟩
  · have hjlt : j < ops.size := (Array.getElem?_eq_some_iff.1 hj).1
    have h := List.all_eq_true.1 h2 j (List.mem_range.2 hjlt)
    rw [hl, hj] at h
    simp only [Bool.not_true, Bool.false_or] at h
    have h4 := Array.all_eq_true'.1 h e he
    rw [hb] at h4
    simpa using h4
  · have h := List.all_eq_true.1 h3 t (List.mem_range.2 htl)
    simp only [Bool.or_eq_true, decide_eq_true_eq] at h
    rcases h with h | h
    · omega
    · simpa using h
/-- What is asked of the region's form. -/
def tailB (md : Region.Mode) (ops : Array Oper) (n : Nat) : Bool := Region.noSelect ops && decide (n < ops.size) && Region.sinkB md ops n && Region.chainB md ops n
/-- Behind the head: the last ones in their order. -/
def TailL (P : Program) (ops : Array Oper) (Q : Exit → Act → World → Prop) (n : Nat) (l : List Oper) : Array Bool → Act → World → Prop :=
  fun listed a w => Region.seqB .any ops l.length n listed = true ∧ wpList P ops Q l a w
theorem wpAnyHT_take {n i : Nat} {l : List Oper} {oi : Oper} {v : Value} {fuel : Nat} {listed : Array Bool} {a : Act} {w : World} (hB : tailB .any ops n = true) (hi : ops[i]? = some oi) (hin : decide (i < n) = true)
    (hf : Region.free .any ops listed i = true) (hr : (Region.ready .any ops listed).contains i = true) (hI : headInvB .any ops n listed = true)
    (hQ : ∀ c a w, Q (.panic c) (a.put oi.dst v) w → Q (.panic c) a w) (hy : YieldsIf P ops S oi v a) (hS : S w)
    (h : wpAnyHT P .any ops Q S n (TailL P ops Q n l) fuel (listed.setIfInBounds i true) (a.put oi.dst v) w) : wpAnyHT P .any ops Q S n (TailL P ops Q n l) (fuel + 1) listed a w := by
  simp only [tailB, Bool.and_eq_true, decide_eq_true_eq] at hB hin
  obtain ⟨⟨⟨hsel, hn⟩, hs⟩, hc⟩ := hB
  exact wpAnyHT_first hi (Region.noSelect_spec hsel) hQ hs hc hn hin (fun listed a w hL => seqB_ready hL.1) fuel listed a w (headInv_of hI) (Region.free_spec hi hf) (by simpa using hr) hy hS h
/-- One alone may come up: it is carried out, and the condition is shown anew. -/
theorem wpAnyHT_one {n i : Nat} {L : Array Bool → Act → World → Prop} {o : Oper} {fuel : Nat} {listed : Array Bool} {a : Act} {w : World} (ho : ops[i]? = some o) (hr : Region.ready md ops listed = [i]) (hin : decide (i < n) = true)
    (h : ∀ K' : Act → World → Prop, (∀ a w, S w → wpAnyHT P md ops Q S n L fuel (listed.setIfInBounds i true) a w → K' a w) → if Region.wanted o (yielded ops a.tmps) = true then Oper.wp P o a w K' Q else K' (a.put o.dst undef) w) :
    wpAnyHT P md ops Q S n L (fuel + 1) listed a w := by
  refine ⟨by rw [hr]; simp, fun j hj => ?_⟩
  rw [hr, List.mem_singleton] at hj
  subst hj
  exact ⟨of_decide_eq_true hin, wpOp_step ho (fun K' hK => h K' (fun a w hS hW => hK a w ⟨hS, hW⟩))⟩
theorem wpAnyHT_end {n : Nat} {l : List Oper} {listed : Array Bool} {a : Act} {w : World} (hq : Region.seqB .any ops l.length n listed = true) (h : wpList P ops Q l a w) : wpAnyHT P .any ops Q S n (TailL P ops Q n l) 0 listed a w := ⟨hq, h⟩
/-- The beginning. -/
theorem wp_region_tail {id : Nat} {a : Act} {w : World} {l : List Oper} (n m : Nat) (hlen : l.length = m) (hm : P.follows .mixedOrders = true) (hn : decide (n ≤ l.length) = true)
    (h : wpAnyHT P .any l.toArray Q S n (TailL P l.toArray Q n (l.drop n)) n (Array.replicate m false) a w.drew) : (Code.region id l.toArray true).wp P Q a w := by
  have hn' : n ≤ l.length := of_decide_eq_true hn
  subst hlen
  refine wp_region_any hm ?_
  have := wpAny_of_headT (Q := Q) (g := (l.drop n).length) (fun listed a' w' hL => wpAny_of_seq (md := .any) (Q' := Q) (l.drop n) n listed a' w' (fun j => by simp [List.getElem?_drop]) hL.1 hL.2) _ _ _ _ h
  rw [List.length_drop, show n + (l.length - n) = l.length by omega] at this
  simpa using this
end
end
section
open Go.RowKit
set_option maxRecDepth 100000

theorem bool_eq {a c : Bool} (h : a = c) : Ending.returned (.bool a) = Ending.returned (.bool c) := by rw [h]
theorem tx_bd (s : ByteArray) : ∀ z ∈ tx s, 0 ≤ z ∧ z < 256 := by
  intro z hz; simp [tx] at hz; obtain ⟨u, _, rfl⟩ := hz; have := u.toNat_lt; omega
/-- The three readings, one behind the other, and the last error. -/
def cutEnd (l : List Int) (j m t : Nat) : Int :=
  let a := readS (0 : Int) 0 0 (numT (l.drop 0) j)
  let b := readS ([] : List Int) a.2.1 a.2.2 (bytesT (l.drop a.2.1) m)
  let c := readS ([] : List Int) b.2.1 b.2.2 (textT (l.drop b.2.1) t)
  doneS l.length c.2.1 c.2.2
theorem readS_err {α : Type} (z : α) (pos : Nat) (err : Int) (r : α × Nat × Int) (h : err ≠ 0) : readS z pos err r = (z, pos, err) := by
  unfold readS; rw [if_pos h]
theorem cut_pure (n : Int) (j t cut : Nat) (bs ts : List Int) (hj1 : 1 ≤ j) (hj8 : j ≤ 8) (ht : ts.length = t) (ht2 : t < 65536) (hc : cut < j + bs.length + 2 + t) :
    cutEnd ((le n j ++ bs ++ (le t 2 ++ ts)).take cut) j bs.length t = 10 := by
  obtain ⟨l, hl⟩ : ∃ l, (le n j ++ bs ++ (le t 2 ++ ts)).take cut = l := ⟨_, rfl⟩
  have hlen : l.length = cut := by rw [← hl]; simp [le_length]; omega
  have hk : ¬ ((j : Int) < 1 ∨ 8 < (j : Int)) := by omega
  have h10 : ((10 : Int) = 0) = False := by decide
  have h10' : (10 : Int) ≠ 0 := by decide
  rw [hl]
  unfold cutEnd
  simp only [List.drop_zero]
  by_cases h1 : cut < j
  · have e1 : numT l j = (0, 0, 10) := by unfold numT; rw [if_neg hk, if_pos (by omega)]
    rw [e1, readS_ok]
    simp only [h10, if_false]
    rw [readS_err [] _ 10 _ h10', readS_err [] _ 10 _ h10']
    simp [doneS]
  · have e1 : numT l j = (leV (l.take j), j, 0) := by unfold numT; rw [if_neg hk, if_neg (by omega)]; simp
    rw [e1, readS_ok]
    simp only [if_true, Nat.zero_add]
    by_cases h2 : cut < j + bs.length
    · have e2 : bytesT (l.drop j) bs.length = ([], 0, 10) := by unfold bytesT; rw [if_neg (by omega), if_pos (by simp; omega)]
      rw [e2, readS_ok]
      simp only [h10, if_false]
      rw [readS_err [] _ 10 _ h10']
      simp [doneS]
    · have e2 : bytesT (l.drop j) bs.length = ((l.drop j).take bs.length, bs.length, 0) := by unfold bytesT; rw [if_neg (by omega), if_neg (by simp; omega)]; simp
      rw [e2, readS_ok]
      simp only [if_true]
      have e3 : (textT (l.drop (j + bs.length)) t).2.2 = 10 := by
        unfold textT
        by_cases h3 : (l.drop (j + bs.length)).length < 2
        · rw [if_pos h3]
        · rw [if_neg h3]
          have hcut : j + bs.length + 2 ≤ cut := by simp at h3; omega
          have hp : (l.drop (j + bs.length)).take 2 = le t 2 := by
            rw [← hl]
            have hx : (le n j ++ bs).length = j + bs.length := by simp [le_length]
            rw [List.drop_take, List.take_take, ← hx, List.drop_left, Nat.min_eq_left (by omega), List.take_append_of_le_length (by simp [le_length]), List.take_of_length_le (by simp [le_length])]
          rw [hp, leV_fit t 2 (by omega) (by omega), if_neg (by omega), if_pos (by simp; omega)]
      rw [readS_ok]
      simp [doneS, e3]
end
end Go.Proofs.YtignoocdeghiaaaDoor
