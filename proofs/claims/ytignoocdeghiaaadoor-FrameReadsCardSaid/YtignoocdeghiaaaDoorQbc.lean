/- Frames: a reply; may it be? Frames: a reply as a frame. -/
import Derived.Test.YtignoocdeghiaaaDoorQac
import Derived.Test.YtignoocdeghiaaaDoorQae
import Derived.Deep.CutBlock
import Derived.Test.YtignoocdeghiaaaDoorQap
namespace Go.Proofs.YtignoocdeghiaaaDoor
section
open Go.RowKit Go.Lib
set_option maxRecDepth 100000

/-- A reply. -/
structure Ra where
  ses : Int
  id : Int
  err : Int
  num : Int
  text : ByteArray
  lp : Option Addr
  ln : Nat
  lc : Nat
  dp : Option Addr
  dl : Nat
  dc : Nat
def Ra.arr (r : Ra) : Array Value := #[.int .i64 r.ses, .int .i64 r.id, .int .i64 r.err, .int .i64 r.num, .string r.text, .slice r.lp r.ln r.lc, .slice r.dp r.dl r.dc]
def longS (L : List ByteArray) : Prop := ∃ s ∈ L, 240 < s.size
instance (L : List ByteArray) : Decidable (longS L) := by unfold longS; infer_instance
def MayA (r : Ra) (L : List ByteArray) : Prop := (0 ≤ r.ses ∧ r.ses ≤ 8) ∧ (0 ≤ r.id ∧ r.id ≤ 1073741824) ∧ (0 ≤ r.err ∧ r.err ≤ 999) ∧ (0 ≤ r.num ∧ r.num ≤ 1099511627776) ∧ r.text.size ≤ 2048 ∧ r.ln ≤ 240 ∧ ¬ longS L ∧ r.dl ≤ 4096
instance (r : Ra) (L : List ByteArray) : Decidable (MayA r L) := by unfold MayA; infer_instance
/-- A list of texts that can be read. -/
def RdL (w : World) (p : Option Addr) (L : List ByteArray) : Prop := Rv w p (L.map Value.string)
theorem RdL.at {w : World} {p : Option Addr} {L : List ByteArray} (h : RdL w p L) {i : Nat} {s : ByteArray} (hi : L[i]? = some s) : ∃ g o, p = some ⟨g, o, none⟩ ∧ w.cell? ⟨g, o + i, none⟩ = some (.string s) := by
  rcases h with h0 | ⟨g, o, hp, hc⟩
  · have : L = [] := List.map_eq_nil_iff.1 h0
    rw [this] at hi; simp at hi
  · exact ⟨g, o, hp, hc i _ (by rw [List.getElem?_map, hi]; rfl)⟩
theorem RdL.kept {S : List Nat} {w w' : World} {p : Option Addr} {L : List ByteArray} (h : RdL w p L) (hf : Frm S w w') (hn : ∀ k ∈ blk p, k ∉ S) : RdL w' p L := by
  rcases h with h0 | ⟨g, o, hp, hc⟩
  · exact Or.inl h0
  · exact Or.inr ⟨g, o, hp, fun i u hu => (hf.cell (p := ⟨g, o + i, none⟩) (World.block_lt_of_cell? _ _ (hc i u hu)) (hn g (by rw [hp]; simp [blk]))).trans (hc i u hu)⟩
theorem RdL.low {w : World} {p : Option Addr} {L : List ByteArray} (h : RdL w p L) : L ≠ [] → ∀ k ∈ blk p, k < w.heap.size := by
  intro hne k hk
  rcases h with h0 | ⟨g, o, hp, hc⟩
  · exact absurd (List.map_eq_nil_iff.1 h0) hne
  · rw [hp] at hk
    simp [blk] at hk
    subst hk
    have h1 := hc 0 (.string (L[0]'(List.length_pos_iff.2 hne))) (by rw [List.getElem?_map, List.getElem?_eq_getElem (List.length_pos_iff.2 hne)]; rfl)
    exact World.block_lt_of_cell? w _ h1
theorem ra_cells {W : World} {b : Nat} {r : Ra} {T : TypeId} (h : W.heap[b]? = some (.cells r.arr T (0, 0))) : W.cell? ⟨b, 0, none⟩ = some (.int .i64 r.ses) ∧ W.cell? ⟨b, 1, none⟩ = some (.int .i64 r.id) ∧ W.cell? ⟨b, 2, none⟩ = some (.int .i64 r.err) ∧ W.cell? ⟨b, 3, none⟩ = some (.int .i64 r.num) ∧ W.cell? ⟨b, 4, none⟩ = some (.string r.text) ∧ W.cell? ⟨b, 5, none⟩ = some (.slice r.lp r.ln r.lc) ∧ W.cell? ⟨b, 6, none⟩ = some (.slice r.dp r.dl r.dc) := by
  refine ⟨?_, ?_, ?_, ?_, ?_, ?_, ?_⟩ <;> (rw [cell_of_row W _ _ _ _ _ h]; rfl)
theorem mayA1_any (s : ByteArray) (w : World) : Calls Tryd.prog 55 #[.string s] w fun e w' => e = .returned (.bool (decide (240 < s.size))) ∧ w' = w := by
  by_cases h : 240 < s.size
  · rw [decide_eq_true h]
    have h1 : (240 : Int) < (s.size : Int) := by omega
    go_enter Tryd.func55, Tryd.ntmps55
    go_wp2_with fail
    first | go_returns | skip
    exact ⟨by simp, rfl⟩
  · rw [decide_eq_false h]
    have h1 : ¬ (240 : Int) < (s.size : Int) := by omega
    go_enter Tryd.func55, Tryd.ntmps55
    go_wp2_with fail
    first | go_returns | skip
    exact ⟨by simp, rfl⟩
set_option maxHeartbeats 1600000 in
theorem index_any (p : Option Addr) (n c : Nat) (L : List ByteArray) (w : World) (hL : L.length = n) (hn : n ≤ 140737488351232) (hr : RdL w p L) :
    Calls Tryd.prog 77 #[.slice p n c, .func (.func 55) #[] #[]] w fun e w' => (∃ z : Int, e = .returned (.int .i64 z) ∧ (0 ≤ z ↔ longS L)) ∧ w' = w := by
  obtain ⟨PO, hPO⟩ : ∃ PO : Ending → World → Prop, (fun e w' => (∃ z : Int, e = .returned (.int .i64 z) ∧ (0 ≤ z ↔ longS L)) ∧ w' = w) = PO := ⟨_, rfl⟩
  rw [hPO]
  have HP : Hid (∀ z : Int, (0 ≤ z ↔ longS L) → PO (.returned (.int .i64 z)) w) := hid (fun z h => by rw [← hPO]; exact ⟨⟨z, rfl, h⟩, rfl⟩)
  have HL := hid hL
  have HR := hid hr
  clear hPO hL hr
  go_enter Tryd.func77, Tryd.ntmps77
  go_wp2_with fail
  go_loopw [8] (fun i wr => ∃ t : Nat, t ≤ n ∧ i = .int .i64 (t : Int) ∧ Hid (wr = w ∧ ∀ s ∈ L.take t, s.size ≤ 240)) (fun i _ => n - (intOf i).toNat)
  case atStart => exact ⟨0, Nat.zero_le _, rfl, hid ⟨rfl, by simp⟩⟩
  case round =>
    obtain ⟨t, ht, rfl, hin⟩ := hrel
    obtain ⟨hw, hsm⟩ := hin.out
    clear hin
    subst hw
    have HIN := hid hsm
    clear hsm
    by_cases hlt : t < n
    · have t1 : (t : Int) < (n : Int) := by omega
      obtain ⟨s, hs⟩ : ∃ s, L[t]? = some s := ⟨_, List.getElem?_eq_getElem (by rw [HL.out]; exact hlt)⟩
      obtain ⟨g, o, rfl, q0⟩ := HR.out.at hs
      have HS := hid hs
      clear hs
      have HM := hid (mayA1_any s wr)
      by_cases hb : 240 < s.size
      · rw [decide_eq_true hb] at HM
        have HLG : Hid (longS L) := hid ⟨s, List.mem_of_getElem? HS.out, hb⟩
        clear hb
        go_wp2_with fail
        refine HM.out.mono ?_
        rintro e w2 ⟨rfl, hw2⟩
        subst w2
        go_wp2_with fail
        first | go_returns | skip
        exact HP.out _ ⟨fun _ => HLG.out, fun _ => by omega⟩
      · rw [decide_eq_false hb] at HM
        have HNX : Hid (wr = wr ∧ ∀ x ∈ L.take (t + 1), x.size ≤ 240) := hid ⟨rfl, fun x hx => by
          rw [List.take_add_one, HS.out] at hx
          rcases List.mem_append.1 hx with h | h
          · exact HIN.out x h
          · simp at h; subst h; omega⟩
        clear hb
        go_wp2_with fail
        refine HM.out.mono ?_
        rintro e w2 ⟨rfl, hw2⟩
        subst w2
        go_wp2_with fail
        go_roundw
        case rel => exact ⟨t + 1, by omega, by go_num, HNX⟩
        case measure => first | (simp [intOf]; done) | (simp [intOf]; omega)
    · obtain rfl : t = n := by omega
      go_wp2_with fail
      first | go_returns | skip
      refine HP.out _ ⟨fun h => by omega, fun ⟨s, hs, hb⟩ => ?_⟩
      have := HIN.out s (by rw [List.take_of_length_le (by rw [HL.out]; exact Nat.le_refl _)]; exact hs)
      omega
set_option maxHeartbeats 1600000 in
theorem contains_any (p : Option Addr) (n c : Nat) (L : List ByteArray) (w : World) (hL : L.length = n) (hn : n ≤ 140737488351232) (hr : RdL w p L) :
    Calls Tryd.prog 54 #[.slice p n c, .func (.func 55) #[] #[]] w fun e w' => e = .returned (.bool (decide (longS L))) ∧ w' = w := by
  obtain ⟨PO, hPO⟩ : ∃ PO : Ending → World → Prop, (fun e w' => e = .returned (.bool (decide (longS L))) ∧ w' = w) = PO := ⟨_, rfl⟩
  rw [hPO]
  have HP : Hid (∀ x, x = decide (longS L) → PO (.returned (.bool x)) w) := hid (fun x h => by rw [← hPO, h]; exact ⟨rfl, rfl⟩)
  have HI := hid (index_any p n c L w hL hn hr)
  clear hL hr hPO
  go_enter Tryd.func54, Tryd.ntmps54
  go_wp2_with fail
  refine HI.out.mono ?_
  rintro e w2 ⟨⟨z, rfl, hz⟩, hw2⟩
  subst w2
  have hd : decide (longS L) = decide (0 ≤ z) := by
    by_cases h : longS L
    · rw [decide_eq_true h, decide_eq_true (hz.2 h)]
    · rw [decide_eq_false h, decide_eq_false (fun h2 => h (hz.1 h2))]
  have HD := hid hd
  clear hz hd HI
  go_wp2_with fail
  first | go_returns | skip
  exact HP.out _ HD.out.symm
set_option maxHeartbeats 6400000 in
theorem mayA_any (r : Ra) (L : List ByteArray) (w : World) (hL : L.length = r.ln) (hr : RdL w r.lp L) : Calls Tryd.prog 32 #[.agg r.arr] w fun e w' => e = .returned (.bool (decide (MayA r L))) ∧ Frm [] w w' := by
  obtain ⟨PO, hPO⟩ : ∃ PO : Ending → World → Prop, (fun e w' => e = .returned (.bool (decide (MayA r L))) ∧ Frm [] w w') = PO := ⟨_, rfl⟩
  rw [hPO]
  have HP : Hid (∀ x w', (x = true ↔ MayA r L) → Frm [] w w' → PO (.returned (.bool x)) w') := hid (fun x w' h h2 => by rw [← hPO]; exact ⟨by rw [bool_dec h], h2⟩)
  clear hPO
  have HFA := hid ((Frm.refl [] w).alloc (.cells r.arr 32))
  have HROW := hid (heap_alloc_new w (.cells r.arr 32))
  have HCO := hid (fun (h : r.ln ≤ 240) => contains_any r.lp r.ln r.lc L (w.alloc (.cells r.arr 32)) hL (by omega) (hr.kept ((Frm.refl [] w).alloc _) (by simp)))
  obtain ⟨wa, hwa⟩ : ∃ z, w.alloc (.cells r.arr 32) = z := ⟨_, rfl⟩
  rw [hwa] at HFA HROW HCO
  obtain ⟨bx, hbx⟩ : ∃ z, w.heap.size = z := ⟨_, rfl⟩
  rw [hbx] at HROW
  obtain ⟨q0, q1, q2, q3, q4, q5, q6⟩ := ra_cells HROW.out
  obtain ⟨ses, id, err, num, text, lp, ln, lc, dp, dl, dc⟩ := r
  unfold MayA at HP
  unfold Ra.arr at hwa ⊢
  simp only at HP HCO hwa q0 q1 q2 q3 q4 q5 q6 ⊢
  clear HROW hr hL
  go_enter Tryd.func32, Tryd.ntmps32
  go_wp2_with fail
  refine (within_any ses 0 8 wa).mono ?_
  rintro e w0 ⟨rfl, h0⟩
  rw [h0]
  clear h0
  by_cases g0 : 0 ≤ ses ∧ ses ≤ 8
  case neg =>
    have N := hid g0
    have d : decide (0 ≤ ses ∧ ses ≤ 8) = false := decide_eq_false g0
    clear g0
    rw [d]
    clear d
    go_wp2_with fail
    first | go_returns | skip
    exact HP.out _ _ ⟨fun h => by simp at h, fun h => absurd (h.1) N.out⟩ HFA.out
  have d : decide (0 ≤ ses ∧ ses ≤ 8) = true := decide_eq_true g0
  rw [d]
  clear d
  have G0 := hid g0
  clear g0
  go_wp2_with fail
  refine (within_any id 0 1073741824 wa).mono ?_
  rintro e w1 ⟨rfl, h0⟩
  rw [h0]
  clear h0
  by_cases g1 : 0 ≤ id ∧ id ≤ 1073741824
  case neg =>
    have N := hid g1
    have d : decide (0 ≤ id ∧ id ≤ 1073741824) = false := decide_eq_false g1
    clear g1
    rw [d]
    clear d
    go_wp2_with fail
    first | go_returns | skip
    exact HP.out _ _ ⟨fun h => by simp at h, fun h => absurd (h.2.1) N.out⟩ HFA.out
  have d : decide (0 ≤ id ∧ id ≤ 1073741824) = true := decide_eq_true g1
  rw [d]
  clear d
  have G1 := hid g1
  clear g1
  go_wp2_with fail
  refine (within_any err 0 999 wa).mono ?_
  rintro e w2 ⟨rfl, h0⟩
  rw [h0]
  clear h0
  by_cases g2 : 0 ≤ err ∧ err ≤ 999
  case neg =>
    have N := hid g2
    have d : decide (0 ≤ err ∧ err ≤ 999) = false := decide_eq_false g2
    clear g2
    rw [d]
    clear d
    go_wp2_with fail
    first | go_returns | skip
    exact HP.out _ _ ⟨fun h => by simp at h, fun h => absurd (h.2.2.1) N.out⟩ HFA.out
  have d : decide (0 ≤ err ∧ err ≤ 999) = true := decide_eq_true g2
  rw [d]
  clear d
  have G2 := hid g2
  clear g2
  go_wp2_with fail
  refine (within_any num 0 1099511627776 wa).mono ?_
  rintro e w3 ⟨rfl, h0⟩
  rw [h0]
  clear h0
  by_cases g3 : 0 ≤ num ∧ num ≤ 1099511627776
  case neg =>
    have N := hid g3
    have d : decide (0 ≤ num ∧ num ≤ 1099511627776) = false := decide_eq_false g3
    clear g3
    rw [d]
    clear d
    go_wp2_with fail
    first | go_returns | skip
    exact HP.out _ _ ⟨fun h => by simp at h, fun h => absurd (h.2.2.2.1) N.out⟩ HFA.out
  have d : decide (0 ≤ num ∧ num ≤ 1099511627776) = true := decide_eq_true g3
  rw [d]
  clear d
  have G3 := hid g3
  clear g3
  by_cases g4 : text.size ≤ 2048
  case neg =>
    have N := hid g4
    have d : (2048 : Int) < ((text.size : Nat) : Int) := by omega
    have d2 : ¬ (((text.size : Nat) : Int) ≤ 2048) := by omega
    have d3 : decide (((text.size : Nat) : Int) ≤ 2048) = false := decide_eq_false d2
    go_wp2_with fail
    first | go_returns | skip
    exact HP.out _ _ ⟨fun h => by simp at h, fun h => absurd (h.2.2.2.2.1) N.out⟩ HFA.out
  have e4 : (((text.size : Nat) : Int) ≤ 2048) := by omega
  have f4 : decide (((text.size : Nat) : Int) ≤ 2048) = true := decide_eq_true e4
  by_cases g5 : ln ≤ 240
  case neg =>
    have N := hid g5
    have d : (240 : Int) < ((ln : Nat) : Int) := by omega
    have d2 : ¬ (((ln : Nat) : Int) ≤ 240) := by omega
    have d3 : decide (((ln : Nat) : Int) ≤ 240) = false := decide_eq_false d2
    go_wp2_with fail
    first | go_returns | skip
    exact HP.out _ _ ⟨fun h => by simp at h, fun h => absurd (h.2.2.2.2.2.1) N.out⟩ HFA.out
  have e5 : (((ln : Nat) : Int) ≤ 240) := by omega
  have f5 : decide (((ln : Nat) : Int) ≤ 240) = true := decide_eq_true e5
  have HCN := hid (HCO.out g5)
  clear HCO
  by_cases g6 : longS L
  case pos =>
    have N := hid g6
    rw [decide_eq_true g6] at HCN
    clear g6
    go_wp2_with fail
    refine HCN.out.mono ?_
    rintro e w6 ⟨rfl, hw6⟩
    subst w6
    go_wp2_with fail
    first | go_returns | skip
    exact HP.out _ _ ⟨fun h => by simp at h, fun h => absurd N.out h.2.2.2.2.2.2.1⟩ HFA.out
  have G6 := hid g6
  rw [decide_eq_false g6] at HCN
  clear g6
  go_wp2_with fail
  refine HCN.out.mono ?_
  rintro e w6 ⟨rfl, hw6⟩
  subst w6
  by_cases g7 : dl ≤ 4096
  case neg =>
    have N := hid g7
    have d : (4096 : Int) < ((dl : Nat) : Int) := by omega
    have d2 : ¬ (((dl : Nat) : Int) ≤ 4096) := by omega
    have d3 : decide (((dl : Nat) : Int) ≤ 4096) = false := decide_eq_false d2
    go_wp2_with fail
    first | go_returns | skip
    exact HP.out _ _ ⟨fun h => by simp at h, fun h => absurd (h.2.2.2.2.2.2.2) N.out⟩ HFA.out
  have e7 : (((dl : Nat) : Int) ≤ 4096) := by omega
  have f7 : decide (((dl : Nat) : Int) ≤ 4096) = true := decide_eq_true e7
  go_wp2_with fail
  first | go_returns | skip
  exact HP.out _ _ ⟨fun _ => ⟨G0.out, G1.out, G2.out, G3.out, g4, g5, G6.out, g7⟩, fun _ => rfl⟩ HFA.out
end
section
open Go.RowKit Go.Lib
set_option maxRecDepth 100000

/-- A reply's body. -/
def bodyA (r : Ra) (L : List ByteArray) (ds : List Int) : List Int := le r.ses 1 ++ le r.id 4 ++ le r.err 2 ++ le r.num 6 ++ txF r.text ++ le r.ln 2 ++ txT L r.ln ++ le r.dl 2 ++ ds
def inA (r : Ra) (L : List ByteArray) (ds : List Int) : List Int := [2] ++ bodyA r L ds
def errA (r : Ra) (L : List ByteArray) : Int := if MayA r L then 0 else 230
theorem notLong {L : List ByteArray} (h : ¬ longS L) : ∀ s ∈ L, s.size ≤ 240 := fun s hs => by
  by_cases h2 : 240 < s.size
  · exact absurd ⟨s, hs, h2⟩ h
  · omega
theorem inA_len {r : Ra} {L : List ByteArray} {ds : List Int} (hm : MayA r L) (hl : ds.length = r.dl) : 1 ≤ (inA r L ds).length ∧ (inA r L ds).length ≤ 64300 := by
  obtain ⟨_, _, _, _, m4, m5, m6, m7⟩ := hm
  have h := txT_len L (notLong m6) r.ln
  unfold inA bodyA
  simp only [List.length_append, le_length, List.length_cons, List.length_nil, txF_len]
  omega
theorem inA_bd {r : Ra} {L : List ByteArray} {ds : List Int} (hd : ∀ z ∈ ds, 0 ≤ z ∧ z < 256) : ∀ z ∈ inA r L ds, 0 ≤ z ∧ z < 256 := by
  intro z hz
  unfold inA bodyA at hz
  simp only [List.mem_append, List.mem_singleton] at hz
  rcases hz with rfl | (((((((((h | h) | h) | h) | h) | h) | h) | h) | h))
  · omega
  · exact le_bd _ _ z h
  · exact le_bd _ _ z h
  · exact le_bd _ _ z h
  · exact le_bd _ _ z h
  · exact txF_bd _ z h
  · exact le_bd _ _ z h
  · exact txT_bd _ _ z h
  · exact le_bd _ _ z h
  · exact hd z h
set_option maxHeartbeats 6400000 in
theorem putA_any (w0 w : World) (b : Nat) (A : List Nat) (k0 : Int) (hw : FreshW w0 w b 65524 ([k0], 0) A) (r : Ra) (L : List ByteArray) (hm : MayA r L) (hL : L.length = r.ln) (hrl : RdL w r.lp L) (hla : L ≠ [] → ∀ k ∈ blk r.lp, k ∈ A) (ds : List Int) (hd : Rd w r.dp ds) (hl : ds.length = r.dl) (hn : ds = [] → r.dp = none → r.dc = 0) (hb : ds ≠ [] → ∀ k ∈ blk r.dp, k ∈ A) :
    Calls Tryd.prog 33 #[.pointer (some ⟨b, 0, none⟩), .agg r.arr] w fun e w' => e = .returned (.tuple #[]) ∧ FreshW w0 w' b 65524 ([k0] ++ bodyA r L ds, 0) A ∧ Keeps A w w' := by
  have hal := hw.alloc (.cells r.arr 32)
  have hrow := heap_alloc_new w (.cells r.arr 32)
  have HPB := hid (show w.heap.size < (w.alloc (.cells r.arr 32)).heap.size by simp)
  have HFA := hid ((Frm.refl [] w).alloc (.cells r.arr 32))
  have HM := hid hm
  have HL := hid hl
  have HN := hid hn
  have HBK := hid hb
  have HLL := hid hL
  obtain ⟨bx, hbx⟩ : ∃ z, w.heap.size = z := ⟨_, rfl⟩
  obtain ⟨wa, hwa⟩ : ∃ z, w.alloc (.cells r.arr 32) = z := ⟨_, rfl⟩
  rw [hbx, hwa] at hal hrow HPB
  rw [hwa] at HFA
  have HW0 := hid hal.1
  have HK0 := hid hal.2
  have HR0 := hid hrow
  have HD0 := hid (hd.kept HFA.out (by simp))
  have HL0 := hid (hrl.kept HFA.out (by simp))
  obtain ⟨m0, m1, m2, m3, m4, m5, m6, m7⟩ := hm
  obtain ⟨q0, q1, q2, q3, q4, q5, q6⟩ := ra_cells hrow
  have HRC : Hid (∀ W : World, W.heap[bx]? = wa.heap[bx]? → W.heap[bx]? = some (.cells r.arr 32 (0, 0))) := hid (fun W h => h.trans hrow)
  have HDK : Hid (∀ W : World, Keeps (bx :: A) wa W → Rd W r.dp ds) := hid (fun W h => by
    by_cases h0 : ds = []
    · exact Or.inl h0
    · exact HD0.out.keeps h (fun k hk => List.mem_cons_of_mem _ (hb h0 k hk)))
  have HLK : Hid (∀ W : World, Keeps (bx :: A) wa W → RdL W r.lp L) := hid (fun W h => by
    by_cases h0 : L = []
    · subst h0; exact Or.inl rfl
    · rcases HL0.out with h1 | ⟨g, o, hp, hc⟩
      · exact absurd (List.map_eq_nil_iff.1 h1) h0
      · exact Or.inr ⟨g, o, hp, fun i u hu => (World.cell?_of_block (h g (List.mem_cons_of_mem _ (hla h0 g (by rw [hp]; simp [blk]))))).trans (hc i u hu)⟩)
  have HSL : Hid (∀ s ∈ L, s.size ≤ 240) := hid (notLong m6)
  clear hal hrow hw hd hl hn hb hL hrl hla
  obtain ⟨ses, id, err, num, text, lp, ln, lc, dp, dl, dc⟩ := r
  unfold Ra.arr at hwa ⊢
  simp only at hwa m0 m1 m2 m3 m4 m5 m7 HL HN HBK HDK HLK HLL q0 q1 q2 q3 q4 q5 q6 ⊢
  have u0 : IntKind.u64.wrap ses = ses := by rw [IntKind.wrap_u64]; omega
  have u1 : IntKind.u64.wrap id = id := by rw [IntKind.wrap_u64]; omega
  have u2 : IntKind.u64.wrap err = err := by rw [IntKind.wrap_u64]; omega
  have u3 : IntKind.u64.wrap num = num := by rw [IntKind.wrap_u64]; omega
  have u5 : IntKind.u64.wrap (ln : Int) = (ln : Int) := by rw [IntKind.wrap_u64]; omega
  have u6 : IntKind.u64.wrap (dl : Int) = (dl : Int) := by rw [IntKind.wrap_u64]; omega
  go_enter Tryd.func33, Tryd.ntmps33
  go_wp2_with fail
  refine (num_fit w0 wa b 65524 [k0] _ HW0.out (by omega) ses 1 (by omega) (by omega) (by omega) (by omega) (by simp)).mono ?_
  rintro e w1 ⟨rfl, hw1, hk1⟩
  clear q0 q1 q2 q3 q4 q5 q6
  have HW1 := hid hw1
  have HK1 : Hid (Keeps (bx :: A) wa w1) := hid hk1
  obtain ⟨Z1, hZ1⟩ : ∃ z, [k0] ++ le ses 1 = z := ⟨_, rfl⟩
  rw [hZ1] at HW1
  have HL1 : Hid (Z1.length ≤ 2) := hid (by rw [← hZ1, List.length_append]; rw [le_length]; simp)
  have HZ1 := hid hZ1
  obtain ⟨q0, q1, q2, q3, q4, q5, q6⟩ := ra_cells (HRC.out w1 (HK1.out bx (by simp)))
  simp only at q0 q1 q2 q3 q4 q5 q6
  clear hw1 hk1 hZ1
  go_wp2_with fail
  refine (num_fit w0 w1 b 65524 Z1 _ HW1.out (by omega) id 4 (by omega) (by omega) (by omega) (by omega) (by have := HL1.out; omega)).mono ?_
  rintro e w2 ⟨rfl, hw2, hk2⟩
  clear q0 q1 q2 q3 q4 q5 q6
  have HW2 := hid hw2
  have HK2 : Hid (Keeps (bx :: A) wa w2) := hid (HK1.out.trans hk2)
  obtain ⟨Z2, hZ2⟩ : ∃ z, Z1 ++ le id 4 = z := ⟨_, rfl⟩
  rw [hZ2] at HW2
  have HL2 : Hid (Z2.length ≤ 6) := hid (by rw [← hZ2, List.length_append]; rw [le_length]; have := HL1.out; omega)
  have HZ2 := hid hZ2
  obtain ⟨q0, q1, q2, q3, q4, q5, q6⟩ := ra_cells (HRC.out w2 (HK2.out bx (by simp)))
  simp only at q0 q1 q2 q3 q4 q5 q6
  clear hw2 hk2 hZ2
  go_wp2_with fail
  refine (num_fit w0 w2 b 65524 Z2 _ HW2.out (by omega) err 2 (by omega) (by omega) (by omega) (by omega) (by have := HL2.out; omega)).mono ?_
  rintro e w3 ⟨rfl, hw3, hk3⟩
  clear q0 q1 q2 q3 q4 q5 q6
  have HW3 := hid hw3
  have HK3 : Hid (Keeps (bx :: A) wa w3) := hid (HK2.out.trans hk3)
  obtain ⟨Z3, hZ3⟩ : ∃ z, Z2 ++ le err 2 = z := ⟨_, rfl⟩
  rw [hZ3] at HW3
  have HL3 : Hid (Z3.length ≤ 8) := hid (by rw [← hZ3, List.length_append]; rw [le_length]; have := HL2.out; omega)
  have HZ3 := hid hZ3
  obtain ⟨q0, q1, q2, q3, q4, q5, q6⟩ := ra_cells (HRC.out w3 (HK3.out bx (by simp)))
  simp only at q0 q1 q2 q3 q4 q5 q6
  clear hw3 hk3 hZ3
  go_wp2_with fail
  refine (num_fit w0 w3 b 65524 Z3 _ HW3.out (by omega) num 6 (by omega) (by omega) (by omega) (by omega) (by have := HL3.out; omega)).mono ?_
  rintro e w4 ⟨rfl, hw4, hk4⟩
  clear q0 q1 q2 q3 q4 q5 q6
  have HW4 := hid hw4
  have HK4 : Hid (Keeps (bx :: A) wa w4) := hid (HK3.out.trans hk4)
  obtain ⟨Z4, hZ4⟩ : ∃ z, Z3 ++ le num 6 = z := ⟨_, rfl⟩
  rw [hZ4] at HW4
  have HL4 : Hid (Z4.length ≤ 14) := hid (by rw [← hZ4, List.length_append]; rw [le_length]; have := HL3.out; omega)
  have HZ4 := hid hZ4
  obtain ⟨q0, q1, q2, q3, q4, q5, q6⟩ := ra_cells (HRC.out w4 (HK4.out bx (by simp)))
  simp only at q0 q1 q2 q3 q4 q5 q6
  clear hw4 hk4 hZ4
  go_wp2_with fail
  refine (text_fit w0 w4 b 65524 Z4 _ HW4.out (by omega) text (by omega) (by have := HL4.out; omega)).mono ?_
  rintro e w5 ⟨rfl, hw5, hk5⟩
  clear q0 q1 q2 q3 q4 q5 q6
  have HW5 := hid hw5
  have HK5 : Hid (Keeps (bx :: A) wa w5) := hid (HK4.out.trans hk5)
  obtain ⟨Z5, hZ5⟩ : ∃ z, Z4 ++ txF text = z := ⟨_, rfl⟩
  rw [hZ5] at HW5
  have HL5 : Hid (Z5.length ≤ 2100) := hid (by rw [← hZ5, List.length_append]; rw [txF_len]; have := HL4.out; omega)
  have HZ5 := hid hZ5
  obtain ⟨q0, q1, q2, q3, q4, q5, q6⟩ := ra_cells (HRC.out w5 (HK5.out bx (by simp)))
  simp only at q0 q1 q2 q3 q4 q5 q6
  clear hw5 hk5 hZ5
  go_wp2_with fail
  refine (num_fit w0 w5 b 65524 Z5 _ HW5.out (by omega) (ln : Int) 2 (by omega) (by omega) (by omega) (by omega) (by have := HL5.out; omega)).mono ?_
  rintro e w6 ⟨rfl, hw6, hk6⟩
  clear q0 q1 q2 q3 q4 q5 q6
  have HW6 := hid hw6
  have HK6 : Hid (Keeps (bx :: A) wa w6) := hid (HK5.out.trans hk6)
  obtain ⟨Z6, hZ6⟩ : ∃ z, Z5 ++ le (ln : Int) 2 = z := ⟨_, rfl⟩
  rw [hZ6] at HW6
  have HL6 : Hid (Z6.length ≤ 2110) := hid (by rw [← hZ6, List.length_append]; rw [le_length]; have := HL5.out; omega)
  have HZ6 := hid hZ6
  obtain ⟨q0, q1, q2, q3, q4, q5, q6⟩ := ra_cells (HRC.out w6 (HK6.out bx (by simp)))
  simp only at q0 q1 q2 q3 q4 q5 q6
  clear hw6 hk6 hZ6
  go_wp2_with fail
  go_loopw [39] (fun i wr => ∃ t : Nat, t ≤ ln ∧ i = .int .i64 (t : Int) ∧ Hid (FreshW w0 wr b 65524 (Z6 ++ txT L t, 0) (bx :: A)) ∧ Hid (Keeps (bx :: A) wa wr)) (fun i _ => ln - (intOf i).toNat)
  case atStart => exact ⟨0, Nat.zero_le _, rfl, hid (by have h := HW6.out; simpa [txT] using h), HK6⟩
  case round =>
    clear q0 q1 q2 q3 q4 q5 q6
    obtain ⟨t, ht, rfl, hw, hk⟩ := hrel
    have HWr := hid hw.out
    have HKr := hid hk.out
    clear hw hk
    by_cases hlt : t < ln
    · have t1 : (t : Int) < (ln : Int) := by omega
      obtain ⟨v, hv⟩ : ∃ v, L[t]? = some v := ⟨_, List.getElem?_eq_getElem (by rw [HLL.out]; exact hlt)⟩
      obtain ⟨gl, ol, hlp, hcl⟩ := (HLK.out wr HKr.out).at hv
      have hsz : v.size ≤ 240 := HSL.out v (List.mem_of_getElem? hv)
      have hsu : txT L (t + 1) = txT L t ++ txF v := by show txT L t ++ txF (L.getD t ByteArray.empty) = _; rw [List.getD_eq_getElem?_getD, hv]; rfl
      have hlen := txT_len L HSL.out t
      have HN := hid (text_fit w0 wr b 65524 _ _ HWr.out (by omega) v (by omega) (by rw [List.length_append]; have := HL6.out; omega))
      have HSU := hid hsu
      subst hlp
      clear hsu hv hlen hsz
      go_wp2_with fail
      refine HN.out.mono ?_
      rintro e w7 ⟨rfl, hw2, hk2⟩
      have HW2' := hid hw2
      have HK2' := hid (HKr.out.trans hk2)
      clear hw2 hk2 HN hcl
      go_wp2_with fail
      go_roundw
      case rel => exact ⟨t + 1, by omega, by go_num, hid (by have h := HW2'.out; rw [List.append_assoc] at h; rw [HSU.out]; exact h), HK2'⟩
      case measure => first | (simp [intOf]; done) | (simp [intOf]; omega)
    · obtain rfl : t = ln := by omega
      have hlen := txT_len L HSL.out t
      obtain ⟨Z7, hZ7⟩ : ∃ z, Z6 ++ txT L t = z := ⟨_, rfl⟩
      rw [hZ7] at HWr
      have HL7 : Hid (Z7.length ≤ 60200) := hid (by rw [← hZ7, List.length_append]; have := HL6.out; omega)
      have HZ7 := hid hZ7
      have HW7 := hid HWr.out
      have HK7 := hid HKr.out
      obtain ⟨q0, q1, q2, q3, q4, q5, q6⟩ := ra_cells (HRC.out wr (HK7.out bx (by simp)))
      simp only at q0 q1 q2 q3 q4 q5 q6
      clear hZ7 hlen HWr HKr hlt ht
      go_wp2_with fail
      refine (num_fit w0 wr b 65524 Z7 _ HW7.out (by omega) (dl : Int) 2 (by omega) (by omega) (by omega) (by omega) (by have := HL7.out; omega)).mono ?_
      rintro e w8 ⟨rfl, hw8, hk8⟩
      clear q0 q1 q2 q3 q4 q5 q6
      have HW8 := hid hw8
      have HK8 : Hid (Keeps (bx :: A) wa w8) := hid (HK7.out.trans hk8)
      obtain ⟨Z8, hZ8⟩ : ∃ z, Z7 ++ le (dl : Int) 2 = z := ⟨_, rfl⟩
      rw [hZ8] at HW8
      have HL8 : Hid (Z8.length ≤ 60210) := hid (by rw [← hZ8, List.length_append]; rw [le_length]; have := HL7.out; omega)
      have HZ8 := hid hZ8
      obtain ⟨q0, q1, q2, q3, q4, q5, q6⟩ := ra_cells (HRC.out w8 (HK8.out bx (by simp)))
      simp only at q0 q1 q2 q3 q4 q5 q6
      clear hw8 hk8 hZ8
      go_wp2_with fail
      have hrd := HDK.out w8 HK8.out
      have HBY := hid (bytes_fit w0 w8 b 65524 Z8 _ HW8.out (by omega) dp ds dc HN.out hrd (by have := HL8.out; have := HL.out; omega))
      rw [HL.out] at HBY
      refine HBY.out.mono ?_
      rintro e w9 ⟨rfl, hw9, hk9⟩
      have HF : Hid (FreshW w0 w9 b 65524 ([k0] ++ bodyA ⟨ses, id, err, num, text, lp, t, lc, dp, dl, dc⟩ L ds, 0) A ∧ Keeps A w w9) := hid ⟨by
        have h := hw9.less (B := A) (fun k hk => List.mem_cons_of_mem _ hk)
        rw [← HZ8.out, ← HZ7.out, ← HZ6.out, ← HZ5.out, ← HZ4.out, ← HZ3.out, ← HZ2.out, ← HZ1.out] at h
        unfold bodyA
        simpa only [List.append_assoc] using h, HK0.out.trans ((HK8.out.trans hk9).less (fun k hk => List.mem_cons_of_mem _ hk))⟩
      clear hw9 hk9 HBY hrd
      go_wp2_with fail
      first | go_returns | skip
      exact ⟨rfl, HF.out.1, HF.out.2⟩
set_option maxHeartbeats 6400000 in
theorem layA_any (r : Ra) (L : List ByteArray) (ds : List Int) (w : World) (hLn : L.length = r.ln) (hrl : RdL w r.lp L) (hd : Rd w r.dp ds) (hl : ds.length = r.dl) (hn : ds = [] → r.dp = none → r.dc = 0) (hz : ∀ z ∈ ds, 0 ≤ z ∧ z < 256) (hpr : Primes w) :
    Calls Tryd.prog 31 #[.agg r.arr, .func (.func 32) #[] #[], .int .i64 2, .func (.func 33) #[] #[]] w (EncF w (frm (inA r L ds)) (errA r L)) := by
  obtain ⟨PO, hPO⟩ : ∃ PO : Ending → World → Prop, EncF w (frm (inA r L ds)) (errA r L) = PO := ⟨_, rfl⟩
  rw [hPO]
  have HP1 : Hid (∀ w', ¬ MayA r L → Frm [] w w' → PO (.returned (.tuple #[.slice none 0 0, .int .i64 230])) w') := hid (fun w' h1 h2 => by rw [← hPO]; exact ⟨h2, Or.inl (by unfold errA; rw [if_neg h1]; exact ⟨by omega, rfl⟩)⟩)
  have HP2 : Hid (∀ g n w', MayA r L → n = (frm (inA r L ds)).length → w'.heap[g]? = some (.cells (bv (frm (inA r L ds))).toArray 5 (0, 0)) → w.heap.size ≤ g → Frm [] w w' → PO (.returned (.tuple #[.slice (some ⟨g, 0, none⟩) n n, .int .i64 0])) w') := hid (fun g n w' h1 h2 h3 h4 h5 => by rw [← hPO]; exact ⟨h5, Or.inr (by unfold errA; rw [if_pos h1]; exact ⟨rfl, g, n, rfl, h2, h3, h4⟩)⟩)
  have HMQ := hid (fun W (hf : Frm [] w W) => mayA_any r L W hLn (hrl.kept hf (by simp)))
  have HPT := hid (fun (w0 : World) (b : Nat) (A : List Nat) (W : World) (hw : FreshW w0 W b 65524 ([2], 0) A) (hm : MayA r L) (hdd : Rd W r.dp ds) (hdl : RdL W r.lp L) (hb : (ds ≠ [] → ∀ k ∈ blk r.dp, k ∈ A) ∧ (L ≠ [] → ∀ k ∈ blk r.lp, k ∈ A)) => putA_any w0 W b A 2 hw r L hm hLn hdl hb.2 ds hdd hl hn hb.1)
  have HD := hid (fun W (hf : Frm [] w W) => hd.kept hf (by simp))
  have HDLL := hid (fun W (hf : Frm [] w W) => hrl.kept hf (by simp))
  have HLWL := hid hrl.low
  have HPR := hid hpr
  have HLN := hid (fun (hm : MayA r L) => inA_len hm hl)
  have HBD := hid (inA_bd (r := r) (L := L) hz)
  have HLOW : Hid (ds ≠ [] → ∀ k ∈ blk r.dp, k < w.heap.size) := hid (fun h0 k hk => by
    rcases hd with h | ⟨g, o, he, hc⟩
    · exact absurd h h0
    · rw [he] at hk
      simp [blk] at hk
      subst hk
      have h1 := hc 0 (List.length_pos_iff.2 h0)
      exact World.block_lt_of_cell? w _ h1)
  have hrow := heap_alloc_new w (.cells r.arr 32)
  have HFA : Hid (Frm [] w (w.alloc (.cells r.arr 32))) := hid ((Frm.refl _ _).alloc _)
  obtain ⟨bx, hbx⟩ : ∃ z, w.heap.size = z := ⟨_, rfl⟩
  obtain ⟨wa, hwa⟩ : ∃ z, w.alloc (.cells r.arr 32) = z := ⟨_, rfl⟩
  rw [hwa] at HFA
  rw [hbx, hwa] at hrow
  have HROW := hid hrow
  obtain ⟨IN, hIN⟩ : ∃ z, inA r L ds = z := ⟨_, rfl⟩
  rw [hIN] at HP2 HLN HBD
  have HIN := hid hIN
  obtain ⟨q0, q1, q2, q3, q4, q5, q6⟩ := ra_cells hrow
  clear hd hl hn hz hpr hrl hrow hPO hIN
  by_cases hm : MayA r L
  case neg =>
    simp only [decide_eq_false hm] at HMQ
    have HM := hid hm
    obtain ⟨ses, id, err, num, text, lp, ln, lc, dp, dl, dc⟩ := r
    unfold Ra.arr at HMQ hwa ⊢
    simp only at HMQ hwa q0 q1 q2 q3 q4 q5 q6 ⊢
    clear hm hLn
    go_enter Tryd.func31, Tryd.ntmps31
    go_wp2_with fail
    refine (HMQ.out _ HFA.out).mono ?_
    rintro e w1 ⟨rfl, hf1⟩
    have HF1 := hid (HFA.out.trans hf1 (by simp))
    clear hf1
    go_wp2_with fail
    first | go_returns | skip
    exact HP1.out _ HM.out HF1.out
  simp only [decide_eq_true hm] at HMQ
  have HM := hid hm
  have hln := HLN.out hm
  obtain ⟨hln0, hln1⟩ := hln
  have HRC : Hid (∀ W : World, Frm [] wa W → W.heap[bx]? = some (.cells r.arr 32 (0, 0))) := hid (fun W hf => hf.heap HROW.out (by simp))
  obtain ⟨A, hA⟩ : ∃ A : List Nat, ((ds ≠ [] → ∀ k ∈ blk r.dp, k ∈ A) ∧ (L ≠ [] → ∀ k ∈ blk r.lp, k ∈ A)) ∧ ∀ k ∈ A, k < wa.heap.size := by
    refine ⟨(if ds = [] then [] else blk r.dp) ++ (if L = [] then [] else blk r.lp), ⟨fun h k hk => List.mem_append_left _ (by rw [if_neg h]; exact hk), fun h k hk => List.mem_append_right _ (by rw [if_neg h]; exact hk)⟩, fun k hk => ?_⟩
    rcases List.mem_append.1 hk with h | h
    · by_cases h0 : ds = []
      · rw [if_pos h0] at h; cases h
      · rw [if_neg h0] at h; exact Nat.lt_of_lt_of_le (HLOW.out h0 k h) HFA.out.size
    · by_cases h0 : L = []
      · rw [if_pos h0] at h; cases h
      · rw [if_neg h0] at h; exact Nat.lt_of_lt_of_le (HLWL.out h0 k h) HFA.out.size
  have HA := hid hA
  obtain ⟨ses, id, err, num, text, lp, ln, lc, dp, dl, dc⟩ := r
  unfold Ra.arr at HMQ HPT hwa ⊢
  simp only at HMQ HPT HDLL hwa q0 q1 q2 q3 q4 q5 q6 ⊢
  clear hm hA hLn
  go_enter Tryd.func31, Tryd.ntmps31
  go_wp2_with fail
  refine (HMQ.out _ HFA.out).mono ?_
  rintro e w1 ⟨rfl, hf1⟩
  have HF1 := hid hf1
  clear hf1 HMQ q0 q1 q2 q3 q4 q5 q6
  go_wp2_with fail
  refine (newWriter_any 65524 w1).mono ?_
  rintro e w2 ⟨rfl, hw2, hf2, _⟩
  have HW2 : Hid (FreshW wa w2 w1.heap.size 65524 ([], 0) A) := hid ((FreshW.born hw2 (HF1.out.trans hf2 (by simp)) HF1.out.size).with_ HA.out.2)
  obtain ⟨b, hb⟩ : ∃ b, w1.heap.size = b := ⟨_, rfl⟩
  rw [hb] at HW2 ⊢
  have hu1 : IntKind.u64.wrap 2 = 2 := by rfl
  clear hw2 hf2 hb
  go_wp2_with fail
  refine (num_fit wa w2 b 65524 [] A HW2.out (by omega) 2 1 (by omega) (by omega) (by omega) (by decide) (by simp)).mono ?_
  rintro e w3 ⟨rfl, hw3, _⟩
  have HW3 : Hid (FreshW wa w3 b 65524 ([2], 0) A) := hid (by have h := hw3; rw [show ([] : List Int) ++ le 2 1 = [2] from rfl] at h; exact h)
  have HF3 := hid hw3.frm
  obtain ⟨q0, q1, q2, q3, q4, q5, q6⟩ := ra_cells (HRC.out w3 HF3.out)
  simp only at q0 q1 q2 q3 q4 q5 q6
  have HDW := hid (HD.out w3 (HFA.out.trans HF3.out (by simp)))
  have HDX := hid (HDLL.out w3 (HFA.out.trans HF3.out (by simp)))
  clear hw3 HW2
  go_wp2_with fail
  refine (HPT.out wa b A w3 HW3.out HM.out HDW.out HDX.out HA.out.1).mono ?_
  rintro e w4 ⟨rfl, hw4, _⟩
  have HW4 : Hid (FreshW wa w4 b 65524 (IN, 0) A) := hid (by rw [← HIN.out]; exact hw4)
  clear hw4 HW3 HDX q0 q1 q2 q3 q4 q5 q6 HPT HDW
  go_wp2_with fail
  refine (doneWF_ok wa w4 b 65524 IN A HW4.out (by omega) (by omega)).mono ?_
  rintro e w5 ⟨g, rfl, hr5, hw5, _, hg5, hg5'⟩
  have HR5 := hid hr5
  have HF5 := hid hw5.frm
  have HG5 := hid hg5'
  obtain ⟨nI, hnI⟩ : ∃ z, IN.length = z := ⟨_, rfl⟩
  have HNI := hid hnI
  rw [hnI] at hln0 hln1 ⊢
  clear hr5 hw5 hg5 hg5' hnI HW4
  go_wp2_with fail
  refine (newWriter_any 65536 w5).mono ?_
  rintro e w6 ⟨rfl, hw6, hf6, _⟩
  have HW6 : Hid (FreshW w5 w6 w5.heap.size 65536 ([], 0) [g]) := hid ((FreshW.born hw6 hf6 (Nat.le_refl _)).with_ (by intro k hk; rw [List.mem_singleton] at hk; subst hk; exact HG5.out))
  have HR6 := hid (HR5.out.kept hf6 (by simp))
  obtain ⟨b2, hb2⟩ : ∃ b, w5.heap.size = b := ⟨_, rfl⟩
  rw [hb2] at HW6 ⊢
  have hu2 : IntKind.u64.wrap ((nI : Int) + 8) = (nI : Int) + 8 := by rw [IntKind.wrap_u64]; omega
  have hu3 : wrap64 ((nI : Int) + 8) = (nI : Int) + 8 := by unfold wrap64; omega
  clear hw6 hf6 hb2 HR5
  go_wp2_with fail
  refine (num_fit w5 w6 b2 65536 [] [g] HW6.out (by omega) ((nI : Int) + 8) 4 (by omega) (by omega) (by omega) (by omega) (by simp)).mono ?_
  rintro e w7 ⟨rfl, hw7, hk7⟩
  have HW7 := hid hw7
  have HR7 := hid (HR6.out.keeps hk7 (by simp [blk]))
  clear hw7 hk7 HW6 HR6 hu2 hu3
  go_wp2_with fail
  have hbf := bytes_fit w5 w7 b2 65536 _ [g] HW7.out (by omega) (some ⟨g, 0, none⟩) IN nI (fun _ h => by cases h) HR7.out (by rw [HNI.out]; simp [le_length]; omega)
  rw [HNI.out] at hbf
  refine hbf.mono ?_
  rintro e w8 ⟨rfl, hw8, hk8⟩
  have HW8 := hid hw8
  have HR8 := hid (HR7.out.keeps hk8 (by simp [blk]))
  have HF8 := hid hw8.frm
  clear hw8 hk8 hbf HW7 HR7
  have HSE := hid (seal_any (some ⟨g, 0, none⟩) nI nI IN w8 HNI.out (Nat.le_refl _) (by omega) HR8.out HBD.out (((HPR.out.kept HFA.out).kept HF5.out).kept HF8.out))
  obtain ⟨SA, hSA⟩ : ∃ z, (shaD IN).a = z := ⟨_, rfl⟩
  have HSB := hid (shaD_bd IN)
  rw [hSA] at HSE HSB
  have HSA := hid hSA
  clear hSA
  go_wp2_with fail
  refine HSE.out.mono ?_
  rintro e w9 ⟨rfl, hf9⟩
  have HW9 : Hid (FreshW w5 w9 b2 65536 (([] ++ le ((nI : Int) + 8) 4) ++ IN, 0) []) := hid (by
    obtain ⟨fp, g1, g2, g3, g4⟩ := HW8.out
    exact ⟨fp, g1.kept hf9 (by simp), g2.trans hf9 (by simp), g3, by simp⟩)
  clear hf9 HSE HW8 HR8
  go_wp2_with fail
  refine (num_fit w5 w9 b2 65536 _ [] HW9.out (by omega) SA 8 HSB.out.1 (by omega) (by omega) HSB.out.2 (by simp [le_length]; have := HNI.out; omega)).mono ?_
  rintro e w10 ⟨rfl, hw10, _⟩
  have HW10 : Hid (FreshW w5 w10 b2 65536 (frm IN, 0) []) := hid (by
    unfold frm
    rw [HNI.out, HSA.out]
    have h := hw10
    rw [List.nil_append] at h
    exact h)
  have HFL : Hid ((frm IN).length = nI + 12) := hid (by unfold frm; simp only [List.length_append, le_length, HNI.out]; omega)
  clear hw10 HW9
  go_wp2_with fail
  obtain ⟨fp, g1, g2, g3, _⟩ := HW10.out
  refine (doneW_ok b2 fp 65536 (frm IN) w10 g1 (by omega) (by rw [HFL.out]; omega)).mono ?_
  rintro e w11 ⟨gz, rfl, h11, hf11, hg11⟩
  have HE := hid (HP2.out gz (frm IN).length w11 HM.out rfl h11 (by have := HFA.out.size; have := HF5.out.size; have := g2.size; omega) (((HFA.out.trans HF5.out (by simp)).trans g2 (by simp)).trans hf11 (by simp)))
  clear g1 g2 g3 h11 hf11 hg11 HW10
  go_wp2_with fail
  first | go_returns | skip
  exact HE.out
/-- One form for both. -/
def frmA (r : Ra) (L : List ByteArray) (ds : List Int) : List Int := if MayA r L then frm (inA r L ds) else []
theorem EncF.oneA {w w' : World} {r : Ra} {L : List ByteArray} {ds : List Int} {e : Ending} (hl : ds.length = r.dl) (h : EncF w (frm (inA r L ds)) (errA r L) e w') : ∃ q n c, e = .returned (.tuple #[.slice q n c, .int .i64 (errA r L)]) ∧ (frmA r L ds).length = n ∧ Own w' 5 (.slice q n c) (frmA r L ds) ∧ (∀ k ∈ blk q, w.heap.size ≤ k) ∧ Frm [] w w' := by
  obtain ⟨h1, ⟨h2, h3⟩ | ⟨h2, g, n, h3, h4, h5, h6⟩⟩ := h
  · have h0 : ¬ MayA r L := fun hm => by unfold errA at h2; rw [if_pos hm] at h2; exact h2 rfl
    unfold frmA
    rw [if_neg h0]
    exact ⟨none, 0, 0, h3, rfl, Own.nil _ _, by simp [blk], h1⟩
  · have h0 : MayA r L := by
      by_cases hm : MayA r L
      · exact hm
      · unfold errA at h2; rw [if_neg hm] at h2; omega
    unfold frmA
    rw [if_pos h0]
    subst h4
    exact ⟨some ⟨g, 0, none⟩, _, _, by rw [h3, h2], rfl, own_of_block h5 (by rw [frm_len]; have := inA_len (r := r) (L := L) h0 hl; unfold maxLen; omega), fun k hk => by simp [blk] at hk; subst hk; exact h6, h1⟩
set_option maxHeartbeats 1600000 in
theorem reply_any (r : Ra) (L : List ByteArray) (ds : List Int) (w : World) (hLn : L.length = r.ln) (hrl : RdL w r.lp L) (hd : Rd w r.dp ds) (hl : ds.length = r.dl) (hn : ds = [] → r.dp = none → r.dc = 0) (hz : ∀ z ∈ ds, 0 ≤ z ∧ z < 256) (hpr : Primes w) :
    Calls Tryd.prog 12 #[.agg r.arr] w (EncF w (frm (inA r L ds)) (errA r L)) := by
  obtain ⟨PO, hPO⟩ : ∃ PO : Ending → World → Prop, EncF w (frm (inA r L ds)) (errA r L) = PO := ⟨_, rfl⟩
  rw [hPO]
  have HP : Hid (∀ e w', EncF w (frm (inA r L ds)) (errA r L) e w' → PO e w') := hid (fun e w' h => by rw [← hPO]; exact h)
  have HFA : Hid (Frm [] w (w.alloc (.cells r.arr 32))) := hid ((Frm.refl _ _).alloc _)
  have HLY := hid (layA_any r L ds (w.alloc (.cells r.arr 32)) hLn (hrl.kept HFA.out (by simp)) (hd.kept HFA.out (by simp)) hl hn hz (hpr.kept HFA.out))
  have HLL := hid hl
  clear hd hl hn hz hpr hPO
  obtain ⟨ses, id, err, num, text, lp, ln, lc, dp, dl, dc⟩ := r
  unfold Ra.arr at HLY HFA ⊢
  simp only at HLY HFA ⊢
  go_enter Tryd.func12, Tryd.ntmps12
  go_wp2_with fail
  refine HLY.out.mono ?_
  intro e w1 h1
  have H1 := hid (HP.out e w1 (h1.pre HFA.out))
  obtain ⟨q, n, c, rfl, _⟩ := h1.oneA HLL.out
  clear h1 HLY
  go_wp2_with fail
  first | go_returns | skip
  exact H1.out
end
end Go.Proofs.YtignoocdeghiaaaDoor
