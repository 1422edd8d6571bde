/- Records, the document's side: the reader of a body; a list of numbers. -/
import Derived.Test.YtajfjkfnmmfhmaaGreatDoorQsao
import Derived.Test.YtajfjkfnmmfhmaaGreatDoorQsaq
import Derived.Test.YtajfjkfnmmfhmaaGreatDoorQsah
import Derived.Laws.EntriesVeiled
namespace Go.Proofs.YtajfjkfnmmfhmaaGreatDoor
set_option maxRecDepth 100000
set_option maxHeartbeats 25600000
section
open Go.RowKit Go.Lib
def QrR (w0 w : World) (b : Nat) (p : Option Addr) (c : Nat) (bs : List Int) (s : Rst) : Prop := IsQ w b p c bs s.1 s.2 ∧ Frm [] w0 w ∧ w0.heap.size ≤ b ∧ ∀ k ∈ blk p, w0.heap.size ≤ k
theorem QrR.gen {S : List Nat} {w0 w w' : World} {b c : Nat} {p : Option Addr} {bs : List Int} {s : Rst} (h : QrR w0 w b p c bs s) (hf : Frm S w w') (hS : ∀ k ∈ S, w0.heap.size ≤ k ∧ k ≠ b ∧ k ∉ blk p) : QrR w0 w' b p c bs s :=
 ⟨h.1.kept hf (fun hm => (hS b hm).2.1 rfl) (fun k hk hm => (hS k hm).2.2 hk), h.2.1.trans hf (fun i hi hl => by have := (hS i hi).1; omega), h.2.2⟩
theorem QrR.k0 {w0 w w' : World} {b c : Nat} {p : Option Addr} {bs : List Int} {s : Rst} (h : QrR w0 w b p c bs s) (hf : Frm [] w w') : QrR w0 w' b p c bs s := h.gen hf (by simp)
theorem QrR.next {w0 w w' : World} {b c pos : Nat} {p : Option Addr} {bs : List Int} {s : Rst} {err : Int} (h : QrR w0 w b p c bs s) (h1 : IsQ w' b p c bs pos err) (hf : Frm [b] w w') : QrR w0 w' b p c bs (pos, err) :=
 ⟨h1, h.2.1.trans hf (fun i hi hl => by rw [List.mem_singleton] at hi; have := h.2.2.1; omega), h.2.2⟩
section
variable (w0 w : World) (b c : Nat) (p : Option Addr) (bs : List Int) (hb : ∀ z ∈ bs, 0 ≤ z ∧ z < 256) (s : Rst) (h : QrR w0 w b p c bs s)
include hb h
theorem qn_any (k : Int) (hk0 : 0 ≤ k) (hk : k ≤ 8) : Calls Tryz.prog 105 #[.pointer (some ⟨b, 0, none⟩), .int .i64 k] w fun e w' => e = .returned (.int .u64 (nuS bs s k).1) ∧ QrR w0 w' b p c bs (nuS bs s k).2 ∧ Frm [b] w w' :=
 (qnum_any b c s.1 p bs hb s.2 k w h.1 (by omega) (by omega)).mono (fun _ _ hh => ⟨hh.1, QrR.next h hh.2.1 hh.2.2, hh.2.2⟩)
theorem qt_any (k : Int) (hk0 : 0 ≤ k) (hk : k ≤ 65535) : Calls Tryz.prog 104 #[.pointer (some ⟨b, 0, none⟩), .int .i64 k] w fun e w' => e = .returned (.string (strOfNums (txS bs s k).1)) ∧ QrR w0 w' b p c bs (txS bs s k).2 ∧ Frm [b] w w' :=
 (qtext_any b c s.1 p bs hb s.2 k w h.1 (by omega) (by omega)).mono (fun _ _ hh => ⟨hh.1, QrR.next h hh.2.1 hh.2.2, hh.2.2⟩)
omit hb in
theorem qb_any (k : Int) (hk0 : 0 ≤ k) (hk : k < 72057594037927936) : Calls Tryz.prog 108 #[.pointer (some ⟨b, 0, none⟩), .int .i64 k] w fun e w' => ∃ q n d, e = .returned (.slice q n d) ∧ n = (byS bs s k).1.length ∧ Own w' 5 (.slice q n d) (byS bs s k).1 ∧ (∀ k ∈ blk q, w.heap.size ≤ k) ∧ QrR w0 w' b p c bs (byS bs s k).2 ∧ Frm [b] w w' := by
 refine (qbytes_any b c s.1 p bs s.2 k w h.1 (by omega) (by omega)).mono ?_
 rintro e w' ⟨q, n, d, he, h1, h2, h3, h4, h5⟩
 exact ⟨q, n, d, he, h1, h2, h3, QrR.next h h4 h5, h5⟩
end
def kpM (bs : List Int) (s : Rst) : Nat := min (nuS bs s 2).1.toNat 241
def tkD (bs : List Int) (more k : Int) (s : Rst) : List Int × Rst := kpS bs more k (nuS bs s 2).2 (kpM bs s)
theorem keepD_any (w0 w : World) (b c0 : Nat) (q : Option Addr) (bs : List Int) (hb : ∀ z ∈ bs, 0 ≤ z ∧ z < 256) (s : Rst) (h : QrR w0 w b q c0 bs s) (k more : Int) (hk0 : 0 ≤ k) (hk : k ≤ 7) (hm0 : 0 ≤ more) (hm1 : more ≤ 1) :
  Calls Tryz.prog 107 #[.pointer (some ⟨b, 0, none⟩), .int .i64 k, .int .i64 more] w fun e w' => ∃ p n c, e = .returned (.slice p n c) ∧ (tkD bs more k s).1.length = n ∧ w'.ownsRow 0 3 1 (.slice p n c) n ((tkD bs more k s).1.map (Value.int .i64)) ∧ (∀ k ∈ blk p, w.heap.size ≤ k) ∧ QrR w0 w' b q c0 bs (tkD bs more k s).2 ∧ Frm [b] w w' := by
 obtain ⟨PO, hPO⟩ : ∃ PO : Ending → World → Prop, (fun e w' => ∃ p n c, e = .returned (.slice p n c) ∧ (tkD bs more k s).1.length = n ∧ w'.ownsRow 0 3 1 (.slice p n c) n ((tkD bs more k s).1.map (Value.int .i64)) ∧ (∀ k ∈ blk p, w.heap.size ≤ k) ∧ QrR w0 w' b q c0 bs (tkD bs more k s).2 ∧ Frm [b] w w') = PO := ⟨_, rfl⟩
 rw [hPO]
 have HP : Hid (∀ p n c w', (tkD bs more k s).1.length = n → w'.ownsRow 0 3 1 (.slice p n c) n ((tkD bs more k s).1.map (Value.int .i64)) → (∀ k ∈ blk p, w.heap.size ≤ k) → QrR w0 w' b q c0 bs (tkD bs more k s).2 → Frm [b] w w' → PO (.returned (.slice p n c)) w') := hid (fun p n c w' h1 h2 h3 h4 h5 => by rw [← hPO]; exact ⟨p, n, c, rfl, h1, h2, h3, h4, h5⟩)
 have HN1 := hid (qn_any w0 w b c0 q bs hb s h 2 (by omega) (by omega))
 have HBS := hid hb
 have HW0 : Hid (w0.heap.size ≤ w.heap.size) := hid h.2.1.size
 have hbd := nuS_bd hb s 2 (by omega)
 obtain ⟨K, hK⟩ := eX (kpM bs s)
 have HTK : Hid (tkD bs more k s = kpS bs more k (nuS bs s 2).2 K) := hid (by rw [← hK]; rfl)
 unfold kpM at hK
 obtain ⟨v0, hv0⟩ := eX (nuS bs s 2)
 rw [hv0] at HN1 hbd HTK hK
 obtain ⟨TK, hTK⟩ := eX (tkD bs more k s)
 rw [hTK] at HP HTK
 have hKb : K ≤ 241 := by omega
 have hKv : (K : Int) ≤ v0.1 := by omega
 have HKE : Hid (K = 241 ∨ (K : Int) = v0.1) := hid (by omega)
 have hwr0 : IntKind.i64.wrap v0.1 = v0.1 := by rw [IntKind.wrap_i64]; omega
 clear h hb hv0 hTK hK hPO
 go_enter Tryz.func107, Tryz.ntmps107
 go_wp2_with fail
 refine HN1.out.mono ?_
 rintro e w2 ⟨rfl, hr1, hf1⟩
 have HR2 := hid hr1
 have HF2 := hid hf1
 clear hr1 hf1 HN1
 go_wp2_with fail
 go_loopw [7, 9] (fun l i wr => ∃ (t : Nat) (p : Option Addr) (c : Nat), t ≤ K ∧ l = .slice p t c ∧ i = .int .i64 (t : Int) ∧ Hid (wr.ownsRow 0 3 1 (.slice p t c) t ((kpS bs more k v0.2 t).1.map (Value.int .i64))) ∧ Hid (∀ j ∈ blk p, w.heap.size ≤ j ∧ j ≠ b ∧ j ∉ blk q) ∧ Hid (QrR w0 wr b q c0 bs (kpS bs more k v0.2 t).2) ∧ Hid (Frm [b] w wr)) (fun _ i _ => K - (intOf i).toNat)
 case atStart => exact ⟨0, none, 0, by omega, rfl, rfl, hid (World.ownsRow_nil _ _ _ _), hid (by simp [blk]), HR2, HF2⟩
 case round =>
  obtain ⟨t, p, c, ht, rfl, rfl, ho, hnw, hr, hf⟩ := hrel
  have HO := hid ho.out
  have HNW := hid hnw.out
  have HR := hid hr.out
  have HF := hid hf.out
  clear ho hnw hr hf HR2 HF2
  by_cases hlt : t < K
  case neg =>
   obtain rfl : t = K := by omega
   have HX : Hid (PO (.returned (.slice p t c)) wr) := hid (HP.out p t c wr (by rw [HTK.out, kpS_len]) (by rw [HTK.out]; exact HO.out) (fun k hk => (HNW.out k hk).1) (by rw [HTK.out]; exact HR.out) HF.out)
   clear hlt
   by_cases h1 : (t : Int) < v0.1
   case pos =>
    have h2 : ¬ (t : Int) < 241 := by have := HKE.out; omega
    have d2 := decide_eq_false h2
    go_wp2_with fail
    try go_returns
    exact HX.out
   have d1 := decide_eq_false h1
   go_wp2_with fail
   try go_returns
   exact HX.out
  have t1 : (t : Int) < v0.1 := by omega
  have t2 : (t : Int) < 241 := by omega
  have HSU : Hid (kpS bs more k v0.2 (t + 1) = ((kpS bs more k v0.2 t).1 ++ [(nuS bs (kpS bs more k v0.2 t).2 k).1 - more], (nuS bs (kpS bs more k v0.2 t).2 k).2)) := hid rfl
  have hll := kpS_len bs more k v0.2 t
  obtain ⟨LL, hLL⟩ := eX (kpS bs more k v0.2 t)
  rw [hLL] at HO HR HSU hll
  have HC := hid (qn_any w0 wr b c0 q bs HBS.out LL.2 HR.out k (by omega) (by omega))
  have hbd := nuS_bd HBS.out LL.2 k (by omega)
  obtain ⟨v, hv⟩ := eX (nuS bs LL.2 k)
  rw [hv] at HC hbd HSU
  have HLL := hid hll
  have hwr : IntKind.i64.wrap v.1 = v.1 := by rw [IntKind.wrap_i64]; omega
  have hw64 : wrap64 (v.1 - more) = v.1 - more := by unfold wrap64; omega
  clear hLL hv hll
  go_wp2_with fail
  refine HC.out.mono ?_
  rintro e x7 ⟨rfl, hr, hf⟩
  have HR7 := hid hr
  have HF7 := hid hf
  have HA := hid ((Frm.refl [] x7).alloc (.cells #[.int .i64 (v.1 - more)] 3))
  have HRV := hid (rv_block (heap_alloc_new x7 (.cells #[.int .i64 (v.1 - more)] 3)))
  have HOW := hid (ownsRow_kept (ownsRow_kept HO.out hf (fun k hk hm => by rw [List.mem_singleton] at hm; exact (HNW.out k hk).2.1 hm)) HA.out (by simp))
  have ht46 : t ≤ 241 := by omega
  clear hr hf HC
  go_wp2_with (at_builtin; refine wpList_appV rfl _ _ 23 rfl 3 1 8 _ Tryz.underlying23 infoInR rfl (by decide) p t c (LL.1.map (Value.int .i64)) rfl HOW.out (some ⟨x7.heap.size, 0, none⟩) 1 1 [.int .i64 (v.1 - more)] rfl rfl (by simp) HRV.out (by intro u hu; simp at hu; subst hu; rfl) (by unfold maxLen; omega) (by omega) ?_)
  intro p8 c8 w8 ho8 hf8 hb8
  have hfa : Frm (blk p) x7 w8 := (HA.out.mono (by simp)).trans hf8.out (fun i hi _ => hi)
  have hr7 := HR7.out
  have HNX : Hid (w8.ownsRow 0 3 1 (.slice p8 (t + 1) c8) (t + 1) ((kpS bs more k v0.2 (t + 1)).1.map (Value.int .i64)) ∧ (∀ j ∈ blk p8, w.heap.size ≤ j ∧ j ≠ b ∧ j ∉ blk q) ∧ QrR w0 w8 b q c0 bs (kpS bs more k v0.2 (t + 1)).2 ∧ Frm [b] w w8) := hid (by
   have h1 := HF.out.size
   have h2 := HF7.out.size
   rw [HSU.out]
   refine ⟨?_, fun j hj => ?_, hr7.gen hfa (fun i hi => ⟨by have h3 := (HNW.out i hi).1; have h4 := HW0.out; omega, (HNW.out i hi).2.1, (HNW.out i hi).2.2⟩), (HF.out.trans HF7.out (fun i hi _ => hi)).trans hfa (fun i hi hl => by have := (HNW.out i hi).1; omega)⟩
   ·have h := ho8.out
    simpa using h
   ·rcases hb8.out j hj with h | h
    ·exact HNW.out j h
    ·have e1 : (x7.alloc (.cells #[.int .i64 (v.1 - more)] 3)).heap.size = x7.heap.size + 1 := by simp
     have e2 := hr7.1.cells.1
     have e3 : ∀ i ∈ blk q, i < x7.heap.size := hr7.1.2.1.lows
     exact ⟨by omega, by omega, fun hq => by have := e3 j hq; omega⟩)
  clear ho8 hf8 hb8 hfa hr7 HRV HOW HA HR7 HF7 hbd hwr hw64 ht46
  go_wp2_with fail
  go_roundw
  case rel => exact ⟨t + 1, p8, c8, by omega, rfl, by go_num, hid HNX.out.1, hid HNX.out.2.1, hid HNX.out.2.2.1, hid HNX.out.2.2.2⟩
  case measure => simp [intOf] <;> omega
end
section
open Go.RowKit Go.Lib
def tdPk (bs : List Int) : TkV := ⟨⟨0, strOfNums (txS bs (0, 0) 24).1, 0, 0, 0, 0, ⟨#[]⟩, none, 0, 0, 0, 0, (nuS bs (txS bs (0, 0) 24).2 2).1, none, 0, 0, none, 0, 0⟩, [], [], [], (nuS bs (txS bs (0, 0) 24).2 2).2⟩
def tdLv (bs : List Int) : TkV := ⟨⟨0, ⟨#[]⟩, 0, 0, 0, 0, ⟨#[]⟩, none, 0, 0, 0, 0, 0, none, 0, 0, none, 0, 0⟩, [], (tkD bs 0 4 (0, 0)).1, [], (tkD bs 0 4 (0, 0)).2⟩
def tdNd (bs : List Int) : TkV := ⟨⟨0, ⟨#[]⟩, 0, 0, 0, 0, ⟨#[]⟩, none, 0, 0, (nuS bs (0, 0) 4).1, 0, 0, none, 0, 0, none, 0, 0⟩, [], (tkD bs 1 2 (nuS bs (0, 0) 4).2).1, [], (tkD bs 1 2 (nuS bs (0, 0) 4).2).2⟩
def prD (bs : List Int) (s : Rst) : Nat → List Pr × Rst
 | 0 => ([], s)
 | t + 1 => ((prD bs s t).1 ++ [(strOfNums (txS bs (prD bs s t).2 24).1, strOfNums (txS bs (txS bs (prD bs s t).2 24).2 64).1)], (txS bs (txS bs (prD bs s t).2 24).2 64).2)
theorem prD_len (bs : List Int) (s : Rst) : ∀ t, (prD bs s t).1.length = t
 | 0 => rfl
 | t + 1 => by rw [prD, List.length_append, prD_len bs s t]; rfl
def e6 (bs : List Int) := txS bs (g5 bs).2 24
def e7 (bs : List Int) := nuS bs (e6 bs).2 1
def e8 (bs : List Int) := prD bs (e7 bs).2 (e7 bs).1.toNat
def tdBg (bs : List Int) : TkV := ⟨⟨0, strOfNums (g1 bs).1, (g2 bs).1, (g3 bs).1, (g4 bs).1, (g5 bs).1, strOfNums (e6 bs).1, none, 0, 0, 0, 0, 0, none, 0, 0, none, 0, 0⟩, (e8 bs).1, [], [], (e8 bs).2⟩
def tdK (k : Int) (b : List Int) : TkV := if k = 1 then tdPk b else if k = 2 then tdBg b else if k = 3 then tdLv b else if k = 4 then tdNd b else if k = 5 then tvWr b else tvCn b
def TolP (w0 w : World) (b c : Nat) (p : Option Addr) (bs : List Int) (k : Int) (V : TkV) (e : Ending) (w' : World) : Prop := ∃ r : Rc, e = .returned (.agg r.arr) ∧ r.core = (V.rc k).core ∧ RcOwn w' r V.p V.k V.d w.heap.size ∧ QrR w0 w' b p c bs V.s ∧ Frm [b] w w'
structure QK (w0 w : World) (b c : Nat) (p : Option Addr) (bs : List Int) (br bx : Nat) (W : World) (row : Array Value) (s : Rst) : Prop where
 fr : QrR w0 W b p c bs s
 rw_ : W.heap[bx]? = some (.cells row 26 (0, 0))
 rb : W.heap[br]? = some (.cells #[.int .i64 0, .string ⟨#[]⟩, .int .i64 0, .int .i64 0, .int .i64 0, .int .i64 0, .string ⟨#[]⟩, .slice none 0 0, .int .i64 0, .int .i64 0, .int .i64 0, .slice none 0 0, .slice none 0 0] 26 (0, 0))
 frm : Frm [b] w W
 lo : w.heap.size ≤ br ∧ w.heap.size ≤ bx
 ne : br ≠ bx ∧ br ≠ b ∧ bx ≠ b ∧ br ∉ blk p ∧ bx ∉ blk p
 w0l : w0.heap.size ≤ w.heap.size
theorem QK.call {w0 w W W' : World} {b c br bx : Nat} {p : Option Addr} {bs : List Int} {row : Array Value} {s s' : Rst} (h : QK w0 w b c p bs br bx W row s) (hr : QrR w0 W' b p c bs s') (hf : Frm [b] W W') : QK w0 w b c p bs br bx W' row s' :=
 ⟨hr, hf.heap h.rw_ (by rw [List.mem_singleton]; exact h.ne.2.2.1), hf.heap h.rb (by rw [List.mem_singleton]; exact h.ne.2.1), h.frm.trans hf (fun i hi _ => hi), h.lo, h.ne, h.w0l⟩
theorem QK.gen {S : List Nat} {w0 w W W' : World} {b c br bx : Nat} {p : Option Addr} {bs : List Int} {row : Array Value} {s : Rst} (h : QK w0 w b c p bs br bx W row s) (hf : Frm S W W') (hS : ∀ k ∈ S, w.heap.size ≤ k ∧ k ≠ bx ∧ k ≠ br ∧ k ≠ b ∧ k ∉ blk p) : QK w0 w b c p bs br bx W' row s :=
 ⟨h.fr.gen hf (fun k hk => ⟨Nat.le_trans h.w0l (hS k hk).1, (hS k hk).2.2.2.1, (hS k hk).2.2.2.2⟩), hf.heap h.rw_ (fun hm => (hS bx hm).2.1 rfl), hf.heap h.rb (fun hm => (hS br hm).2.2.1 rfl), h.frm.trans hf (fun i hi hl => by have := (hS i hi).1; omega), h.lo, h.ne, h.w0l⟩
theorem QK.set {w0 w W : World} {b c br bx : Nat} {p : Option Addr} {bs : List Int} {row : Array Value} {s : Rst} (h : QK w0 w b c p bs br bx W row s) (k : Nat) (v : Value) : QK w0 w b c p bs br bx (W.setCell ⟨bx, k, Option.none⟩ v) (row.setIfInBounds k v) s := by
 have hf : Frm [bx] W (W.setCell ⟨bx, k, Option.none⟩ v) := (Frm.refl _ _).setCell _ _ (by simp)
 exact ⟨h.fr.gen hf (fun i hi => by rw [List.mem_singleton] at hi; subst hi; exact ⟨Nat.le_trans h.w0l h.lo.2, h.ne.2.2.1, h.ne.2.2.2.2⟩), heap_setCell_same W bx k _ _ v h.rw_, hf.heap h.rb (by rw [List.mem_singleton]; exact h.ne.1), h.frm.trans hf (fun i hi hl => by rw [List.mem_singleton] at hi; have := h.lo.2; omega), h.lo, h.ne, h.w0l⟩
theorem QK.fin {w0 w W W' : World} {b c br bx : Nat} {p : Option Addr} {bs : List Int} {row : Array Value} {s : Rst} (h : QK w0 w b c p bs br bx W row s) (hf : Frm [br] W W') : QrR w0 W' b p c bs s ∧ Frm [b] w W' :=
 ⟨h.fr.gen hf (fun i hi => by rw [List.mem_singleton] at hi; subst hi; exact ⟨Nat.le_trans h.w0l h.lo.1, h.ne.2.1, h.ne.2.2.2.1⟩), h.frm.trans hf (fun i hi hl => by rw [List.mem_singleton] at hi; have := h.lo.1; omega)⟩
theorem QK.born {w0 w : World} {b c : Nat} {p : Option Addr} {bs : List Int} {s : Rst} (h : QrR w0 w b p c bs s) (row : Array Value) : QK w0 w b c p bs w.heap.size (w.heap.size + 1) ((w.alloc (.cells #[.int .i64 0, .string ⟨#[]⟩, .int .i64 0, .int .i64 0, .int .i64 0, .int .i64 0, .string ⟨#[]⟩, .slice none 0 0, .int .i64 0, .int .i64 0, .int .i64 0, .slice none 0 0, .slice none 0 0] 26)).alloc (.cells row 26)) row s := by
 have hf : Frm [] w ((w.alloc (.cells #[.int .i64 0, .string ⟨#[]⟩, .int .i64 0, .int .i64 0, .int .i64 0, .int .i64 0, .string ⟨#[]⟩, .slice none 0 0, .int .i64 0, .int .i64 0, .int .i64 0, .slice none 0 0, .slice none 0 0] 26)).alloc (.cells row 26)) := ((Frm.refl _ _).alloc _).alloc _
 have hlo := h.1.2.1.lows
 have hb := lt_of_heap h.1.1
 refine ⟨h.k0 hf, ?_, ?_, hf.mono (by simp), ⟨Nat.le_refl _, by omega⟩, ⟨by omega, by omega, by omega, fun hm => by have := hlo _ hm; omega, fun hm => by have := hlo _ hm; omega⟩, h.2.1.size⟩
 ·exact heap_alloc_to _ _ (by simp)
 ·exact ((Frm.refl [] _).alloc _).heap (heap_alloc_new w _) (by simp)
theorem told_1 (w0 w : World) (b c : Nat) (q : Option Addr) (bs : List Int) (hb : ∀ z ∈ bs, 0 ≤ z ∧ z < 256) (hl : bs.length ≤ 2048) (h : QrR w0 w b q c bs (0, 0)) :
  Calls Tryz.prog 82 #[.int .i64 1, .pointer (some ⟨b, 0, none⟩)] w (TolP w0 w b c q bs 1 (tdPk bs)) := by
 obtain ⟨PO, hPO⟩ : ∃ PO : Ending → World → Prop, TolP w0 w b c q bs 1 (tdPk bs) = PO := ⟨_, rfl⟩
 rw [hPO]
 have HP := hid (show ∀ e w', TolP w0 w b c q bs 1 (tdPk bs) e w' → PO e w' from fun e w' h => by rw [← hPO]; exact h)
 have HB := hid hb
 have HL := hid hl
 have hbn := QK.born h #[.int .i64 1, .string ⟨#[]⟩, .int .i64 0, .int .i64 0, .int .i64 0, .int .i64 0, .string ⟨#[]⟩, .slice none 0 0, .int .i64 0, .int .i64 0, .int .i64 0, .slice none 0 0, .slice none 0 0]
 have hbl : ∀ V, (Instr.build 26 #[(0, .int .i64 1)]).run Tryz.prog V = .ok (.agg #[.int .i64 1, .string ⟨#[]⟩, .int .i64 0, .int .i64 0, .int .i64 0, .int .i64 0, .string ⟨#[]⟩, .slice none 0 0, .int .i64 0, .int .i64 0, .int .i64 0, .slice none 0 0, .slice none 0 0]) V := fun V => run_build V _ _ _ (by kernel_rfl)
 obtain ⟨wm, hwm⟩ := eX (w.alloc (.cells #[.int .i64 0, .string ⟨#[]⟩, .int .i64 0, .int .i64 0, .int .i64 0, .int .i64 0, .string ⟨#[]⟩, .slice none 0 0, .int .i64 0, .int .i64 0, .int .i64 0, .slice none 0 0, .slice none 0 0] 26))
 rw [hwm] at hbn
 obtain ⟨wx, hwx⟩ := eX (wm.alloc (.cells #[.int .i64 1, .string ⟨#[]⟩, .int .i64 0, .int .i64 0, .int .i64 0, .int .i64 0, .string ⟨#[]⟩, .slice none 0 0, .int .i64 0, .int .i64 0, .int .i64 0, .slice none 0 0, .slice none 0 0] 26))
 obtain ⟨br, hbr⟩ := eX (w.heap.size)
 obtain ⟨bx, hbx⟩ := eX (wm.heap.size)
 have hb1 : br + 1 = bx := by rw [← hbx, ← hwm, ← hbr]; simp
 rw [hwx, hbr, hb1] at hbn
 have HS0 := hid hbn
 have HWM := hid hwm
 have HWX := hid hwx
 have HBR := hid hbr
 have HBX := hid hbx
 have HB1 := hid hb1
 clear hb hl h hPO hbn hwm hwx hbr hbx hb1
 go_enter Tryz.func82, Tryz.ntmps82
 go_upto_region 1 with fail
 try rw [HWM.out]
 try rw [HBR.out]
 go_upto_region 2 with fail
 try rw [HWX.out]
 try rw [HBX.out]
 clear HWM HWX HBR HBX HB1 hbl
 have HC1 := hid (qt_any w0 wx b c q bs HB.out (0, 0) HS0.out.fr 24 (by omega) (by omega))
 obtain ⟨v1, hv1⟩ := eX (txS bs (0, 0) 24)
 rw [hv1] at HC1
 have HV1 := hid hv1
 clear hv1
 go_wp2_with fail
 refine HC1.out.mono ?_
 rintro e x1 ⟨rfl, hr, hf⟩
 have HX1 := hid (QK.call HS0.out hr hf)
 clear hr hf HC1
 have z1 := cR 1 (.string ⟨#[]⟩) HX1.out.rw_
 have y1 := fZ 1 HX1.out.rw_
 go_upto_region 7 with fail
 obtain ⟨W2, hW2⟩ := eX (x1.setCell ⟨bx, 1, none⟩ (.string (strOfNums v1.1)))
 have HW2 : Hid (QK w0 w b c q bs br bx W2 #[.int .i64 1, .string (strOfNums v1.1), .int .i64 0, .int .i64 0, .int .i64 0, .int .i64 0, .string ⟨#[]⟩, .slice none 0 0, .int .i64 0, .int .i64 0, .int .i64 0, .slice none 0 0, .slice none 0 0] v1.2) := hid (by rw [← hW2]; exact QK.set HX1.out 1 (.string (strOfNums v1.1)))
 rw [hW2]
 clear z1 y1
 have HC3 := hid (qn_any w0 W2 b c q bs HB.out v1.2 HW2.out.fr 2 (by omega) (by omega))
 have hbd3 := nuS_bd HB.out v1.2 2 (by omega)
 obtain ⟨v3, hv3⟩ := eX (nuS bs v1.2 2)
 rw [hv3] at HC3 hbd3
 have HV3 := hid hv3
 clear hv3
 have hw3 : IntKind.i64.wrap v3.1 = v3.1 := by rw [IntKind.wrap_i64]; omega
 go_wp2_with fail
 refine HC3.out.mono ?_
 rintro e x3 ⟨rfl, hr, hf⟩
 have HX3 := hid (QK.call HW2.out hr hf)
 clear hr hf HC3
 have z10 := cR 10 (.int .i64 0) HX3.out.rw_
 have y10 := fZ 10 HX3.out.rw_
 go_upto_region 23 with fail
 obtain ⟨W4, hW4⟩ := eX (x3.setCell ⟨bx, 10, none⟩ (.int .i64 v3.1))
 have HW4 : Hid (QK w0 w b c q bs br bx W4 #[.int .i64 1, .string (strOfNums v1.1), .int .i64 0, .int .i64 0, .int .i64 0, .int .i64 0, .string ⟨#[]⟩, .slice none 0 0, .int .i64 0, .int .i64 0, .int .i64 v3.1, .slice none 0 0, .slice none 0 0] v3.2) := hid (by rw [← hW4]; exact QK.set HX3.out 10 (.int .i64 v3.1))
 rw [hW4]
 clear z10 y10
 clear hbd3 hw3
 have z0 := cR 0 (.int .i64 1) HW4.out.rw_
 have y0 := fZ 0 HW4.out.rw_
 have z1 := cR 1 (.string (strOfNums v1.1)) HW4.out.rw_
 have y1 := fZ 1 HW4.out.rw_
 have z2 := cR 2 (.int .i64 0) HW4.out.rw_
 have y2 := fZ 2 HW4.out.rw_
 have z3 := cR 3 (.int .i64 0) HW4.out.rw_
 have y3 := fZ 3 HW4.out.rw_
 have z4 := cR 4 (.int .i64 0) HW4.out.rw_
 have y4 := fZ 4 HW4.out.rw_
 have z5 := cR 5 (.int .i64 0) HW4.out.rw_
 have y5 := fZ 5 HW4.out.rw_
 have z6 := cR 6 (.string ⟨#[]⟩) HW4.out.rw_
 have y6 := fZ 6 HW4.out.rw_
 have z7 := cR 7 (.slice none 0 0) HW4.out.rw_
 have y7 := fZ 7 HW4.out.rw_
 have z8 := cR 8 (.int .i64 0) HW4.out.rw_
 have y8 := fZ 8 HW4.out.rw_
 have z9 := cR 9 (.int .i64 0) HW4.out.rw_
 have y9 := fZ 9 HW4.out.rw_
 have z10 := cR 10 (.int .i64 v3.1) HW4.out.rw_
 have y10 := fZ 10 HW4.out.rw_
 have z11 := cR 11 (.slice none 0 0) HW4.out.rw_
 have y11 := fZ 11 HW4.out.rw_
 have z12 := cR 12 (.slice none 0 0) HW4.out.rw_
 have y12 := fZ 12 HW4.out.rw_
 have r0 := cR 0 (.int .i64 0) HW4.out.rb
 have s0 := fZ 0 HW4.out.rb
 have r1 := cR 1 (.string ⟨#[]⟩) HW4.out.rb
 have s1 := fZ 1 HW4.out.rb
 have r2 := cR 2 (.int .i64 0) HW4.out.rb
 have s2 := fZ 2 HW4.out.rb
 have r3 := cR 3 (.int .i64 0) HW4.out.rb
 have s3 := fZ 3 HW4.out.rb
 have r4 := cR 4 (.int .i64 0) HW4.out.rb
 have s4 := fZ 4 HW4.out.rb
 have r5 := cR 5 (.int .i64 0) HW4.out.rb
 have s5 := fZ 5 HW4.out.rb
 have r6 := cR 6 (.string ⟨#[]⟩) HW4.out.rb
 have s6 := fZ 6 HW4.out.rb
 have r7 := cR 7 (.slice none 0 0) HW4.out.rb
 have s7 := fZ 7 HW4.out.rb
 have r8 := cR 8 (.int .i64 0) HW4.out.rb
 have s8 := fZ 8 HW4.out.rb
 have r9 := cR 9 (.int .i64 0) HW4.out.rb
 have s9 := fZ 9 HW4.out.rb
 have r10 := cR 10 (.int .i64 0) HW4.out.rb
 have s10 := fZ 10 HW4.out.rb
 have r11 := cR 11 (.slice none 0 0) HW4.out.rb
 have s11 := fZ 11 HW4.out.rb
 have r12 := cR 12 (.slice none 0 0) HW4.out.rb
 have s12 := fZ 12 HW4.out.rb
 go_wp2_with fail
 obtain ⟨Wz, hwz, h5, f5⟩ := sE br 26 [(0, .int .i64 1), (1, .string (strOfNums v1.1)), (2, .int .i64 0), (3, .int .i64 0), (4, .int .i64 0), (5, .int .i64 0), (6, .string ⟨#[]⟩), (7, .slice none 0 0), (8, .int .i64 0), (9, .int .i64 0), (10, .int .i64 v3.1), (11, .slice none 0 0), (12, .slice none 0 0)] W4 _ HW4.out.rb
 simp only [List.foldl, List.setIfInBounds_toArray, List.set_cons_zero, List.set_cons_succ] at h5
 simp only [setsF] at hwz
 have hWz := hwz
 rw [hwz]
 obtain ⟨hq1, hq2⟩ := HW4.out.fin f5
 have u0 := cR 0 (.int .i64 1) h5
 have u1 := cR 1 (.string (strOfNums v1.1)) h5
 have u2 := cR 2 (.int .i64 0) h5
 have u3 := cR 3 (.int .i64 0) h5
 have u4 := cR 4 (.int .i64 0) h5
 have u5 := cR 5 (.int .i64 0) h5
 have u6 := cR 6 (.string ⟨#[]⟩) h5
 have u7 := cR 7 (.slice none 0 0) h5
 have u8 := cR 8 (.int .i64 0) h5
 have u9 := cR 9 (.int .i64 0) h5
 have u10 := cR 10 (.int .i64 v3.1) h5
 have u11 := cR 11 (.slice none 0 0) h5
 have u12 := cR 12 (.slice none 0 0) h5
 refine bodyPost_ret (v := .agg #[.int .i64 1, .string (strOfNums v1.1), .int .i64 0, .int .i64 0, .int .i64 0, .int .i64 0, .string ⟨#[]⟩, .slice none 0 0, .int .i64 0, .int .i64 0, .int .i64 v3.1, .slice none 0 0, .slice none 0 0]) (by simp [results, Tryz.results82, go_sem, u0, u1, u2, u3, u4, u5, u6, u7, u8, u9, u10, u11, u12]) rfl ?_
 refine HP.out _ _ ⟨⟨1, strOfNums v1.1, 0, 0, 0, 0, ⟨#[]⟩, none, 0, 0, 0, 0, v3.1, none, 0, 0, none, 0, 0⟩, rfl, ?_, ?_, ?_, hq2⟩
 ·unfold tdPk TkV.rc Rc.core; rw [HV1.out, HV3.out]
 ·unfold tdPk; rw [HV1.out, HV3.out]; exact ⟨World.ownsRow_nil _ _ _ _, rfl, by simp [blk], World.ownsRow_nil _ _ _ _, rfl, by simp [blk], Own.nil _ _, rfl, by simp [blk], by simp, by simp, by simp⟩
 ·unfold tdPk; rw [HV1.out, HV3.out]; exact hq1
theorem told_6 (w0 w : World) (b c : Nat) (q : Option Addr) (bs : List Int) (hb : ∀ z ∈ bs, 0 ≤ z ∧ z < 256) (hl : bs.length ≤ 2048) (h : QrR w0 w b q c bs (0, 0)) :
  Calls Tryz.prog 82 #[.int .i64 6, .pointer (some ⟨b, 0, none⟩)] w (TolP w0 w b c q bs 6 (tvCn bs)) := by
 obtain ⟨PO, hPO⟩ : ∃ PO : Ending → World → Prop, TolP w0 w b c q bs 6 (tvCn bs) = PO := ⟨_, rfl⟩
 rw [hPO]
 have HP := hid (show ∀ e w', TolP w0 w b c q bs 6 (tvCn bs) e w' → PO e w' from fun e w' h => by rw [← hPO]; exact h)
 have HB := hid hb
 have HL := hid hl
 have hbn := QK.born h #[.int .i64 6, .string ⟨#[]⟩, .int .i64 0, .int .i64 0, .int .i64 0, .int .i64 0, .string ⟨#[]⟩, .slice none 0 0, .int .i64 0, .int .i64 0, .int .i64 0, .slice none 0 0, .slice none 0 0]
 have hbl : ∀ V, (Instr.build 26 #[(0, .int .i64 6)]).run Tryz.prog V = .ok (.agg #[.int .i64 6, .string ⟨#[]⟩, .int .i64 0, .int .i64 0, .int .i64 0, .int .i64 0, .string ⟨#[]⟩, .slice none 0 0, .int .i64 0, .int .i64 0, .int .i64 0, .slice none 0 0, .slice none 0 0]) V := fun V => run_build V _ _ _ (by kernel_rfl)
 obtain ⟨wm, hwm⟩ := eX (w.alloc (.cells #[.int .i64 0, .string ⟨#[]⟩, .int .i64 0, .int .i64 0, .int .i64 0, .int .i64 0, .string ⟨#[]⟩, .slice none 0 0, .int .i64 0, .int .i64 0, .int .i64 0, .slice none 0 0, .slice none 0 0] 26))
 rw [hwm] at hbn
 obtain ⟨wx, hwx⟩ := eX (wm.alloc (.cells #[.int .i64 6, .string ⟨#[]⟩, .int .i64 0, .int .i64 0, .int .i64 0, .int .i64 0, .string ⟨#[]⟩, .slice none 0 0, .int .i64 0, .int .i64 0, .int .i64 0, .slice none 0 0, .slice none 0 0] 26))
 obtain ⟨br, hbr⟩ := eX (w.heap.size)
 obtain ⟨bx, hbx⟩ := eX (wm.heap.size)
 have hb1 : br + 1 = bx := by rw [← hbx, ← hwm, ← hbr]; simp
 rw [hwx, hbr, hb1] at hbn
 have HS0 := hid hbn
 have HWM := hid hwm
 have HWX := hid hwx
 have HBR := hid hbr
 have HBX := hid hbx
 have HB1 := hid hb1
 clear hb hl h hPO hbn hwm hwx hbr hbx hb1
 go_enter Tryz.func82, Tryz.ntmps82
 go_upto_region 1 with fail
 try rw [HWM.out]
 try rw [HBR.out]
 go_upto_region 2 with fail
 try rw [HWX.out]
 try rw [HBX.out]
 clear HWM HWX HBR HBX HB1 hbl
 have HC1 := hid (qn_any w0 wx b c q bs HB.out (0, 0) HS0.out.fr 4 (by omega) (by omega))
 have hbd1 := nuS_bd HB.out (0, 0) 4 (by omega)
 obtain ⟨v1, hv1⟩ := eX (nuS bs (0, 0) 4)
 rw [hv1] at HC1 hbd1
 have HV1 := hid hv1
 clear hv1
 have hw1 : IntKind.i64.wrap v1.1 = v1.1 := by rw [IntKind.wrap_i64]; omega
 go_wp2_with fail
 refine HC1.out.mono ?_
 rintro e x1 ⟨rfl, hr, hf⟩
 have HX1 := hid (QK.call HS0.out hr hf)
 clear hr hf HC1
 have z10 := cR 10 (.int .i64 0) HX1.out.rw_
 have y10 := fZ 10 HX1.out.rw_
 go_upto_region 23 with fail
 obtain ⟨W2, hW2⟩ := eX (x1.setCell ⟨bx, 10, none⟩ (.int .i64 v1.1))
 have HW2 : Hid (QK w0 w b c q bs br bx W2 #[.int .i64 6, .string ⟨#[]⟩, .int .i64 0, .int .i64 0, .int .i64 0, .int .i64 0, .string ⟨#[]⟩, .slice none 0 0, .int .i64 0, .int .i64 0, .int .i64 v1.1, .slice none 0 0, .slice none 0 0] v1.2) := hid (by rw [← hW2]; exact QK.set HX1.out 10 (.int .i64 v1.1))
 rw [hW2]
 clear z10 y10
 clear hbd1 hw1
 have z0 := cR 0 (.int .i64 6) HW2.out.rw_
 have y0 := fZ 0 HW2.out.rw_
 have z1 := cR 1 (.string ⟨#[]⟩) HW2.out.rw_
 have y1 := fZ 1 HW2.out.rw_
 have z2 := cR 2 (.int .i64 0) HW2.out.rw_
 have y2 := fZ 2 HW2.out.rw_
 have z3 := cR 3 (.int .i64 0) HW2.out.rw_
 have y3 := fZ 3 HW2.out.rw_
 have z4 := cR 4 (.int .i64 0) HW2.out.rw_
 have y4 := fZ 4 HW2.out.rw_
 have z5 := cR 5 (.int .i64 0) HW2.out.rw_
 have y5 := fZ 5 HW2.out.rw_
 have z6 := cR 6 (.string ⟨#[]⟩) HW2.out.rw_
 have y6 := fZ 6 HW2.out.rw_
 have z7 := cR 7 (.slice none 0 0) HW2.out.rw_
 have y7 := fZ 7 HW2.out.rw_
 have z8 := cR 8 (.int .i64 0) HW2.out.rw_
 have y8 := fZ 8 HW2.out.rw_
 have z9 := cR 9 (.int .i64 0) HW2.out.rw_
 have y9 := fZ 9 HW2.out.rw_
 have z10 := cR 10 (.int .i64 v1.1) HW2.out.rw_
 have y10 := fZ 10 HW2.out.rw_
 have z11 := cR 11 (.slice none 0 0) HW2.out.rw_
 have y11 := fZ 11 HW2.out.rw_
 have z12 := cR 12 (.slice none 0 0) HW2.out.rw_
 have y12 := fZ 12 HW2.out.rw_
 have r0 := cR 0 (.int .i64 0) HW2.out.rb
 have s0 := fZ 0 HW2.out.rb
 have r1 := cR 1 (.string ⟨#[]⟩) HW2.out.rb
 have s1 := fZ 1 HW2.out.rb
 have r2 := cR 2 (.int .i64 0) HW2.out.rb
 have s2 := fZ 2 HW2.out.rb
 have r3 := cR 3 (.int .i64 0) HW2.out.rb
 have s3 := fZ 3 HW2.out.rb
 have r4 := cR 4 (.int .i64 0) HW2.out.rb
 have s4 := fZ 4 HW2.out.rb
 have r5 := cR 5 (.int .i64 0) HW2.out.rb
 have s5 := fZ 5 HW2.out.rb
 have r6 := cR 6 (.string ⟨#[]⟩) HW2.out.rb
 have s6 := fZ 6 HW2.out.rb
 have r7 := cR 7 (.slice none 0 0) HW2.out.rb
 have s7 := fZ 7 HW2.out.rb
 have r8 := cR 8 (.int .i64 0) HW2.out.rb
 have s8 := fZ 8 HW2.out.rb
 have r9 := cR 9 (.int .i64 0) HW2.out.rb
 have s9 := fZ 9 HW2.out.rb
 have r10 := cR 10 (.int .i64 0) HW2.out.rb
 have s10 := fZ 10 HW2.out.rb
 have r11 := cR 11 (.slice none 0 0) HW2.out.rb
 have s11 := fZ 11 HW2.out.rb
 have r12 := cR 12 (.slice none 0 0) HW2.out.rb
 have s12 := fZ 12 HW2.out.rb
 go_wp2_with fail
 obtain ⟨Wz, hwz, h5, f5⟩ := sE br 26 [(0, .int .i64 6), (1, .string ⟨#[]⟩), (2, .int .i64 0), (3, .int .i64 0), (4, .int .i64 0), (5, .int .i64 0), (6, .string ⟨#[]⟩), (7, .slice none 0 0), (8, .int .i64 0), (9, .int .i64 0), (10, .int .i64 v1.1), (11, .slice none 0 0), (12, .slice none 0 0)] W2 _ HW2.out.rb
 simp only [List.foldl, List.setIfInBounds_toArray, List.set_cons_zero, List.set_cons_succ] at h5
 simp only [setsF] at hwz
 have hWz := hwz
 rw [hwz]
 obtain ⟨hq1, hq2⟩ := HW2.out.fin f5
 have u0 := cR 0 (.int .i64 6) h5
 have u1 := cR 1 (.string ⟨#[]⟩) h5
 have u2 := cR 2 (.int .i64 0) h5
 have u3 := cR 3 (.int .i64 0) h5
 have u4 := cR 4 (.int .i64 0) h5
 have u5 := cR 5 (.int .i64 0) h5
 have u6 := cR 6 (.string ⟨#[]⟩) h5
 have u7 := cR 7 (.slice none 0 0) h5
 have u8 := cR 8 (.int .i64 0) h5
 have u9 := cR 9 (.int .i64 0) h5
 have u10 := cR 10 (.int .i64 v1.1) h5
 have u11 := cR 11 (.slice none 0 0) h5
 have u12 := cR 12 (.slice none 0 0) h5
 refine bodyPost_ret (v := .agg #[.int .i64 6, .string ⟨#[]⟩, .int .i64 0, .int .i64 0, .int .i64 0, .int .i64 0, .string ⟨#[]⟩, .slice none 0 0, .int .i64 0, .int .i64 0, .int .i64 v1.1, .slice none 0 0, .slice none 0 0]) (by simp [results, Tryz.results82, go_sem, u0, u1, u2, u3, u4, u5, u6, u7, u8, u9, u10, u11, u12]) rfl ?_
 refine HP.out _ _ ⟨⟨6, ⟨#[]⟩, 0, 0, 0, 0, ⟨#[]⟩, none, 0, 0, 0, 0, v1.1, none, 0, 0, none, 0, 0⟩, rfl, ?_, ?_, ?_, hq2⟩
 ·unfold tvCn TkV.rc Rc.core; rw [HV1.out]
 ·unfold tvCn; rw [HV1.out]; exact ⟨World.ownsRow_nil _ _ _ _, rfl, by simp [blk], World.ownsRow_nil _ _ _ _, rfl, by simp [blk], Own.nil _ _, rfl, by simp [blk], by simp, by simp, by simp⟩
 ·unfold tvCn; rw [HV1.out]; exact hq1
theorem told_7 (w0 w : World) (b c : Nat) (q : Option Addr) (bs : List Int) (hb : ∀ z ∈ bs, 0 ≤ z ∧ z < 256) (hl : bs.length ≤ 2048) (h : QrR w0 w b q c bs (0, 0)) :
  Calls Tryz.prog 82 #[.int .i64 7, .pointer (some ⟨b, 0, none⟩)] w (TolP w0 w b c q bs 7 (tvCn bs)) := by
 obtain ⟨PO, hPO⟩ : ∃ PO : Ending → World → Prop, TolP w0 w b c q bs 7 (tvCn bs) = PO := ⟨_, rfl⟩
 rw [hPO]
 have HP := hid (show ∀ e w', TolP w0 w b c q bs 7 (tvCn bs) e w' → PO e w' from fun e w' h => by rw [← hPO]; exact h)
 have HB := hid hb
 have HL := hid hl
 have hbn := QK.born h #[.int .i64 7, .string ⟨#[]⟩, .int .i64 0, .int .i64 0, .int .i64 0, .int .i64 0, .string ⟨#[]⟩, .slice none 0 0, .int .i64 0, .int .i64 0, .int .i64 0, .slice none 0 0, .slice none 0 0]
 have hbl : ∀ V, (Instr.build 26 #[(0, .int .i64 7)]).run Tryz.prog V = .ok (.agg #[.int .i64 7, .string ⟨#[]⟩, .int .i64 0, .int .i64 0, .int .i64 0, .int .i64 0, .string ⟨#[]⟩, .slice none 0 0, .int .i64 0, .int .i64 0, .int .i64 0, .slice none 0 0, .slice none 0 0]) V := fun V => run_build V _ _ _ (by kernel_rfl)
 obtain ⟨wm, hwm⟩ := eX (w.alloc (.cells #[.int .i64 0, .string ⟨#[]⟩, .int .i64 0, .int .i64 0, .int .i64 0, .int .i64 0, .string ⟨#[]⟩, .slice none 0 0, .int .i64 0, .int .i64 0, .int .i64 0, .slice none 0 0, .slice none 0 0] 26))
 rw [hwm] at hbn
 obtain ⟨wx, hwx⟩ := eX (wm.alloc (.cells #[.int .i64 7, .string ⟨#[]⟩, .int .i64 0, .int .i64 0, .int .i64 0, .int .i64 0, .string ⟨#[]⟩, .slice none 0 0, .int .i64 0, .int .i64 0, .int .i64 0, .slice none 0 0, .slice none 0 0] 26))
 obtain ⟨br, hbr⟩ := eX (w.heap.size)
 obtain ⟨bx, hbx⟩ := eX (wm.heap.size)
 have hb1 : br + 1 = bx := by rw [← hbx, ← hwm, ← hbr]; simp
 rw [hwx, hbr, hb1] at hbn
 have HS0 := hid hbn
 have HWM := hid hwm
 have HWX := hid hwx
 have HBR := hid hbr
 have HBX := hid hbx
 have HB1 := hid hb1
 clear hb hl h hPO hbn hwm hwx hbr hbx hb1
 go_enter Tryz.func82, Tryz.ntmps82
 go_upto_region 1 with fail
 try rw [HWM.out]
 try rw [HBR.out]
 go_upto_region 2 with fail
 try rw [HWX.out]
 try rw [HBX.out]
 clear HWM HWX HBR HBX HB1 hbl
 have HC1 := hid (qn_any w0 wx b c q bs HB.out (0, 0) HS0.out.fr 4 (by omega) (by omega))
 have hbd1 := nuS_bd HB.out (0, 0) 4 (by omega)
 obtain ⟨v1, hv1⟩ := eX (nuS bs (0, 0) 4)
 rw [hv1] at HC1 hbd1
 have HV1 := hid hv1
 clear hv1
 have hw1 : IntKind.i64.wrap v1.1 = v1.1 := by rw [IntKind.wrap_i64]; omega
 go_wp2_with fail
 refine HC1.out.mono ?_
 rintro e x1 ⟨rfl, hr, hf⟩
 have HX1 := hid (QK.call HS0.out hr hf)
 clear hr hf HC1
 have z10 := cR 10 (.int .i64 0) HX1.out.rw_
 have y10 := fZ 10 HX1.out.rw_
 go_upto_region 23 with fail
 obtain ⟨W2, hW2⟩ := eX (x1.setCell ⟨bx, 10, none⟩ (.int .i64 v1.1))
 have HW2 : Hid (QK w0 w b c q bs br bx W2 #[.int .i64 7, .string ⟨#[]⟩, .int .i64 0, .int .i64 0, .int .i64 0, .int .i64 0, .string ⟨#[]⟩, .slice none 0 0, .int .i64 0, .int .i64 0, .int .i64 v1.1, .slice none 0 0, .slice none 0 0] v1.2) := hid (by rw [← hW2]; exact QK.set HX1.out 10 (.int .i64 v1.1))
 rw [hW2]
 clear z10 y10
 clear hbd1 hw1
 have z0 := cR 0 (.int .i64 7) HW2.out.rw_
 have y0 := fZ 0 HW2.out.rw_
 have z1 := cR 1 (.string ⟨#[]⟩) HW2.out.rw_
 have y1 := fZ 1 HW2.out.rw_
 have z2 := cR 2 (.int .i64 0) HW2.out.rw_
 have y2 := fZ 2 HW2.out.rw_
 have z3 := cR 3 (.int .i64 0) HW2.out.rw_
 have y3 := fZ 3 HW2.out.rw_
 have z4 := cR 4 (.int .i64 0) HW2.out.rw_
 have y4 := fZ 4 HW2.out.rw_
 have z5 := cR 5 (.int .i64 0) HW2.out.rw_
 have y5 := fZ 5 HW2.out.rw_
 have z6 := cR 6 (.string ⟨#[]⟩) HW2.out.rw_
 have y6 := fZ 6 HW2.out.rw_
 have z7 := cR 7 (.slice none 0 0) HW2.out.rw_
 have y7 := fZ 7 HW2.out.rw_
 have z8 := cR 8 (.int .i64 0) HW2.out.rw_
 have y8 := fZ 8 HW2.out.rw_
 have z9 := cR 9 (.int .i64 0) HW2.out.rw_
 have y9 := fZ 9 HW2.out.rw_
 have z10 := cR 10 (.int .i64 v1.1) HW2.out.rw_
 have y10 := fZ 10 HW2.out.rw_
 have z11 := cR 11 (.slice none 0 0) HW2.out.rw_
 have y11 := fZ 11 HW2.out.rw_
 have z12 := cR 12 (.slice none 0 0) HW2.out.rw_
 have y12 := fZ 12 HW2.out.rw_
 have r0 := cR 0 (.int .i64 0) HW2.out.rb
 have s0 := fZ 0 HW2.out.rb
 have r1 := cR 1 (.string ⟨#[]⟩) HW2.out.rb
 have s1 := fZ 1 HW2.out.rb
 have r2 := cR 2 (.int .i64 0) HW2.out.rb
 have s2 := fZ 2 HW2.out.rb
 have r3 := cR 3 (.int .i64 0) HW2.out.rb
 have s3 := fZ 3 HW2.out.rb
 have r4 := cR 4 (.int .i64 0) HW2.out.rb
 have s4 := fZ 4 HW2.out.rb
 have r5 := cR 5 (.int .i64 0) HW2.out.rb
 have s5 := fZ 5 HW2.out.rb
 have r6 := cR 6 (.string ⟨#[]⟩) HW2.out.rb
 have s6 := fZ 6 HW2.out.rb
 have r7 := cR 7 (.slice none 0 0) HW2.out.rb
 have s7 := fZ 7 HW2.out.rb
 have r8 := cR 8 (.int .i64 0) HW2.out.rb
 have s8 := fZ 8 HW2.out.rb
 have r9 := cR 9 (.int .i64 0) HW2.out.rb
 have s9 := fZ 9 HW2.out.rb
 have r10 := cR 10 (.int .i64 0) HW2.out.rb
 have s10 := fZ 10 HW2.out.rb
 have r11 := cR 11 (.slice none 0 0) HW2.out.rb
 have s11 := fZ 11 HW2.out.rb
 have r12 := cR 12 (.slice none 0 0) HW2.out.rb
 have s12 := fZ 12 HW2.out.rb
 go_wp2_with fail
 obtain ⟨Wz, hwz, h5, f5⟩ := sE br 26 [(0, .int .i64 7), (1, .string ⟨#[]⟩), (2, .int .i64 0), (3, .int .i64 0), (4, .int .i64 0), (5, .int .i64 0), (6, .string ⟨#[]⟩), (7, .slice none 0 0), (8, .int .i64 0), (9, .int .i64 0), (10, .int .i64 v1.1), (11, .slice none 0 0), (12, .slice none 0 0)] W2 _ HW2.out.rb
 simp only [List.foldl, List.setIfInBounds_toArray, List.set_cons_zero, List.set_cons_succ] at h5
 simp only [setsF] at hwz
 have hWz := hwz
 rw [hwz]
 obtain ⟨hq1, hq2⟩ := HW2.out.fin f5
 have u0 := cR 0 (.int .i64 7) h5
 have u1 := cR 1 (.string ⟨#[]⟩) h5
 have u2 := cR 2 (.int .i64 0) h5
 have u3 := cR 3 (.int .i64 0) h5
 have u4 := cR 4 (.int .i64 0) h5
 have u5 := cR 5 (.int .i64 0) h5
 have u6 := cR 6 (.string ⟨#[]⟩) h5
 have u7 := cR 7 (.slice none 0 0) h5
 have u8 := cR 8 (.int .i64 0) h5
 have u9 := cR 9 (.int .i64 0) h5
 have u10 := cR 10 (.int .i64 v1.1) h5
 have u11 := cR 11 (.slice none 0 0) h5
 have u12 := cR 12 (.slice none 0 0) h5
 refine bodyPost_ret (v := .agg #[.int .i64 7, .string ⟨#[]⟩, .int .i64 0, .int .i64 0, .int .i64 0, .int .i64 0, .string ⟨#[]⟩, .slice none 0 0, .int .i64 0, .int .i64 0, .int .i64 v1.1, .slice none 0 0, .slice none 0 0]) (by simp [results, Tryz.results82, go_sem, u0, u1, u2, u3, u4, u5, u6, u7, u8, u9, u10, u11, u12]) rfl ?_
 refine HP.out _ _ ⟨⟨7, ⟨#[]⟩, 0, 0, 0, 0, ⟨#[]⟩, none, 0, 0, 0, 0, v1.1, none, 0, 0, none, 0, 0⟩, rfl, ?_, ?_, ?_, hq2⟩
 ·unfold tvCn TkV.rc Rc.core; rw [HV1.out]
 ·unfold tvCn; rw [HV1.out]; exact ⟨World.ownsRow_nil _ _ _ _, rfl, by simp [blk], World.ownsRow_nil _ _ _ _, rfl, by simp [blk], Own.nil _ _, rfl, by simp [blk], by simp, by simp, by simp⟩
 ·unfold tvCn; rw [HV1.out]; exact hq1
theorem told_3 (w0 w : World) (b c : Nat) (q : Option Addr) (bs : List Int) (hb : ∀ z ∈ bs, 0 ≤ z ∧ z < 256) (hl : bs.length ≤ 2048) (h : QrR w0 w b q c bs (0, 0)) :
  Calls Tryz.prog 82 #[.int .i64 3, .pointer (some ⟨b, 0, none⟩)] w (TolP w0 w b c q bs 3 (tdLv bs)) := by
 obtain ⟨PO, hPO⟩ : ∃ PO : Ending → World → Prop, TolP w0 w b c q bs 3 (tdLv bs) = PO := ⟨_, rfl⟩
 rw [hPO]
 have HP := hid (show ∀ e w', TolP w0 w b c q bs 3 (tdLv bs) e w' → PO e w' from fun e w' h => by rw [← hPO]; exact h)
 have HB := hid hb
 have HL := hid hl
 have hbn := QK.born h #[.int .i64 3, .string ⟨#[]⟩, .int .i64 0, .int .i64 0, .int .i64 0, .int .i64 0, .string ⟨#[]⟩, .slice none 0 0, .int .i64 0, .int .i64 0, .int .i64 0, .slice none 0 0, .slice none 0 0]
 have hbl : ∀ V, (Instr.build 26 #[(0, .int .i64 3)]).run Tryz.prog V = .ok (.agg #[.int .i64 3, .string ⟨#[]⟩, .int .i64 0, .int .i64 0, .int .i64 0, .int .i64 0, .string ⟨#[]⟩, .slice none 0 0, .int .i64 0, .int .i64 0, .int .i64 0, .slice none 0 0, .slice none 0 0]) V := fun V => run_build V _ _ _ (by kernel_rfl)
 obtain ⟨wm, hwm⟩ := eX (w.alloc (.cells #[.int .i64 0, .string ⟨#[]⟩, .int .i64 0, .int .i64 0, .int .i64 0, .int .i64 0, .string ⟨#[]⟩, .slice none 0 0, .int .i64 0, .int .i64 0, .int .i64 0, .slice none 0 0, .slice none 0 0] 26))
 rw [hwm] at hbn
 obtain ⟨wx, hwx⟩ := eX (wm.alloc (.cells #[.int .i64 3, .string ⟨#[]⟩, .int .i64 0, .int .i64 0, .int .i64 0, .int .i64 0, .string ⟨#[]⟩, .slice none 0 0, .int .i64 0, .int .i64 0, .int .i64 0, .slice none 0 0, .slice none 0 0] 26))
 obtain ⟨br, hbr⟩ := eX (w.heap.size)
 obtain ⟨bx, hbx⟩ := eX (wm.heap.size)
 have hb1 : br + 1 = bx := by rw [← hbx, ← hwm, ← hbr]; simp
 rw [hwx, hbr, hb1] at hbn
 have HS0 := hid hbn
 have HWM := hid hwm
 have HWX := hid hwx
 have HBR := hid hbr
 have HBX := hid hbx
 have HB1 := hid hb1
 clear hb hl h hPO hbn hwm hwx hbr hbx hb1
 go_enter Tryz.func82, Tryz.ntmps82
 go_upto_region 1 with fail
 try rw [HWM.out]
 try rw [HBR.out]
 go_upto_region 2 with fail
 try rw [HWX.out]
 try rw [HBX.out]
 clear HWM HWX HBR HBX HB1 hbl
 have HC1 := hid (keepD_any w0 wx b c q bs HB.out (0, 0) HS0.out.fr 4 0 (by omega) (by omega) (by omega) (by omega))
 obtain ⟨v1, hv1⟩ := eX (tkD bs 0 4 (0, 0))
 have hnb : (tkD bs 0 4 (0, 0)).1.length ≤ 241 := by unfold tkD; rw [kpS_len]; unfold kpM; omega
 rw [hv1] at HC1 hnb
 have HV1 := hid hv1
 clear hv1
 go_wp2_with fail
 refine HC1.out.mono ?_
 rintro e x1 ⟨p1, n1, c1, rfl, hn, ho, hnw, hr, hf⟩
 have HX1 := hid (QK.call HS0.out hr hf)
 have HO1 := hid ho
 have HN1 := hid hn
 have HNW1 : Hid (∀ k ∈ blk p1, w.heap.size ≤ k ∧ k ≠ bx ∧ k ≠ br) := hid (fun k hk => by have h1 := hnw k hk; have h2 := HS0.out.frm.size; have h3 := lt_of_heap HS0.out.rw_; have h4 := lt_of_heap HS0.out.rb; exact ⟨by omega, by omega, by omega⟩)
 have HNB1 : Hid (n1 ≤ 100000) := hid (by omega)
 clear ho hn hnw hr hf HC1 hnb
 have z11 := cR 11 (.slice none 0 0) HX1.out.rw_
 have y11 := fZ 11 HX1.out.rw_
 go_upto_region 23 with fail
 obtain ⟨W2, hW2⟩ := eX (x1.setCell ⟨bx, 11, none⟩ (.slice p1 n1 c1))
 have HW2 : Hid (QK w0 w b c q bs br bx W2 #[.int .i64 3, .string ⟨#[]⟩, .int .i64 0, .int .i64 0, .int .i64 0, .int .i64 0, .string ⟨#[]⟩, .slice none 0 0, .int .i64 0, .int .i64 0, .int .i64 0, .slice p1 n1 c1, .slice none 0 0] v1.2) := hid (by rw [← hW2]; exact QK.set HX1.out 11 (.slice p1 n1 c1))
 rw [hW2]
 have HO12 := hid (ownsRow_kept HO1.out (show Frm [bx] x1 W2 by rw [← hW2]; exact (Frm.refl [bx] x1).setCell _ _ (by simp)) (fun k hk hm => by rw [List.mem_singleton] at hm; exact (HNW1.out k hk).2.1 hm))
 clear z11 y11
 have z0 := cR 0 (.int .i64 3) HW2.out.rw_
 have y0 := fZ 0 HW2.out.rw_
 have z1 := cR 1 (.string ⟨#[]⟩) HW2.out.rw_
 have y1 := fZ 1 HW2.out.rw_
 have z2 := cR 2 (.int .i64 0) HW2.out.rw_
 have y2 := fZ 2 HW2.out.rw_
 have z3 := cR 3 (.int .i64 0) HW2.out.rw_
 have y3 := fZ 3 HW2.out.rw_
 have z4 := cR 4 (.int .i64 0) HW2.out.rw_
 have y4 := fZ 4 HW2.out.rw_
 have z5 := cR 5 (.int .i64 0) HW2.out.rw_
 have y5 := fZ 5 HW2.out.rw_
 have z6 := cR 6 (.string ⟨#[]⟩) HW2.out.rw_
 have y6 := fZ 6 HW2.out.rw_
 have z7 := cR 7 (.slice none 0 0) HW2.out.rw_
 have y7 := fZ 7 HW2.out.rw_
 have z8 := cR 8 (.int .i64 0) HW2.out.rw_
 have y8 := fZ 8 HW2.out.rw_
 have z9 := cR 9 (.int .i64 0) HW2.out.rw_
 have y9 := fZ 9 HW2.out.rw_
 have z10 := cR 10 (.int .i64 0) HW2.out.rw_
 have y10 := fZ 10 HW2.out.rw_
 have z11 := cR 11 (.slice p1 n1 c1) HW2.out.rw_
 have y11 := fZ 11 HW2.out.rw_
 have z12 := cR 12 (.slice none 0 0) HW2.out.rw_
 have y12 := fZ 12 HW2.out.rw_
 have r0 := cR 0 (.int .i64 0) HW2.out.rb
 have s0 := fZ 0 HW2.out.rb
 have r1 := cR 1 (.string ⟨#[]⟩) HW2.out.rb
 have s1 := fZ 1 HW2.out.rb
 have r2 := cR 2 (.int .i64 0) HW2.out.rb
 have s2 := fZ 2 HW2.out.rb
 have r3 := cR 3 (.int .i64 0) HW2.out.rb
 have s3 := fZ 3 HW2.out.rb
 have r4 := cR 4 (.int .i64 0) HW2.out.rb
 have s4 := fZ 4 HW2.out.rb
 have r5 := cR 5 (.int .i64 0) HW2.out.rb
 have s5 := fZ 5 HW2.out.rb
 have r6 := cR 6 (.string ⟨#[]⟩) HW2.out.rb
 have s6 := fZ 6 HW2.out.rb
 have r7 := cR 7 (.slice none 0 0) HW2.out.rb
 have s7 := fZ 7 HW2.out.rb
 have r8 := cR 8 (.int .i64 0) HW2.out.rb
 have s8 := fZ 8 HW2.out.rb
 have r9 := cR 9 (.int .i64 0) HW2.out.rb
 have s9 := fZ 9 HW2.out.rb
 have r10 := cR 10 (.int .i64 0) HW2.out.rb
 have s10 := fZ 10 HW2.out.rb
 have r11 := cR 11 (.slice none 0 0) HW2.out.rb
 have s11 := fZ 11 HW2.out.rb
 have r12 := cR 12 (.slice none 0 0) HW2.out.rb
 have s12 := fZ 12 HW2.out.rb
 go_wp2_with fail
 obtain ⟨Wz, hwz, h5, f5⟩ := sE br 26 [(0, .int .i64 3), (1, .string ⟨#[]⟩), (2, .int .i64 0), (3, .int .i64 0), (4, .int .i64 0), (5, .int .i64 0), (6, .string ⟨#[]⟩), (7, .slice none 0 0), (8, .int .i64 0), (9, .int .i64 0), (10, .int .i64 0), (11, .slice p1 n1 c1), (12, .slice none 0 0)] W2 _ HW2.out.rb
 simp only [List.foldl, List.setIfInBounds_toArray, List.set_cons_zero, List.set_cons_succ] at h5
 simp only [setsF] at hwz
 have hWz := hwz
 rw [hwz]
 obtain ⟨hq1, hq2⟩ := HW2.out.fin f5
 have u0 := cR 0 (.int .i64 3) h5
 have u1 := cR 1 (.string ⟨#[]⟩) h5
 have u2 := cR 2 (.int .i64 0) h5
 have u3 := cR 3 (.int .i64 0) h5
 have u4 := cR 4 (.int .i64 0) h5
 have u5 := cR 5 (.int .i64 0) h5
 have u6 := cR 6 (.string ⟨#[]⟩) h5
 have u7 := cR 7 (.slice none 0 0) h5
 have u8 := cR 8 (.int .i64 0) h5
 have u9 := cR 9 (.int .i64 0) h5
 have u10 := cR 10 (.int .i64 0) h5
 have u11 := cR 11 (.slice p1 n1 c1) h5
 have u12 := cR 12 (.slice none 0 0) h5
 refine bodyPost_ret (v := .agg #[.int .i64 3, .string ⟨#[]⟩, .int .i64 0, .int .i64 0, .int .i64 0, .int .i64 0, .string ⟨#[]⟩, .slice none 0 0, .int .i64 0, .int .i64 0, .int .i64 0, .slice p1 n1 c1, .slice none 0 0]) (by simp [results, Tryz.results82, go_sem, u0, u1, u2, u3, u4, u5, u6, u7, u8, u9, u10, u11, u12]) rfl ?_
 refine HP.out _ _ ⟨⟨3, ⟨#[]⟩, 0, 0, 0, 0, ⟨#[]⟩, none, 0, 0, 0, 0, 0, p1, n1, c1, none, 0, 0⟩, rfl, ?_, ?_, ?_, hq2⟩
 ·unfold tdLv TkV.rc Rc.core; rw [HV1.out]
 ·unfold tdLv; rw [HV1.out]; exact ⟨World.ownsRow_nil _ _ _ _, rfl, by simp [blk], ownsRow_kept HO12.out f5 (fun k hk hm => by rw [List.mem_singleton] at hm; exact (HNW1.out k hk).2.2 hm), HN1.out, fun k hk => (HNW1.out k hk).1, Own.nil _ _, rfl, by simp [blk], by simp, by simp, HNB1.out⟩
 ·unfold tdLv; rw [HV1.out]; exact hq1
theorem told_4 (w0 w : World) (b c : Nat) (q : Option Addr) (bs : List Int) (hb : ∀ z ∈ bs, 0 ≤ z ∧ z < 256) (hl : bs.length ≤ 2048) (h : QrR w0 w b q c bs (0, 0)) :
  Calls Tryz.prog 82 #[.int .i64 4, .pointer (some ⟨b, 0, none⟩)] w (TolP w0 w b c q bs 4 (tdNd bs)) := by
 obtain ⟨PO, hPO⟩ : ∃ PO : Ending → World → Prop, TolP w0 w b c q bs 4 (tdNd bs) = PO := ⟨_, rfl⟩
 rw [hPO]
 have HP := hid (show ∀ e w', TolP w0 w b c q bs 4 (tdNd bs) e w' → PO e w' from fun e w' h => by rw [← hPO]; exact h)
 have HB := hid hb
 have HL := hid hl
 have hbn := QK.born h #[.int .i64 4, .string ⟨#[]⟩, .int .i64 0, .int .i64 0, .int .i64 0, .int .i64 0, .string ⟨#[]⟩, .slice none 0 0, .int .i64 0, .int .i64 0, .int .i64 0, .slice none 0 0, .slice none 0 0]
 have hbl : ∀ V, (Instr.build 26 #[(0, .int .i64 4)]).run Tryz.prog V = .ok (.agg #[.int .i64 4, .string ⟨#[]⟩, .int .i64 0, .int .i64 0, .int .i64 0, .int .i64 0, .string ⟨#[]⟩, .slice none 0 0, .int .i64 0, .int .i64 0, .int .i64 0, .slice none 0 0, .slice none 0 0]) V := fun V => run_build V _ _ _ (by kernel_rfl)
 obtain ⟨wm, hwm⟩ := eX (w.alloc (.cells #[.int .i64 0, .string ⟨#[]⟩, .int .i64 0, .int .i64 0, .int .i64 0, .int .i64 0, .string ⟨#[]⟩, .slice none 0 0, .int .i64 0, .int .i64 0, .int .i64 0, .slice none 0 0, .slice none 0 0] 26))
 rw [hwm] at hbn
 obtain ⟨wx, hwx⟩ := eX (wm.alloc (.cells #[.int .i64 4, .string ⟨#[]⟩, .int .i64 0, .int .i64 0, .int .i64 0, .int .i64 0, .string ⟨#[]⟩, .slice none 0 0, .int .i64 0, .int .i64 0, .int .i64 0, .slice none 0 0, .slice none 0 0] 26))
 obtain ⟨br, hbr⟩ := eX (w.heap.size)
 obtain ⟨bx, hbx⟩ := eX (wm.heap.size)
 have hb1 : br + 1 = bx := by rw [← hbx, ← hwm, ← hbr]; simp
 rw [hwx, hbr, hb1] at hbn
 have HS0 := hid hbn
 have HWM := hid hwm
 have HWX := hid hwx
 have HBR := hid hbr
 have HBX := hid hbx
 have HB1 := hid hb1
 clear hb hl h hPO hbn hwm hwx hbr hbx hb1
 go_enter Tryz.func82, Tryz.ntmps82
 go_upto_region 1 with fail
 try rw [HWM.out]
 try rw [HBR.out]
 go_upto_region 2 with fail
 try rw [HWX.out]
 try rw [HBX.out]
 clear HWM HWX HBR HBX HB1 hbl
 have HC1 := hid (qn_any w0 wx b c q bs HB.out (0, 0) HS0.out.fr 4 (by omega) (by omega))
 have hbd1 := nuS_bd HB.out (0, 0) 4 (by omega)
 obtain ⟨v1, hv1⟩ := eX (nuS bs (0, 0) 4)
 rw [hv1] at HC1 hbd1
 have HV1 := hid hv1
 clear hv1
 have hw1 : IntKind.i64.wrap v1.1 = v1.1 := by rw [IntKind.wrap_i64]; omega
 go_wp2_with fail
 refine HC1.out.mono ?_
 rintro e x1 ⟨rfl, hr, hf⟩
 have HX1 := hid (QK.call HS0.out hr hf)
 clear hr hf HC1
 have z8 := cR 8 (.int .i64 0) HX1.out.rw_
 have y8 := fZ 8 HX1.out.rw_
 go_upto_region 16 with fail
 obtain ⟨W2, hW2⟩ := eX (x1.setCell ⟨bx, 8, none⟩ (.int .i64 v1.1))
 have HW2 : Hid (QK w0 w b c q bs br bx W2 #[.int .i64 4, .string ⟨#[]⟩, .int .i64 0, .int .i64 0, .int .i64 0, .int .i64 0, .string ⟨#[]⟩, .slice none 0 0, .int .i64 v1.1, .int .i64 0, .int .i64 0, .slice none 0 0, .slice none 0 0] v1.2) := hid (by rw [← hW2]; exact QK.set HX1.out 8 (.int .i64 v1.1))
 rw [hW2]
 clear z8 y8
 have HC3 := hid (keepD_any w0 W2 b c q bs HB.out v1.2 HW2.out.fr 2 1 (by omega) (by omega) (by omega) (by omega))
 obtain ⟨v3, hv3⟩ := eX (tkD bs 1 2 v1.2)
 have hnb : (tkD bs 1 2 v1.2).1.length ≤ 241 := by unfold tkD; rw [kpS_len]; unfold kpM; omega
 rw [hv3] at HC3 hnb
 have HV3 := hid hv3
 clear hv3
 go_wp2_with fail
 refine HC3.out.mono ?_
 rintro e x3 ⟨p3, n3, c3, rfl, hn, ho, hnw, hr, hf⟩
 have HX3 := hid (QK.call HW2.out hr hf)
 have HO3 := hid ho
 have HN3 := hid hn
 have HNW3 : Hid (∀ k ∈ blk p3, w.heap.size ≤ k ∧ k ≠ bx ∧ k ≠ br) := hid (fun k hk => by have h1 := hnw k hk; have h2 := HW2.out.frm.size; have h3 := lt_of_heap HW2.out.rw_; have h4 := lt_of_heap HW2.out.rb; exact ⟨by omega, by omega, by omega⟩)
 have HNB3 : Hid (n3 ≤ 100000) := hid (by omega)
 clear ho hn hnw hr hf HC3 hnb
 have z11 := cR 11 (.slice none 0 0) HX3.out.rw_
 have y11 := fZ 11 HX3.out.rw_
 go_upto_region 23 with fail
 obtain ⟨W4, hW4⟩ := eX (x3.setCell ⟨bx, 11, none⟩ (.slice p3 n3 c3))
 have HW4 : Hid (QK w0 w b c q bs br bx W4 #[.int .i64 4, .string ⟨#[]⟩, .int .i64 0, .int .i64 0, .int .i64 0, .int .i64 0, .string ⟨#[]⟩, .slice none 0 0, .int .i64 v1.1, .int .i64 0, .int .i64 0, .slice p3 n3 c3, .slice none 0 0] v3.2) := hid (by rw [← hW4]; exact QK.set HX3.out 11 (.slice p3 n3 c3))
 rw [hW4]
 have HO34 := hid (ownsRow_kept HO3.out (show Frm [bx] x3 W4 by rw [← hW4]; exact (Frm.refl [bx] x3).setCell _ _ (by simp)) (fun k hk hm => by rw [List.mem_singleton] at hm; exact (HNW3.out k hk).2.1 hm))
 clear z11 y11
 clear hbd1 hw1
 have z0 := cR 0 (.int .i64 4) HW4.out.rw_
 have y0 := fZ 0 HW4.out.rw_
 have z1 := cR 1 (.string ⟨#[]⟩) HW4.out.rw_
 have y1 := fZ 1 HW4.out.rw_
 have z2 := cR 2 (.int .i64 0) HW4.out.rw_
 have y2 := fZ 2 HW4.out.rw_
 have z3 := cR 3 (.int .i64 0) HW4.out.rw_
 have y3 := fZ 3 HW4.out.rw_
 have z4 := cR 4 (.int .i64 0) HW4.out.rw_
 have y4 := fZ 4 HW4.out.rw_
 have z5 := cR 5 (.int .i64 0) HW4.out.rw_
 have y5 := fZ 5 HW4.out.rw_
 have z6 := cR 6 (.string ⟨#[]⟩) HW4.out.rw_
 have y6 := fZ 6 HW4.out.rw_
 have z7 := cR 7 (.slice none 0 0) HW4.out.rw_
 have y7 := fZ 7 HW4.out.rw_
 have z8 := cR 8 (.int .i64 v1.1) HW4.out.rw_
 have y8 := fZ 8 HW4.out.rw_
 have z9 := cR 9 (.int .i64 0) HW4.out.rw_
 have y9 := fZ 9 HW4.out.rw_
 have z10 := cR 10 (.int .i64 0) HW4.out.rw_
 have y10 := fZ 10 HW4.out.rw_
 have z11 := cR 11 (.slice p3 n3 c3) HW4.out.rw_
 have y11 := fZ 11 HW4.out.rw_
 have z12 := cR 12 (.slice none 0 0) HW4.out.rw_
 have y12 := fZ 12 HW4.out.rw_
 have r0 := cR 0 (.int .i64 0) HW4.out.rb
 have s0 := fZ 0 HW4.out.rb
 have r1 := cR 1 (.string ⟨#[]⟩) HW4.out.rb
 have s1 := fZ 1 HW4.out.rb
 have r2 := cR 2 (.int .i64 0) HW4.out.rb
 have s2 := fZ 2 HW4.out.rb
 have r3 := cR 3 (.int .i64 0) HW4.out.rb
 have s3 := fZ 3 HW4.out.rb
 have r4 := cR 4 (.int .i64 0) HW4.out.rb
 have s4 := fZ 4 HW4.out.rb
 have r5 := cR 5 (.int .i64 0) HW4.out.rb
 have s5 := fZ 5 HW4.out.rb
 have r6 := cR 6 (.string ⟨#[]⟩) HW4.out.rb
 have s6 := fZ 6 HW4.out.rb
 have r7 := cR 7 (.slice none 0 0) HW4.out.rb
 have s7 := fZ 7 HW4.out.rb
 have r8 := cR 8 (.int .i64 0) HW4.out.rb
 have s8 := fZ 8 HW4.out.rb
 have r9 := cR 9 (.int .i64 0) HW4.out.rb
 have s9 := fZ 9 HW4.out.rb
 have r10 := cR 10 (.int .i64 0) HW4.out.rb
 have s10 := fZ 10 HW4.out.rb
 have r11 := cR 11 (.slice none 0 0) HW4.out.rb
 have s11 := fZ 11 HW4.out.rb
 have r12 := cR 12 (.slice none 0 0) HW4.out.rb
 have s12 := fZ 12 HW4.out.rb
 go_wp2_with fail
 obtain ⟨Wz, hwz, h5, f5⟩ := sE br 26 [(0, .int .i64 4), (1, .string ⟨#[]⟩), (2, .int .i64 0), (3, .int .i64 0), (4, .int .i64 0), (5, .int .i64 0), (6, .string ⟨#[]⟩), (7, .slice none 0 0), (8, .int .i64 v1.1), (9, .int .i64 0), (10, .int .i64 0), (11, .slice p3 n3 c3), (12, .slice none 0 0)] W4 _ HW4.out.rb
 simp only [List.foldl, List.setIfInBounds_toArray, List.set_cons_zero, List.set_cons_succ] at h5
 simp only [setsF] at hwz
 have hWz := hwz
 rw [hwz]
 obtain ⟨hq1, hq2⟩ := HW4.out.fin f5
 have u0 := cR 0 (.int .i64 4) h5
 have u1 := cR 1 (.string ⟨#[]⟩) h5
 have u2 := cR 2 (.int .i64 0) h5
 have u3 := cR 3 (.int .i64 0) h5
 have u4 := cR 4 (.int .i64 0) h5
 have u5 := cR 5 (.int .i64 0) h5
 have u6 := cR 6 (.string ⟨#[]⟩) h5
 have u7 := cR 7 (.slice none 0 0) h5
 have u8 := cR 8 (.int .i64 v1.1) h5
 have u9 := cR 9 (.int .i64 0) h5
 have u10 := cR 10 (.int .i64 0) h5
 have u11 := cR 11 (.slice p3 n3 c3) h5
 have u12 := cR 12 (.slice none 0 0) h5
 refine bodyPost_ret (v := .agg #[.int .i64 4, .string ⟨#[]⟩, .int .i64 0, .int .i64 0, .int .i64 0, .int .i64 0, .string ⟨#[]⟩, .slice none 0 0, .int .i64 v1.1, .int .i64 0, .int .i64 0, .slice p3 n3 c3, .slice none 0 0]) (by simp [results, Tryz.results82, go_sem, u0, u1, u2, u3, u4, u5, u6, u7, u8, u9, u10, u11, u12]) rfl ?_
 refine HP.out _ _ ⟨⟨4, ⟨#[]⟩, 0, 0, 0, 0, ⟨#[]⟩, none, 0, 0, v1.1, 0, 0, p3, n3, c3, none, 0, 0⟩, rfl, ?_, ?_, ?_, hq2⟩
 ·unfold tdNd TkV.rc Rc.core; rw [HV1.out, HV3.out]
 ·unfold tdNd; rw [HV1.out, HV3.out]; exact ⟨World.ownsRow_nil _ _ _ _, rfl, by simp [blk], ownsRow_kept HO34.out f5 (fun k hk hm => by rw [List.mem_singleton] at hm; exact (HNW3.out k hk).2.2 hm), HN3.out, fun k hk => (HNW3.out k hk).1, Own.nil _ _, rfl, by simp [blk], by simp, by simp, HNB3.out⟩
 ·unfold tdNd; rw [HV1.out, HV3.out]; exact hq1
theorem told_5 (w0 w : World) (b c : Nat) (q : Option Addr) (bs : List Int) (hb : ∀ z ∈ bs, 0 ≤ z ∧ z < 256) (hl : bs.length ≤ 2048) (h : QrR w0 w b q c bs (0, 0)) :
  Calls Tryz.prog 82 #[.int .i64 5, .pointer (some ⟨b, 0, none⟩)] w (TolP w0 w b c q bs 5 (tvWr bs)) := by
 obtain ⟨PO, hPO⟩ : ∃ PO : Ending → World → Prop, TolP w0 w b c q bs 5 (tvWr bs) = PO := ⟨_, rfl⟩
 rw [hPO]
 have HP := hid (show ∀ e w', TolP w0 w b c q bs 5 (tvWr bs) e w' → PO e w' from fun e w' h => by rw [← hPO]; exact h)
 have HB := hid hb
 have HL := hid hl
 have hbn := QK.born h #[.int .i64 5, .string ⟨#[]⟩, .int .i64 0, .int .i64 0, .int .i64 0, .int .i64 0, .string ⟨#[]⟩, .slice none 0 0, .int .i64 0, .int .i64 0, .int .i64 0, .slice none 0 0, .slice none 0 0]
 have hbl : ∀ V, (Instr.build 26 #[(0, .int .i64 5)]).run Tryz.prog V = .ok (.agg #[.int .i64 5, .string ⟨#[]⟩, .int .i64 0, .int .i64 0, .int .i64 0, .int .i64 0, .string ⟨#[]⟩, .slice none 0 0, .int .i64 0, .int .i64 0, .int .i64 0, .slice none 0 0, .slice none 0 0]) V := fun V => run_build V _ _ _ (by kernel_rfl)
 obtain ⟨wm, hwm⟩ := eX (w.alloc (.cells #[.int .i64 0, .string ⟨#[]⟩, .int .i64 0, .int .i64 0, .int .i64 0, .int .i64 0, .string ⟨#[]⟩, .slice none 0 0, .int .i64 0, .int .i64 0, .int .i64 0, .slice none 0 0, .slice none 0 0] 26))
 rw [hwm] at hbn
 obtain ⟨wx, hwx⟩ := eX (wm.alloc (.cells #[.int .i64 5, .string ⟨#[]⟩, .int .i64 0, .int .i64 0, .int .i64 0, .int .i64 0, .string ⟨#[]⟩, .slice none 0 0, .int .i64 0, .int .i64 0, .int .i64 0, .slice none 0 0, .slice none 0 0] 26))
 obtain ⟨br, hbr⟩ := eX (w.heap.size)
 obtain ⟨bx, hbx⟩ := eX (wm.heap.size)
 have hb1 : br + 1 = bx := by rw [← hbx, ← hwm, ← hbr]; simp
 rw [hwx, hbr, hb1] at hbn
 have HS0 := hid hbn
 have HWM := hid hwm
 have HWX := hid hwx
 have HBR := hid hbr
 have HBX := hid hbx
 have HB1 := hid hb1
 clear hb hl h hPO hbn hwm hwx hbr hbx hb1
 go_enter Tryz.func82, Tryz.ntmps82
 go_upto_region 1 with fail
 try rw [HWM.out]
 try rw [HBR.out]
 go_upto_region 2 with fail
 try rw [HWX.out]
 try rw [HBX.out]
 clear HWM HWX HBR HBX HB1 hbl
 have HC1 := hid (qn_any w0 wx b c q bs HB.out (0, 0) HS0.out.fr 4 (by omega) (by omega))
 have hbd1 := nuS_bd HB.out (0, 0) 4 (by omega)
 obtain ⟨v1, hv1⟩ := eX (nuS bs (0, 0) 4)
 rw [hv1] at HC1 hbd1
 have HV1 := hid hv1
 clear hv1
 have hw1 : IntKind.i64.wrap v1.1 = v1.1 := by rw [IntKind.wrap_i64]; omega
 go_wp2_with fail
 refine HC1.out.mono ?_
 rintro e x1 ⟨rfl, hr, hf⟩
 have HX1 := hid (QK.call HS0.out hr hf)
 clear hr hf HC1
 have HC2 := hid (qn_any w0 x1 b c q bs HB.out v1.2 HX1.out.fr 2 (by omega) (by omega))
 have hbd2 := nuS_bd HB.out v1.2 2 (by omega)
 obtain ⟨v2, hv2⟩ := eX (nuS bs v1.2 2)
 rw [hv2] at HC2 hbd2
 have HV2 := hid hv2
 clear hv2
 have hw2 : IntKind.i64.wrap v2.1 = v2.1 := by rw [IntKind.wrap_i64]; omega
 go_wp2_with fail
 refine HC2.out.mono ?_
 rintro e x2 ⟨rfl, hr, hf⟩
 have HX2 := hid (QK.call HX1.out hr hf)
 clear hr hf HC2
 have HC3 := hid (qn_any w0 x2 b c q bs HB.out v2.2 HX2.out.fr 2 (by omega) (by omega))
 have hbd3 := nuS_bd HB.out v2.2 2 (by omega)
 obtain ⟨v3, hv3⟩ := eX (nuS bs v2.2 2)
 rw [hv3] at HC3 hbd3
 have HV3 := hid hv3
 clear hv3
 have hw3 : IntKind.i64.wrap v3.1 = v3.1 := by rw [IntKind.wrap_i64]; omega
 go_wp2_with fail
 refine HC3.out.mono ?_
 rintro e x3 ⟨rfl, hr, hf⟩
 have HX3 := hid (QK.call HX2.out hr hf)
 clear hr hf HC3
 have hw64 : wrap64 (v2.1 - 1) = v2.1 - 1 := by unfold wrap64; omega
 have z8 := cR 8 (.int .i64 0) HX3.out.rw_
 have y8 := fZ 8 HX3.out.rw_
 have z9 := cR 9 (.int .i64 0) HX3.out.rw_
 have y9 := fZ 9 HX3.out.rw_
 go_upto_region 22 with fail
 obtain ⟨W4, hW4⟩ := eX (x3.setCell ⟨bx, 8, none⟩ (.int .i64 v1.1))
 have HW4 : Hid (QK w0 w b c q bs br bx W4 #[.int .i64 5, .string ⟨#[]⟩, .int .i64 0, .int .i64 0, .int .i64 0, .int .i64 0, .string ⟨#[]⟩, .slice none 0 0, .int .i64 v1.1, .int .i64 0, .int .i64 0, .slice none 0 0, .slice none 0 0] v3.2) := hid (by rw [← hW4]; exact QK.set HX3.out 8 (.int .i64 v1.1))
 rw [hW4]
 obtain ⟨W5, hW5⟩ := eX (W4.setCell ⟨bx, 9, none⟩ (.int .i64 (v2.1 - 1)))
 have HW5 : Hid (QK w0 w b c q bs br bx W5 #[.int .i64 5, .string ⟨#[]⟩, .int .i64 0, .int .i64 0, .int .i64 0, .int .i64 0, .string ⟨#[]⟩, .slice none 0 0, .int .i64 v1.1, .int .i64 (v2.1 - 1), .int .i64 0, .slice none 0 0, .slice none 0 0] v3.2) := hid (by rw [← hW5]; exact QK.set HW4.out 9 (.int .i64 (v2.1 - 1)))
 rw [hW5]
 clear z8 y8 z9 y9
 clear hw64
 have HC6 := hid (qb_any w0 W5 b c q bs v3.2 HW5.out.fr v3.1 (by omega) (by omega))
 have HBD6 := hid (byS_bd HB.out v3.2 v3.1)
 obtain ⟨v6, hv6⟩ := eX (byS bs v3.2 v3.1)
 rw [hv6] at HC6 HBD6
 have HV6 := hid hv6
 clear hv6
 go_wp2_with fail
 refine HC6.out.mono ?_
 rintro e x6 ⟨p6, n6, c6, rfl, hn, ho, hnw, hr, hf⟩
 have HX6 := hid (QK.call HW5.out hr hf)
 have HO6 := hid ho
 have HN6 := hid hn
 have HNW6 : Hid (∀ k ∈ blk p6, w.heap.size ≤ k ∧ k ≠ bx ∧ k ≠ br) := hid (fun k hk => by have h1 := hnw k hk; have h2 := HW5.out.frm.size; have h3 := lt_of_heap HW5.out.rw_; have h4 := lt_of_heap HW5.out.rb; exact ⟨by omega, by omega, by omega⟩)
 clear ho hn hnw hr hf HC6
 have z12 := cR 12 (.slice none 0 0) HX6.out.rw_
 have y12 := fZ 12 HX6.out.rw_
 go_upto_region 23 with fail
 obtain ⟨W7, hW7⟩ := eX (x6.setCell ⟨bx, 12, none⟩ (.slice p6 n6 c6))
 have HW7 : Hid (QK w0 w b c q bs br bx W7 #[.int .i64 5, .string ⟨#[]⟩, .int .i64 0, .int .i64 0, .int .i64 0, .int .i64 0, .string ⟨#[]⟩, .slice none 0 0, .int .i64 v1.1, .int .i64 (v2.1 - 1), .int .i64 0, .slice none 0 0, .slice p6 n6 c6] v6.2) := hid (by rw [← hW7]; exact QK.set HX6.out 12 (.slice p6 n6 c6))
 rw [hW7]
 have HO67 := hid (Own.kept HO6.out (show Frm [bx] x6 W7 by rw [← hW7]; exact (Frm.refl [bx] x6).setCell _ _ (by simp)) (fun k hk hm => by rw [List.mem_singleton] at hm; exact (HNW6.out k (by rw [own_blk] at hk; exact hk)).2.1 hm))
 clear z12 y12
 clear hbd1 hw1 hbd2 hw2 hbd3 hw3
 have z0 := cR 0 (.int .i64 5) HW7.out.rw_
 have y0 := fZ 0 HW7.out.rw_
 have z1 := cR 1 (.string ⟨#[]⟩) HW7.out.rw_
 have y1 := fZ 1 HW7.out.rw_
 have z2 := cR 2 (.int .i64 0) HW7.out.rw_
 have y2 := fZ 2 HW7.out.rw_
 have z3 := cR 3 (.int .i64 0) HW7.out.rw_
 have y3 := fZ 3 HW7.out.rw_
 have z4 := cR 4 (.int .i64 0) HW7.out.rw_
 have y4 := fZ 4 HW7.out.rw_
 have z5 := cR 5 (.int .i64 0) HW7.out.rw_
 have y5 := fZ 5 HW7.out.rw_
 have z6 := cR 6 (.string ⟨#[]⟩) HW7.out.rw_
 have y6 := fZ 6 HW7.out.rw_
 have z7 := cR 7 (.slice none 0 0) HW7.out.rw_
 have y7 := fZ 7 HW7.out.rw_
 have z8 := cR 8 (.int .i64 v1.1) HW7.out.rw_
 have y8 := fZ 8 HW7.out.rw_
 have z9 := cR 9 (.int .i64 (v2.1 - 1)) HW7.out.rw_
 have y9 := fZ 9 HW7.out.rw_
 have z10 := cR 10 (.int .i64 0) HW7.out.rw_
 have y10 := fZ 10 HW7.out.rw_
 have z11 := cR 11 (.slice none 0 0) HW7.out.rw_
 have y11 := fZ 11 HW7.out.rw_
 have z12 := cR 12 (.slice p6 n6 c6) HW7.out.rw_
 have y12 := fZ 12 HW7.out.rw_
 have r0 := cR 0 (.int .i64 0) HW7.out.rb
 have s0 := fZ 0 HW7.out.rb
 have r1 := cR 1 (.string ⟨#[]⟩) HW7.out.rb
 have s1 := fZ 1 HW7.out.rb
 have r2 := cR 2 (.int .i64 0) HW7.out.rb
 have s2 := fZ 2 HW7.out.rb
 have r3 := cR 3 (.int .i64 0) HW7.out.rb
 have s3 := fZ 3 HW7.out.rb
 have r4 := cR 4 (.int .i64 0) HW7.out.rb
 have s4 := fZ 4 HW7.out.rb
 have r5 := cR 5 (.int .i64 0) HW7.out.rb
 have s5 := fZ 5 HW7.out.rb
 have r6 := cR 6 (.string ⟨#[]⟩) HW7.out.rb
 have s6 := fZ 6 HW7.out.rb
 have r7 := cR 7 (.slice none 0 0) HW7.out.rb
 have s7 := fZ 7 HW7.out.rb
 have r8 := cR 8 (.int .i64 0) HW7.out.rb
 have s8 := fZ 8 HW7.out.rb
 have r9 := cR 9 (.int .i64 0) HW7.out.rb
 have s9 := fZ 9 HW7.out.rb
 have r10 := cR 10 (.int .i64 0) HW7.out.rb
 have s10 := fZ 10 HW7.out.rb
 have r11 := cR 11 (.slice none 0 0) HW7.out.rb
 have s11 := fZ 11 HW7.out.rb
 have r12 := cR 12 (.slice none 0 0) HW7.out.rb
 have s12 := fZ 12 HW7.out.rb
 go_wp2_with fail
 obtain ⟨Wz, hwz, h5, f5⟩ := sE br 26 [(0, .int .i64 5), (1, .string ⟨#[]⟩), (2, .int .i64 0), (3, .int .i64 0), (4, .int .i64 0), (5, .int .i64 0), (6, .string ⟨#[]⟩), (7, .slice none 0 0), (8, .int .i64 v1.1), (9, .int .i64 (v2.1 - 1)), (10, .int .i64 0), (11, .slice none 0 0), (12, .slice p6 n6 c6)] W7 _ HW7.out.rb
 simp only [List.foldl, List.setIfInBounds_toArray, List.set_cons_zero, List.set_cons_succ] at h5
 simp only [setsF] at hwz
 have hWz := hwz
 rw [hwz]
 obtain ⟨hq1, hq2⟩ := HW7.out.fin f5
 have u0 := cR 0 (.int .i64 5) h5
 have u1 := cR 1 (.string ⟨#[]⟩) h5
 have u2 := cR 2 (.int .i64 0) h5
 have u3 := cR 3 (.int .i64 0) h5
 have u4 := cR 4 (.int .i64 0) h5
 have u5 := cR 5 (.int .i64 0) h5
 have u6 := cR 6 (.string ⟨#[]⟩) h5
 have u7 := cR 7 (.slice none 0 0) h5
 have u8 := cR 8 (.int .i64 v1.1) h5
 have u9 := cR 9 (.int .i64 (v2.1 - 1)) h5
 have u10 := cR 10 (.int .i64 0) h5
 have u11 := cR 11 (.slice none 0 0) h5
 have u12 := cR 12 (.slice p6 n6 c6) h5
 refine bodyPost_ret (v := .agg #[.int .i64 5, .string ⟨#[]⟩, .int .i64 0, .int .i64 0, .int .i64 0, .int .i64 0, .string ⟨#[]⟩, .slice none 0 0, .int .i64 v1.1, .int .i64 (v2.1 - 1), .int .i64 0, .slice none 0 0, .slice p6 n6 c6]) (by simp [results, Tryz.results82, go_sem, u0, u1, u2, u3, u4, u5, u6, u7, u8, u9, u10, u11, u12]) rfl ?_
 refine HP.out _ _ ⟨⟨5, ⟨#[]⟩, 0, 0, 0, 0, ⟨#[]⟩, none, 0, 0, v1.1, v2.1 - 1, 0, none, 0, 0, p6, n6, c6⟩, rfl, ?_, ?_, ?_, hq2⟩
 ·unfold tvWr TkV.rc Rc.core; rw [HV1.out, HV2.out, HV3.out, HV6.out]
 ·unfold tvWr; rw [HV1.out, HV2.out, HV3.out, HV6.out]; exact ⟨World.ownsRow_nil _ _ _ _, rfl, by simp [blk], World.ownsRow_nil _ _ _ _, rfl, by simp [blk], Own.kept HO67.out f5 (fun k hk hm => by rw [own_blk] at hk; rw [List.mem_singleton] at hm; exact (HNW6.out k hk).2.2 hm), HN6.out.symm, fun k hk => (HNW6.out k hk).1, HBD6.out, by simp, by simp⟩
 ·unfold tvWr; rw [HV1.out, HV2.out, HV3.out, HV6.out]; exact hq1
end
end Go.Proofs.YtajfjkfnmmfhmaaGreatDoor
