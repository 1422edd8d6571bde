/- Records: bodies taken up. -/
import Derived.Deep.Cut
import Derived.Laws.OwnMore
import Derived.Test.YtajfjkfnmmfhmaaGreatDoorQwaz
import Derived.Test.YtajfjkfnmmfhmaaGreatDoorQwah
namespace Go.Proofs.YtajfjkfnmmfhmaaGreatDoor
section
open Go.RowKit Go.Lib
set_option maxRecDepth 100000
/-- Properties as cells. -/
def prC : List Pr → List Value
  | [] => []
  | x :: l => .string x.1 :: .string x.2 :: prC l
theorem prC_len : ∀ P : List Pr, (prC P).length = P.length * 2
  | [] => rfl
  | x :: l => by simp only [prC, List.length_cons, prC_len l]; omega
theorem prC_app : ∀ (P Q : List Pr), prC (P ++ Q) = prC P ++ prC Q
  | [], _ => rfl
  | x :: l, Q => by simp only [List.cons_append, prC, prC_app l Q]
theorem prC_at : ∀ (P : List Pr) (i : Nat) (x : Pr), P[i]? = some x → (prC P)[i * 2]? = some (.string x.1) ∧ (prC P)[i * 2 + 1]? = some (.string x.2)
  | [], i, x, h => by simp at h
  | y :: l, 0, x, h => by simp at h; subst h; exact ⟨rfl, rfl⟩
  | y :: l, i + 1, x, h => by
    have ih := prC_at l i x (by simpa using h)
    rw [show (i + 1) * 2 = i * 2 + 1 + 1 by omega]
    simpa [prC] using ih
theorem rv_of1 {w : World} {T : TypeId} {sz : Nat} {q : Option Addr} {n c : Nat} {vs : List Value} (h : w.ownsRow 0 T sz (.slice q n c) n vs) (hl : vs.length = n * sz) : Rv w q vs := by
  by_cases hn : n = 0
  · subst hn
    rw [Nat.zero_mul] at hl
    rw [List.eq_nil_of_length_eq_zero hl]
    exact Or.inl rfl
  · rcases h.2 with ⟨_, h0⟩ | ⟨g, c', cur, he, _⟩
    · omega
    · simp only [Value.slice.injEq] at he
      obtain ⟨rfl, _, _⟩ := he
      have hcell := fun i hi => World.ownsRow.cellAt h i hi
      refine Or.inr ⟨g, 0, rfl, fun i u hu => ?_⟩
      have hi := (List.getElem?_eq_some_iff.1 hu).1
      rw [hl] at hi
      rw [Nat.zero_add, hcell i hi]
      exact hu
/-- A record whose lists are one's own, and new. -/
structure RcOwn (w : World) (r : Rc) (P : List Pr) (K D : List Int) (lo : Nat) : Prop where
  po : w.ownsRow 0 70 2 (.slice r.pp r.pn r.pc) r.pn (prC P)
  pl : P.length = r.pn
  pw : ∀ k ∈ blk r.pp, lo ≤ k
  ko : w.ownsRow 0 3 1 (.slice r.kp r.kn r.kc) r.kn (K.map (Value.int .i64))
  kl : K.length = r.kn
  kw : ∀ k ∈ blk r.kp, lo ≤ k
  ow : Own w 5 (.slice r.dp r.dl r.dc) D
  dl : D.length = r.dl
  dw : ∀ k ∈ blk r.dp, lo ≤ k
  db : ∀ z ∈ D, 0 ≤ z ∧ z < 256
  mx : r.pn ≤ 100000 ∧ r.kn ≤ 100000
theorem RcOwn.ok {w : World} {r : Rc} {P : List Pr} {K D : List Int} {lo : Nat} (h : RcOwn w r P K D lo) : RcOk w r P K D := by
  refine ⟨?_, h.pl, ?_, h.kl, h.ow.rd, h.dl, h.db, by have := h.mx; omega⟩
  · rcases rv_of1 h.po (by rw [prC_len, h.pl]) with h1 | ⟨g, o, he, hc⟩
    · cases P with
      | nil => exact Or.inl rfl
      | cons x l => simp [prC] at h1
    · refine Or.inr ⟨g, o, he, fun i x hx => ?_⟩
      obtain ⟨h1, h2⟩ := prC_at P i x hx
      rw [Nat.add_assoc]
      exact ⟨hc _ _ h1, hc _ _ h2⟩
  · exact rv_of1 h.ko (by rw [List.length_map, h.kl, Nat.mul_one])
theorem RcOwn.kept {S : List Nat} {w w' : World} {r : Rc} {P : List Pr} {K D : List Int} {lo : Nat} (h : RcOwn w r P K D lo) (hf : Frm S w w') (h1 : ∀ k ∈ blk r.pp, k ∉ S) (h2 : ∀ k ∈ blk r.kp, k ∉ S) (h3 : ∀ k ∈ blk r.dp, k ∉ S) : RcOwn w' r P K D lo :=
  ⟨ownsRow_kept h.po hf h1, h.pl, h.pw, ownsRow_kept h.ko hf h2, h.kl, h.kw, h.ow.kept hf (by rw [own_blk]; exact h3), h.dl, h.dw, h.db, h.mx⟩
theorem RcOwn.k0 {w w' : World} {r : Rc} {P : List Pr} {K D : List Int} {lo : Nat} (h : RcOwn w r P K D lo) (hf : Frm [] w w') : RcOwn w' r P K D lo := h.kept hf (by simp) (by simp) (by simp)
theorem RcOwn.less {w : World} {r : Rc} {P : List Pr} {K D : List Int} {lo lo' : Nat} (h : RcOwn w r P K D lo) (hl : lo' ≤ lo) : RcOwn w r P K D lo' :=
  ⟨h.po, h.pl, fun k hk => Nat.le_trans hl (h.pw k hk), h.ko, h.kl, fun k hk => Nat.le_trans hl (h.kw k hk), h.ow, h.dl, fun k hk => Nat.le_trans hl (h.dw k hk), h.db, h.mx⟩
/-- A record but its lists. -/
def Rc.core (r : Rc) : Rc := ⟨r.kind, r.name, r.typ, r.frm, r.guid, r.origin, r.snap, none, 0, 0, r.obj, r.at_, r.many, none, 0, 0, none, 0, 0⟩
/-- What a body says. -/
structure TkV where
  c : Rc
  p : List Pr
  k : List Int
  d : List Int
  s : Rst
def TakP (w0 w : World) (b g : Nat) (bs : List Int) (V : TkV) (e : Ending) (w' : World) : Prop := ∃ r : Rc, e = .returned (.agg r.arr) ∧ r.core = V.c ∧ RcOwn w' r V.p V.k V.d w.heap.size ∧ FrR w0 w' b g bs V.s ∧ Frm [b] w w'
/-- While a body is taken up into a record of its own. -/
structure Tk (w0 w : World) (b g : Nat) (bs : List Int) (bx : Nat) (W : World) (row : Array Value) (s : Rst) : Prop where
  fr : FrR w0 W b g bs s
  rw_ : W.heap[bx]? = some (.cells row 26 (0, 0))
  frm : Frm [b] w W
  lo : w.heap.size ≤ bx
  ne : bx ≠ b ∧ bx ≠ g ∧ w0.heap.size ≤ bx
theorem Tk.born {w0 w : World} {b g : Nat} {bs : List Int} {s : Rst} (h : FrR w0 w b g bs s) (row : Array Value) : Tk w0 w b g bs w.heap.size (w.alloc (.cells row 26)) row s := by
  have h1 := h.1.cells
  have h2 := h.2.1.size
  exact ⟨FrR.k0 h ((Frm.refl _ _).alloc _), heap_alloc_new _ _, (Frm.refl _ _).alloc _, Nat.le_refl _, by omega, by omega, h2⟩
theorem Tk.call {w0 w W W' : World} {b g bx : Nat} {bs : List Int} {row : Array Value} {s s' : Rst} (h : Tk w0 w b g bs bx W row s) (hr : FrR w0 W' b g bs s') (hf : Frm [b] W W') : Tk w0 w b g bs bx W' row s' :=
  ⟨hr, hf.heap h.rw_ (by simpa using h.ne.1), h.frm.trans hf (fun i hi _ => hi), h.lo, h.ne⟩
theorem Tk.k0 {w0 w W W' : World} {b g bx : Nat} {bs : List Int} {row : Array Value} {s : Rst} (h : Tk w0 w b g bs bx W row s) (hf : Frm [] W W') : Tk w0 w b g bs bx W' row s :=
  ⟨FrR.k0 h.fr hf, hf.heap h.rw_ (by simp), h.frm.trans hf (by simp), h.lo, h.ne⟩
theorem Tk.put {w0 w W W' : World} {b g bx : Nat} {bs : List Int} {row row' : Array Value} {s : Rst} (h : Tk w0 w b g bs bx W row s) (hr : W'.heap[bx]? = some (.cells row' 26 (0, 0))) (hf : Frm [bx] W W') : Tk w0 w b g bs bx W' row' s :=
  ⟨frR_set h.fr hf (fun e => h.ne.1 e) h.ne.2.1 h.ne.2.2, hr, h.frm.trans hf (fun i hi hl => by rw [List.mem_singleton] at hi; have := h.lo; omega), h.lo, h.ne⟩
theorem Tk.set {w0 w W : World} {b g bx : Nat} {bs : List Int} {row : Array Value} {s : Rst} (h : Tk w0 w b g bs bx W row s) (k : Nat) (v : Value) : Tk w0 w b g bs bx (W.setCell ⟨bx, k, none⟩ v) (row.setIfInBounds k v) s :=
  h.put (heap_setCell_same W bx k row _ v h.rw_) ((Frm.refl _ _).setCell _ _ (by simp))
theorem bytesT_mem (ls : List Int) (k : Int) : ∀ z ∈ (bytesT ls k).1, z ∈ ls := by
  unfold bytesT
  split
  · simp
  · split
    · simp
    · exact fun z hz => List.mem_of_mem_take hz
theorem byS_bd {bs : List Int} (hb : ∀ z ∈ bs, 0 ≤ z ∧ z < 256) (s : Rst) (k : Int) : ∀ z ∈ (byS bs s k).1, 0 ≤ z ∧ z < 256 := by
  unfold byS readS
  split
  · simp
  · split
    · exact fun z hz => hb z (List.mem_of_mem_drop (bytesT_mem _ _ z hz))
    · exact fun z hz => hb z (List.mem_of_mem_drop (bytesT_mem _ _ z hz))
theorem nuS_b1 {bs : List Int} (hb : ∀ z ∈ bs, 0 ≤ z ∧ z < 256) (s : Rst) : (nuS bs s 1).1 < 256 := by
  have h0 : (0 : Int) < 256 := by omega
  unfold nuS readS
  split
  · exact h0
  · have hn : (numT (bs.drop s.1) 1).1 < 256 := by
      unfold numT
      split
      · exact h0
      · split
        · exact h0
        · have hl : ((bs.drop s.1).take (1 : Int).toNat).length ≤ 1 := by rw [List.length_take]; exact Nat.min_le_left _ _
          have h3 := leV_bd ((bs.drop s.1).take (1 : Int).toNat) (fun z hz => hb z (List.mem_of_mem_drop (List.mem_of_mem_take hz)))
          have h4 : (2 : Int) ^ (8 * ((bs.drop s.1).take (1 : Int).toNat).length) ≤ 256 := by
            generalize ((bs.drop s.1).take (1 : Int).toNat).length = x at hl
            have hx : x = 0 ∨ x = 1 := by omega
            rcases hx with rfl | rfl <;> decide
          show leV _ < _
          omega
    split
    · exact hn
    · exact hn
def tvCn (bs : List Int) : TkV := ⟨⟨0, ⟨#[]⟩, 0, 0, 0, 0, ⟨#[]⟩, none, 0, 0, 0, 0, (nuS bs (0, 0) 4).1, none, 0, 0, none, 0, 0⟩, [], [], [], (nuS bs (0, 0) 4).2⟩
set_option maxHeartbeats 6400000 in
theorem takeCount_any (w0 w : World) (b g : Nat) (bs : List Int) (hb : ∀ z ∈ bs, 0 ≤ z ∧ z < 256) (hl : bs.length ≤ 2048) (h : FrR w0 w b g bs (0, 0)) :
    Calls Tryz.prog 47 #[.pointer (some ⟨b, 0, none⟩)] w (TakP w0 w b g bs (tvCn bs)) := by
  obtain ⟨PO, hPO⟩ : ∃ PO : Ending → World → Prop, TakP w0 w b g bs (tvCn bs) = PO := ⟨_, rfl⟩
  rw [hPO]
  have HP := hid (show ∀ e w', TakP w0 w b g bs (tvCn bs) e w' → PO e w' from fun e w' h => by rw [← hPO]; exact h)
  have HB := hid hb
  have HL := hid hl
  have hbn := Tk.born h #[.int .i64 0, .string ⟨#[]⟩, .int .i64 0, .int .i64 0, .int .i64 0, .int .i64 0, .string ⟨#[]⟩, .slice none 0 0, .int .i64 0, .int .i64 0, .int .i64 0, .slice none 0 0, .slice none 0 0]
  obtain ⟨wx, hwx⟩ : ∃ z, w.alloc (.cells #[.int .i64 0, .string ⟨#[]⟩, .int .i64 0, .int .i64 0, .int .i64 0, .int .i64 0, .string ⟨#[]⟩, .slice none 0 0, .int .i64 0, .int .i64 0, .int .i64 0, .slice none 0 0, .slice none 0 0] 26) = z := ⟨_, rfl⟩
  obtain ⟨bx, hbx⟩ : ∃ z, w.heap.size = z := ⟨_, rfl⟩
  rw [hwx, hbx] at hbn
  have HS0 := hid hbn
  have HWX := hid hwx
  have HBX := hid hbx
  clear hb hl h hPO hbn hwx hbx
  go_enter Tryz.func47, Tryz.ntmps47
  go_upto_region 1 with fail
  first | rw [HWX.out] | skip
  first | rw [HBX.out] | skip
  have HC1 := hid (nR_any w0 wx b g bs HB.out (0, 0) HS0.out.fr 4 (by omega) (by omega))
  have hbd1 := nuS_bd HB.out (0, 0) 4 (by omega)
  obtain ⟨v1, hv1⟩ : ∃ v, nuS bs (0, 0) 4 = v := ⟨_, rfl⟩
  rw [hv1] at HC1 hbd1
  have HV1 := hid hv1
  clear hv1
  have hw1 : IntKind.i64.wrap v1.1 = v1.1 := by rw [IntKind.wrap_i64]; omega
  go_wp2_with fail
  refine HC1.out.mono ?_
  rintro e x1 ⟨rfl, hr, hf⟩
  have HX1 := hid (Tk.call HS0.out hr hf)
  clear hr hf HC1
  have z10 : x1.cell? ⟨bx, 10, none⟩ = some (.int .i64 0) := by rw [cell_of_row _ _ _ _ _ _ HX1.out.rw_]; rfl
  have y10 := frozen_of_row x1 bx 10 _ _ HX1.out.rw_
  go_upto_region 2 with fail
  obtain ⟨W1, hW1⟩ : ∃ z, x1.setCell ⟨bx, 10, none⟩ (.int .i64 v1.1) = z := ⟨_, rfl⟩
  have HW1 : Hid (Tk w0 w b g bs bx W1 #[.int .i64 0, .string ⟨#[]⟩, .int .i64 0, .int .i64 0, .int .i64 0, .int .i64 0, .string ⟨#[]⟩, .slice none 0 0, .int .i64 0, .int .i64 0, .int .i64 v1.1, .slice none 0 0, .slice none 0 0] v1.2) := hid (by rw [← hW1]; exact Tk.set HX1.out 10 (.int .i64 v1.1))
  rw [hW1]
  clear z10 y10 hw1 hbd1
  have z0 : W1.cell? ⟨bx, 0, none⟩ = some (.int .i64 0) := by rw [cell_of_row _ _ _ _ _ _ HW1.out.rw_]; rfl
  have y0 := frozen_of_row W1 bx 0 _ _ HW1.out.rw_
  have z1 : W1.cell? ⟨bx, 1, none⟩ = some (.string ⟨#[]⟩) := by rw [cell_of_row _ _ _ _ _ _ HW1.out.rw_]; rfl
  have y1 := frozen_of_row W1 bx 1 _ _ HW1.out.rw_
  have z2 : W1.cell? ⟨bx, 2, none⟩ = some (.int .i64 0) := by rw [cell_of_row _ _ _ _ _ _ HW1.out.rw_]; rfl
  have y2 := frozen_of_row W1 bx 2 _ _ HW1.out.rw_
  have z3 : W1.cell? ⟨bx, 3, none⟩ = some (.int .i64 0) := by rw [cell_of_row _ _ _ _ _ _ HW1.out.rw_]; rfl
  have y3 := frozen_of_row W1 bx 3 _ _ HW1.out.rw_
  have z4 : W1.cell? ⟨bx, 4, none⟩ = some (.int .i64 0) := by rw [cell_of_row _ _ _ _ _ _ HW1.out.rw_]; rfl
  have y4 := frozen_of_row W1 bx 4 _ _ HW1.out.rw_
  have z5 : W1.cell? ⟨bx, 5, none⟩ = some (.int .i64 0) := by rw [cell_of_row _ _ _ _ _ _ HW1.out.rw_]; rfl
  have y5 := frozen_of_row W1 bx 5 _ _ HW1.out.rw_
  have z6 : W1.cell? ⟨bx, 6, none⟩ = some (.string ⟨#[]⟩) := by rw [cell_of_row _ _ _ _ _ _ HW1.out.rw_]; rfl
  have y6 := frozen_of_row W1 bx 6 _ _ HW1.out.rw_
  have z7 : W1.cell? ⟨bx, 7, none⟩ = some (.slice none 0 0) := by rw [cell_of_row _ _ _ _ _ _ HW1.out.rw_]; rfl
  have y7 := frozen_of_row W1 bx 7 _ _ HW1.out.rw_
  have z8 : W1.cell? ⟨bx, 8, none⟩ = some (.int .i64 0) := by rw [cell_of_row _ _ _ _ _ _ HW1.out.rw_]; rfl
  have y8 := frozen_of_row W1 bx 8 _ _ HW1.out.rw_
  have z9 : W1.cell? ⟨bx, 9, none⟩ = some (.int .i64 0) := by rw [cell_of_row _ _ _ _ _ _ HW1.out.rw_]; rfl
  have y9 := frozen_of_row W1 bx 9 _ _ HW1.out.rw_
  have z10 : W1.cell? ⟨bx, 10, none⟩ = some (.int .i64 v1.1) := by rw [cell_of_row _ _ _ _ _ _ HW1.out.rw_]; rfl
  have y10 := frozen_of_row W1 bx 10 _ _ HW1.out.rw_
  have z11 : W1.cell? ⟨bx, 11, none⟩ = some (.slice none 0 0) := by rw [cell_of_row _ _ _ _ _ _ HW1.out.rw_]; rfl
  have y11 := frozen_of_row W1 bx 11 _ _ HW1.out.rw_
  have z12 : W1.cell? ⟨bx, 12, none⟩ = some (.slice none 0 0) := by rw [cell_of_row _ _ _ _ _ _ HW1.out.rw_]; rfl
  have y12 := frozen_of_row W1 bx 12 _ _ HW1.out.rw_
  go_wp2_with fail
  obtain ⟨h5, f5⟩ := sets_rowF bx 26 [(0, .int .i64 0), (1, .string ⟨#[]⟩), (2, .int .i64 0), (3, .int .i64 0), (4, .int .i64 0), (5, .int .i64 0), (6, .string ⟨#[]⟩), (7, .slice none 0 0), (8, .int .i64 0), (9, .int .i64 0), (10, .int .i64 v1.1), (11, .slice none 0 0), (12, .slice none 0 0)] W1 _ HW1.out.rw_
  simp only [List.foldl, List.setIfInBounds_toArray, List.set_cons_zero, List.set_cons_succ] at h5
  obtain ⟨Wz, hWz⟩ : ∃ z, setsF W1 bx [(0, .int .i64 0), (1, .string ⟨#[]⟩), (2, .int .i64 0), (3, .int .i64 0), (4, .int .i64 0), (5, .int .i64 0), (6, .string ⟨#[]⟩), (7, .slice none 0 0), (8, .int .i64 0), (9, .int .i64 0), (10, .int .i64 v1.1), (11, .slice none 0 0), (12, .slice none 0 0)] = z := ⟨_, rfl⟩
  rw [hWz] at h5 f5
  have hwz : (((((((((((((W1.setCell ⟨bx, 0, none⟩ (.int .i64 0)).setCell ⟨bx, 1, none⟩ (.string ⟨#[]⟩)).setCell ⟨bx, 2, none⟩ (.int .i64 0)).setCell ⟨bx, 3, none⟩ (.int .i64 0)).setCell ⟨bx, 4, none⟩ (.int .i64 0)).setCell ⟨bx, 5, none⟩ (.int .i64 0)).setCell ⟨bx, 6, none⟩ (.string ⟨#[]⟩)).setCell ⟨bx, 7, none⟩ (.slice none 0 0)).setCell ⟨bx, 8, none⟩ (.int .i64 0)).setCell ⟨bx, 9, none⟩ (.int .i64 0)).setCell ⟨bx, 10, none⟩ (.int .i64 v1.1)).setCell ⟨bx, 11, none⟩ (.slice none 0 0)).setCell ⟨bx, 12, none⟩ (.slice none 0 0)) = Wz := hWz
  rw [hwz]
  have HZ := hid (Tk.put HW1.out h5 f5)
  have u0 : Wz.cell? ⟨bx, 0, none⟩ = some (.int .i64 0) := by rw [cell_of_row _ _ _ _ _ _ h5]; rfl
  have u1 : Wz.cell? ⟨bx, 1, none⟩ = some (.string ⟨#[]⟩) := by rw [cell_of_row _ _ _ _ _ _ h5]; rfl
  have u2 : Wz.cell? ⟨bx, 2, none⟩ = some (.int .i64 0) := by rw [cell_of_row _ _ _ _ _ _ h5]; rfl
  have u3 : Wz.cell? ⟨bx, 3, none⟩ = some (.int .i64 0) := by rw [cell_of_row _ _ _ _ _ _ h5]; rfl
  have u4 : Wz.cell? ⟨bx, 4, none⟩ = some (.int .i64 0) := by rw [cell_of_row _ _ _ _ _ _ h5]; rfl
  have u5 : Wz.cell? ⟨bx, 5, none⟩ = some (.int .i64 0) := by rw [cell_of_row _ _ _ _ _ _ h5]; rfl
  have u6 : Wz.cell? ⟨bx, 6, none⟩ = some (.string ⟨#[]⟩) := by rw [cell_of_row _ _ _ _ _ _ h5]; rfl
  have u7 : Wz.cell? ⟨bx, 7, none⟩ = some (.slice none 0 0) := by rw [cell_of_row _ _ _ _ _ _ h5]; rfl
  have u8 : Wz.cell? ⟨bx, 8, none⟩ = some (.int .i64 0) := by rw [cell_of_row _ _ _ _ _ _ h5]; rfl
  have u9 : Wz.cell? ⟨bx, 9, none⟩ = some (.int .i64 0) := by rw [cell_of_row _ _ _ _ _ _ h5]; rfl
  have u10 : Wz.cell? ⟨bx, 10, none⟩ = some (.int .i64 v1.1) := by rw [cell_of_row _ _ _ _ _ _ h5]; rfl
  have u11 : Wz.cell? ⟨bx, 11, none⟩ = some (.slice none 0 0) := by rw [cell_of_row _ _ _ _ _ _ h5]; rfl
  have u12 : Wz.cell? ⟨bx, 12, none⟩ = some (.slice none 0 0) := by rw [cell_of_row _ _ _ _ _ _ h5]; rfl
  refine bodyPost_ret (v := .agg #[.int .i64 0, .string ⟨#[]⟩, .int .i64 0, .int .i64 0, .int .i64 0, .int .i64 0, .string ⟨#[]⟩, .slice none 0 0, .int .i64 0, .int .i64 0, .int .i64 v1.1, .slice none 0 0, .slice none 0 0]) (by simp [results, Tryz.results47, go_sem, u0, u1, u2, u3, u4, u5, u6, u7, u8, u9, u10, u11, u12]) rfl ?_
  refine HP.out _ _ ⟨⟨0, ⟨#[]⟩, 0, 0, 0, 0, ⟨#[]⟩, none, 0, 0, 0, 0, v1.1, none, 0, 0, none, 0, 0⟩, rfl, ?_, ?_, ?_, HZ.out.frm⟩
  · unfold tvCn; rw [HV1.out]; rfl
  · unfold tvCn; rw [HV1.out]; exact ⟨World.ownsRow_nil _ _ _ _, rfl, by simp [blk], World.ownsRow_nil _ _ _ _, rfl, by simp [blk], Own.nil _ _, rfl, by simp [blk], by simp, by simp⟩
  · unfold tvCn; rw [HV1.out]; exact HZ.out.fr
def tvPk (bs : List Int) : TkV := ⟨⟨0, strOfNums (txS bs (0, 0) 240).1, 0, 0, 0, 0, ⟨#[]⟩, none, 0, 0, 0, 0, (nuS bs (txS bs (0, 0) 240).2 2).1, none, 0, 0, none, 0, 0⟩, [], [], [], (nuS bs (txS bs (0, 0) 240).2 2).2⟩
set_option maxHeartbeats 6400000 in
theorem takePackage_any (w0 w : World) (b g : Nat) (bs : List Int) (hb : ∀ z ∈ bs, 0 ≤ z ∧ z < 256) (hl : bs.length ≤ 2048) (h : FrR w0 w b g bs (0, 0)) :
    Calls Tryz.prog 51 #[.pointer (some ⟨b, 0, none⟩)] w (TakP w0 w b g bs (tvPk bs)) := by
  obtain ⟨PO, hPO⟩ : ∃ PO : Ending → World → Prop, TakP w0 w b g bs (tvPk bs) = PO := ⟨_, rfl⟩
  rw [hPO]
  have HP := hid (show ∀ e w', TakP w0 w b g bs (tvPk bs) e w' → PO e w' from fun e w' h => by rw [← hPO]; exact h)
  have HB := hid hb
  have HL := hid hl
  have hbn := Tk.born h #[.int .i64 0, .string ⟨#[]⟩, .int .i64 0, .int .i64 0, .int .i64 0, .int .i64 0, .string ⟨#[]⟩, .slice none 0 0, .int .i64 0, .int .i64 0, .int .i64 0, .slice none 0 0, .slice none 0 0]
  obtain ⟨wx, hwx⟩ : ∃ z, w.alloc (.cells #[.int .i64 0, .string ⟨#[]⟩, .int .i64 0, .int .i64 0, .int .i64 0, .int .i64 0, .string ⟨#[]⟩, .slice none 0 0, .int .i64 0, .int .i64 0, .int .i64 0, .slice none 0 0, .slice none 0 0] 26) = z := ⟨_, rfl⟩
  obtain ⟨bx, hbx⟩ : ∃ z, w.heap.size = z := ⟨_, rfl⟩
  rw [hwx, hbx] at hbn
  have HS0 := hid hbn
  have HWX := hid hwx
  have HBX := hid hbx
  clear hb hl h hPO hbn hwx hbx
  go_enter Tryz.func51, Tryz.ntmps51
  go_upto_region 1 with fail
  first | rw [HWX.out] | skip
  first | rw [HBX.out] | skip
  have HC1 := hid (tR_any w0 wx b g bs HB.out (0, 0) HS0.out.fr 240 (by omega) (by omega))
  obtain ⟨v1, hv1⟩ : ∃ v, txS bs (0, 0) 240 = v := ⟨_, rfl⟩
  rw [hv1] at HC1
  have HV1 := hid hv1
  clear hv1
  go_wp2_with fail
  refine HC1.out.mono ?_
  rintro e x1 ⟨rfl, hr, hf⟩
  have HX1 := hid (Tk.call HS0.out hr hf)
  clear hr hf HC1
  have z1 : x1.cell? ⟨bx, 1, none⟩ = some (.string ⟨#[]⟩) := by rw [cell_of_row _ _ _ _ _ _ HX1.out.rw_]; rfl
  have y1 := frozen_of_row x1 bx 1 _ _ HX1.out.rw_
  go_upto_region 2 with fail
  obtain ⟨W1, hW1⟩ : ∃ z, x1.setCell ⟨bx, 1, none⟩ (.string (strOfNums v1.1)) = z := ⟨_, rfl⟩
  have HW1 : Hid (Tk w0 w b g bs bx W1 #[.int .i64 0, .string (strOfNums v1.1), .int .i64 0, .int .i64 0, .int .i64 0, .int .i64 0, .string ⟨#[]⟩, .slice none 0 0, .int .i64 0, .int .i64 0, .int .i64 0, .slice none 0 0, .slice none 0 0] v1.2) := hid (by rw [← hW1]; exact Tk.set HX1.out 1 (.string (strOfNums v1.1)))
  rw [hW1]
  clear z1 y1 
  have HC2 := hid (nR_any w0 W1 b g bs HB.out v1.2 HW1.out.fr 2 (by omega) (by omega))
  have hbd2 := nuS_bd HB.out v1.2 2 (by omega)
  obtain ⟨v2, hv2⟩ : ∃ v, nuS bs v1.2 2 = v := ⟨_, rfl⟩
  rw [hv2] at HC2 hbd2
  have HV2 := hid hv2
  clear hv2
  have hw2 : IntKind.i64.wrap v2.1 = v2.1 := by rw [IntKind.wrap_i64]; omega
  go_wp2_with fail
  refine HC2.out.mono ?_
  rintro e x2 ⟨rfl, hr, hf⟩
  have HX2 := hid (Tk.call HW1.out hr hf)
  clear hr hf HC2
  have z10 : x2.cell? ⟨bx, 10, none⟩ = some (.int .i64 0) := by rw [cell_of_row _ _ _ _ _ _ HX2.out.rw_]; rfl
  have y10 := frozen_of_row x2 bx 10 _ _ HX2.out.rw_
  go_upto_region 3 with fail
  obtain ⟨W2, hW2⟩ : ∃ z, x2.setCell ⟨bx, 10, none⟩ (.int .i64 v2.1) = z := ⟨_, rfl⟩
  have HW2 : Hid (Tk w0 w b g bs bx W2 #[.int .i64 0, .string (strOfNums v1.1), .int .i64 0, .int .i64 0, .int .i64 0, .int .i64 0, .string ⟨#[]⟩, .slice none 0 0, .int .i64 0, .int .i64 0, .int .i64 v2.1, .slice none 0 0, .slice none 0 0] v2.2) := hid (by rw [← hW2]; exact Tk.set HX2.out 10 (.int .i64 v2.1))
  rw [hW2]
  clear z10 y10 hw2 hbd2
  have z0 : W2.cell? ⟨bx, 0, none⟩ = some (.int .i64 0) := by rw [cell_of_row _ _ _ _ _ _ HW2.out.rw_]; rfl
  have y0 := frozen_of_row W2 bx 0 _ _ HW2.out.rw_
  have z1 : W2.cell? ⟨bx, 1, none⟩ = some (.string (strOfNums v1.1)) := by rw [cell_of_row _ _ _ _ _ _ HW2.out.rw_]; rfl
  have y1 := frozen_of_row W2 bx 1 _ _ HW2.out.rw_
  have z2 : W2.cell? ⟨bx, 2, none⟩ = some (.int .i64 0) := by rw [cell_of_row _ _ _ _ _ _ HW2.out.rw_]; rfl
  have y2 := frozen_of_row W2 bx 2 _ _ HW2.out.rw_
  have z3 : W2.cell? ⟨bx, 3, none⟩ = some (.int .i64 0) := by rw [cell_of_row _ _ _ _ _ _ HW2.out.rw_]; rfl
  have y3 := frozen_of_row W2 bx 3 _ _ HW2.out.rw_
  have z4 : W2.cell? ⟨bx, 4, none⟩ = some (.int .i64 0) := by rw [cell_of_row _ _ _ _ _ _ HW2.out.rw_]; rfl
  have y4 := frozen_of_row W2 bx 4 _ _ HW2.out.rw_
  have z5 : W2.cell? ⟨bx, 5, none⟩ = some (.int .i64 0) := by rw [cell_of_row _ _ _ _ _ _ HW2.out.rw_]; rfl
  have y5 := frozen_of_row W2 bx 5 _ _ HW2.out.rw_
  have z6 : W2.cell? ⟨bx, 6, none⟩ = some (.string ⟨#[]⟩) := by rw [cell_of_row _ _ _ _ _ _ HW2.out.rw_]; rfl
  have y6 := frozen_of_row W2 bx 6 _ _ HW2.out.rw_
  have z7 : W2.cell? ⟨bx, 7, none⟩ = some (.slice none 0 0) := by rw [cell_of_row _ _ _ _ _ _ HW2.out.rw_]; rfl
  have y7 := frozen_of_row W2 bx 7 _ _ HW2.out.rw_
  have z8 : W2.cell? ⟨bx, 8, none⟩ = some (.int .i64 0) := by rw [cell_of_row _ _ _ _ _ _ HW2.out.rw_]; rfl
  have y8 := frozen_of_row W2 bx 8 _ _ HW2.out.rw_
  have z9 : W2.cell? ⟨bx, 9, none⟩ = some (.int .i64 0) := by rw [cell_of_row _ _ _ _ _ _ HW2.out.rw_]; rfl
  have y9 := frozen_of_row W2 bx 9 _ _ HW2.out.rw_
  have z10 : W2.cell? ⟨bx, 10, none⟩ = some (.int .i64 v2.1) := by rw [cell_of_row _ _ _ _ _ _ HW2.out.rw_]; rfl
  have y10 := frozen_of_row W2 bx 10 _ _ HW2.out.rw_
  have z11 : W2.cell? ⟨bx, 11, none⟩ = some (.slice none 0 0) := by rw [cell_of_row _ _ _ _ _ _ HW2.out.rw_]; rfl
  have y11 := frozen_of_row W2 bx 11 _ _ HW2.out.rw_
  have z12 : W2.cell? ⟨bx, 12, none⟩ = some (.slice none 0 0) := by rw [cell_of_row _ _ _ _ _ _ HW2.out.rw_]; rfl
  have y12 := frozen_of_row W2 bx 12 _ _ HW2.out.rw_
  go_wp2_with fail
  obtain ⟨h5, f5⟩ := sets_rowF bx 26 [(0, .int .i64 0), (1, .string (strOfNums v1.1)), (2, .int .i64 0), (3, .int .i64 0), (4, .int .i64 0), (5, .int .i64 0), (6, .string ⟨#[]⟩), (7, .slice none 0 0), (8, .int .i64 0), (9, .int .i64 0), (10, .int .i64 v2.1), (11, .slice none 0 0), (12, .slice none 0 0)] W2 _ HW2.out.rw_
  simp only [List.foldl, List.setIfInBounds_toArray, List.set_cons_zero, List.set_cons_succ] at h5
  obtain ⟨Wz, hWz⟩ : ∃ z, setsF W2 bx [(0, .int .i64 0), (1, .string (strOfNums v1.1)), (2, .int .i64 0), (3, .int .i64 0), (4, .int .i64 0), (5, .int .i64 0), (6, .string ⟨#[]⟩), (7, .slice none 0 0), (8, .int .i64 0), (9, .int .i64 0), (10, .int .i64 v2.1), (11, .slice none 0 0), (12, .slice none 0 0)] = z := ⟨_, rfl⟩
  rw [hWz] at h5 f5
  have hwz : (((((((((((((W2.setCell ⟨bx, 0, none⟩ (.int .i64 0)).setCell ⟨bx, 1, none⟩ (.string (strOfNums v1.1))).setCell ⟨bx, 2, none⟩ (.int .i64 0)).setCell ⟨bx, 3, none⟩ (.int .i64 0)).setCell ⟨bx, 4, none⟩ (.int .i64 0)).setCell ⟨bx, 5, none⟩ (.int .i64 0)).setCell ⟨bx, 6, none⟩ (.string ⟨#[]⟩)).setCell ⟨bx, 7, none⟩ (.slice none 0 0)).setCell ⟨bx, 8, none⟩ (.int .i64 0)).setCell ⟨bx, 9, none⟩ (.int .i64 0)).setCell ⟨bx, 10, none⟩ (.int .i64 v2.1)).setCell ⟨bx, 11, none⟩ (.slice none 0 0)).setCell ⟨bx, 12, none⟩ (.slice none 0 0)) = Wz := hWz
  rw [hwz]
  have HZ := hid (Tk.put HW2.out h5 f5)
  have u0 : Wz.cell? ⟨bx, 0, none⟩ = some (.int .i64 0) := by rw [cell_of_row _ _ _ _ _ _ h5]; rfl
  have u1 : Wz.cell? ⟨bx, 1, none⟩ = some (.string (strOfNums v1.1)) := by rw [cell_of_row _ _ _ _ _ _ h5]; rfl
  have u2 : Wz.cell? ⟨bx, 2, none⟩ = some (.int .i64 0) := by rw [cell_of_row _ _ _ _ _ _ h5]; rfl
  have u3 : Wz.cell? ⟨bx, 3, none⟩ = some (.int .i64 0) := by rw [cell_of_row _ _ _ _ _ _ h5]; rfl
  have u4 : Wz.cell? ⟨bx, 4, none⟩ = some (.int .i64 0) := by rw [cell_of_row _ _ _ _ _ _ h5]; rfl
  have u5 : Wz.cell? ⟨bx, 5, none⟩ = some (.int .i64 0) := by rw [cell_of_row _ _ _ _ _ _ h5]; rfl
  have u6 : Wz.cell? ⟨bx, 6, none⟩ = some (.string ⟨#[]⟩) := by rw [cell_of_row _ _ _ _ _ _ h5]; rfl
  have u7 : Wz.cell? ⟨bx, 7, none⟩ = some (.slice none 0 0) := by rw [cell_of_row _ _ _ _ _ _ h5]; rfl
  have u8 : Wz.cell? ⟨bx, 8, none⟩ = some (.int .i64 0) := by rw [cell_of_row _ _ _ _ _ _ h5]; rfl
  have u9 : Wz.cell? ⟨bx, 9, none⟩ = some (.int .i64 0) := by rw [cell_of_row _ _ _ _ _ _ h5]; rfl
  have u10 : Wz.cell? ⟨bx, 10, none⟩ = some (.int .i64 v2.1) := by rw [cell_of_row _ _ _ _ _ _ h5]; rfl
  have u11 : Wz.cell? ⟨bx, 11, none⟩ = some (.slice none 0 0) := by rw [cell_of_row _ _ _ _ _ _ h5]; rfl
  have u12 : Wz.cell? ⟨bx, 12, none⟩ = some (.slice none 0 0) := by rw [cell_of_row _ _ _ _ _ _ h5]; rfl
  refine bodyPost_ret (v := .agg #[.int .i64 0, .string (strOfNums v1.1), .int .i64 0, .int .i64 0, .int .i64 0, .int .i64 0, .string ⟨#[]⟩, .slice none 0 0, .int .i64 0, .int .i64 0, .int .i64 v2.1, .slice none 0 0, .slice none 0 0]) (by simp [results, Tryz.results51, go_sem, u0, u1, u2, u3, u4, u5, u6, u7, u8, u9, u10, u11, u12]) rfl ?_
  refine HP.out _ _ ⟨⟨0, strOfNums v1.1, 0, 0, 0, 0, ⟨#[]⟩, none, 0, 0, 0, 0, v2.1, none, 0, 0, none, 0, 0⟩, rfl, ?_, ?_, ?_, HZ.out.frm⟩
  · unfold tvPk; rw [HV1.out, HV2.out]; rfl
  · unfold tvPk; rw [HV1.out, HV2.out]; exact ⟨World.ownsRow_nil _ _ _ _, rfl, by simp [blk], World.ownsRow_nil _ _ _ _, rfl, by simp [blk], Own.nil _ _, rfl, by simp [blk], by simp, by simp⟩
  · unfold tvPk; rw [HV1.out, HV2.out]; exact HZ.out.fr
def tvLv (bs : List Int) : TkV := ⟨⟨0, ⟨#[]⟩, 0, 0, 0, 0, ⟨#[]⟩, none, 0, 0, 0, 0, 0, none, 0, 0, none, 0, 0⟩, [], (tkK bs 0 4 (0, 0)).1, [], (tkK bs 0 4 (0, 0)).2⟩
set_option maxHeartbeats 6400000 in
theorem takeLive_any (w0 w : World) (b g : Nat) (bs : List Int) (hb : ∀ z ∈ bs, 0 ≤ z ∧ z < 256) (hl : bs.length ≤ 2048) (h : FrR w0 w b g bs (0, 0)) :
    Calls Tryz.prog 59 #[.pointer (some ⟨b, 0, none⟩)] w (TakP w0 w b g bs (tvLv bs)) := by
  obtain ⟨PO, hPO⟩ : ∃ PO : Ending → World → Prop, TakP w0 w b g bs (tvLv bs) = PO := ⟨_, rfl⟩
  rw [hPO]
  have HP := hid (show ∀ e w', TakP w0 w b g bs (tvLv bs) e w' → PO e w' from fun e w' h => by rw [← hPO]; exact h)
  have HB := hid hb
  have HL := hid hl
  have hbn := Tk.born h #[.int .i64 0, .string ⟨#[]⟩, .int .i64 0, .int .i64 0, .int .i64 0, .int .i64 0, .string ⟨#[]⟩, .slice none 0 0, .int .i64 0, .int .i64 0, .int .i64 0, .slice none 0 0, .slice none 0 0]
  obtain ⟨wx, hwx⟩ : ∃ z, w.alloc (.cells #[.int .i64 0, .string ⟨#[]⟩, .int .i64 0, .int .i64 0, .int .i64 0, .int .i64 0, .string ⟨#[]⟩, .slice none 0 0, .int .i64 0, .int .i64 0, .int .i64 0, .slice none 0 0, .slice none 0 0] 26) = z := ⟨_, rfl⟩
  obtain ⟨bx, hbx⟩ : ∃ z, w.heap.size = z := ⟨_, rfl⟩
  rw [hwx, hbx] at hbn
  have HS0 := hid hbn
  have HWX := hid hwx
  have HBX := hid hbx
  clear hb hl h hPO hbn hwx hbx
  go_enter Tryz.func59, Tryz.ntmps59
  go_upto_region 1 with fail
  first | rw [HWX.out] | skip
  first | rw [HBX.out] | skip
  have HCK := hid (takeKeep4_any w0 wx b g bs HB.out HL.out (0, 0) HS0.out.fr)
  obtain ⟨TV, hTV⟩ : ∃ v, tkK bs 0 4 (0, 0) = v := ⟨_, rfl⟩
  rw [hTV] at HCK
  have HTV := hid hTV
  clear hTV
  go_wp2_with fail
  refine HCK.out.mono ?_
  rintro e xk ⟨p, n, c, rfl, hn, ho, hnw, hr, hf⟩
  have HXK := hid (Tk.call HS0.out hr hf)
  have HO := hid ho
  have HN := hid hn
  have HNW : Hid (∀ k ∈ blk p, w.heap.size ≤ k ∧ k ≠ bx) := hid (fun k hk => by have h1 := hnw k hk; have h2 := HS0.out.frm.size; have h3 := lt_of_heap HS0.out.rw_; exact ⟨by omega, by omega⟩)
  have HNB : Hid (n ≤ 100000) := hid (by rw [← hn, ← HTV.out]; unfold tkK; rw [kpS_len]; unfold kpN; have := HL.out; omega)
  clear ho hn hnw hr hf HCK
  have z11 : xk.cell? ⟨bx, 11, none⟩ = some (.slice none 0 0) := by rw [cell_of_row _ _ _ _ _ _ HXK.out.rw_]; rfl
  have y11 := frozen_of_row xk bx 11 _ _ HXK.out.rw_
  go_upto_region 2 with fail
  obtain ⟨W1, hW1⟩ : ∃ z, xk.setCell ⟨bx, 11, none⟩ (.slice p n c) = z := ⟨_, rfl⟩
  have HW1 : Hid (Tk w0 w b g bs bx W1 #[.int .i64 0, .string ⟨#[]⟩, .int .i64 0, .int .i64 0, .int .i64 0, .int .i64 0, .string ⟨#[]⟩, .slice none 0 0, .int .i64 0, .int .i64 0, .int .i64 0, .slice p n c, .slice none 0 0] TV.2) := hid (by rw [← hW1]; exact Tk.set HXK.out 11 (.slice p n c))
  rw [hW1]
  clear z11 y11 
  have HO2 := hid (ownsRow_kept HO.out (show Frm [bx] xk W1 by rw [← hW1]; exact (Frm.refl [bx] xk).setCell _ _ (by simp)) (fun k hk hm => by rw [List.mem_singleton] at hm; exact (HNW.out k hk).2 hm))
  have z0 : W1.cell? ⟨bx, 0, none⟩ = some (.int .i64 0) := by rw [cell_of_row _ _ _ _ _ _ HW1.out.rw_]; rfl
  have y0 := frozen_of_row W1 bx 0 _ _ HW1.out.rw_
  have z1 : W1.cell? ⟨bx, 1, none⟩ = some (.string ⟨#[]⟩) := by rw [cell_of_row _ _ _ _ _ _ HW1.out.rw_]; rfl
  have y1 := frozen_of_row W1 bx 1 _ _ HW1.out.rw_
  have z2 : W1.cell? ⟨bx, 2, none⟩ = some (.int .i64 0) := by rw [cell_of_row _ _ _ _ _ _ HW1.out.rw_]; rfl
  have y2 := frozen_of_row W1 bx 2 _ _ HW1.out.rw_
  have z3 : W1.cell? ⟨bx, 3, none⟩ = some (.int .i64 0) := by rw [cell_of_row _ _ _ _ _ _ HW1.out.rw_]; rfl
  have y3 := frozen_of_row W1 bx 3 _ _ HW1.out.rw_
  have z4 : W1.cell? ⟨bx, 4, none⟩ = some (.int .i64 0) := by rw [cell_of_row _ _ _ _ _ _ HW1.out.rw_]; rfl
  have y4 := frozen_of_row W1 bx 4 _ _ HW1.out.rw_
  have z5 : W1.cell? ⟨bx, 5, none⟩ = some (.int .i64 0) := by rw [cell_of_row _ _ _ _ _ _ HW1.out.rw_]; rfl
  have y5 := frozen_of_row W1 bx 5 _ _ HW1.out.rw_
  have z6 : W1.cell? ⟨bx, 6, none⟩ = some (.string ⟨#[]⟩) := by rw [cell_of_row _ _ _ _ _ _ HW1.out.rw_]; rfl
  have y6 := frozen_of_row W1 bx 6 _ _ HW1.out.rw_
  have z7 : W1.cell? ⟨bx, 7, none⟩ = some (.slice none 0 0) := by rw [cell_of_row _ _ _ _ _ _ HW1.out.rw_]; rfl
  have y7 := frozen_of_row W1 bx 7 _ _ HW1.out.rw_
  have z8 : W1.cell? ⟨bx, 8, none⟩ = some (.int .i64 0) := by rw [cell_of_row _ _ _ _ _ _ HW1.out.rw_]; rfl
  have y8 := frozen_of_row W1 bx 8 _ _ HW1.out.rw_
  have z9 : W1.cell? ⟨bx, 9, none⟩ = some (.int .i64 0) := by rw [cell_of_row _ _ _ _ _ _ HW1.out.rw_]; rfl
  have y9 := frozen_of_row W1 bx 9 _ _ HW1.out.rw_
  have z10 : W1.cell? ⟨bx, 10, none⟩ = some (.int .i64 0) := by rw [cell_of_row _ _ _ _ _ _ HW1.out.rw_]; rfl
  have y10 := frozen_of_row W1 bx 10 _ _ HW1.out.rw_
  have z11 : W1.cell? ⟨bx, 11, none⟩ = some (.slice p n c) := by rw [cell_of_row _ _ _ _ _ _ HW1.out.rw_]; rfl
  have y11 := frozen_of_row W1 bx 11 _ _ HW1.out.rw_
  have z12 : W1.cell? ⟨bx, 12, none⟩ = some (.slice none 0 0) := by rw [cell_of_row _ _ _ _ _ _ HW1.out.rw_]; rfl
  have y12 := frozen_of_row W1 bx 12 _ _ HW1.out.rw_
  go_wp2_with fail
  obtain ⟨h5, f5⟩ := sets_rowF bx 26 [(0, .int .i64 0), (1, .string ⟨#[]⟩), (2, .int .i64 0), (3, .int .i64 0), (4, .int .i64 0), (5, .int .i64 0), (6, .string ⟨#[]⟩), (7, .slice none 0 0), (8, .int .i64 0), (9, .int .i64 0), (10, .int .i64 0), (11, .slice p n c), (12, .slice none 0 0)] W1 _ HW1.out.rw_
  simp only [List.foldl, List.setIfInBounds_toArray, List.set_cons_zero, List.set_cons_succ] at h5
  obtain ⟨Wz, hWz⟩ : ∃ z, setsF W1 bx [(0, .int .i64 0), (1, .string ⟨#[]⟩), (2, .int .i64 0), (3, .int .i64 0), (4, .int .i64 0), (5, .int .i64 0), (6, .string ⟨#[]⟩), (7, .slice none 0 0), (8, .int .i64 0), (9, .int .i64 0), (10, .int .i64 0), (11, .slice p n c), (12, .slice none 0 0)] = z := ⟨_, rfl⟩
  rw [hWz] at h5 f5
  have hwz : (((((((((((((W1.setCell ⟨bx, 0, none⟩ (.int .i64 0)).setCell ⟨bx, 1, none⟩ (.string ⟨#[]⟩)).setCell ⟨bx, 2, none⟩ (.int .i64 0)).setCell ⟨bx, 3, none⟩ (.int .i64 0)).setCell ⟨bx, 4, none⟩ (.int .i64 0)).setCell ⟨bx, 5, none⟩ (.int .i64 0)).setCell ⟨bx, 6, none⟩ (.string ⟨#[]⟩)).setCell ⟨bx, 7, none⟩ (.slice none 0 0)).setCell ⟨bx, 8, none⟩ (.int .i64 0)).setCell ⟨bx, 9, none⟩ (.int .i64 0)).setCell ⟨bx, 10, none⟩ (.int .i64 0)).setCell ⟨bx, 11, none⟩ (.slice p n c)).setCell ⟨bx, 12, none⟩ (.slice none 0 0)) = Wz := hWz
  rw [hwz]
  have HZ := hid (Tk.put HW1.out h5 f5)
  have u0 : Wz.cell? ⟨bx, 0, none⟩ = some (.int .i64 0) := by rw [cell_of_row _ _ _ _ _ _ h5]; rfl
  have u1 : Wz.cell? ⟨bx, 1, none⟩ = some (.string ⟨#[]⟩) := by rw [cell_of_row _ _ _ _ _ _ h5]; rfl
  have u2 : Wz.cell? ⟨bx, 2, none⟩ = some (.int .i64 0) := by rw [cell_of_row _ _ _ _ _ _ h5]; rfl
  have u3 : Wz.cell? ⟨bx, 3, none⟩ = some (.int .i64 0) := by rw [cell_of_row _ _ _ _ _ _ h5]; rfl
  have u4 : Wz.cell? ⟨bx, 4, none⟩ = some (.int .i64 0) := by rw [cell_of_row _ _ _ _ _ _ h5]; rfl
  have u5 : Wz.cell? ⟨bx, 5, none⟩ = some (.int .i64 0) := by rw [cell_of_row _ _ _ _ _ _ h5]; rfl
  have u6 : Wz.cell? ⟨bx, 6, none⟩ = some (.string ⟨#[]⟩) := by rw [cell_of_row _ _ _ _ _ _ h5]; rfl
  have u7 : Wz.cell? ⟨bx, 7, none⟩ = some (.slice none 0 0) := by rw [cell_of_row _ _ _ _ _ _ h5]; rfl
  have u8 : Wz.cell? ⟨bx, 8, none⟩ = some (.int .i64 0) := by rw [cell_of_row _ _ _ _ _ _ h5]; rfl
  have u9 : Wz.cell? ⟨bx, 9, none⟩ = some (.int .i64 0) := by rw [cell_of_row _ _ _ _ _ _ h5]; rfl
  have u10 : Wz.cell? ⟨bx, 10, none⟩ = some (.int .i64 0) := by rw [cell_of_row _ _ _ _ _ _ h5]; rfl
  have u11 : Wz.cell? ⟨bx, 11, none⟩ = some (.slice p n c) := by rw [cell_of_row _ _ _ _ _ _ h5]; rfl
  have u12 : Wz.cell? ⟨bx, 12, none⟩ = some (.slice none 0 0) := by rw [cell_of_row _ _ _ _ _ _ h5]; rfl
  refine bodyPost_ret (v := .agg #[.int .i64 0, .string ⟨#[]⟩, .int .i64 0, .int .i64 0, .int .i64 0, .int .i64 0, .string ⟨#[]⟩, .slice none 0 0, .int .i64 0, .int .i64 0, .int .i64 0, .slice p n c, .slice none 0 0]) (by simp [results, Tryz.results59, go_sem, u0, u1, u2, u3, u4, u5, u6, u7, u8, u9, u10, u11, u12]) rfl ?_
  refine HP.out _ _ ⟨⟨0, ⟨#[]⟩, 0, 0, 0, 0, ⟨#[]⟩, none, 0, 0, 0, 0, 0, p, n, c, none, 0, 0⟩, rfl, ?_, ?_, ?_, HZ.out.frm⟩
  · unfold tvLv; rw [HTV.out]; rfl
  · unfold tvLv; rw [HTV.out]; exact ⟨World.ownsRow_nil _ _ _ _, rfl, by simp [blk], ownsRow_kept HO2.out f5 (fun k hk hm => by rw [List.mem_singleton] at hm; exact (HNW.out k hk).2 hm), HN.out, fun k hk => (HNW.out k hk).1, Own.nil _ _, rfl, by simp [blk], by simp, by simp, HNB.out⟩
  · unfold tvLv; rw [HTV.out]; exact HZ.out.fr
def tvNd (bs : List Int) : TkV := ⟨⟨0, ⟨#[]⟩, 0, 0, 0, 0, ⟨#[]⟩, none, 0, 0, (nuS bs (0, 0) 4).1, 0, 0, none, 0, 0, none, 0, 0⟩, [], (tkK bs 1 2 (nuS bs (0, 0) 4).2).1, [], (tkK bs 1 2 (nuS bs (0, 0) 4).2).2⟩
set_option maxHeartbeats 6400000 in
theorem takeNode_any (w0 w : World) (b g : Nat) (bs : List Int) (hb : ∀ z ∈ bs, 0 ≤ z ∧ z < 256) (hl : bs.length ≤ 2048) (h : FrR w0 w b g bs (0, 0)) :
    Calls Tryz.prog 63 #[.pointer (some ⟨b, 0, none⟩)] w (TakP w0 w b g bs (tvNd bs)) := by
  obtain ⟨PO, hPO⟩ : ∃ PO : Ending → World → Prop, TakP w0 w b g bs (tvNd bs) = PO := ⟨_, rfl⟩
  rw [hPO]
  have HP := hid (show ∀ e w', TakP w0 w b g bs (tvNd bs) e w' → PO e w' from fun e w' h => by rw [← hPO]; exact h)
  have HB := hid hb
  have HL := hid hl
  have hbn := Tk.born h #[.int .i64 0, .string ⟨#[]⟩, .int .i64 0, .int .i64 0, .int .i64 0, .int .i64 0, .string ⟨#[]⟩, .slice none 0 0, .int .i64 0, .int .i64 0, .int .i64 0, .slice none 0 0, .slice none 0 0]
  obtain ⟨wx, hwx⟩ : ∃ z, w.alloc (.cells #[.int .i64 0, .string ⟨#[]⟩, .int .i64 0, .int .i64 0, .int .i64 0, .int .i64 0, .string ⟨#[]⟩, .slice none 0 0, .int .i64 0, .int .i64 0, .int .i64 0, .slice none 0 0, .slice none 0 0] 26) = z := ⟨_, rfl⟩
  obtain ⟨bx, hbx⟩ : ∃ z, w.heap.size = z := ⟨_, rfl⟩
  rw [hwx, hbx] at hbn
  have HS0 := hid hbn
  have HWX := hid hwx
  have HBX := hid hbx
  clear hb hl h hPO hbn hwx hbx
  go_enter Tryz.func63, Tryz.ntmps63
  go_upto_region 1 with fail
  first | rw [HWX.out] | skip
  first | rw [HBX.out] | skip
  have HC1 := hid (nR_any w0 wx b g bs HB.out (0, 0) HS0.out.fr 4 (by omega) (by omega))
  have hbd1 := nuS_bd HB.out (0, 0) 4 (by omega)
  obtain ⟨v1, hv1⟩ : ∃ v, nuS bs (0, 0) 4 = v := ⟨_, rfl⟩
  rw [hv1] at HC1 hbd1
  have HV1 := hid hv1
  clear hv1
  have hw1 : IntKind.i64.wrap v1.1 = v1.1 := by rw [IntKind.wrap_i64]; omega
  go_wp2_with fail
  refine HC1.out.mono ?_
  rintro e x1 ⟨rfl, hr, hf⟩
  have HX1 := hid (Tk.call HS0.out hr hf)
  clear hr hf HC1
  have z8 : x1.cell? ⟨bx, 8, none⟩ = some (.int .i64 0) := by rw [cell_of_row _ _ _ _ _ _ HX1.out.rw_]; rfl
  have y8 := frozen_of_row x1 bx 8 _ _ HX1.out.rw_
  go_upto_region 2 with fail
  obtain ⟨W1, hW1⟩ : ∃ z, x1.setCell ⟨bx, 8, none⟩ (.int .i64 v1.1) = z := ⟨_, rfl⟩
  have HW1 : Hid (Tk w0 w b g bs bx W1 #[.int .i64 0, .string ⟨#[]⟩, .int .i64 0, .int .i64 0, .int .i64 0, .int .i64 0, .string ⟨#[]⟩, .slice none 0 0, .int .i64 v1.1, .int .i64 0, .int .i64 0, .slice none 0 0, .slice none 0 0] v1.2) := hid (by rw [← hW1]; exact Tk.set HX1.out 8 (.int .i64 v1.1))
  rw [hW1]
  clear z8 y8 hw1 hbd1
  have HCK := hid (takeKeep2_any w0 W1 b g bs HB.out HL.out v1.2 HW1.out.fr)
  obtain ⟨TV, hTV⟩ : ∃ v, tkK bs 1 2 v1.2 = v := ⟨_, rfl⟩
  rw [hTV] at HCK
  have HTV := hid hTV
  clear hTV
  go_wp2_with fail
  refine HCK.out.mono ?_
  rintro e xk ⟨p, n, c, rfl, hn, ho, hnw, hr, hf⟩
  have HXK := hid (Tk.call HW1.out hr hf)
  have HO := hid ho
  have HN := hid hn
  have HNW : Hid (∀ k ∈ blk p, w.heap.size ≤ k ∧ k ≠ bx) := hid (fun k hk => by have h1 := hnw k hk; have h2 := HW1.out.frm.size; have h3 := lt_of_heap HW1.out.rw_; exact ⟨by omega, by omega⟩)
  have HNB : Hid (n ≤ 100000) := hid (by rw [← hn, ← HTV.out]; unfold tkK; rw [kpS_len]; unfold kpN; have := HL.out; omega)
  clear ho hn hnw hr hf HCK
  have z11 : xk.cell? ⟨bx, 11, none⟩ = some (.slice none 0 0) := by rw [cell_of_row _ _ _ _ _ _ HXK.out.rw_]; rfl
  have y11 := frozen_of_row xk bx 11 _ _ HXK.out.rw_
  go_upto_region 3 with fail
  obtain ⟨W2, hW2⟩ : ∃ z, xk.setCell ⟨bx, 11, none⟩ (.slice p n c) = z := ⟨_, rfl⟩
  have HW2 : Hid (Tk w0 w b g bs bx W2 #[.int .i64 0, .string ⟨#[]⟩, .int .i64 0, .int .i64 0, .int .i64 0, .int .i64 0, .string ⟨#[]⟩, .slice none 0 0, .int .i64 v1.1, .int .i64 0, .int .i64 0, .slice p n c, .slice none 0 0] TV.2) := hid (by rw [← hW2]; exact Tk.set HXK.out 11 (.slice p n c))
  rw [hW2]
  clear z11 y11 
  have HO2 := hid (ownsRow_kept HO.out (show Frm [bx] xk W2 by rw [← hW2]; exact (Frm.refl [bx] xk).setCell _ _ (by simp)) (fun k hk hm => by rw [List.mem_singleton] at hm; exact (HNW.out k hk).2 hm))
  have z0 : W2.cell? ⟨bx, 0, none⟩ = some (.int .i64 0) := by rw [cell_of_row _ _ _ _ _ _ HW2.out.rw_]; rfl
  have y0 := frozen_of_row W2 bx 0 _ _ HW2.out.rw_
  have z1 : W2.cell? ⟨bx, 1, none⟩ = some (.string ⟨#[]⟩) := by rw [cell_of_row _ _ _ _ _ _ HW2.out.rw_]; rfl
  have y1 := frozen_of_row W2 bx 1 _ _ HW2.out.rw_
  have z2 : W2.cell? ⟨bx, 2, none⟩ = some (.int .i64 0) := by rw [cell_of_row _ _ _ _ _ _ HW2.out.rw_]; rfl
  have y2 := frozen_of_row W2 bx 2 _ _ HW2.out.rw_
  have z3 : W2.cell? ⟨bx, 3, none⟩ = some (.int .i64 0) := by rw [cell_of_row _ _ _ _ _ _ HW2.out.rw_]; rfl
  have y3 := frozen_of_row W2 bx 3 _ _ HW2.out.rw_
  have z4 : W2.cell? ⟨bx, 4, none⟩ = some (.int .i64 0) := by rw [cell_of_row _ _ _ _ _ _ HW2.out.rw_]; rfl
  have y4 := frozen_of_row W2 bx 4 _ _ HW2.out.rw_
  have z5 : W2.cell? ⟨bx, 5, none⟩ = some (.int .i64 0) := by rw [cell_of_row _ _ _ _ _ _ HW2.out.rw_]; rfl
  have y5 := frozen_of_row W2 bx 5 _ _ HW2.out.rw_
  have z6 : W2.cell? ⟨bx, 6, none⟩ = some (.string ⟨#[]⟩) := by rw [cell_of_row _ _ _ _ _ _ HW2.out.rw_]; rfl
  have y6 := frozen_of_row W2 bx 6 _ _ HW2.out.rw_
  have z7 : W2.cell? ⟨bx, 7, none⟩ = some (.slice none 0 0) := by rw [cell_of_row _ _ _ _ _ _ HW2.out.rw_]; rfl
  have y7 := frozen_of_row W2 bx 7 _ _ HW2.out.rw_
  have z8 : W2.cell? ⟨bx, 8, none⟩ = some (.int .i64 v1.1) := by rw [cell_of_row _ _ _ _ _ _ HW2.out.rw_]; rfl
  have y8 := frozen_of_row W2 bx 8 _ _ HW2.out.rw_
  have z9 : W2.cell? ⟨bx, 9, none⟩ = some (.int .i64 0) := by rw [cell_of_row _ _ _ _ _ _ HW2.out.rw_]; rfl
  have y9 := frozen_of_row W2 bx 9 _ _ HW2.out.rw_
  have z10 : W2.cell? ⟨bx, 10, none⟩ = some (.int .i64 0) := by rw [cell_of_row _ _ _ _ _ _ HW2.out.rw_]; rfl
  have y10 := frozen_of_row W2 bx 10 _ _ HW2.out.rw_
  have z11 : W2.cell? ⟨bx, 11, none⟩ = some (.slice p n c) := by rw [cell_of_row _ _ _ _ _ _ HW2.out.rw_]; rfl
  have y11 := frozen_of_row W2 bx 11 _ _ HW2.out.rw_
  have z12 : W2.cell? ⟨bx, 12, none⟩ = some (.slice none 0 0) := by rw [cell_of_row _ _ _ _ _ _ HW2.out.rw_]; rfl
  have y12 := frozen_of_row W2 bx 12 _ _ HW2.out.rw_
  go_wp2_with fail
  obtain ⟨h5, f5⟩ := sets_rowF bx 26 [(0, .int .i64 0), (1, .string ⟨#[]⟩), (2, .int .i64 0), (3, .int .i64 0), (4, .int .i64 0), (5, .int .i64 0), (6, .string ⟨#[]⟩), (7, .slice none 0 0), (8, .int .i64 v1.1), (9, .int .i64 0), (10, .int .i64 0), (11, .slice p n c), (12, .slice none 0 0)] W2 _ HW2.out.rw_
  simp only [List.foldl, List.setIfInBounds_toArray, List.set_cons_zero, List.set_cons_succ] at h5
  obtain ⟨Wz, hWz⟩ : ∃ z, setsF W2 bx [(0, .int .i64 0), (1, .string ⟨#[]⟩), (2, .int .i64 0), (3, .int .i64 0), (4, .int .i64 0), (5, .int .i64 0), (6, .string ⟨#[]⟩), (7, .slice none 0 0), (8, .int .i64 v1.1), (9, .int .i64 0), (10, .int .i64 0), (11, .slice p n c), (12, .slice none 0 0)] = z := ⟨_, rfl⟩
  rw [hWz] at h5 f5
  have hwz : (((((((((((((W2.setCell ⟨bx, 0, none⟩ (.int .i64 0)).setCell ⟨bx, 1, none⟩ (.string ⟨#[]⟩)).setCell ⟨bx, 2, none⟩ (.int .i64 0)).setCell ⟨bx, 3, none⟩ (.int .i64 0)).setCell ⟨bx, 4, none⟩ (.int .i64 0)).setCell ⟨bx, 5, none⟩ (.int .i64 0)).setCell ⟨bx, 6, none⟩ (.string ⟨#[]⟩)).setCell ⟨bx, 7, none⟩ (.slice none 0 0)).setCell ⟨bx, 8, none⟩ (.int .i64 v1.1)).setCell ⟨bx, 9, none⟩ (.int .i64 0)).setCell ⟨bx, 10, none⟩ (.int .i64 0)).setCell ⟨bx, 11, none⟩ (.slice p n c)).setCell ⟨bx, 12, none⟩ (.slice none 0 0)) = Wz := hWz
  rw [hwz]
  have HZ := hid (Tk.put HW2.out h5 f5)
  have u0 : Wz.cell? ⟨bx, 0, none⟩ = some (.int .i64 0) := by rw [cell_of_row _ _ _ _ _ _ h5]; rfl
  have u1 : Wz.cell? ⟨bx, 1, none⟩ = some (.string ⟨#[]⟩) := by rw [cell_of_row _ _ _ _ _ _ h5]; rfl
  have u2 : Wz.cell? ⟨bx, 2, none⟩ = some (.int .i64 0) := by rw [cell_of_row _ _ _ _ _ _ h5]; rfl
  have u3 : Wz.cell? ⟨bx, 3, none⟩ = some (.int .i64 0) := by rw [cell_of_row _ _ _ _ _ _ h5]; rfl
  have u4 : Wz.cell? ⟨bx, 4, none⟩ = some (.int .i64 0) := by rw [cell_of_row _ _ _ _ _ _ h5]; rfl
  have u5 : Wz.cell? ⟨bx, 5, none⟩ = some (.int .i64 0) := by rw [cell_of_row _ _ _ _ _ _ h5]; rfl
  have u6 : Wz.cell? ⟨bx, 6, none⟩ = some (.string ⟨#[]⟩) := by rw [cell_of_row _ _ _ _ _ _ h5]; rfl
  have u7 : Wz.cell? ⟨bx, 7, none⟩ = some (.slice none 0 0) := by rw [cell_of_row _ _ _ _ _ _ h5]; rfl
  have u8 : Wz.cell? ⟨bx, 8, none⟩ = some (.int .i64 v1.1) := by rw [cell_of_row _ _ _ _ _ _ h5]; rfl
  have u9 : Wz.cell? ⟨bx, 9, none⟩ = some (.int .i64 0) := by rw [cell_of_row _ _ _ _ _ _ h5]; rfl
  have u10 : Wz.cell? ⟨bx, 10, none⟩ = some (.int .i64 0) := by rw [cell_of_row _ _ _ _ _ _ h5]; rfl
  have u11 : Wz.cell? ⟨bx, 11, none⟩ = some (.slice p n c) := by rw [cell_of_row _ _ _ _ _ _ h5]; rfl
  have u12 : Wz.cell? ⟨bx, 12, none⟩ = some (.slice none 0 0) := by rw [cell_of_row _ _ _ _ _ _ h5]; rfl
  refine bodyPost_ret (v := .agg #[.int .i64 0, .string ⟨#[]⟩, .int .i64 0, .int .i64 0, .int .i64 0, .int .i64 0, .string ⟨#[]⟩, .slice none 0 0, .int .i64 v1.1, .int .i64 0, .int .i64 0, .slice p n c, .slice none 0 0]) (by simp [results, Tryz.results63, go_sem, u0, u1, u2, u3, u4, u5, u6, u7, u8, u9, u10, u11, u12]) rfl ?_
  refine HP.out _ _ ⟨⟨0, ⟨#[]⟩, 0, 0, 0, 0, ⟨#[]⟩, none, 0, 0, v1.1, 0, 0, p, n, c, none, 0, 0⟩, rfl, ?_, ?_, ?_, HZ.out.frm⟩
  · unfold tvNd; rw [HV1.out, HTV.out]; rfl
  · unfold tvNd; rw [HV1.out, HTV.out]; exact ⟨World.ownsRow_nil _ _ _ _, rfl, by simp [blk], ownsRow_kept HO2.out f5 (fun k hk hm => by rw [List.mem_singleton] at hm; exact (HNW.out k hk).2 hm), HN.out, fun k hk => (HNW.out k hk).1, Own.nil _ _, rfl, by simp [blk], by simp, by simp, HNB.out⟩
  · unfold tvNd; rw [HV1.out, HTV.out]; exact HZ.out.fr
def tvWr (bs : List Int) : TkV := ⟨⟨0, ⟨#[]⟩, 0, 0, 0, 0, ⟨#[]⟩, none, 0, 0, (nuS bs (0, 0) 4).1, (nuS bs (nuS bs (0, 0) 4).2 2).1 - 1, 0, none, 0, 0, none, 0, 0⟩, [], [], (byS bs (nuS bs (nuS bs (nuS bs (0, 0) 4).2 2).2 2).2 (nuS bs (nuS bs (nuS bs (0, 0) 4).2 2).2 2).1).1, (byS bs (nuS bs (nuS bs (nuS bs (0, 0) 4).2 2).2 2).2 (nuS bs (nuS bs (nuS bs (0, 0) 4).2 2).2 2).1).2⟩
set_option maxHeartbeats 6400000 in
theorem takeWrite_any (w0 w : World) (b g : Nat) (bs : List Int) (hb : ∀ z ∈ bs, 0 ≤ z ∧ z < 256) (hl : bs.length ≤ 2048) (h : FrR w0 w b g bs (0, 0)) :
    Calls Tryz.prog 67 #[.pointer (some ⟨b, 0, none⟩)] w (TakP w0 w b g bs (tvWr bs)) := by
  obtain ⟨PO, hPO⟩ : ∃ PO : Ending → World → Prop, TakP w0 w b g bs (tvWr bs) = PO := ⟨_, rfl⟩
  rw [hPO]
  have HP := hid (show ∀ e w', TakP w0 w b g bs (tvWr bs) e w' → PO e w' from fun e w' h => by rw [← hPO]; exact h)
  have HB := hid hb
  have HL := hid hl
  have hbn := Tk.born h #[.int .i64 0, .string ⟨#[]⟩, .int .i64 0, .int .i64 0, .int .i64 0, .int .i64 0, .string ⟨#[]⟩, .slice none 0 0, .int .i64 0, .int .i64 0, .int .i64 0, .slice none 0 0, .slice none 0 0]
  obtain ⟨wx, hwx⟩ : ∃ z, w.alloc (.cells #[.int .i64 0, .string ⟨#[]⟩, .int .i64 0, .int .i64 0, .int .i64 0, .int .i64 0, .string ⟨#[]⟩, .slice none 0 0, .int .i64 0, .int .i64 0, .int .i64 0, .slice none 0 0, .slice none 0 0] 26) = z := ⟨_, rfl⟩
  obtain ⟨bx, hbx⟩ : ∃ z, w.heap.size = z := ⟨_, rfl⟩
  rw [hwx, hbx] at hbn
  have HS0 := hid hbn
  have HWX := hid hwx
  have HBX := hid hbx
  clear hb hl h hPO hbn hwx hbx
  go_enter Tryz.func67, Tryz.ntmps67
  go_upto_region 1 with fail
  first | rw [HWX.out] | skip
  first | rw [HBX.out] | skip
  have HC1 := hid (nR_any w0 wx b g bs HB.out (0, 0) HS0.out.fr 4 (by omega) (by omega))
  have hbd1 := nuS_bd HB.out (0, 0) 4 (by omega)
  obtain ⟨v1, hv1⟩ : ∃ v, nuS bs (0, 0) 4 = v := ⟨_, rfl⟩
  rw [hv1] at HC1 hbd1
  have HV1 := hid hv1
  clear hv1
  have hw1 : IntKind.i64.wrap v1.1 = v1.1 := by rw [IntKind.wrap_i64]; omega
  go_wp2_with fail
  refine HC1.out.mono ?_
  rintro e x1 ⟨rfl, hr, hf⟩
  have HX1 := hid (Tk.call HS0.out hr hf)
  clear hr hf HC1
  have z8 : x1.cell? ⟨bx, 8, none⟩ = some (.int .i64 0) := by rw [cell_of_row _ _ _ _ _ _ HX1.out.rw_]; rfl
  have y8 := frozen_of_row x1 bx 8 _ _ HX1.out.rw_
  go_upto_region 2 with fail
  obtain ⟨W1, hW1⟩ : ∃ z, x1.setCell ⟨bx, 8, none⟩ (.int .i64 v1.1) = z := ⟨_, rfl⟩
  have HW1 : Hid (Tk w0 w b g bs bx W1 #[.int .i64 0, .string ⟨#[]⟩, .int .i64 0, .int .i64 0, .int .i64 0, .int .i64 0, .string ⟨#[]⟩, .slice none 0 0, .int .i64 v1.1, .int .i64 0, .int .i64 0, .slice none 0 0, .slice none 0 0] v1.2) := hid (by rw [← hW1]; exact Tk.set HX1.out 8 (.int .i64 v1.1))
  rw [hW1]
  clear z8 y8 hw1 hbd1
  have HC2 := hid (nR_any w0 W1 b g bs HB.out v1.2 HW1.out.fr 2 (by omega) (by omega))
  have hbd2 := nuS_bd HB.out v1.2 2 (by omega)
  obtain ⟨v2, hv2⟩ : ∃ v, nuS bs v1.2 2 = v := ⟨_, rfl⟩
  rw [hv2] at HC2 hbd2
  have HV2 := hid hv2
  clear hv2
  have hw2 : IntKind.i64.wrap v2.1 = v2.1 := by rw [IntKind.wrap_i64]; omega
  go_wp2_with fail
  refine HC2.out.mono ?_
  rintro e x2 ⟨rfl, hr, hf⟩
  have HX2 := hid (Tk.call HW1.out hr hf)
  clear hr hf HC2
  have h64 : wrap64 (v2.1 - 1) = v2.1 - 1 := by unfold wrap64; omega
  have z9 : x2.cell? ⟨bx, 9, none⟩ = some (.int .i64 0) := by rw [cell_of_row _ _ _ _ _ _ HX2.out.rw_]; rfl
  have y9 := frozen_of_row x2 bx 9 _ _ HX2.out.rw_
  go_upto_region 3 with fail
  obtain ⟨W2, hW2⟩ : ∃ z, x2.setCell ⟨bx, 9, none⟩ (.int .i64 (v2.1 - 1)) = z := ⟨_, rfl⟩
  have HW2 : Hid (Tk w0 w b g bs bx W2 #[.int .i64 0, .string ⟨#[]⟩, .int .i64 0, .int .i64 0, .int .i64 0, .int .i64 0, .string ⟨#[]⟩, .slice none 0 0, .int .i64 v1.1, .int .i64 (v2.1 - 1), .int .i64 0, .slice none 0 0, .slice none 0 0] v2.2) := hid (by rw [← hW2]; exact Tk.set HX2.out 9 (.int .i64 (v2.1 - 1)))
  rw [hW2]
  clear z9 y9 hw2 hbd2 h64
  have HC3 := hid (nR_any w0 W2 b g bs HB.out v2.2 HW2.out.fr 2 (by omega) (by omega))
  have hbd3 := nuS_bd HB.out v2.2 2 (by omega)
  obtain ⟨v3, hv3⟩ : ∃ v, nuS bs v2.2 2 = v := ⟨_, rfl⟩
  rw [hv3] at HC3 hbd3
  have HV3 := hid hv3
  clear hv3
  have hw3 : IntKind.i64.wrap v3.1 = v3.1 := by rw [IntKind.wrap_i64]; omega
  go_wp2_with fail
  refine HC3.out.mono ?_
  rintro e x3 ⟨rfl, hr, hf⟩
  have HX3 := hid (Tk.call HW2.out hr hf)
  clear hr hf HC3
  have HCB := hid (bR_any w0 x3 b g bs v3.2 HX3.out.fr v3.1 (by omega) (by omega))
  have HDB := hid (byS_bd HB.out v3.2 v3.1)
  obtain ⟨v4, hv4⟩ : ∃ v, byS bs v3.2 v3.1 = v := ⟨_, rfl⟩
  rw [hv4] at HCB HDB
  have HV4 := hid hv4
  clear hv4
  go_wp2_with fail
  refine HCB.out.mono ?_
  rintro e x4 ⟨p, n, c, rfl, hn, ho, hnw, hr, hf⟩
  have HX4 := hid (Tk.call HX3.out hr hf)
  have HO := hid ho
  have HN := hid hn
  have HNW : Hid (∀ k ∈ blk p, w.heap.size ≤ k ∧ k ≠ bx) := hid (fun k hk => by have h1 := hnw k hk; have h2 := HX3.out.frm.size; have h3 := lt_of_heap HX3.out.rw_; exact ⟨by omega, by omega⟩)
  clear ho hn hnw hr hf HCB hw3 hbd3
  have z12 : x4.cell? ⟨bx, 12, none⟩ = some (.slice none 0 0) := by rw [cell_of_row _ _ _ _ _ _ HX4.out.rw_]; rfl
  have y12 := frozen_of_row x4 bx 12 _ _ HX4.out.rw_
  go_upto_region 4 with fail
  obtain ⟨W3, hW3⟩ : ∃ z, x4.setCell ⟨bx, 12, none⟩ (.slice p n c) = z := ⟨_, rfl⟩
  have HW3 : Hid (Tk w0 w b g bs bx W3 #[.int .i64 0, .string ⟨#[]⟩, .int .i64 0, .int .i64 0, .int .i64 0, .int .i64 0, .string ⟨#[]⟩, .slice none 0 0, .int .i64 v1.1, .int .i64 (v2.1 - 1), .int .i64 0, .slice none 0 0, .slice p n c] v4.2) := hid (by rw [← hW3]; exact Tk.set HX4.out 12 (.slice p n c))
  rw [hW3]
  clear z12 y12 
  have HO2 := hid (HO.out.kept (show Frm [bx] x4 W3 by rw [← hW3]; exact (Frm.refl [bx] x4).setCell _ _ (by simp)) (by rw [own_blk]; exact fun k hk hm => by rw [List.mem_singleton] at hm; exact (HNW.out k hk).2 hm))
  have z0 : W3.cell? ⟨bx, 0, none⟩ = some (.int .i64 0) := by rw [cell_of_row _ _ _ _ _ _ HW3.out.rw_]; rfl
  have y0 := frozen_of_row W3 bx 0 _ _ HW3.out.rw_
  have z1 : W3.cell? ⟨bx, 1, none⟩ = some (.string ⟨#[]⟩) := by rw [cell_of_row _ _ _ _ _ _ HW3.out.rw_]; rfl
  have y1 := frozen_of_row W3 bx 1 _ _ HW3.out.rw_
  have z2 : W3.cell? ⟨bx, 2, none⟩ = some (.int .i64 0) := by rw [cell_of_row _ _ _ _ _ _ HW3.out.rw_]; rfl
  have y2 := frozen_of_row W3 bx 2 _ _ HW3.out.rw_
  have z3 : W3.cell? ⟨bx, 3, none⟩ = some (.int .i64 0) := by rw [cell_of_row _ _ _ _ _ _ HW3.out.rw_]; rfl
  have y3 := frozen_of_row W3 bx 3 _ _ HW3.out.rw_
  have z4 : W3.cell? ⟨bx, 4, none⟩ = some (.int .i64 0) := by rw [cell_of_row _ _ _ _ _ _ HW3.out.rw_]; rfl
  have y4 := frozen_of_row W3 bx 4 _ _ HW3.out.rw_
  have z5 : W3.cell? ⟨bx, 5, none⟩ = some (.int .i64 0) := by rw [cell_of_row _ _ _ _ _ _ HW3.out.rw_]; rfl
  have y5 := frozen_of_row W3 bx 5 _ _ HW3.out.rw_
  have z6 : W3.cell? ⟨bx, 6, none⟩ = some (.string ⟨#[]⟩) := by rw [cell_of_row _ _ _ _ _ _ HW3.out.rw_]; rfl
  have y6 := frozen_of_row W3 bx 6 _ _ HW3.out.rw_
  have z7 : W3.cell? ⟨bx, 7, none⟩ = some (.slice none 0 0) := by rw [cell_of_row _ _ _ _ _ _ HW3.out.rw_]; rfl
  have y7 := frozen_of_row W3 bx 7 _ _ HW3.out.rw_
  have z8 : W3.cell? ⟨bx, 8, none⟩ = some (.int .i64 v1.1) := by rw [cell_of_row _ _ _ _ _ _ HW3.out.rw_]; rfl
  have y8 := frozen_of_row W3 bx 8 _ _ HW3.out.rw_
  have z9 : W3.cell? ⟨bx, 9, none⟩ = some (.int .i64 (v2.1 - 1)) := by rw [cell_of_row _ _ _ _ _ _ HW3.out.rw_]; rfl
  have y9 := frozen_of_row W3 bx 9 _ _ HW3.out.rw_
  have z10 : W3.cell? ⟨bx, 10, none⟩ = some (.int .i64 0) := by rw [cell_of_row _ _ _ _ _ _ HW3.out.rw_]; rfl
  have y10 := frozen_of_row W3 bx 10 _ _ HW3.out.rw_
  have z11 : W3.cell? ⟨bx, 11, none⟩ = some (.slice none 0 0) := by rw [cell_of_row _ _ _ _ _ _ HW3.out.rw_]; rfl
  have y11 := frozen_of_row W3 bx 11 _ _ HW3.out.rw_
  have z12 : W3.cell? ⟨bx, 12, none⟩ = some (.slice p n c) := by rw [cell_of_row _ _ _ _ _ _ HW3.out.rw_]; rfl
  have y12 := frozen_of_row W3 bx 12 _ _ HW3.out.rw_
  go_wp2_with fail
  obtain ⟨h5, f5⟩ := sets_rowF bx 26 [(0, .int .i64 0), (1, .string ⟨#[]⟩), (2, .int .i64 0), (3, .int .i64 0), (4, .int .i64 0), (5, .int .i64 0), (6, .string ⟨#[]⟩), (7, .slice none 0 0), (8, .int .i64 v1.1), (9, .int .i64 (v2.1 - 1)), (10, .int .i64 0), (11, .slice none 0 0), (12, .slice p n c)] W3 _ HW3.out.rw_
  simp only [List.foldl, List.setIfInBounds_toArray, List.set_cons_zero, List.set_cons_succ] at h5
  obtain ⟨Wz, hWz⟩ : ∃ z, setsF W3 bx [(0, .int .i64 0), (1, .string ⟨#[]⟩), (2, .int .i64 0), (3, .int .i64 0), (4, .int .i64 0), (5, .int .i64 0), (6, .string ⟨#[]⟩), (7, .slice none 0 0), (8, .int .i64 v1.1), (9, .int .i64 (v2.1 - 1)), (10, .int .i64 0), (11, .slice none 0 0), (12, .slice p n c)] = z := ⟨_, rfl⟩
  rw [hWz] at h5 f5
  have hwz : (((((((((((((W3.setCell ⟨bx, 0, none⟩ (.int .i64 0)).setCell ⟨bx, 1, none⟩ (.string ⟨#[]⟩)).setCell ⟨bx, 2, none⟩ (.int .i64 0)).setCell ⟨bx, 3, none⟩ (.int .i64 0)).setCell ⟨bx, 4, none⟩ (.int .i64 0)).setCell ⟨bx, 5, none⟩ (.int .i64 0)).setCell ⟨bx, 6, none⟩ (.string ⟨#[]⟩)).setCell ⟨bx, 7, none⟩ (.slice none 0 0)).setCell ⟨bx, 8, none⟩ (.int .i64 v1.1)).setCell ⟨bx, 9, none⟩ (.int .i64 (v2.1 - 1))).setCell ⟨bx, 10, none⟩ (.int .i64 0)).setCell ⟨bx, 11, none⟩ (.slice none 0 0)).setCell ⟨bx, 12, none⟩ (.slice p n c)) = Wz := hWz
  rw [hwz]
  have HZ := hid (Tk.put HW3.out h5 f5)
  have u0 : Wz.cell? ⟨bx, 0, none⟩ = some (.int .i64 0) := by rw [cell_of_row _ _ _ _ _ _ h5]; rfl
  have u1 : Wz.cell? ⟨bx, 1, none⟩ = some (.string ⟨#[]⟩) := by rw [cell_of_row _ _ _ _ _ _ h5]; rfl
  have u2 : Wz.cell? ⟨bx, 2, none⟩ = some (.int .i64 0) := by rw [cell_of_row _ _ _ _ _ _ h5]; rfl
  have u3 : Wz.cell? ⟨bx, 3, none⟩ = some (.int .i64 0) := by rw [cell_of_row _ _ _ _ _ _ h5]; rfl
  have u4 : Wz.cell? ⟨bx, 4, none⟩ = some (.int .i64 0) := by rw [cell_of_row _ _ _ _ _ _ h5]; rfl
  have u5 : Wz.cell? ⟨bx, 5, none⟩ = some (.int .i64 0) := by rw [cell_of_row _ _ _ _ _ _ h5]; rfl
  have u6 : Wz.cell? ⟨bx, 6, none⟩ = some (.string ⟨#[]⟩) := by rw [cell_of_row _ _ _ _ _ _ h5]; rfl
  have u7 : Wz.cell? ⟨bx, 7, none⟩ = some (.slice none 0 0) := by rw [cell_of_row _ _ _ _ _ _ h5]; rfl
  have u8 : Wz.cell? ⟨bx, 8, none⟩ = some (.int .i64 v1.1) := by rw [cell_of_row _ _ _ _ _ _ h5]; rfl
  have u9 : Wz.cell? ⟨bx, 9, none⟩ = some (.int .i64 (v2.1 - 1)) := by rw [cell_of_row _ _ _ _ _ _ h5]; rfl
  have u10 : Wz.cell? ⟨bx, 10, none⟩ = some (.int .i64 0) := by rw [cell_of_row _ _ _ _ _ _ h5]; rfl
  have u11 : Wz.cell? ⟨bx, 11, none⟩ = some (.slice none 0 0) := by rw [cell_of_row _ _ _ _ _ _ h5]; rfl
  have u12 : Wz.cell? ⟨bx, 12, none⟩ = some (.slice p n c) := by rw [cell_of_row _ _ _ _ _ _ h5]; rfl
  refine bodyPost_ret (v := .agg #[.int .i64 0, .string ⟨#[]⟩, .int .i64 0, .int .i64 0, .int .i64 0, .int .i64 0, .string ⟨#[]⟩, .slice none 0 0, .int .i64 v1.1, .int .i64 (v2.1 - 1), .int .i64 0, .slice none 0 0, .slice p n c]) (by simp [results, Tryz.results67, go_sem, u0, u1, u2, u3, u4, u5, u6, u7, u8, u9, u10, u11, u12]) rfl ?_
  refine HP.out _ _ ⟨⟨0, ⟨#[]⟩, 0, 0, 0, 0, ⟨#[]⟩, none, 0, 0, v1.1, v2.1 - 1, 0, none, 0, 0, p, n, c⟩, rfl, ?_, ?_, ?_, HZ.out.frm⟩
  · unfold tvWr; rw [HV1.out, HV2.out, HV3.out, HV4.out]; rfl
  · unfold tvWr; rw [HV1.out, HV2.out, HV3.out, HV4.out]; exact ⟨World.ownsRow_nil _ _ _ _, rfl, by simp [blk], World.ownsRow_nil _ _ _ _, rfl, by simp [blk], HO2.out.kept f5 (by rw [own_blk]; exact fun k hk hm => by rw [List.mem_singleton] at hm; exact (HNW.out k hk).2 hm), HN.out.symm, fun k hk => (HNW.out k hk).1, HDB.out, by simp⟩
  · unfold tvWr; rw [HV1.out, HV2.out, HV3.out, HV4.out]; exact HZ.out.fr
end
end Go.Proofs.YtajfjkfnmmfhmaaGreatDoor
