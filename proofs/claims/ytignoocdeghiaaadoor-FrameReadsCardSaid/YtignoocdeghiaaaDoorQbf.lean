/- Frames: a reply's body is taken up. -/
import Derived.Test.YtignoocdeghiaaaDoorQae
import Derived.Test.YtignoocdeghiaaaDoorQbc
import Derived.Test.YtignoocdeghiaaaDoorQaf
namespace Go.Proofs.YtignoocdeghiaaaDoor
section
open Go.RowKit Go.Lib
set_option maxRecDepth 100000

section
variable {P : Program} {w : World}
theorem wp_appV {o : Oper} {a : Act} {K : Act → World → Prop} {Q : Exit → Act → World → Prop} (hgd : o.guard = none) (s x : Operand) (t : TypeId)
    (ho : o.op = .call { callee := .builtin .append, args := #[s, x], argTypes := #[t, t] })
    (E : TypeId) (sz bytes : Nat) (z : Value) (ht : P.underlying t = some (.slice E)) (hI : (P.info? E).map (fun i => (i.zero, i.size, i.bytes)) = some (some z, sz, bytes)) (hzs : z.cells.size = sz) (hsz : 0 < sz)
    (p0 : Option Addr) (n c0 : Nat) (xs : List Value) (hs : a.eval s = .slice p0 n c0) (hown : w.ownsRow 0 E sz (.slice p0 n c0) n xs)
    (p : Option Addr) (m c : Nat) (ns : List Value) (hx : a.eval x = .slice p m c) (hnl : ns.length = m * sz) (hp : m = 0 → p = none → c = 0) (hrd : Rv w p ns) (h1 : ∀ u ∈ ns, u.oneCell' = true)
    (hmax : n + m ≤ maxLen) (hb : (n + m) * bytes ≤ 140737488355328)
    (h : ∀ p2 c2 w', Hid (w'.ownsRow 0 E sz (.slice p2 (n + m) c2) (n + m) (xs ++ ns)) → Hid (Frm (blk p0) w w') → Hid (∀ k ∈ blk p2, k ∈ blk p0 ∨ w.heap.size ≤ k) → K (a.put o.dst (.slice p2 (n + m) c2)) w') :
    Oper.wp P o a w K Q := by
  have hw : Region.wanted o (yielded #[] a.tmps) = true := by simp [Region.wanted, hgd]
  have := step_appV (ops := #[]) (K := K) (Q := Q) (Zz := True) hgd s x t ho E sz bytes z ht hI hzs hsz p0 n c0 xs hs hown p m c ns hx hnl hp hrd h1 hmax hb h
  rw [if_pos hw] at this
  exact this
end
theorem rv_of1 {w : World} {T : TypeId} {q : Option Addr} {n c : Nat} {vs : List Value} (h : w.ownsRow 0 T 1 (.slice q n c) n vs) (hl : vs.length = n) : Rv w q vs := by
  by_cases hn : n = 0
  · subst hn
    rw [List.eq_nil_of_length_eq_zero hl]
    exact Or.inl rfl
  · rcases h.2 with ⟨_, h0⟩ | ⟨g, c', cur, he, _⟩
    · omega
    · simp only [Value.slice.injEq] at he
      obtain ⟨rfl, _, _⟩ := he
      have hcell := fun i hi => World.ownsRow.cellAt h i hi
      refine Or.inr ⟨g, 0, rfl, fun i u hu => ?_⟩
      have hi := (List.getElem?_eq_some_iff.1 hu).1
      rw [hl] at hi
      rw [Nat.zero_add, hcell i (by omega)]
      exact hu
theorem infoStr : (Tryd.prog.info? 9).map (fun i => (i.zero, i.size, i.bytes)) = some (some (.string ⟨#[]⟩), 1, 16) := by kernel_rfl
def lsS (bs : List Int) (s : Rst) : Nat → List ByteArray × Rst
  | 0 => ([], s)
  | k + 1 => ((lsS bs s k).1 ++ [strOfNums (txS bs (lsS bs s k).2).1], (txS bs (lsS bs s k).2).2)
theorem lsS_len (bs : List Int) (s : Rst) : ∀ k, (lsS bs s k).1.length = k
  | 0 => rfl
  | k + 1 => by rw [lsS, List.length_append, lsS_len bs s k]; rfl
def a1 (bs : List Int) (s : Rst) := nuS bs s 1
def a2 (bs : List Int) (s : Rst) := nuS bs (a1 bs s).2 4
def a3 (bs : List Int) (s : Rst) := nuS bs (a2 bs s).2 2
def a4 (bs : List Int) (s : Rst) := nuS bs (a3 bs s).2 6
def a5 (bs : List Int) (s : Rst) := txS bs (a4 bs s).2
def a6 (bs : List Int) (s : Rst) := nuS bs (a5 bs s).2 2
def aK (bs : List Int) (s : Rst) : Nat := min (a6 bs s).1.toNat (bs.length - (a6 bs s).2.1)
def a7 (bs : List Int) (s : Rst) := lsS bs (a6 bs s).2 (aK bs s)
def a8 (bs : List Int) (s : Rst) := nuS bs (a7 bs s).2 2
def a9 (bs : List Int) (s : Rst) := byS bs (a8 bs s).2 (a8 bs s).1
/-- A reply as it was taken up. -/
def repT (bs : List Int) (s : Rst) (lp : Option Addr) (ln lc : Nat) (p : Option Addr) (n c : Nat) : Ra := ⟨(a1 bs s).1, (a2 bs s).1, (a3 bs s).1, (a4 bs s).1, strOfNums (a5 bs s).1, lp, ln, lc, p, n, c⟩
def TRepA (w0 w : World) (b g : Nat) (bs : List Int) (s : Rst) (e : Ending) (w' : World) : Prop := ∃ lp lc p n c, e = .returned (.agg (repT bs s lp (aK bs s) lc p n c).arr) ∧ n = (a9 bs s).1.length ∧ Own w' 5 (.slice p n c) (a9 bs s).1 ∧ (∀ k ∈ blk p, w.heap.size ≤ k) ∧ RdL w' lp (a7 bs s).1 ∧ (∀ k ∈ blk lp, w.heap.size ≤ k) ∧ FrR w0 w' b g bs (a9 bs s).2 ∧ Frm [b] w w'
/-- While the list comes together. -/
structure LisA (w0 w wr : World) (b g bx bq : Nat) (bs : List Int) (row : Option Addr → Nat → Nat → Array Value) (lp : Option Addr) (t lc : Nat) (L : List ByteArray) (s : Rst) : Prop where
  fr : Frm [b] w wr
  rd : FrR w0 wr b g bs s
  rw_ : wr.heap[bq]? = some (.cells (row lp t lc) 32 (0, 0))
  ow : wr.ownsRow 0 9 1 (.slice lp t lc) t (L.map Value.string)
  nw : ∀ k ∈ blk lp, w.heap.size ≤ k ∧ k ≠ bq ∧ k ≠ bx ∧ k ≠ b ∧ k ≠ g
  bc : wr.cell? ⟨bx, 0, none⟩ = some (.pointer (some ⟨b, 0, none⟩))
set_option maxHeartbeats 25600000 in
theorem tRep_any (w0 w : World) (b g : Nat) (bs : List Int) (hb : ∀ z ∈ bs, 0 ≤ z ∧ z < 256) (hbl : bs.length ≤ 65536) (s : Rst) (h : FrR w0 w b g bs s) :
    Calls Tryd.prog 43 #[.agg #[.pointer (some ⟨b, 0, none⟩)]] w (TRepA w0 w b g bs s) := by
  obtain ⟨PO, hPO⟩ : ∃ PO : Ending → World → Prop, TRepA w0 w b g bs s = PO := ⟨_, rfl⟩
  rw [hPO]
  have HP := hid (show ∀ e w', TRepA w0 w b g bs s e w' → PO e w' from fun e w' h => by rw [← hPO]; exact h)
  have HI := hid (fun (k : Int) (hk0 : 0 ≤ k) (hk : k ≤ 7) (t : Rst) W (hW : FrR w0 W b g bs t) => tInt_any w0 W b g bs hb t k hk0 hk hW)
  have HT := hid (fun (t : Rst) W (hW : FrR w0 W b g bs t) => tText_any w0 W b g bs hb t hW)
  have HD := hid (fun (t : Rst) W (hW : FrR w0 W b g bs t) => tData_any w0 W b g bs hb t hW)
  have HLF := hid (fun (t : Rst) W (hW : FrR w0 W b g bs t) => left_any b g t.1 bs t.2 W hW.1)
  have HBD := hid (fun (t : Rst) => nuS_bd hb t 2 (by omega))
  obtain ⟨wa, hwa⟩ : ∃ z, w.alloc (.cells #[.pointer (some ⟨b, 0, none⟩)] 77) = z := ⟨_, rfl⟩
  have hrowa := heap_alloc_new w (.cells #[.pointer (some ⟨b, 0, none⟩)] 77)
  have hfa : Frm [] w wa := by rw [← hwa]; exact (Frm.refl _ _).alloc _
  obtain ⟨bx, hbx⟩ : ∃ z, w.heap.size = z := ⟨_, rfl⟩
  rw [hwa, hbx] at hrowa
  obtain ⟨wq, hwq⟩ : ∃ z, wa.alloc (.cells #[.int .i64 0, .int .i64 0, .int .i64 0, .int .i64 0, .string ⟨#[]⟩, .slice none 0 0, .slice none 0 0] 32) = z := ⟨_, rfl⟩
  have hrowq := heap_alloc_new wa (.cells #[.int .i64 0, .int .i64 0, .int .i64 0, .int .i64 0, .string ⟨#[]⟩, .slice none 0 0, .slice none 0 0] 32)
  have hfq : Frm [] wa wq := by rw [← hwq]; exact (Frm.refl _ _).alloc _
  obtain ⟨bq, hbq⟩ : ∃ z, wa.heap.size = z := ⟨_, rfl⟩
  rw [hwq, hbq] at hrowq
  have hblt := h.1.cells.1
  have HNE : Hid (bx ≠ b ∧ bq ≠ b ∧ bx ≠ bq ∧ bq ≠ g ∧ w.heap.size ≤ bq ∧ w0.heap.size ≤ bq) := hid (by
    have h1 := hfa.size
    have h2 := lt_of_heap hrowa
    have h3 := h.1.cells.2.1
    have h4 := h.2.1.size
    refine ⟨by omega, by omega, by omega, by omega, by omega, by omega⟩)
  have HLT : Hid (bx < wq.heap.size ∧ bq < wq.heap.size ∧ b < w.heap.size ∧ g < w.heap.size) := hid ⟨by have := lt_of_heap hrowq; have := lt_of_heap hrowa; omega, lt_of_heap hrowq, hblt, h.1.cells.2.1⟩
  have HF0 : Hid (Frm [b] w wq) := hid ((hfa.trans hfq (by simp)).mono (by simp))
  have HR0 : Hid (FrR w0 wq b g bs s) := hid (FrR.k0 h (hfa.trans hfq (by simp)))
  have HQ0 := hid hrowq
  have HF0S : Hid (w.heap.size ≤ wq.heap.size) := hid (Nat.le_trans hfa.size hfq.size)
  have HW0W : Hid (w0.heap.size ≤ w.heap.size) := hid h.2.1.size
  have HB0 : Hid (wq.cell? ⟨bx, 0, none⟩ = some (.pointer (some ⟨b, 0, none⟩))) := hid (by rw [cell_of_row _ _ _ _ _ _ (hfq.heap hrowa (by simp))]; rfl)
  have HBX := hid hbx
  have HBQ := hid hbq
  have HBQ1 : Hid (bx + 1 = bq) := hid (by rw [← hbq, ← hwa, ← hbx]; simp)
  have HWA := hid hwa
  have HWQ := hid hwq
  clear h hb hrowa hrowq hfa hfq hblt hPO hbx hbq hwa hwq
  go_enter Tryd.func43, Tryd.ntmps43
  go_upto_region 1 with fail
  first | rw [HWA.out] | skip
  first | rw [HBX.out] | skip
  first | rw [HBQ.out] | skip
  first | rw [HBQ1.out] | skip
  first | rw [HWQ.out] | skip
  clear HWA HBX HBQ HBQ1 HWQ
  have hsA : wq.drew.cell? ⟨bx, 0, none⟩ = some (.pointer (some ⟨b, 0, none⟩)) := ((Frm.refl [] wq).drew.cell (World.block_lt_of_cell? _ _ HB0.out) (by simp)).trans HB0.out
  have hrA := FrR.k0 HR0.out (Frm.refl [] wq).drew
  obtain ⟨v0, hv0⟩ : ∃ v, a1 bs s = v := ⟨_, rfl⟩
  have HV0 := hid hv0
  obtain ⟨v1, hv1⟩ : ∃ v, a2 bs s = v := ⟨_, rfl⟩
  have HV1 := hid hv1
  obtain ⟨v2, hv2⟩ : ∃ v, a3 bs s = v := ⟨_, rfl⟩
  have HV2 := hid hv2
  obtain ⟨v3, hv3⟩ : ∃ v, a4 bs s = v := ⟨_, rfl⟩
  have HV3 := hid hv3
  refine wp_region_tail (S := fun W => (W.cell? ⟨bx, 0, none⟩ = some (.pointer (some ⟨b, 0, none⟩)))) 9 16 rfl (by kernel_rfl) (by kernel_rfl) ?_
  refine wpAnyHT_take (i := 0) (oi := _) (v := ?_) (by kernel_rfl) rfl (by kernel_rfl) (by kernel_rfl) (by kernel_rfl) (by kernel_rfl) (fun _ _ _ h => h) (Or.inl ⟨by rfl, ?_⟩) hsA ?_
  rotate_left 1
  · (intro W hSw; obtain s0 := hSw; (try simp only [List.getElem_toArray, List.getElem_cons_zero]); go_simp; try with_reducible rfl)
  try simp only [List.getElem_toArray, List.getElem_cons_zero, Act.put, List.setIfInBounds_toArray, List.set_cons_zero, List.set_cons_succ]
  refine wpAnyHT_take (i := 2) (oi := _) (v := ?_) (by kernel_rfl) rfl (by kernel_rfl) (by kernel_rfl) (by kernel_rfl) (by kernel_rfl) (fun _ _ _ h => h) (Or.inl ⟨by rfl, ?_⟩) hsA ?_
  rotate_left 1
  · (intro W hSw; obtain s0 := hSw; (try simp only [List.getElem_toArray, List.getElem_cons_succ, List.getElem_cons_zero]); go_simp; try with_reducible rfl)
  try simp only [List.getElem_toArray, List.getElem_cons_succ, List.getElem_cons_zero, Act.put, List.setIfInBounds_toArray, List.set_cons_zero, List.set_cons_succ]
  refine wpAnyHT_take (i := 4) (oi := _) (v := ?_) (by kernel_rfl) rfl (by kernel_rfl) (by kernel_rfl) (by kernel_rfl) (by kernel_rfl) (fun _ _ _ h => h) (Or.inl ⟨by rfl, ?_⟩) hsA ?_
  rotate_left 1
  · (intro W hSw; obtain s0 := hSw; (try simp only [List.getElem_toArray, List.getElem_cons_succ, List.getElem_cons_zero]); go_simp; try with_reducible rfl)
  try simp only [List.getElem_toArray, List.getElem_cons_succ, List.getElem_cons_zero, Act.put, List.setIfInBounds_toArray, List.set_cons_zero, List.set_cons_succ]
  refine wpAnyHT_take (i := 6) (oi := _) (v := ?_) (by kernel_rfl) rfl (by kernel_rfl) (by kernel_rfl) (by kernel_rfl) (by kernel_rfl) (fun _ _ _ h => h) (Or.inl ⟨by rfl, ?_⟩) hsA ?_
  rotate_left 1
  · (intro W hSw; obtain s0 := hSw; (try simp only [List.getElem_toArray, List.getElem_cons_succ, List.getElem_cons_zero]); go_simp; try with_reducible rfl)
  try simp only [List.getElem_toArray, List.getElem_cons_succ, List.getElem_cons_zero, Act.put, List.setIfInBounds_toArray, List.set_cons_zero, List.set_cons_succ]
  refine wpAnyHT_one (i := 1) rfl (by kernel_rfl) (by kernel_rfl) (fun K hK => ?_)
  try simp only [List.getElem_toArray, List.getElem_cons_succ, List.getElem_cons_zero]
  go_simp
  refine (HI.out 1 (by omega) (by omega) _ _ hrA).mono ?_
  rintro e x0 ⟨rfl, r0, f0⟩
  have e0 : nuS bs s 1 = v0 := hv0
  rw [e0] at r0 ⊢
  have hs0 : x0.cell? ⟨bx, 0, none⟩ = some (.pointer (some ⟨b, 0, none⟩)) := (f0.cell (World.block_lt_of_cell? _ _ hsA) (by simpa using HNE.out.1)).trans hsA
  refine hK _ _ hs0 ?_
  clear hK K
  try simp only [List.getElem_toArray, List.getElem_cons_succ, List.getElem_cons_zero, Act.put, List.setIfInBounds_toArray, List.set_cons_zero, List.set_cons_succ]
  refine wpAnyHT_take (i := 8) (oi := _) (v := ?_) (by kernel_rfl) rfl (by kernel_rfl) (by kernel_rfl) (by kernel_rfl) (by kernel_rfl) (fun _ _ _ h => h) (Or.inl ⟨by rfl, ?_⟩) hs0 ?_
  rotate_left 1
  · (intro W hSw; obtain s0 := hSw; (try simp only [List.getElem_toArray, List.getElem_cons_succ, List.getElem_cons_zero]); go_simp; try with_reducible rfl)
  try simp only [List.getElem_toArray, List.getElem_cons_succ, List.getElem_cons_zero, Act.put, List.setIfInBounds_toArray, List.set_cons_zero, List.set_cons_succ]
  refine wpAnyHT_one (i := 3) rfl (by kernel_rfl) (by kernel_rfl) (fun K hK => ?_)
  try simp only [List.getElem_toArray, List.getElem_cons_succ, List.getElem_cons_zero]
  go_simp
  refine (HI.out 4 (by omega) (by omega) _ _ r0).mono ?_
  rintro e x1 ⟨rfl, r1, f1⟩
  have e1 : nuS bs v0.2 4 = v1 := by rw [← HV0.out]; exact hv1
  rw [e1] at r1 ⊢
  have hs1 : x1.cell? ⟨bx, 0, none⟩ = some (.pointer (some ⟨b, 0, none⟩)) := (f1.cell (World.block_lt_of_cell? _ _ hs0) (by simpa using HNE.out.1)).trans hs0
  refine hK _ _ hs1 ?_
  clear hK K
  try simp only [List.getElem_toArray, List.getElem_cons_succ, List.getElem_cons_zero, Act.put, List.setIfInBounds_toArray, List.set_cons_zero, List.set_cons_succ]
  refine wpAnyHT_one (i := 5) rfl (by kernel_rfl) (by kernel_rfl) (fun K hK => ?_)
  try simp only [List.getElem_toArray, List.getElem_cons_succ, List.getElem_cons_zero]
  go_simp
  refine (HI.out 2 (by omega) (by omega) _ _ r1).mono ?_
  rintro e x2 ⟨rfl, r2, f2⟩
  have e2 : nuS bs v1.2 2 = v2 := by rw [← HV1.out]; exact hv2
  rw [e2] at r2 ⊢
  have hs2 : x2.cell? ⟨bx, 0, none⟩ = some (.pointer (some ⟨b, 0, none⟩)) := (f2.cell (World.block_lt_of_cell? _ _ hs1) (by simpa using HNE.out.1)).trans hs1
  refine hK _ _ hs2 ?_
  clear hK K
  try simp only [List.getElem_toArray, List.getElem_cons_succ, List.getElem_cons_zero, Act.put, List.setIfInBounds_toArray, List.set_cons_zero, List.set_cons_succ]
  refine wpAnyHT_one (i := 7) rfl (by kernel_rfl) (by kernel_rfl) (fun K hK => ?_)
  try simp only [List.getElem_toArray, List.getElem_cons_succ, List.getElem_cons_zero]
  go_simp
  refine (HI.out 6 (by omega) (by omega) _ _ r2).mono ?_
  rintro e x3 ⟨rfl, r3, f3⟩
  have e3 : nuS bs v2.2 6 = v3 := by rw [← HV2.out]; exact hv3
  rw [e3] at r3 ⊢
  have hs3 : x3.cell? ⟨bx, 0, none⟩ = some (.pointer (some ⟨b, 0, none⟩)) := (f3.cell (World.block_lt_of_cell? _ _ hs2) (by simpa using HNE.out.1)).trans hs2
  refine hK _ _ hs3 ?_
  clear hK K
  try simp only [List.getElem_toArray, List.getElem_cons_succ, List.getElem_cons_zero, Act.put, List.setIfInBounds_toArray, List.set_cons_zero, List.set_cons_succ]
  refine wpAnyHT_end (by kernel_rfl) ?_
  simp only [List.drop_succ_cons, List.drop_zero]
  have HFX : Hid (Frm [b] wq x3) := hid ((((((Frm.refl [b] wq).drew).trans f0 (fun i hi _ => hi)).trans f1 (fun i hi _ => hi)).trans f2 (fun i hi _ => hi)).trans f3 (fun i hi _ => hi))
  have hrow := HFX.out.heap HQ0.out (by simpa using HNE.out.2.1)
  have HRX := hid r3
  have HSX := hid hs3
  have z0 : x3.cell? ⟨bq, 0, none⟩ = some (.int .i64 0) := by rw [cell_of_row _ _ _ _ _ _ hrow]; rfl
  have y0 := frozen_of_row x3 bq 0 _ _ hrow
  have z1 : x3.cell? ⟨bq, 1, none⟩ = some (.int .i64 0) := by rw [cell_of_row _ _ _ _ _ _ hrow]; rfl
  have y1 := frozen_of_row x3 bq 1 _ _ hrow
  have z2 : x3.cell? ⟨bq, 2, none⟩ = some (.int .i64 0) := by rw [cell_of_row _ _ _ _ _ _ hrow]; rfl
  have y2 := frozen_of_row x3 bq 2 _ _ hrow
  have z3 : x3.cell? ⟨bq, 3, none⟩ = some (.int .i64 0) := by rw [cell_of_row _ _ _ _ _ _ hrow]; rfl
  have y3 := frozen_of_row x3 bq 3 _ _ hrow
  clear r0 f0 hs0 hv0 e0 r1 f1 hs1 hv1 e1 r2 f2 hs2 hv2 e2 r3 f3 hs3 hv3 e3 hrA hsA
  go_upto_region 2 with fail
  obtain ⟨h4, f4⟩ := sets_rowF bq 32 [(0, .int .i64 v0.1), (1, .int .i64 v1.1), (2, .int .i64 v2.1), (3, .int .i64 v3.1)] x3 _ hrow
  simp only [List.foldl, List.setIfInBounds_toArray, List.set_cons_zero, List.set_cons_succ] at h4
  obtain ⟨W1, hW1⟩ : ∃ z, setsF x3 bq [(0, .int .i64 v0.1), (1, .int .i64 v1.1), (2, .int .i64 v2.1), (3, .int .i64 v3.1)] = z := ⟨_, rfl⟩
  rw [hW1] at h4 f4
  have hwz : ((((x3.setCell ⟨bq, 0, none⟩ (.int .i64 v0.1)).setCell ⟨bq, 1, none⟩ (.int .i64 v1.1)).setCell ⟨bq, 2, none⟩ (.int .i64 v2.1)).setCell ⟨bq, 3, none⟩ (.int .i64 v3.1)) = W1 := hW1
  rw [hwz]
  have HQ1 := hid h4
  have HF1 : Hid (Frm [b] w W1) := hid ((HF0.out.trans HFX.out (fun i hi _ => hi)).trans f4 (fun i hi hl => by rw [List.mem_singleton] at hi; have := HNE.out.2.2.2.2.1; omega))
  have HB1 : Hid (W1.cell? ⟨bx, 0, none⟩ = some (.pointer (some ⟨b, 0, none⟩))) := hid ((f4.cell (World.block_lt_of_cell? _ _ HSX.out) (by simpa using HNE.out.2.2.1)).trans HSX.out)
  have HR1 : Hid (FrR w0 W1 b g bs v3.2) := hid (frR_set HRX.out f4 (fun h => HNE.out.2.1 h) HNE.out.2.2.2.1 HNE.out.2.2.2.2.2)
  have HS1 : Hid (wq.heap.size ≤ W1.heap.size) := hid (Nat.le_trans HFX.out.size f4.size)
  clear h4 f4 hW1 hwz hrow HFX HRX HSX z0 y0 z1 y1 z2 y2 z3 y3 HQ0 HF0 HB0 HR0
  have c0 := HB1.out
  obtain ⟨v4, hv4⟩ : ∃ v, a5 bs s = v := ⟨_, rfl⟩
  have HV4 := hid hv4
  have hdd := HT.out _ _ HR1.out
  have e4 : txS bs v3.2 = v4 := by rw [← HV3.out]; exact hv4
  rw [e4] at hdd
  have HDD := hid hdd
  clear hdd e4 hv4
  go_wp2_with fail
  refine HDD.out.mono ?_
  rintro e x4 ⟨rfl, hr4, hf4⟩
  have HFX : Hid (Frm [b] W1 x4) := hid hf4
  have hrow := hf4.heap HQ1.out (by simpa using HNE.out.2.1)
  have HRX := hid hr4
  have HSX : Hid (x4.cell? ⟨bx, 0, none⟩ = some (.pointer (some ⟨b, 0, none⟩))) := hid ((hf4.cell (World.block_lt_of_cell? _ _ HB1.out) (by simpa using HNE.out.1)).trans HB1.out)
  have z4 : x4.cell? ⟨bq, 4, none⟩ = some (.string ⟨#[]⟩) := by rw [cell_of_row _ _ _ _ _ _ hrow]; rfl
  have y4 := frozen_of_row x4 bq 4 _ _ hrow
  clear hr4 hf4 c0 HDD
  go_upto_region 3 with fail
  obtain ⟨h4, f4⟩ := sets_rowF bq 32 [(4, .string (strOfNums v4.1))] x4 _ hrow
  simp only [List.foldl, List.setIfInBounds_toArray, List.set_cons_zero, List.set_cons_succ] at h4
  obtain ⟨W2, hW2⟩ : ∃ z, setsF x4 bq [(4, .string (strOfNums v4.1))] = z := ⟨_, rfl⟩
  rw [hW2] at h4 f4
  have hwz : (x4.setCell ⟨bq, 4, none⟩ (.string (strOfNums v4.1))) = W2 := hW2
  rw [hwz]
  have HQ2 := hid h4
  have HF2 : Hid (Frm [b] w W2) := hid ((HF1.out.trans HFX.out (fun i hi _ => hi)).trans f4 (fun i hi hl => by rw [List.mem_singleton] at hi; have := HNE.out.2.2.2.2.1; omega))
  have HB2 : Hid (W2.cell? ⟨bx, 0, none⟩ = some (.pointer (some ⟨b, 0, none⟩))) := hid ((f4.cell (World.block_lt_of_cell? _ _ HSX.out) (by simpa using HNE.out.2.2.1)).trans HSX.out)
  have HR2 : Hid (FrR w0 W2 b g bs v4.2) := hid (frR_set HRX.out f4 (fun h => HNE.out.2.1 h) HNE.out.2.2.2.1 HNE.out.2.2.2.2.2)
  have HS2 : Hid (W1.heap.size ≤ W2.heap.size) := hid (Nat.le_trans HFX.out.size f4.size)
  clear h4 f4 hW2 hwz hrow HFX HRX HSX z4 y4 HQ1 HF1 HB1 HR1
  have HF2S : Hid (wq.heap.size ≤ W2.heap.size) := hid (by have := HS1.out; have := HS2.out; omega)
  obtain ⟨v5, hv5⟩ : ∃ v, a6 bs s = v := ⟨_, rfl⟩
  have HV5 := hid hv5
  obtain ⟨K, hKK⟩ : ∃ K, aK bs s = K := ⟨_, rfl⟩
  have HKV := hid hKK
  have hbd5 : 0 ≤ v5.1 ∧ v5.1 < 72057594037927936 := by rw [← hv5]; exact HBD.out _
  have hKe : (if (((bs.length - v5.2.1 : Nat) : Int) < v5.1) then ((bs.length - v5.2.1 : Nat) : Int) else v5.1) = (K : Int) := by
    rw [← hKK]
    unfold aK
    rw [hv5]
    split <;> omega
  have hKb : K ≤ 65536 := by rw [← hKK]; unfold aK; omega
  have hsA : W2.drew.cell? ⟨bx, 0, none⟩ = some (.pointer (some ⟨b, 0, none⟩)) := ((Frm.refl [] W2).drew.cell (World.block_lt_of_cell? _ _ HB2.out) (by simp)).trans HB2.out
  have hrA := FrR.k0 HR2.out (Frm.refl [] W2).drew
  have hi5 := HI.out 2 (by omega) (by omega) _ _ hrA
  have e5 : nuS bs v4.2 2 = v5 := by rw [← HV4.out]; exact hv5
  rw [e5] at hi5
  have HI5 := hid hi5
  have HKA : Hid (∀ w', Frm [b] W2.drew w' → w'.cell? ⟨bx, 0, none⟩ = some (.pointer (some ⟨b, 0, none⟩))) := hid (fun w' h => (h.cell (World.block_lt_of_cell? _ _ hsA) (by simpa using HNE.out.1)).trans hsA)
  have hmin : ∀ (ts : Array TypeId) (ty : TypeId) (W : World), Sem.run Tryd.prog (Builtin.min_ ts ty #[.int .i64 v5.1, .int .i64 ((bs.length - v5.2.1 : Nat) : Int)]) W = .ok (.int .i64 (K : Int)) W := by
    intro ts ty W
    have h := run_min_int2 (P := Tryd.prog) (w := W) ts ty .i64 .i64 v5.1 ((bs.length - v5.2.1 : Nat) : Int)
    rwa [hKe] at h
  clear hKe hi5 e5 hv5 hKK hrA
  obtain ⟨lf, hlf⟩ : ∃ z : Int, ((bs.length - v5.2.1 : Nat) : Int) = z := ⟨_, rfl⟩
  rw [hlf] at hmin
  have HLF5 : Hid (∀ W, FrR w0 W b g bs v5.2 → Calls Tryd.prog 67 #[.pointer (some ⟨b, 0, none⟩)] W fun e w' => e = .returned (.int .i64 lf) ∧ ∃ n, w' = w.drewN 0 ∨ w' = W.drewN n) := hid (fun W hW => by
    rw [← hlf]
    exact (HLF.out _ W hW).mono (fun e w' h => ⟨h.1, h.2.elim (fun n hn => ⟨n, Or.inr hn⟩)⟩))
  clear HLF5
  have HLF5 : Hid (∀ W, FrR w0 W b g bs v5.2 → Calls Tryd.prog 67 #[.pointer (some ⟨b, 0, none⟩)] W fun e w' => e = .returned (.int .i64 lf) ∧ ∃ n, w' = W.drewN n) := hid (fun W hW => by
    rw [← hlf]
    exact HLF.out _ W hW)
  clear hlf hbd5
  go_region_held3 (fun W => W.cell? ⟨bx, 0, none⟩ = some (.pointer (some ⟨b, 0, none⟩))) (first | go_keep | (exact hsA) | (exact HKA.out _ f5) | (exact HKA.out _ (f5.drewN _))) (first | ((with_reducible refine HI5.out.mono ?_); rintro e x5 ⟨rfl, r5, f5⟩) | ((with_reducible refine (HLF5.out _ r5).mono ?_); rintro e x6 ⟨rfl, n6, rfl⟩))

  have HL0 : Hid (LisA w0 w (x5.drewN n6) b g bx bq bs (fun lp t lc => #[.int .i64 v0.1, .int .i64 v1.1, .int .i64 v2.1, .int .i64 v3.1, .string (strOfNums v4.1), .slice lp t lc, .slice none 0 0]) none 0 0 (lsS bs v5.2 0).1 (lsS bs v5.2 0).2) := hid ⟨((HF2.out.trans ((Frm.refl [b] W2).drew) (fun i hi _ => hi)).trans f5 (fun i hi _ => hi)).drewN _, FrR.k0 r5 ((Frm.refl [] x5).drewN _), ((Frm.refl [b] W2).drew.trans (f5.drewN n6) (fun i hi _ => hi)).heap HQ2.out (by simpa using HNE.out.2.1), ⟨rfl, Or.inl ⟨rfl, rfl⟩⟩, by simp [blk], HKA.out _ (f5.drewN _)⟩
  have HW2Z : Hid (w.heap.size ≤ wq.heap.size ∧ wq.heap.size ≤ (x5.drewN n6).heap.size) := hid ⟨HF0S.out, by have := HF2S.out; have := f5.size; have e1 : (x5.drewN n6).heap.size = x5.heap.size := rfl; have e2 : W2.drew.heap.size = W2.heap.size := rfl; omega⟩
  obtain ⟨wl, hwl⟩ : ∃ z, x5.drewN n6 = z := ⟨_, rfl⟩
  rw [hwl] at HL0 HW2Z ⊢
  clear hwl r5 f5 HKA hmin hsA HI5 HLF5 HF2 HB2 HR2 HQ2
  go_wp2_with fail
  go_loopw [24] (fun i wr => ∃ (t : Nat) (lp : Option Addr) (lc : Nat), t ≤ K ∧ i = .int .i64 (t : Int) ∧ Hid (wl.heap.size ≤ wr.heap.size ∧ LisA w0 w wr b g bx bq bs (fun lp t lc => #[.int .i64 v0.1, .int .i64 v1.1, .int .i64 v2.1, .int .i64 v3.1, .string (strOfNums v4.1), .slice lp t lc, .slice none 0 0]) lp t lc (lsS bs v5.2 t).1 (lsS bs v5.2 t).2)) (fun i _ => K - (intOf i).toNat)
  case atStart => exact ⟨0, none, 0, Nat.zero_le _, rfl, hid ⟨Nat.le_refl _, HL0.out⟩⟩
  case round =>
    clear HL0
    obtain ⟨t, lp, lc, ht, rfl, hin⟩ := hrel
    have HIN := hid hin.out.2
    have HSZ := hid hin.out.1
    clear hin
    by_cases hlt : t < K
    case pos =>
      have t1 : (t : Int) < (K : Int) := by omega
      have hs0 : wr.drew.cell? ⟨bx, 0, none⟩ = some (.pointer (some ⟨b, 0, none⟩)) ∧ wr.drew.cell? ⟨bq, 5, none⟩ = some (.slice lp t lc) := ⟨HIN.out.bc, by rw [cell_of_row _ _ _ _ _ _ ((Frm.refl [] wr).drew.heap HIN.out.rw_ (by simp))]; rfl⟩
      have hr0 := FrR.k0 HIN.out.rd (Frm.refl [] wr).drew
      have HTT := hid (HT.out _ _ hr0)
      have HSU : Hid (lsS bs v5.2 (t + 1) = ((lsS bs v5.2 t).1 ++ [strOfNums (txS bs (lsS bs v5.2 t).2).1], (txS bs (lsS bs v5.2 t).2).2)) := hid rfl
      obtain ⟨LL, hLL⟩ : ∃ z, lsS bs v5.2 t = z := ⟨_, rfl⟩
      have hLn : LL.1.length = t := by rw [← hLL]; exact lsS_len _ _ _
      rw [hLL] at HIN HTT HSU
      have HLN := hid hLn
      obtain ⟨tv, htv⟩ : ∃ z, txS bs LL.2 = z := ⟨_, rfl⟩
      rw [htv] at HTT HSU
      clear hLL hLn htv hr0
      go_upto_region 5 with fail
      refine wp_region_tail (S := fun W => (W.cell? ⟨bx, 0, none⟩ = some (.pointer (some ⟨b, 0, none⟩)) ∧ W.cell? ⟨bq, 5, none⟩ = some (.slice lp t lc))) 6 8 rfl (by kernel_rfl) (by kernel_rfl) ?_
      refine wpAnyHT_take (i := 0) (oi := _) (v := ?_) (by kernel_rfl) rfl (by kernel_rfl) (by kernel_rfl) (by kernel_rfl) (by kernel_rfl) (fun _ _ _ h => h) (Or.inl ⟨by rfl, ?_⟩) hs0 ?_
      rotate_left 1
      · (intro W hSw; obtain ⟨s0, s1⟩ := hSw; (try simp only [List.getElem_toArray, List.getElem_cons_zero]); go_simp; try with_reducible rfl)
      try simp only [List.getElem_toArray, List.getElem_cons_zero, Act.put, List.setIfInBounds_toArray, List.set_cons_zero, List.set_cons_succ]
      refine wpAnyHT_take (i := 1) (oi := _) (v := ?_) (by kernel_rfl) rfl (by kernel_rfl) (by kernel_rfl) (by kernel_rfl) (by kernel_rfl) (fun _ _ _ h => h) (Or.inl ⟨by rfl, ?_⟩) hs0 ?_
      rotate_left 1
      · (intro W hSw; obtain ⟨s0, s1⟩ := hSw; (try simp only [List.getElem_toArray, List.getElem_cons_succ, List.getElem_cons_zero]); go_simp; try with_reducible rfl)
      try simp only [List.getElem_toArray, List.getElem_cons_succ, List.getElem_cons_zero, Act.put, List.setIfInBounds_toArray, List.set_cons_zero, List.set_cons_succ]
      refine wpAnyHT_take (i := 2) (oi := _) (v := ?_) (by kernel_rfl) rfl (by kernel_rfl) (by kernel_rfl) (by kernel_rfl) (by kernel_rfl) (fun _ _ _ h => h) (Or.inl ⟨by rfl, ?_⟩) hs0 ?_
      rotate_left 1
      · (intro W hSw; obtain ⟨s0, s1⟩ := hSw; (try simp only [List.getElem_toArray, List.getElem_cons_succ, List.getElem_cons_zero]); go_simp; try with_reducible rfl)
      try simp only [List.getElem_toArray, List.getElem_cons_succ, List.getElem_cons_zero, Act.put, List.setIfInBounds_toArray, List.set_cons_zero, List.set_cons_succ]
      refine wpAnyHT_one (i := 3) rfl (by kernel_rfl) (by kernel_rfl) (fun K hK => ?_)
      try simp only [List.getElem_toArray, List.getElem_cons_succ, List.getElem_cons_zero]
      go_simp
      refine HTT.out.mono ?_
      rintro e x7 ⟨rfl, r7, f7⟩
      have hs7 : x7.cell? ⟨bx, 0, none⟩ = some (.pointer (some ⟨b, 0, none⟩)) ∧ x7.cell? ⟨bq, 5, none⟩ = some (.slice lp t lc) := ⟨(f7.cell (World.block_lt_of_cell? _ _ hs0.1) (by simpa using HNE.out.1)).trans hs0.1, (f7.cell (World.block_lt_of_cell? _ _ hs0.2) (by simpa using HNE.out.2.1)).trans hs0.2⟩
      refine hK _ _ hs7 ?_
      clear hK K
      try simp only [List.getElem_toArray, List.getElem_cons_succ, List.getElem_cons_zero, Act.put, List.setIfInBounds_toArray, List.set_cons_zero, List.set_cons_succ]
      refine wpAnyHT_one (i := 4) rfl (by kernel_rfl) (by kernel_rfl) (fun K hK => ?_)
      try simp only [List.getElem_toArray, List.getElem_cons_succ, List.getElem_cons_zero]
      go_simp
      have hs8 : (x7.alloc (.cells #[.string (strOfNums tv.1)] 9)).cell? ⟨bx, 0, none⟩ = some (.pointer (some ⟨b, 0, none⟩)) ∧ (x7.alloc (.cells #[.string (strOfNums tv.1)] 9)).cell? ⟨bq, 5, none⟩ = some (.slice lp t lc) := ⟨(((Frm.refl [] x7).alloc _).cell (World.block_lt_of_cell? _ _ hs7.1) (by simp)).trans hs7.1, (((Frm.refl [] x7).alloc _).cell (World.block_lt_of_cell? _ _ hs7.2) (by simp)).trans hs7.2⟩
      refine hK _ _ hs8 ?_
      clear hK K
      try simp only [List.getElem_toArray, List.getElem_cons_succ, List.getElem_cons_zero, Act.put, List.setIfInBounds_toArray, List.set_cons_zero, List.set_cons_succ]
      refine wpAnyHT_one (i := 5) rfl (by kernel_rfl) (by kernel_rfl) (fun K hK => ?_)
      try simp only [List.getElem_toArray, List.getElem_cons_succ, List.getElem_cons_zero]
      rw [if_pos (by rfl)]
      apply wp_appV (s := .tmp 27) (x := .tmp 30) (t := 30) (E := 9) (sz := 1) (bytes := 16) (p0 := lp) (n := t) (c0 := lc) (xs := LL.1.map Value.string) (p := some ⟨x7.heap.size, 0, none⟩) (m := 1) (c := 1) (ns := [.string (strOfNums tv.1)])
      case hgd => exact rfl
      case ho => exact rfl
      case ht => exact Tryd.underlying30
      case hI => exact infoStr
      case hzs => exact rfl
      case hsz => exact (by decide)
      case hs => exact rfl
      case hown => exact ownsRow_kept HIN.out.ow (((Frm.refl [b] wr).drew.trans f7 (fun i hi _ => hi)).alloc _) (fun k hk hm => by rw [List.mem_singleton] at hm; exact (HIN.out.nw k hk).2.2.2.1 hm)
      case hx => rfl
      case hnl => rfl
      case hp => exact (fun h => by cases h)
      case hrd => exact rv_block (heap_alloc_new x7 (.cells #[.string (strOfNums tv.1)] 9))
      case h1 => (intro u hu; simp at hu; subst hu; rfl)
      case hmax => (unfold maxLen; omega)
      case hb => omega
      intro p8 c8 w8 ho8 hf8 hb8
      refine hK _ _ ⟨(hf8.out.cell (World.block_lt_of_cell? _ _ hs8.1) (fun hm => (HIN.out.nw bx hm).2.2.1 rfl)).trans hs8.1, (hf8.out.cell (World.block_lt_of_cell? _ _ hs8.2) (fun hm => (HIN.out.nw bq hm).2.1 rfl)).trans hs8.2⟩ ?_
      clear hK K hs8
      try simp only [Act.put, List.setIfInBounds_toArray, List.set_cons_zero, List.set_cons_succ]
      refine wpAnyHT_end (by kernel_rfl) ?_
      simp only [List.drop_succ_cons, List.drop_zero]
      have HNX : Hid (wl.heap.size ≤ (w8.setCell ⟨bq, 5, none⟩ (.slice p8 (t + 1) c8)).heap.size ∧ LisA w0 w (w8.setCell ⟨bq, 5, none⟩ (.slice p8 (t + 1) c8)) b g bx bq bs (fun lp t lc => #[.int .i64 v0.1, .int .i64 v1.1, .int .i64 v2.1, .int .i64 v3.1, .string (strOfNums v4.1), .slice lp t lc, .slice none 0 0]) p8 (t + 1) c8 (lsS bs v5.2 (t + 1)).1 (lsS bs v5.2 (t + 1)).2) := hid (by
        have hrow7 := f7.heap ((Frm.refl [b] wr).drew.heap HIN.out.rw_ (by simpa using HNE.out.2.1)) (by simpa using HNE.out.2.1)
        have hfa : Frm (blk lp) x7 w8 := (((Frm.refl [] x7).alloc _).mono (by simp)).trans hf8.out (fun i hi _ => hi)
        have hrow8 := hfa.heap hrow7 (fun hm => (HIN.out.nw bq hm).2.1 rfl)
        have hfs : Frm [bq] w8 (w8.setCell ⟨bq, 5, none⟩ (.slice p8 (t + 1) c8)) := (Frm.refl _ _).setCell _ _ (by simp)
        have s1 : wr.heap.size ≤ x7.heap.size := by have := f7.size; have e1 : wr.drew.heap.size = wr.heap.size := rfl; omega
        have s2 := hfa.size
        have s3 := hfs.size
        have z1 := HLT.out
        have z2 := HW2Z.out
        have z3 := HSZ.out
        have z4 := HNE.out
        have hnw : ∀ k ∈ blk p8, w.heap.size ≤ k ∧ k ≠ bq ∧ k ≠ bx ∧ k ≠ b ∧ k ≠ g := fun k hk => by
          rcases hb8.out k hk with h | h
          · exact HIN.out.nw k h
          · have e1 : (x7.alloc (.cells #[.string (strOfNums tv.1)] 9)).heap.size = x7.heap.size + 1 := by simp
            omega
        rw [HSU.out]
        refine ⟨by omega, ⟨?_, ?_, ?_, ?_, hnw, ?_⟩⟩
        · exact (((HIN.out.fr.trans (Frm.refl [b] wr).drew (fun i hi _ => hi)).trans f7 (fun i hi _ => hi)).trans hfa (fun i hi hl => by have := (HIN.out.nw i hi).1; omega)).trans hfs (fun i hi hl => by rw [List.mem_singleton] at hi; omega)
        · obtain ⟨c1, c2, c3, c4⟩ := r7
          have hk2 : FrR w0 w8 b g bs tv.2 := ⟨c1.kept hfa (fun hm => (HIN.out.nw b hm).2.2.2.1 rfl) (fun hm => (HIN.out.nw g hm).2.2.2.2 rfl), c2.trans hfa (fun i hi hl => by have h1 := (HIN.out.nw i hi).1; have h2 := HW0W.out; omega), c3, c4⟩
          exact frR_set hk2 hfs (fun h => HNE.out.2.1 h) HNE.out.2.2.2.1 HNE.out.2.2.2.2.2
        · rw [heap_setCell_same _ _ 5 _ _ _ hrow8]
          rfl
        · have h := ownsRow_kept ho8.out hfs (fun k hk hm => by rw [List.mem_singleton] at hm; exact (hnw k hk).2.1 hm)
          show World.ownsRow _ 0 _ 1 _ (t + 1) (List.map Value.string (LL.1 ++ [strOfNums tv.1]))
          rw [List.map_append]
          exact h
        · have hsx : w8.cell? ⟨bx, 0, none⟩ = some (.pointer (some ⟨b, 0, none⟩)) := (hfa.cell (World.block_lt_of_cell? _ _ hs7.1) (fun hm => (HIN.out.nw bx hm).2.2.1 rfl)).trans hs7.1
          exact (hfs.cell (World.block_lt_of_cell? _ _ hsx) (by simpa using HNE.out.2.2.1)).trans hsx)
      have hrow8 : w8.heap[bq]? = some (.cells ((fun lp t lc => #[.int .i64 v0.1, .int .i64 v1.1, .int .i64 v2.1, .int .i64 v3.1, .string (strOfNums v4.1), .slice lp t lc, .slice none 0 0]) lp t lc) 32 (0, 0)) := ((((Frm.refl [] x7).alloc _).mono (by simp) : Frm (blk lp) x7 _).trans hf8.out (fun i hi _ => hi)).heap (f7.heap ((Frm.refl [b] wr).drew.heap HIN.out.rw_ (by simpa using HNE.out.2.1)) (by simpa using HNE.out.2.1)) (fun hm => (HIN.out.nw bq hm).2.1 rfl)
      have z5 : w8.cell? ⟨bq, 5, none⟩ = some (.slice lp t lc) := by rw [cell_of_row _ _ _ _ _ _ hrow8]; rfl
      have y5 := frozen_of_row w8 bq 5 _ _ hrow8
      clear hrow8 ho8 hf8 hb8 f7 r7 hs7 hs0 HTT
      go_wp2_with fail
      go_roundw
      case rel => exact ⟨t + 1, p8, c8, by omega, by go_num, HNX⟩
      case measure => first | (simp [intOf]; done) | (simp [intOf]; omega)
    obtain rfl : t = K := by omega
    have HV6 : Hid (a7 bs s = lsS bs v5.2 t) := hid (by unfold a7; rw [HV5.out, HKV.out])
    obtain ⟨LL, hLL⟩ : ∃ z, lsS bs v5.2 t = z := ⟨_, rfl⟩
    have hLn : LL.1.length = t := by rw [← hLL]; exact lsS_len _ _ _
    rw [hLL] at HIN HV6
    have HLN := hid hLn
    obtain ⟨v8, hv8⟩ : ∃ v, a9 bs s = v := ⟨_, rfl⟩
    have HV8 := hid hv8
    have hdd := HD.out _ _ HIN.out.rd
    have e8 : byS bs (nuS bs LL.2 2).2 (nuS bs LL.2 2).1 = v8 := by
      rw [← hv8]
      unfold a9 a8
      rw [HV6.out]
    rw [e8] at hdd
    have HDD := hid hdd
    have c0 := HIN.out.bc
    have hrl := HIN.out.ow
    clear hdd e8 hv8 hLL hLn hlt
    go_wp2_with fail
    refine HDD.out.mono ?_
    rintro e x9 ⟨p, n, c, rfl, hn, ho, hnw, hr9, hf9⟩
    have hrow := hf9.heap HIN.out.rw_ (by simpa using HNE.out.2.1)
    have z6 : x9.cell? ⟨bq, 6, none⟩ = some (.slice none 0 0) := by rw [cell_of_row _ _ _ _ _ _ hrow]; rfl
    have y6 := frozen_of_row x9 bq 6 _ _ hrow
    have HOL9 : Hid (x9.ownsRow 0 9 1 (.slice lp t lc) t (LL.1.map Value.string)) := hid (ownsRow_kept hrl hf9 (fun k hk hm => by rw [List.mem_singleton] at hm; exact (HIN.out.nw k hk).2.2.2.1 hm))
    have HNWL : Hid (∀ k ∈ blk lp, w.heap.size ≤ k ∧ k ≠ bq) := hid (fun k hk => ⟨(HIN.out.nw k hk).1, (HIN.out.nw k hk).2.1⟩)
    have HO := hid ho
    have HNL := hid hn
    have HNW := hid hnw
    have HR9 := hid hr9
    have HF9 := hid hf9
    have HF3 := hid HIN.out.fr
    have HBL : Hid (bq ∉ blk p) := hid (fun hm => by have h1 := hnw bq hm; have h2 := HLT.out.2.1; have h3 := HSZ.out; have h4 := HW2Z.out; omega)
    clear ho hn hnw hr9 hf9 c0 HDD hrl HIN
    go_upto_region 8 with fail
    obtain ⟨h4, f4⟩ := sets_rowF bq 32 [(6, .slice p n c)] x9 _ hrow
    simp only [List.foldl, List.setIfInBounds_toArray, List.set_cons_zero, List.set_cons_succ] at h4
    obtain ⟨W4, hW4⟩ : ∃ z, setsF x9 bq [(6, .slice p n c)] = z := ⟨_, rfl⟩
    rw [hW4] at h4 f4
    have hwz : x9.setCell ⟨bq, 6, none⟩ (.slice p n c) = W4 := hW4
    rw [hwz]
    have HQ4 := hid h4
    have HX4 : Hid (n = v8.1.length ∧ Own W4 5 (.slice p n c) v8.1 ∧ (∀ k ∈ blk p, w.heap.size ≤ k) ∧ FrR w0 W4 b g bs v8.2 ∧ Frm [b] w W4) := hid ⟨HNL.out, HO.out.kept f4 (by rw [own_blk]; exact fun k hk hm => by rw [List.mem_singleton] at hm; subst hm; exact HBL.out hk), fun k hk => by have := HNW.out k hk; have := HF3.out.size; omega, frR_set HR9.out f4 (fun h => HNE.out.2.1 h) HNE.out.2.2.2.1 HNE.out.2.2.2.2.2, (HF3.out.trans HF9.out (fun i hi _ => hi)).trans f4 (fun i hi hl => by rw [List.mem_singleton] at hi; have := HNE.out.2.2.2.2.1; omega)⟩
    have HOL4 : Hid (W4.ownsRow 0 9 1 (.slice lp t lc) t (LL.1.map Value.string)) := hid (ownsRow_kept HOL9.out f4 (fun k hk hm => by rw [List.mem_singleton] at hm; exact (HNWL.out k hk).2 hm))
    clear h4 f4 hW4 hwz hrow z6 y6 HO HNL HNW HR9 HF9 HF3 HOL9
    have z0 : W4.cell? ⟨bq, 0, none⟩ = some (.int .i64 v0.1) := by rw [cell_of_row _ _ _ _ _ _ HQ4.out]; rfl
    have y0 := frozen_of_row W4 bq 0 _ _ HQ4.out
    have z1 : W4.cell? ⟨bq, 1, none⟩ = some (.int .i64 v1.1) := by rw [cell_of_row _ _ _ _ _ _ HQ4.out]; rfl
    have y1 := frozen_of_row W4 bq 1 _ _ HQ4.out
    have z2 : W4.cell? ⟨bq, 2, none⟩ = some (.int .i64 v2.1) := by rw [cell_of_row _ _ _ _ _ _ HQ4.out]; rfl
    have y2 := frozen_of_row W4 bq 2 _ _ HQ4.out
    have z3 : W4.cell? ⟨bq, 3, none⟩ = some (.int .i64 v3.1) := by rw [cell_of_row _ _ _ _ _ _ HQ4.out]; rfl
    have y3 := frozen_of_row W4 bq 3 _ _ HQ4.out
    have z4 : W4.cell? ⟨bq, 4, none⟩ = some (.string (strOfNums v4.1)) := by rw [cell_of_row _ _ _ _ _ _ HQ4.out]; rfl
    have y4 := frozen_of_row W4 bq 4 _ _ HQ4.out
    have z5 : W4.cell? ⟨bq, 5, none⟩ = some (.slice lp t lc) := by rw [cell_of_row _ _ _ _ _ _ HQ4.out]; rfl
    have y5 := frozen_of_row W4 bq 5 _ _ HQ4.out
    have z6 : W4.cell? ⟨bq, 6, none⟩ = some (.slice p n c) := by rw [cell_of_row _ _ _ _ _ _ HQ4.out]; rfl
    have y6 := frozen_of_row W4 bq 6 _ _ HQ4.out
    go_wp2_with fail
    obtain ⟨h5, f5⟩ := sets_rowF bq 32 [(0, .int .i64 v0.1), (1, .int .i64 v1.1), (2, .int .i64 v2.1), (3, .int .i64 v3.1), (4, .string (strOfNums v4.1)), (5, .slice lp t lc), (6, .slice p n c)] W4 _ HQ4.out
    simp only [List.foldl, List.setIfInBounds_toArray, List.set_cons_zero, List.set_cons_succ] at h5
    obtain ⟨Wz, hWz⟩ : ∃ z, setsF W4 bq [(0, .int .i64 v0.1), (1, .int .i64 v1.1), (2, .int .i64 v2.1), (3, .int .i64 v3.1), (4, .string (strOfNums v4.1)), (5, .slice lp t lc), (6, .slice p n c)] = z := ⟨_, rfl⟩
    rw [hWz] at h5 f5
    have hwz : (((((((W4.setCell ⟨bq, 0, none⟩ (.int .i64 v0.1)).setCell ⟨bq, 1, none⟩ (.int .i64 v1.1)).setCell ⟨bq, 2, none⟩ (.int .i64 v2.1)).setCell ⟨bq, 3, none⟩ (.int .i64 v3.1)).setCell ⟨bq, 4, none⟩ (.string (strOfNums v4.1))).setCell ⟨bq, 5, none⟩ (.slice lp t lc)).setCell ⟨bq, 6, none⟩ (.slice p n c)) = Wz := hWz
    rw [hwz]
    have u0 : Wz.cell? ⟨bq, 0, none⟩ = some (.int .i64 v0.1) := by rw [cell_of_row _ _ _ _ _ _ h5]; rfl
    have u1 : Wz.cell? ⟨bq, 1, none⟩ = some (.int .i64 v1.1) := by rw [cell_of_row _ _ _ _ _ _ h5]; rfl
    have u2 : Wz.cell? ⟨bq, 2, none⟩ = some (.int .i64 v2.1) := by rw [cell_of_row _ _ _ _ _ _ h5]; rfl
    have u3 : Wz.cell? ⟨bq, 3, none⟩ = some (.int .i64 v3.1) := by rw [cell_of_row _ _ _ _ _ _ h5]; rfl
    have u4 : Wz.cell? ⟨bq, 4, none⟩ = some (.string (strOfNums v4.1)) := by rw [cell_of_row _ _ _ _ _ _ h5]; rfl
    have u5 : Wz.cell? ⟨bq, 5, none⟩ = some (.slice lp t lc) := by rw [cell_of_row _ _ _ _ _ _ h5]; rfl
    have u6 : Wz.cell? ⟨bq, 6, none⟩ = some (.slice p n c) := by rw [cell_of_row _ _ _ _ _ _ h5]; rfl
    refine bodyPost_ret (v := .agg #[.int .i64 v0.1, .int .i64 v1.1, .int .i64 v2.1, .int .i64 v3.1, .string (strOfNums v4.1), .slice lp t lc, .slice p n c]) (by simp [results, Tryd.results43, go_sem, u0, u1, u2, u3, u4, u5, u6]) rfl ?_
    obtain ⟨hn, ho, hnw, hr, hf⟩ := HX4.out
    have hz : Frm [b] w Wz := hf.trans f5 (fun i hi hl => by rw [List.mem_singleton] at hi; have := HNE.out.2.2.2.2.1; omega)
    refine HP.out _ _ ⟨lp, lc, p, n, c, ?_, by rw [HV8.out]; exact hn, by rw [HV8.out]; exact ho.kept f5 (by rw [own_blk]; exact fun k hk hm => by rw [List.mem_singleton] at hm; subst hm; exact HBL.out hk), hnw, by rw [HV6.out]; exact rv_of1 (ownsRow_kept HOL4.out f5 (fun k hk hm => by rw [List.mem_singleton] at hm; exact (HNWL.out k hk).2 hm)) (by rw [List.length_map]; exact HLN.out), fun k hk => (HNWL.out k hk).1, by rw [HV8.out]; exact frR_set hr f5 (fun h => HNE.out.2.1 h) HNE.out.2.2.2.1 HNE.out.2.2.2.2.2, hz⟩
    rw [repT, HV0.out, HV1.out, HV2.out, HV3.out, HV4.out, HKV.out]
    rfl
end
end Go.Proofs.YtignoocdeghiaaaDoor
