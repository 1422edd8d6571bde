/- Records' laws: a record in memory of its own, and a record spoiled. Records: the document's Same of two records that are the same. Laws of no program: slices of structs: a part of one, copy, clear, append where there is room, append of noughts. -/
import Derived.Laws.EntriesVeiled
import Derived.Test.YtajfjkfnmmfhmaaGreatDoorQwbb
import Derived.Test.YtajfjkfnmmfhmaaGreatDoorQwat
import Derived.BigQuiet
import Derived.Test.YtajfjkfnmmfhmaaGreatDoorQwap
import Derived.Test.YtajfjkfnmmfhmaaGreatDoorQwba
import Derived.Lib.AppendZerosOnto
import Derived.Lib.Overlaps
import Derived.Test.YtajfjkfnmmfhmaaGreatDoorQwac
namespace Go.Proofs.YtajfjkfnmmfhmaaGreatDoor
section
open Go.RowKit Go.Lib
set_option maxRecDepth 100000
/-- A record whose lists are one's own and new, of any length. -/
structure RcLn (w : World) (r : Rc) (P : List Pr) (K D : List Int) (lo : Nat) : Prop where
  po : w.ownsRow 0 70 2 (.slice r.pp r.pn r.pc) r.pn (prC P)
  pl : P.length = r.pn
  pw : ∀ k ∈ blk r.pp, lo ≤ k
  ko : w.ownsRow 0 3 1 (.slice r.kp r.kn r.kc) r.kn (K.map (Value.int .i64))
  kl : K.length = r.kn
  kw : ∀ k ∈ blk r.kp, lo ≤ k
  ow : Own w 5 (.slice r.dp r.dl r.dc) D
  dl : D.length = r.dl
  dw : ∀ k ∈ blk r.dp, lo ≤ k
  db : ∀ z ∈ D, 0 ≤ z ∧ z < 256
  mx : r.pn ≤ 140737488355328 ∧ r.kn ≤ 140737488355328 ∧ r.dl ≤ 140737488355328
theorem RcLn.ok {w : World} {r : Rc} {P : List Pr} {K D : List Int} {lo : Nat} (h : RcLn w r P K D lo) : RcOk w r P K D := by
  refine ⟨?_, h.pl, ?_, h.kl, h.ow.rd, h.dl, h.db, by have := h.mx; omega⟩
  · rcases rv_of1 h.po (by rw [prC_len, h.pl]) with h1 | ⟨g, o, he, hc⟩
    · cases P with
      | nil => exact Or.inl rfl
      | cons x l => simp [prC] at h1
    · refine Or.inr ⟨g, o, he, fun i x hx => ?_⟩
      obtain ⟨h1, h2⟩ := prC_at P i x hx
      rw [Nat.add_assoc]
      exact ⟨hc _ _ h1, hc _ _ h2⟩
  · exact rv_of1 h.ko (by rw [List.length_map, h.kl, Nat.mul_one])
theorem RcLn.kept {S : List Nat} {w w' : World} {r : Rc} {P : List Pr} {K D : List Int} {lo : Nat} (h : RcLn w r P K D lo) (hf : Frm S w w') (h1 : ∀ k ∈ blk r.pp, k ∉ S) (h2 : ∀ k ∈ blk r.kp, k ∉ S) (h3 : ∀ k ∈ blk r.dp, k ∉ S) : RcLn w' r P K D lo :=
  ⟨ownsRow_kept h.po hf h1, h.pl, h.pw, ownsRow_kept h.ko hf h2, h.kl, h.kw, h.ow.kept hf (by rw [own_blk]; exact h3), h.dl, h.dw, h.db, h.mx⟩
theorem RcLn.k0 {w w' : World} {r : Rc} {P : List Pr} {K D : List Int} {lo : Nat} (h : RcLn w r P K D lo) (hf : Frm [] w w') : RcLn w' r P K D lo := h.kept hf (by simp) (by simp) (by simp)
theorem prC_one : ∀ (P : List Pr), ∀ u ∈ prC P, u.oneCell' = true
  | [], u, h => by simp [prC] at h
  | x :: l, u, h => by
    simp only [prC, List.mem_cons] at h
    rcases h with rfl | rfl | h
    · rfl
    · rfl
    · exact prC_one l u h
theorem rv_prC {w : World} {p : Option Addr} {P : List Pr} (h : RdP w p P) : Rv w p (prC P) := by
  rcases h with h | ⟨g, o, hp, hc⟩
  · rw [h]; exact Or.inl rfl
  · refine Or.inr ⟨g, o, hp, fun i u hu => ?_⟩
    have hi := (List.getElem?_eq_some_iff.1 hu).1
    rw [prC_len] at hi
    have h2 : i / 2 < P.length := by omega
    obtain ⟨h3, h4⟩ := prC_at P (i / 2) _ (List.getElem?_eq_getElem h2)
    obtain ⟨c1, c2⟩ := hc (i / 2) _ (List.getElem?_eq_getElem h2)
    by_cases he : i % 2 = 0
    · have e : i / 2 * 2 = i := by omega
      rw [e] at h3 c1
      rw [hu] at h3
      rw [c1, ← h3]
    · have e : i / 2 * 2 + 1 = i := by omega
      rw [e] at h4
      rw [Nat.add_assoc, e] at c2
      rw [hu] at h4
      rw [c2, ← h4]
set_option maxHeartbeats 12800000 in
theorem lent20_any (r : Rc) (P : List Pr) (K D : List Int) (w : World) (hr : RcOk w r P K D) (h1 : r.pn * 32 ≤ 140737488355328) (h2 : r.kn * 8 ≤ 140737488355328) (h3 : r.dl ≤ 140737488355328) (hz1 : r.pp = none → r.pc = 0) (hz2 : r.kp = none → r.kc = 0) (hz3 : r.dp = none → r.dc = 0) :
    Calls Tryz.prog 8 #[.agg r.arr] w fun e w' => ∃ o : Rc, e = .returned (.agg o.arr) ∧ o.core = r.core ∧ RcLn w' o P K D w.heap.size ∧ Frm [] w w' := by
  obtain ⟨PO, hPO⟩ : ∃ PO : Ending → World → Prop, (fun e w' => ∃ o : Rc, e = .returned (.agg o.arr) ∧ o.core = r.core ∧ RcLn w' o P K D w.heap.size ∧ Frm [] w w') = PO := ⟨_, rfl⟩
  rw [hPO]
  have HP : Hid (∀ (o : Rc) w', o.core = r.core → RcLn w' o P K D w.heap.size → Frm [] w w' → PO (.returned (.agg o.arr)) w') := hid (fun o w' h1 h2 h3 => by rw [← hPO]; exact ⟨o, rfl, h1, h2, h3⟩)
  have hrow := heap_alloc_new w (.cells r.arr 26)
  have hfa : Frm [] w (w.alloc (.cells r.arr 26)) := (Frm.refl _ _).alloc _
  obtain ⟨wa, hwa⟩ : ∃ z, w.alloc (.cells r.arr 26) = z := ⟨_, rfl⟩
  obtain ⟨ba, hba⟩ : ∃ z, w.heap.size = z := ⟨_, rfl⟩
  rw [hwa, hba] at hrow
  rw [hwa] at hfa
  have hrowr := heap_alloc_new wa (.cells #[.int .i64 0, .string ⟨#[]⟩, .int .i64 0, .int .i64 0, .int .i64 0, .int .i64 0, .string ⟨#[]⟩, .slice none 0 0, .int .i64 0, .int .i64 0, .int .i64 0, .slice none 0 0, .slice none 0 0] 26)
  have hfr : Frm [] wa (wa.alloc (.cells #[.int .i64 0, .string ⟨#[]⟩, .int .i64 0, .int .i64 0, .int .i64 0, .int .i64 0, .string ⟨#[]⟩, .slice none 0 0, .int .i64 0, .int .i64 0, .int .i64 0, .slice none 0 0, .slice none 0 0] 26)) := (Frm.refl _ _).alloc _
  obtain ⟨wr, hwr⟩ : ∃ z, wa.alloc (.cells #[.int .i64 0, .string ⟨#[]⟩, .int .i64 0, .int .i64 0, .int .i64 0, .int .i64 0, .string ⟨#[]⟩, .slice none 0 0, .int .i64 0, .int .i64 0, .int .i64 0, .slice none 0 0, .slice none 0 0] 26) = z := ⟨_, rfl⟩
  obtain ⟨br, hbr⟩ : ∃ z, wa.heap.size = z := ⟨_, rfl⟩
  rw [hwr, hbr] at hrowr
  rw [hwr] at hfr
  have hb1 : ba + 1 = br := by rw [← hbr, ← hwa, ← hba]; simp
  have HB1 := hid hb1
  have HFR : Hid (Frm [] w wr) := hid (hfa.trans hfr (by simp))
  have HRA : Hid (wr.heap[ba]? = some (.cells r.arr 26 (0, 0))) := hid (hfr.heap hrow (by simp))
  have HRB : Hid (wr.heap[br]? = some (.cells #[.int .i64 0, .string ⟨#[]⟩, .int .i64 0, .int .i64 0, .int .i64 0, .int .i64 0, .string ⟨#[]⟩, .slice none 0 0, .int .i64 0, .int .i64 0, .int .i64 0, .slice none 0 0, .slice none 0 0] 26 (0, 0))) := hid hrowr
  have HRS : Hid (wr.heap.size = br + 1) := hid (by rw [← hwr, ← hbr]; simp)
  have HOK := hid (fun V (hf : Frm [] w V) => hr.k0 hf)
  have HPL := hid hr.pl
  have HKL := hid hr.kl
  have HDL := hid hr.dn
  have HDB := hid hr.db
  have HZ1 := hid hz1
  have HZ2 := hid hz2
  have HZ3 := hid hz3
  have HWA := hid hwa
  have HWR := hid hwr
  have HBA := hid hba
  have HBR := hid hbr
  clear hPO hrow hfa hwa hba hrowr hfr hwr hbr hb1 hr hz1 hz2 hz3
  obtain ⟨kind, name, typ, frm, guid, origin, snap, pp, pn, pc, obj, at_, many, kp, kn, kc, dp, dl, dc⟩ := r
  unfold Rc.arr at HWA HRA ⊢
  simp only at HWA HRA HOK HPL HKL HDL HZ1 HZ2 HZ3 h1 h2 h3 HP ⊢
  go_enter Tryz.func8, Tryz.ntmps8
  go_upto_region 1 with fail
  first | rw [HWA.out] | skip
  first | rw [HBA.out] | skip
  first | rw [HB1.out] | skip
  first | rw [HWR.out] | skip
  first | rw [HBR.out] | skip
  first | rw [HB1.out] | skip
  clear HWA HWR
  have HROW0 := HRA
  have q7 : wr.cell? ⟨ba, 7, none⟩ = some (.slice pp pn pc) := by rw [cell_of_row _ _ _ _ _ _ HROW0.out]; rfl
  go_wp2_with (at_builtin; refine wpList_appV rfl _ _ 22 rfl 70 2 32 _ Tryz.underlying22 infoPrR rfl (by decide) none 0 0 [] rfl (World.ownsRow_nil _ _ _ _) pp pn pc (prC P) rfl (by rw [prC_len, HPL.out]) (fun _ h => HZ1.out h) (rv_prC (HOK.out wr HFR.out).pr) (prC_one P) (by unfold maxLen; omega) (by omega) ?_)
  intro p1 c1 w1 ho hf hb
  try simp only [Nat.zero_add, List.nil_append] at ho
  have hox := ho.out
  try simp only [Nat.zero_add]
  have HOX1 := hid hox
  have HBK1 : Hid (∀ k ∈ blk p1, wr.heap.size ≤ k) := hid (fun k hk => (hb.out k hk).elim (fun h => by simp [blk] at h) (fun h => h))
  have HFX1 : Hid (Frm [] wr w1) := hid (hf.out.mono (by simp [blk]))
  have hrw := HFX1.out.heap HROW0.out (by simp)
  have x7 : w1.cell? ⟨ba, 7, none⟩ = some (.slice pp pn pc) := by rw [cell_of_row _ _ _ _ _ _ hrw]; rfl
  have y7 := frozen_of_row w1 ba 7 _ _ hrw
  have hrn : (w1.setCell ⟨ba, 7, none⟩ (.slice p1 pn c1)).heap[ba]? = some (.cells #[.int .i64 kind, .string name, .int .i64 typ, .int .i64 frm, .int .i64 guid, .int .i64 origin, .string snap, .slice p1 pn c1, .int .i64 obj, .int .i64 at_, .int .i64 many, .slice kp kn kc, .slice dp dl dc] 26 (0, 0)) := heap_setCell_same w1 ba 7 _ _ _ hrw
  obtain ⟨W1, hW1⟩ : ∃ z, w1.setCell ⟨ba, 7, none⟩ (.slice p1 pn c1) = z := ⟨_, rfl⟩
  have HFS1 : Hid (Frm [ba] w1 W1) := hid (by rw [← hW1]; exact (Frm.refl _ _).setCell _ _ (by simp))
  rw [hW1] at hrn
  have HROW1 := hid hrn
  have HW1 := hid hW1
  clear ho hox hf hb hrw hrn hW1 q7
  go_upto_region 5 with fail
  rw [HW1.out]
  clear x7 y7 HW1
  have HFW1 : Hid (Frm [] w W1) := hid ((HFR.out.trans HFX1.out (by simp)).trans HFS1.out (fun i hi hl => by rw [List.mem_singleton] at hi; have := HBA.out; omega))
  have q11 : W1.cell? ⟨ba, 11, none⟩ = some (.slice kp kn kc) := by rw [cell_of_row _ _ _ _ _ _ HROW1.out]; rfl
  go_wp2_with (at_builtin; refine wpList_appV rfl _ _ 23 rfl 3 1 8 _ Tryz.underlying23 infoInR rfl (by decide) none 0 0 [] rfl (World.ownsRow_nil _ _ _ _) kp kn kc (K.map (Value.int .i64)) rfl (by rw [List.length_map, HKL.out, Nat.mul_one]) (fun _ h => HZ2.out h) (HOK.out W1 HFW1.out).kr (fun u hu => by obtain ⟨z, _, rfl⟩ := List.mem_map.1 hu; rfl) (by unfold maxLen; omega) (by omega) ?_)
  intro p2 c2 w2 ho hf hb
  try simp only [Nat.zero_add, List.nil_append] at ho
  have hox := ho.out
  try simp only [Nat.zero_add]
  have HOX2 := hid hox
  have HBK2 : Hid (∀ k ∈ blk p2, W1.heap.size ≤ k) := hid (fun k hk => (hb.out k hk).elim (fun h => by simp [blk] at h) (fun h => h))
  have HFX2 : Hid (Frm [] W1 w2) := hid (hf.out.mono (by simp [blk]))
  have hrw := HFX2.out.heap HROW1.out (by simp)
  have x11 : w2.cell? ⟨ba, 11, none⟩ = some (.slice kp kn kc) := by rw [cell_of_row _ _ _ _ _ _ hrw]; rfl
  have y11 := frozen_of_row w2 ba 11 _ _ hrw
  have hrn : (w2.setCell ⟨ba, 11, none⟩ (.slice p2 kn c2)).heap[ba]? = some (.cells #[.int .i64 kind, .string name, .int .i64 typ, .int .i64 frm, .int .i64 guid, .int .i64 origin, .string snap, .slice p1 pn c1, .int .i64 obj, .int .i64 at_, .int .i64 many, .slice p2 kn c2, .slice dp dl dc] 26 (0, 0)) := heap_setCell_same w2 ba 11 _ _ _ hrw
  obtain ⟨W2, hW2⟩ : ∃ z, w2.setCell ⟨ba, 11, none⟩ (.slice p2 kn c2) = z := ⟨_, rfl⟩
  have HFS2 : Hid (Frm [ba] w2 W2) := hid (by rw [← hW2]; exact (Frm.refl _ _).setCell _ _ (by simp))
  rw [hW2] at hrn
  have HROW2 := hid hrn
  have HW2 := hid hW2
  clear ho hox hf hb hrw hrn hW2 q11
  go_upto_region 6 with fail
  rw [HW2.out]
  clear x11 y11 HW2
  have HFW2 : Hid (Frm [] w W2) := hid ((HFW1.out.trans HFX2.out (by simp)).trans HFS2.out (fun i hi hl => by rw [List.mem_singleton] at hi; have := HBA.out; omega))
  have q12 : W2.cell? ⟨ba, 12, none⟩ = some (.slice dp dl dc) := by rw [cell_of_row _ _ _ _ _ _ HROW2.out]; rfl
  go_wp2_with (at_builtin; refine wpList_appB rfl _ _ 24 rfl 5 Tryz.underlying24 infoB none 0 0 [] rfl rfl (Own.nil _ _) dp dl dc D rfl HDL.out.symm (fun _ h => HZ3.out h) (HOK.out W2 HFW2.out).dr (by rw [HDL.out]; simp; omega) ?_)
  intro xs p3 c3 w3 hxs ho hf hb
  obtain rfl : xs = D := by simpa using hxs.out
  have hlx : xs.length = dl := HDL.out
  rw [hlx]
  have hox := ho.out
  rw [hlx] at hox
  have HOX3 := hid hox
  have HBK3 : Hid (∀ k ∈ blk p3, W2.heap.size ≤ k) := hid (fun k hk => (hb.out k hk).elim (fun h => by simp [blk] at h) (fun h => h))
  have HFX3 : Hid (Frm [] W2 w3) := hid (hf.out.mono (by simp [blk]))
  have hrw := HFX3.out.heap HROW2.out (by simp)
  have x12 : w3.cell? ⟨ba, 12, none⟩ = some (.slice dp dl dc) := by rw [cell_of_row _ _ _ _ _ _ hrw]; rfl
  have y12 := frozen_of_row w3 ba 12 _ _ hrw
  have hrn : (w3.setCell ⟨ba, 12, none⟩ (.slice p3 dl c3)).heap[ba]? = some (.cells #[.int .i64 kind, .string name, .int .i64 typ, .int .i64 frm, .int .i64 guid, .int .i64 origin, .string snap, .slice p1 pn c1, .int .i64 obj, .int .i64 at_, .int .i64 many, .slice p2 kn c2, .slice p3 dl c3] 26 (0, 0)) := heap_setCell_same w3 ba 12 _ _ _ hrw
  obtain ⟨W3, hW3⟩ : ∃ z, w3.setCell ⟨ba, 12, none⟩ (.slice p3 dl c3) = z := ⟨_, rfl⟩
  have HFS3 : Hid (Frm [ba] w3 W3) := hid (by rw [← hW3]; exact (Frm.refl _ _).setCell _ _ (by simp))
  rw [hW3] at hrn
  have HROW3 := hid hrn
  have HW3 := hid hW3
  clear ho hox hf hb hrw hrn hW3 q12 hxs hlx
  go_upto_region 7 with fail
  rw [HW3.out]
  clear x12 y12 HW3
  have HFW3 : Hid (Frm [] w W3) := hid ((HFW2.out.trans HFX3.out (by simp)).trans HFS3.out (fun i hi hl => by rw [List.mem_singleton] at hi; have := HBA.out; omega))
  have HRB3 : Hid (W3.heap[br]? = some (.cells #[.int .i64 0, .string ⟨#[]⟩, .int .i64 0, .int .i64 0, .int .i64 0, .int .i64 0, .string ⟨#[]⟩, .slice none 0 0, .int .i64 0, .int .i64 0, .int .i64 0, .slice none 0 0, .slice none 0 0] 26 (0, 0))) := hid (by
    have hn : br ∉ [ba] := by have := HB1.out; simp; omega
    exact HFS3.out.heap (HFX3.out.heap (HFS2.out.heap (HFX2.out.heap (HFS1.out.heap (HFX1.out.heap HRB.out (by simp)) hn) (by simp)) hn) (by simp)) hn)
  have z0 : W3.cell? ⟨ba, 0, none⟩ = some (.int .i64 kind) := by rw [cell_of_row _ _ _ _ _ _ HROW3.out]; rfl
  have v0 : W3.cell? ⟨br, 0, none⟩ = some (.int .i64 0) := by rw [cell_of_row _ _ _ _ _ _ HRB3.out]; rfl
  have y0 := frozen_of_row W3 br 0 _ _ HRB3.out
  have z1 : W3.cell? ⟨ba, 1, none⟩ = some (.string name) := by rw [cell_of_row _ _ _ _ _ _ HROW3.out]; rfl
  have v1 : W3.cell? ⟨br, 1, none⟩ = some (.string ⟨#[]⟩) := by rw [cell_of_row _ _ _ _ _ _ HRB3.out]; rfl
  have y1 := frozen_of_row W3 br 1 _ _ HRB3.out
  have z2 : W3.cell? ⟨ba, 2, none⟩ = some (.int .i64 typ) := by rw [cell_of_row _ _ _ _ _ _ HROW3.out]; rfl
  have v2 : W3.cell? ⟨br, 2, none⟩ = some (.int .i64 0) := by rw [cell_of_row _ _ _ _ _ _ HRB3.out]; rfl
  have y2 := frozen_of_row W3 br 2 _ _ HRB3.out
  have z3 : W3.cell? ⟨ba, 3, none⟩ = some (.int .i64 frm) := by rw [cell_of_row _ _ _ _ _ _ HROW3.out]; rfl
  have v3 : W3.cell? ⟨br, 3, none⟩ = some (.int .i64 0) := by rw [cell_of_row _ _ _ _ _ _ HRB3.out]; rfl
  have y3 := frozen_of_row W3 br 3 _ _ HRB3.out
  have z4 : W3.cell? ⟨ba, 4, none⟩ = some (.int .i64 guid) := by rw [cell_of_row _ _ _ _ _ _ HROW3.out]; rfl
  have v4 : W3.cell? ⟨br, 4, none⟩ = some (.int .i64 0) := by rw [cell_of_row _ _ _ _ _ _ HRB3.out]; rfl
  have y4 := frozen_of_row W3 br 4 _ _ HRB3.out
  have z5 : W3.cell? ⟨ba, 5, none⟩ = some (.int .i64 origin) := by rw [cell_of_row _ _ _ _ _ _ HROW3.out]; rfl
  have v5 : W3.cell? ⟨br, 5, none⟩ = some (.int .i64 0) := by rw [cell_of_row _ _ _ _ _ _ HRB3.out]; rfl
  have y5 := frozen_of_row W3 br 5 _ _ HRB3.out
  have z6 : W3.cell? ⟨ba, 6, none⟩ = some (.string snap) := by rw [cell_of_row _ _ _ _ _ _ HROW3.out]; rfl
  have v6 : W3.cell? ⟨br, 6, none⟩ = some (.string ⟨#[]⟩) := by rw [cell_of_row _ _ _ _ _ _ HRB3.out]; rfl
  have y6 := frozen_of_row W3 br 6 _ _ HRB3.out
  have z7 : W3.cell? ⟨ba, 7, none⟩ = some (.slice p1 pn c1) := by rw [cell_of_row _ _ _ _ _ _ HROW3.out]; rfl
  have v7 : W3.cell? ⟨br, 7, none⟩ = some (.slice none 0 0) := by rw [cell_of_row _ _ _ _ _ _ HRB3.out]; rfl
  have y7 := frozen_of_row W3 br 7 _ _ HRB3.out
  have z8 : W3.cell? ⟨ba, 8, none⟩ = some (.int .i64 obj) := by rw [cell_of_row _ _ _ _ _ _ HROW3.out]; rfl
  have v8 : W3.cell? ⟨br, 8, none⟩ = some (.int .i64 0) := by rw [cell_of_row _ _ _ _ _ _ HRB3.out]; rfl
  have y8 := frozen_of_row W3 br 8 _ _ HRB3.out
  have z9 : W3.cell? ⟨ba, 9, none⟩ = some (.int .i64 at_) := by rw [cell_of_row _ _ _ _ _ _ HROW3.out]; rfl
  have v9 : W3.cell? ⟨br, 9, none⟩ = some (.int .i64 0) := by rw [cell_of_row _ _ _ _ _ _ HRB3.out]; rfl
  have y9 := frozen_of_row W3 br 9 _ _ HRB3.out
  have z10 : W3.cell? ⟨ba, 10, none⟩ = some (.int .i64 many) := by rw [cell_of_row _ _ _ _ _ _ HROW3.out]; rfl
  have v10 : W3.cell? ⟨br, 10, none⟩ = some (.int .i64 0) := by rw [cell_of_row _ _ _ _ _ _ HRB3.out]; rfl
  have y10 := frozen_of_row W3 br 10 _ _ HRB3.out
  have z11 : W3.cell? ⟨ba, 11, none⟩ = some (.slice p2 kn c2) := by rw [cell_of_row _ _ _ _ _ _ HROW3.out]; rfl
  have v11 : W3.cell? ⟨br, 11, none⟩ = some (.slice none 0 0) := by rw [cell_of_row _ _ _ _ _ _ HRB3.out]; rfl
  have y11 := frozen_of_row W3 br 11 _ _ HRB3.out
  have z12 : W3.cell? ⟨ba, 12, none⟩ = some (.slice p3 dl c3) := by rw [cell_of_row _ _ _ _ _ _ HROW3.out]; rfl
  have v12 : W3.cell? ⟨br, 12, none⟩ = some (.slice none 0 0) := by rw [cell_of_row _ _ _ _ _ _ HRB3.out]; rfl
  have y12 := frozen_of_row W3 br 12 _ _ HRB3.out
  go_wp2_with fail
  obtain ⟨h5, f5⟩ := sets_rowF br 26 [(0, .int .i64 kind), (1, .string name), (2, .int .i64 typ), (3, .int .i64 frm), (4, .int .i64 guid), (5, .int .i64 origin), (6, .string snap), (7, .slice p1 pn c1), (8, .int .i64 obj), (9, .int .i64 at_), (10, .int .i64 many), (11, .slice p2 kn c2), (12, .slice p3 dl c3)] W3 _ HRB3.out
  simp only [List.foldl, List.setIfInBounds_toArray, List.set_cons_zero, List.set_cons_succ] at h5
  obtain ⟨Wz, hWz⟩ : ∃ z, setsF W3 br [(0, .int .i64 kind), (1, .string name), (2, .int .i64 typ), (3, .int .i64 frm), (4, .int .i64 guid), (5, .int .i64 origin), (6, .string snap), (7, .slice p1 pn c1), (8, .int .i64 obj), (9, .int .i64 at_), (10, .int .i64 many), (11, .slice p2 kn c2), (12, .slice p3 dl c3)] = z := ⟨_, rfl⟩
  rw [hWz] at h5 f5
  have hwz : ((((((((((((W3.setCell ⟨br, 0, none⟩ (.int .i64 kind)).setCell ⟨br, 1, none⟩ (.string name)).setCell ⟨br, 2, none⟩ (.int .i64 typ)).setCell ⟨br, 3, none⟩ (.int .i64 frm)).setCell ⟨br, 4, none⟩ (.int .i64 guid)).setCell ⟨br, 5, none⟩ (.int .i64 origin)).setCell ⟨br, 6, none⟩ (.string snap)).setCell ⟨br, 7, none⟩ (.slice p1 pn c1)).setCell ⟨br, 8, none⟩ (.int .i64 obj)).setCell ⟨br, 9, none⟩ (.int .i64 at_)).setCell ⟨br, 10, none⟩ (.int .i64 many)).setCell ⟨br, 11, none⟩ (.slice p2 kn c2)).setCell ⟨br, 12, none⟩ (.slice p3 dl c3) = Wz := hWz
  rw [hwz]
  have u0 : Wz.cell? ⟨br, 0, none⟩ = some (.int .i64 kind) := by rw [cell_of_row _ _ _ _ _ _ h5]; rfl
  have u1 : Wz.cell? ⟨br, 1, none⟩ = some (.string name) := by rw [cell_of_row _ _ _ _ _ _ h5]; rfl
  have u2 : Wz.cell? ⟨br, 2, none⟩ = some (.int .i64 typ) := by rw [cell_of_row _ _ _ _ _ _ h5]; rfl
  have u3 : Wz.cell? ⟨br, 3, none⟩ = some (.int .i64 frm) := by rw [cell_of_row _ _ _ _ _ _ h5]; rfl
  have u4 : Wz.cell? ⟨br, 4, none⟩ = some (.int .i64 guid) := by rw [cell_of_row _ _ _ _ _ _ h5]; rfl
  have u5 : Wz.cell? ⟨br, 5, none⟩ = some (.int .i64 origin) := by rw [cell_of_row _ _ _ _ _ _ h5]; rfl
  have u6 : Wz.cell? ⟨br, 6, none⟩ = some (.string snap) := by rw [cell_of_row _ _ _ _ _ _ h5]; rfl
  have u7 : Wz.cell? ⟨br, 7, none⟩ = some (.slice p1 pn c1) := by rw [cell_of_row _ _ _ _ _ _ h5]; rfl
  have u8 : Wz.cell? ⟨br, 8, none⟩ = some (.int .i64 obj) := by rw [cell_of_row _ _ _ _ _ _ h5]; rfl
  have u9 : Wz.cell? ⟨br, 9, none⟩ = some (.int .i64 at_) := by rw [cell_of_row _ _ _ _ _ _ h5]; rfl
  have u10 : Wz.cell? ⟨br, 10, none⟩ = some (.int .i64 many) := by rw [cell_of_row _ _ _ _ _ _ h5]; rfl
  have u11 : Wz.cell? ⟨br, 11, none⟩ = some (.slice p2 kn c2) := by rw [cell_of_row _ _ _ _ _ _ h5]; rfl
  have u12 : Wz.cell? ⟨br, 12, none⟩ = some (.slice p3 dl c3) := by rw [cell_of_row _ _ _ _ _ _ h5]; rfl
  refine bodyPost_ret (v := .agg #[.int .i64 kind, .string name, .int .i64 typ, .int .i64 frm, .int .i64 guid, .int .i64 origin, .string snap, .slice p1 pn c1, .int .i64 obj, .int .i64 at_, .int .i64 many, .slice p2 kn c2, .slice p3 dl c3]) (by simp [results, Tryz.results8, go_sem, u0, u1, u2, u3, u4, u5, u6, u7, u8, u9, u10, u11, u12]) rfl ?_
  have e1 := HB1.out
  have e2 := HBA.out
  have e3 := HRS.out
  have e4 := HFX1.out.size
  have e5 := HFS1.out.size
  have e6 := HFX2.out.size
  have e7 := HFS2.out.size
  refine HP.out ⟨kind, name, typ, frm, guid, origin, snap, p1, pn, c1, obj, at_, many, p2, kn, c2, p3, dl, c3⟩ Wz rfl ⟨?_, HPL.out, ?_, ?_, HKL.out, ?_, ?_, HDL.out, ?_, HDB.out, by show pn ≤ _ ∧ kn ≤ _ ∧ dl ≤ _; omega⟩ (HFW3.out.trans f5 (fun i hi hl => by rw [List.mem_singleton] at hi; omega))
  · have g1 := ownsRow_kept (ownsRow_kept (ownsRow_kept HOX1.out HFS1.out (fun k hk he => by have := HBK1.out k hk; rw [List.mem_singleton] at he; omega)) HFX2.out (by simp)) HFS2.out (fun k hk he => by have := HBK1.out k hk; rw [List.mem_singleton] at he; omega)
    exact ownsRow_kept (ownsRow_kept (ownsRow_kept g1 HFX3.out (by simp)) HFS3.out (fun k hk he => by have := HBK1.out k hk; rw [List.mem_singleton] at he; omega)) f5 (fun k hk he => by have := HBK1.out k hk; rw [List.mem_singleton] at he; omega)
  · intro k hk; have := HBK1.out k hk; omega
  · exact ownsRow_kept (ownsRow_kept (ownsRow_kept (ownsRow_kept HOX2.out HFS2.out (fun k hk he => by have := HBK2.out k hk; rw [List.mem_singleton] at he; omega)) HFX3.out (by simp)) HFS3.out (fun k hk he => by have := HBK2.out k hk; rw [List.mem_singleton] at he; omega)) f5 (fun k hk he => by have := HBK2.out k hk; rw [List.mem_singleton] at he; omega)
  · intro k hk; have := HBK2.out k hk; omega
  · exact (HOX3.out.kept HFS3.out (by rw [own_blk]; exact fun k hk he => by have := HBK3.out k hk; rw [List.mem_singleton] at he; omega)).kept f5 (by rw [own_blk]; exact fun k hk he => by have := HBK3.out k hk; rw [List.mem_singleton] at he; omega)
  · intro k hk; have := HBK3.out k hk; omega
/-- Each block keeps its kind and its size. -/
def ShpR (w w' : World) : Prop := ∀ (g : Nat) (cur : Array Value) (T : TypeId), w.heap[g]? = some (Obj.cells cur T (0, 0)) → ∃ cur' : Array Value, w'.heap[g]? = some (Obj.cells cur' T (0, 0)) ∧ cur'.size = cur.size
theorem ShpR.refl (w : World) : ShpR w w := fun _ cur _ h => ⟨cur, h, rfl⟩
theorem ShpR.trans {w w1 w2 : World} (h : ShpR w w1) (h2 : ShpR w1 w2) : ShpR w w2 := fun g cur T hg => by
  obtain ⟨c1, a1, b1⟩ := h g cur T hg
  obtain ⟨c2, a2, b2⟩ := h2 g c1 T a1
  exact ⟨c2, a2, by omega⟩
theorem ShpR.of {w w' : World} (h : Frm [] w w') : ShpR w w' := fun g cur T hg => ⟨cur, h.heap hg (by simp), rfl⟩
theorem ShpR.set {w : World} {g t : Nat} {cur : Array Value} {T : TypeId} {v : Value} (hg : w.heap[g]? = some (.cells cur T (0, 0))) : ShpR w (w.setCell ⟨g, t, none⟩ v) := fun g' cur' T' h => by
  by_cases e : g' = g
  · subst e
    rw [hg] at h
    simp only [Option.some.injEq, Obj.cells.injEq] at h
    obtain ⟨rfl, rfl, _⟩ := h
    exact ⟨_, heap_setCell_same w g' t _ _ v hg, by simp⟩
  · have hf : Frm [g] w (w.setCell ⟨g, t, none⟩ v) := (Frm.refl _ _).setCell _ _ (by simp)
    exact ⟨cur', hf.heap h (by simpa using e), rfl⟩
/-- So many cells that may be written. -/
def BlkZ (w : World) (p : Option Addr) (m : Nat) : Prop := m = 0 ∨ ∃ g cur T, p = some ⟨g, 0, Option.none⟩ ∧ w.heap[g]? = some (Obj.cells cur T (0, 0)) ∧ m ≤ cur.size
theorem BlkZ.kept {w w' : World} {p : Option Addr} {m : Nat} (h : BlkZ w p m) (hs : ShpR w w') : BlkZ w' p m := by
  rcases h with h | ⟨g, cur, T, h1, h2, h3⟩
  · exact Or.inl h
  · obtain ⟨c, h4, h5⟩ := hs g cur T h2
    exact Or.inr ⟨g, c, T, h1, h4, by omega⟩
theorem owns_blockR {w : World} {T : TypeId} {sz : Nat} {p : Option Addr} {n c : Nat} {xs : List Value} (h : w.ownsRow 0 T sz (.slice p n c) n xs) : BlkZ w p (n * sz) := by
  rcases h.2 with ⟨_, h0⟩ | ⟨g, c', cur, he, _, hg, hc, hm, hs, ht⟩
  · exact Or.inl (by rw [h0, Nat.zero_mul])
  · simp only [Value.slice.injEq] at he
    exact Or.inr ⟨g, cur, T, he.1, hg, by rw [hs]; exact Nat.mul_le_mul_right _ hc⟩
/-- The blocks of a record's lists. -/
def Rc.B (r : Rc) : List Nat := blk r.pp ++ (blk r.kp ++ blk r.dp)
structure SpR (w : World) (r : Rc) : Prop where
  p : BlkZ w r.pp (r.pn * 2)
  k : BlkZ w r.kp r.kn
  d : BlkZ w r.dp r.dl
  low : ∀ i ∈ r.B, i < w.heap.size
  mx : r.pn ≤ 140737488355328 ∧ r.kn ≤ 140737488355328 ∧ r.dl ≤ 140737488355328
theorem RcLn.sp {w : World} {r : Rc} {P : List Pr} {K D : List Int} {lo : Nat} (h : RcLn w r P K D lo) : SpR w r :=
  ⟨owns_blockR h.po, by have := owns_blockR h.ko; rwa [Nat.mul_one] at this, by
    have h2 : w.ownsRow 0 5 1 (.slice r.dp r.dl r.dc) r.dl (bv D) := by
      have h3 := h.ow
      unfold Own at h3
      rw [h.dl] at h3
      exact h3
    have := owns_blockR h2; rwa [Nat.mul_one] at this, fun i hi => by
    unfold Rc.B at hi
    simp only [List.mem_append] at hi
    rcases hi with hi | hi | hi
    · exact ownsRow_low h.po i hi
    · exact ownsRow_low h.ko i hi
    · exact h.ow.lows i hi, h.mx⟩
theorem SpR.kept {w w' : World} {r : Rc} (h : SpR w r) (hs : ShpR w w') (hz : w.heap.size ≤ w'.heap.size) : SpR w' r := ⟨h.p.kept hs, h.k.kept hs, h.d.kept hs, fun i hi => Nat.lt_of_lt_of_le (h.low i hi) hz, h.mx⟩
/-- While a record is spoiled. -/
structure SpI (r : Rc) (b0 bx : Nat) (w W : World) : Prop where
  fr : Frm (b0 :: r.B) w W
  row : W.heap[bx]? = some (.cells r.arr 26 (0, 0))
  sp : SpR W r
theorem SpI.put {r : Rc} {b0 bx g t : Nat} {w W : World} {v : Value} {cur : Array Value} {T : TypeId} (h : SpI r b0 bx w W) (hg : W.heap[g]? = some (.cells cur T (0, 0))) (hB : g ∈ r.B) (hn : ¬ g = bx) : SpI r b0 bx w (W.setCell ⟨g, t, none⟩ v) := by
  have hf : Frm [g] W (W.setCell ⟨g, t, none⟩ v) := (Frm.refl _ _).setCell _ _ (by simp)
  exact ⟨h.fr.trans hf (fun i hi _ => by rw [List.mem_singleton] at hi; subst hi; exact List.mem_cons_of_mem _ hB), hf.heap h.row (by simp; exact fun e => hn e.symm), h.sp.kept (ShpR.set hg) hf.size⟩
set_option maxHeartbeats 6400000 in
theorem spoil20_any (r : Rc) (w : World) (h : SpR w r) :
    Calls Tryz.prog 12 #[.agg r.arr] w fun e w' => e = .returned (.tuple #[]) ∧ Frm r.B w w' := by
  obtain ⟨PO, hPO⟩ : ∃ PO : Ending → World → Prop, (fun e w' => e = .returned (.tuple #[]) ∧ Frm r.B w w') = PO := ⟨_, rfl⟩
  rw [hPO]
  obtain ⟨bx, hbx⟩ : ∃ q, w.heap.size = q := ⟨_, rfl⟩
  have HP : Hid (∀ w', Frm (bx :: r.B) w w' → PO (.returned (.tuple #[])) w') := hid (fun w' h1 => by
    rw [← hPO]
    refine ⟨rfl, h1.mono (fun i hi hl => ?_)⟩
    rcases List.mem_cons.1 hi with h2 | h2
    · omega
    · exact h2)
  obtain ⟨wa, hwa⟩ : ∃ q, w.alloc (.cells r.arr 26) = q := ⟨_, rfl⟩
  have hfx : Frm [] w wa := by rw [← hwa]; exact (Frm.refl _ _).alloc _
  have hrx : wa.heap[bx]? = some (.cells r.arr 26 (0, 0)) := by rw [← hwa]; exact heap_alloc_to _ _ hbx
  have HI0 : Hid (SpI r bx bx w wa) := hid ⟨hfx.mono (by simp), hrx, h.kept (ShpR.of hfx) hfx.size⟩
  have HNB : Hid (∀ g, g ∈ r.B → ¬ g = bx) := hid (fun g hg e => by have := h.low g hg; omega)
  have HMB1 : Hid (∀ k ∈ blk r.pp, k ∈ r.B) := hid (fun k hk => by unfold Rc.B; simp [hk])
  have HMB2 : Hid (∀ k ∈ blk r.kp, k ∈ r.B) := hid (fun k hk => by unfold Rc.B; simp [hk])
  have HMB3 : Hid (∀ k ∈ blk r.dp, k ∈ r.B) := hid (fun k hk => by unfold Rc.B; simp [hk])
  obtain ⟨m1, m2, m3⟩ := h.mx
  have HWA := hid hwa
  have HBX := hid hbx
  clear hPO h hfx hrx hwa hbx
  obtain ⟨R, hR⟩ : ∃ z, r = z := ⟨_, rfl⟩
  have HIX : Hid (∀ W, SpI R bx bx w W → SpI r bx bx w W) := hid (fun W h => by rw [hR]; exact h)
  rw [hR] at HI0 HNB HP
  have HBB : Hid (∀ k, k ∈ r.B → k ∈ R.B) := hid (fun k hk => by rw [← hR]; exact hk)
  have HXX := hid (fun (W : World) (h : SpI R bx bx w W) => rc_cells (r := r) (T := 26) (b := bx) (V := W) (by rw [hR]; exact h.row))
  have HS1 : Hid (∀ W, SpI R bx bx w W → BlkZ W r.pp (r.pn * 2)) := hid (fun W h => by rw [hR]; exact h.sp.p)
  have HS2 : Hid (∀ W, SpI R bx bx w W → BlkZ W r.kp r.kn) := hid (fun W h => by rw [hR]; exact h.sp.k)
  have HS3 : Hid (∀ W, SpI R bx bx w W → BlkZ W r.dp r.dl) := hid (fun W h => by rw [hR]; exact h.sp.d)
  clear hR HIX
  obtain ⟨kind, name, typ, frm, guid, origin, snap, pp, pn, pc, obj, at_, many, kp, kn, kc, dp, dl, dc⟩ := r
  unfold Rc.arr at HWA ⊢
  simp only at HWA HXX HS1 HS2 HS3 HMB1 HMB2 HMB3 m1 m2 m3 ⊢
  go_enter Tryz.func12, Tryz.ntmps12
  go_upto_region 1 with fail
  first | rw [HBX.out] | skip
  first | rw [HWA.out] | skip
  clear HWA
  go_wp2_with fail
  go_loopw [2] (fun i wr => ∃ t : Nat, t ≤ pn ∧ i = .int .i64 (t : Int) ∧ Hid (SpI R bx bx w wr)) (fun i _ => pn - (intOf i).toNat)
  case atStart => exact ⟨0, Nat.zero_le _, rfl, HI0⟩
  case round =>
    obtain ⟨t, ht, rfl, hin⟩ := hrel
    have HIN := hid hin.out
    clear hin
    obtain ⟨x0, x1, x2, x3, x4, x5, x6, x7, x8, x9, x10, x11, x12⟩ := HXX.out wr HIN.out
    clear x0 x1 x2 x3 x4 x5 x6 x8 x9 x10 x11 x12
    by_cases hlt : t < pn
    case pos =>
      have t1 : (t : Int) < (pn : Int) := by omega
      obtain ⟨g, cur, T, rfl, hg, hcs⟩ : ∃ g cur T, pp = some ⟨g, 0, none⟩ ∧ wr.heap[g]? = some (Obj.cells cur T (0, 0)) ∧ pn * 2 ≤ cur.size := by
        rcases HS1.out wr HIN.out with h | h
        · omega
        · exact h
      have hgB : g ∈ R.B := HBB.out g (HMB1.out g (by simp [blk]))
      have y0 : wr.cell? ⟨g, t * 2, none⟩ = some cur[t * 2] := by rw [cell_of_row _ _ _ _ _ _ hg]; simp
      have z0 := frozen_of_row wr g (t * 2) _ _ hg
      have HIN2 : Hid (SpI R bx bx w (wr.setCell ⟨g, t * 2, none⟩ (.string { data := #[63] }))) := hid (HIN.out.put hg hgB (HNB.out g hgB))
      clear hg hgB
      go_wp2_with fail
      go_roundw
      case rel => exact ⟨t + 1, by omega, by go_num, HIN2⟩
      case measure => first | (simp [intOf]; done) | (simp [intOf]; omega)
    obtain rfl : pn = t := by omega
    go_wp2_with fail
    clear x7
    have HI1 := HIN
    go_loopw [3] (fun i wr => ∃ t : Nat, t ≤ kn ∧ i = .int .i64 (t : Int) ∧ Hid (SpI R bx bx w wr)) (fun i _ => kn - (intOf i).toNat)
    case atStart => exact ⟨0, Nat.zero_le _, rfl, HI1⟩
    case round =>
      obtain ⟨t, ht, rfl, hin⟩ := hrel
      have HIN := hid hin.out
      clear hin
      obtain ⟨x0, x1, x2, x3, x4, x5, x6, x7, x8, x9, x10, x11, x12⟩ := HXX.out wr HIN.out
      clear x0 x1 x2 x3 x4 x5 x6 x7 x8 x9 x10 x12
      by_cases hlt : t < kn
      case pos =>
        have t1 : (t : Int) < (kn : Int) := by omega
        obtain ⟨g, cur, T, rfl, hg, hcs⟩ : ∃ g cur T, kp = some ⟨g, 0, none⟩ ∧ wr.heap[g]? = some (Obj.cells cur T (0, 0)) ∧ kn ≤ cur.size := by
          rcases HS2.out wr HIN.out with h | h
          · omega
          · exact h
        have hgB : g ∈ R.B := HBB.out g (HMB2.out g (by simp [blk]))
        have y0 : wr.cell? ⟨g, t, none⟩ = some cur[t] := by rw [cell_of_row _ _ _ _ _ _ hg]; simp
        have z0 := frozen_of_row wr g (t) _ _ hg
        have HIN2 : Hid (SpI R bx bx w (wr.setCell ⟨g, t, none⟩ (.int .i64 (-7)))) := hid (HIN.out.put hg hgB (HNB.out g hgB))
        clear hg hgB
        go_wp2_with fail
        go_roundw
        case rel => exact ⟨t + 1, by omega, by go_num, HIN2⟩
        case measure => first | (simp [intOf]; done) | (simp [intOf]; omega)
      obtain rfl : kn = t := by omega
      go_wp2_with fail
      clear x11
      have HI2 := HIN
      go_loopw [4] (fun i wr => ∃ t : Nat, t ≤ dl ∧ i = .int .i64 (t : Int) ∧ Hid (SpI R bx bx w wr)) (fun i _ => dl - (intOf i).toNat)
      case atStart => exact ⟨0, Nat.zero_le _, rfl, HI2⟩
      case round =>
        obtain ⟨t, ht, rfl, hin⟩ := hrel
        have HIN := hid hin.out
        clear hin
        obtain ⟨x0, x1, x2, x3, x4, x5, x6, x7, x8, x9, x10, x11, x12⟩ := HXX.out wr HIN.out
        clear x0 x1 x2 x3 x4 x5 x6 x7 x8 x9 x10 x11
        by_cases hlt : t < dl
        case pos =>
          have t1 : (t : Int) < (dl : Int) := by omega
          obtain ⟨g, cur, T, rfl, hg, hcs⟩ : ∃ g cur T, dp = some ⟨g, 0, none⟩ ∧ wr.heap[g]? = some (Obj.cells cur T (0, 0)) ∧ dl ≤ cur.size := by
            rcases HS3.out wr HIN.out with h | h
            · omega
            · exact h
          have hgB : g ∈ R.B := HBB.out g (HMB3.out g (by simp [blk]))
          have y0 : wr.cell? ⟨g, t, none⟩ = some cur[t] := by rw [cell_of_row _ _ _ _ _ _ hg]; simp
          have z0 := frozen_of_row wr g (t) _ _ hg
          have HIN2 : Hid (SpI R bx bx w (wr.setCell ⟨g, t, none⟩ (.int .u8 99))) := hid (HIN.out.put hg hgB (HNB.out g hgB))
          clear hg hgB
          go_wp2_with fail
          go_roundw
          case rel => exact ⟨t + 1, by omega, by go_num, HIN2⟩
          case measure => first | (simp [intOf]; done) | (simp [intOf]; omega)
        obtain rfl : dl = t := by omega
        go_wp2_with fail
        go_returns
        exact HP.out _ HIN.out.fr
end
section
open Go.RowKit Go.Lib
set_option maxRecDepth 100000
set_option maxHeartbeats 12800000 in
theorem sameTrue_any (r s : Rc) (P : List Pr) (K D : List Int) (w : World) (hr : RcOk w r P K D) (hs : RcOk w s P K D) (hc : r.core = s.core) :
    Calls Tryz.prog 11 #[.agg r.arr, .agg s.arr] w fun e w' => e = .returned (.bool true) ∧ Frm [] w w' := by
  have hp := hr.pl.symm.trans hs.pl
  have hk := hr.kl.symm.trans hs.kl
  have hd := hr.dn.symm.trans hs.dn
  obtain ⟨kind, name, typ, frm, guid, origin, snap, pp, pn, pc, obj, at_, many, kp, kn, kc, dp, dl, dc⟩ := r
  obtain ⟨kind', name', typ', frm', guid', origin', snap', pp', pn', pc', obj', at', many', kp', kn', kc', dp', dl', dc'⟩ := s
  unfold Rc.core at hc
  simp only [Rc.mk.injEq] at hc hp hk hd
  obtain ⟨rfl, rfl, rfl, rfl, rfl, rfl, rfl, _, _, _, rfl, rfl, rfl, _⟩ := hc
  subst hp hk hd
  have hrow := heap_alloc_new w (.cells (Rc.mk kind name typ frm guid origin snap pp pn pc obj at_ many kp kn kc dp dl dc).arr 26)
  have hfa : Frm [] w (w.alloc (.cells (Rc.mk kind name typ frm guid origin snap pp pn pc obj at_ many kp kn kc dp dl dc).arr 26)) := (Frm.refl _ _).alloc _
  obtain ⟨wa, hwa⟩ : ∃ z, w.alloc (.cells (Rc.mk kind name typ frm guid origin snap pp pn pc obj at_ many kp kn kc dp dl dc).arr 26) = z := ⟨_, rfl⟩
  obtain ⟨ba, hba⟩ : ∃ z, w.heap.size = z := ⟨_, rfl⟩
  rw [hwa, hba] at hrow
  rw [hwa] at hfa
  have hrow2 := heap_alloc_new wa (.cells (Rc.mk kind name typ frm guid origin snap pp' pn pc' obj at_ many kp' kn kc' dp' dl dc').arr 26)
  have hfb : Frm [] wa (wa.alloc (.cells (Rc.mk kind name typ frm guid origin snap pp' pn pc' obj at_ many kp' kn kc' dp' dl dc').arr 26)) := (Frm.refl _ _).alloc _
  obtain ⟨wb, hwb⟩ : ∃ z, wa.alloc (.cells (Rc.mk kind name typ frm guid origin snap pp' pn pc' obj at_ many kp' kn kc' dp' dl dc').arr 26) = z := ⟨_, rfl⟩
  obtain ⟨bb, hbb⟩ : ∃ z, wa.heap.size = z := ⟨_, rfl⟩
  rw [hwb, hbb] at hrow2
  rw [hwb] at hfb
  have hb1 : ba + 1 = bb := by rw [← hbb, ← hwa, ← hba]; simp
  have HB1 := hid hb1
  have HFB : Hid (Frm [] w wb) := hid (hfa.trans hfb (by simp))
  have HX := hid (fun V (hf : Frm [] wb V) => rc_cells (hf.heap (hfb.heap hrow (by simp)) (by simp)))
  have HY := hid (fun V (hf : Frm [] wb V) => rc_cells (hf.heap hrow2 (by simp)))
  have HR := hid (fun V (hf : Frm [] wb V) => hr.k0 (HFB.out.trans hf (by simp)))
  have HS := hid (fun V (hf : Frm [] wb V) => hs.k0 (HFB.out.trans hf (by simp)))
  have HWA := hid hwa
  have HWB := hid hwb
  have HBA := hid hba
  have HBB := hid hbb
  have HPL : Hid (P.length = pn) := hid hr.pl
  have HKL : Hid (K.length = kn) := hid hr.kl
  have hmx := hr.mx
  simp only at hmx
  clear hrow hfa hwa hba hrow2 hfb hwb hbb hb1 hr hs
  unfold Rc.arr at HWA HWB ⊢
  simp only at HX HY HR HS HWA HWB ⊢
  obtain ⟨x0, x1, x2, x3, x4, x5, x6, x7, x8, x9, x10, x11, x12⟩ := HX.out wb (Frm.refl _ _)
  obtain ⟨y0, y1, y2, y3, y4, y5, y6, y7, y8, y9, y10, y11, y12⟩ := HY.out wb (Frm.refl _ _)
  have hcv1 := cv_any (P := Tryz.prog) (w := wb) 24 5 9 Tryz.underlying24 Tryz.underlying5 Tryz.underlying9 (n := dl) (HR.out wb (Frm.refl _ _)).dr dc (HR.out wb (Frm.refl _ _)).dn
  have hcv2 := cv_any (P := Tryz.prog) (w := wb) 24 5 9 Tryz.underlying24 Tryz.underlying5 Tryz.underlying9 (n := dl) (HS.out wb (Frm.refl _ _)).dr dc' (HS.out wb (Frm.refl _ _)).dn
  go_enter Tryz.func11, Tryz.ntmps11
  go_upto_region 1 with fail
  first | rw [HWA.out] | skip
  first | rw [HBA.out] | skip
  first | rw [HBB.out] | skip
  first | rw [HB1.out] | skip
  first | rw [HWB.out] | skip
  go_wp2_with fail
  clear x0 x1 x2 x3 x4 x5 x6 x7 x8 x9 x10 x11 x12 y0 y1 y2 y3 y4 y5 y6 y7 y8 y9 y10 y11 y12 hcv1 hcv2
  go_loopw [5] (fun i wr => ∃ t : Nat, t ≤ pn ∧ i = .int .i64 (t : Int) ∧ Hid (Frm [] wb wr)) (fun i _ => pn - (intOf i).toNat)
  case atStart => exact ⟨0, Nat.zero_le _, rfl, hid (Frm.refl _ _)⟩
  case round =>
    obtain ⟨t, ht, rfl, hf⟩ := hrel
    have HF := hid hf.out
    clear hf
    obtain ⟨x0, x1, x2, x3, x4, x5, x6, x7, x8, x9, x10, x11, x12⟩ := HX.out wr HF.out
    obtain ⟨y0, y1, y2, y3, y4, y5, y6, y7, y8, y9, y10, y11, y12⟩ := HY.out wr HF.out
    clear x0 x1 x2 x3 x4 x5 x6 x8 x9 x10 x12 y0 y1 y2 y3 y4 y5 y6 y8 y9 y10 y12
    by_cases hlt : t < pn
    case pos =>
      have t1 : (t : Int) < (pn : Int) := by omega
      obtain ⟨g1, o1, rfl, k1⟩ := (HR.out wr HF.out).pr.at (i := t) (by rw [HPL.out]; exact hlt)
      obtain ⟨g2, o2, rfl, k2⟩ := (HS.out wr HF.out).pr.at (i := t) (by rw [HPL.out]; exact hlt)
      obtain ⟨z1, z3⟩ := k1 t (by rw [HPL.out]; exact hlt)
      obtain ⟨z2, z4⟩ := k2 t (by rw [HPL.out]; exact hlt)
      obtain ⟨pa, hpa⟩ : ∃ z, P[t]'(by rw [HPL.out]; exact hlt) = z := ⟨_, rfl⟩
      rw [hpa] at z1 z2 z3 z4
      obtain ⟨a0, a1⟩ := pa
      have hne := fun W => neqPr a0 a1 a0 a1 W
      rw [decide_eq_true rfl] at hne
      have hne2 : ∀ W, (binOp .neq 70 (.agg #[.string a0, .string a1]) (.agg #[.string a0, .string a1])).run Tryz.prog W = .ok (.bool false) W := hne
      have HF2 : Hid (∀ k, Frm [] wb (wr.drewN k)) := hid (fun k => HF.out.drewN k)
      clear k1 k2 hpa hne
      go_wp2_with fail
      go_quiet (fail)
      go_wp2_with fail
      go_roundw
      case rel => exact ⟨t + 1, by omega, by go_num, hid (HF2.out _)⟩
      case measure => first | (simp [intOf]; done) | (simp [intOf]; omega)
    obtain rfl : t = pn := by omega
    clear hlt
    obtain ⟨wc, hwc⟩ : ∃ z, wr = z := ⟨_, rfl⟩
    subst hwc
    go_wp2_with fail
    clear x7 x11 y7 y11
    go_loopw [6] (fun i wr2 => ∃ u : Nat, u ≤ kn ∧ i = .int .i64 (u : Int) ∧ Hid (Frm [] wb wr2)) (fun i _ => kn - (intOf i).toNat)
    case atStart => exact ⟨0, Nat.zero_le _, rfl, HF⟩
    case round =>
      clear HF
      obtain ⟨u, hu, rfl, hf⟩ := hrel
      have HF := hid hf.out
      clear hf
      obtain ⟨x0, x1, x2, x3, x4, x5, x6, x7, x8, x9, x10, x11, x12⟩ := HX.out _ HF.out
      obtain ⟨y0, y1, y2, y3, y4, y5, y6, y7, y8, y9, y10, y11, y12⟩ := HY.out _ HF.out
      clear x0 x1 x2 x3 x4 x5 x6 x7 x8 x9 x10 x12 y0 y1 y2 y3 y4 y5 y6 y7 y8 y9 y10 y12
      by_cases hlt : u < kn
      case pos =>
        have t1 : (u : Int) < (kn : Int) := by omega
        obtain ⟨g1, o1, rfl, k1⟩ := (HR.out _ HF.out).kr.at (i := u) (by rw [HKL.out]; exact hlt)
        obtain ⟨g2, o2, rfl, k2⟩ := (HS.out _ HF.out).kr.at (i := u) (by rw [HKL.out]; exact hlt)
        have z1 := k1 u (by rw [HKL.out]; exact hlt)
        have z2 := k2 u (by rw [HKL.out]; exact hlt)
        have HF2 := hid (fun k => HF.out.drewN k)
        obtain ⟨x, hx⟩ : ∃ x, zA K u = x := ⟨_, rfl⟩
        rw [hx] at z1 z2
        clear k1 k2 hx
        go_wp2_with fail
        go_quiet (fail)
        go_wp2_with fail
        go_roundw
        case rel => exact ⟨u + 1, by omega, by go_num, hid (HF2.out _)⟩
        case measure => first | (simp [intOf]; done) | (simp [intOf]; omega)
      obtain rfl : u = kn := by omega
      clear hlt
      go_wp2_with fail
      first | go_returns | skip
      exact ⟨rfl, HFB.out.trans HF.out (by simp)⟩
end
section
open Go.RowKit Go.Lib
set_option maxRecDepth 100000
section
variable {P : Program} {w : World}
section
variable {t e : TypeId} (ht : P.underlying t = some (.slice e)) {z : Value} {sz bytes : Nat} (hI : (P.info? e).map (fun i => (i.zero, i.size, i.bytes)) = some (some z, sz, bytes))
include ht hI
omit ht in
theorem sizeOf_sl (w : World) : (sizeOf e).run P w = .ok sz w := by
  obtain ⟨i, hi, hz, h1, h2⟩ := info_parts hI
  simp [sizeOf, typeInfo, hi, h1, Result.andThen]
/-- s[:hi] -/
theorem sl_h (p : Option Addr) (n c hi : Nat) (hc : hi ≤ c) (w : World) : (Instr.slice t (.slice p n c) none (some (.int .i64 (hi : Int))) none).run P w = .ok (.slice p hi c) w := by
  have he : P.elem t = e := by simp [Program.elem, ht]
  rw [run_slice_h w t _ _ _ (by rw [he]; exact ht) .i64 (hi : Int) (by omega) (by omega), he, sizeOf_sl hI]
  simp only [Result.andThen, sliced, Int.toNat_natCast]
  cases p <;> simp [Addr.add]
/-- Where a part begins. -/
def partAt (p : Option Addr) (c lo sz : Nat) : Option Addr := if c = lo then p else p.map (·.add (lo * sz))
/-- s[lo:hi] -/
theorem sl_lh (p : Option Addr) (n c lo hi : Nat) (hl : lo ≤ hi) (hc : hi ≤ c) (w : World) : (Instr.slice t (.slice p n c) (some (.int .i64 (lo : Int))) (some (.int .i64 (hi : Int))) none).run P w = .ok (.slice (partAt p c lo sz) (hi - lo) (c - lo)) w := by
  have he : P.elem t = e := by simp [Program.elem, ht]
  rw [run_slice_lh w t _ _ _ (by rw [he]; exact ht) .i64 .i64 (lo : Int) (hi : Int) (by omega) (by omega) (by omega), he, sizeOf_sl hI]
  simp only [Result.andThen, sliced, Int.toNat_natCast, partAt]
end
end
end
end Go.Proofs.YtajfjkfnmmfhmaaGreatDoor
