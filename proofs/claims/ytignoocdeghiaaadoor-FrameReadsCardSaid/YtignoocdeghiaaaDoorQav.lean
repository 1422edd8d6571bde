/- Frames: the document's Feed. FrameFeeds: the law's same; a list of blocks written full; what is left of what waits. -/
import Derived.Test.YtignoocdeghiaaaDoorQau
import Derived.Test.YtignoocdeghiaaaDoorQac
import Derived.Test.YtignoocdeghiaaaDoorQap
namespace Go.Proofs.YtignoocdeghiaaaDoor
section
open Go.RowKit Go.Lib
set_option maxRecDepth 100000

theorem wp_appB {P : Program} {w : World} {o : Oper} {a : Act} {K : Act → World → Prop} {Q : Exit → Act → World → Prop} (hgd : o.guard = none) (sl x : Operand) (t : TypeId)
    (ho : o.op = .call { callee := .builtin .append, args := #[sl, x], argTypes := #[t, t] })
    (E : TypeId) (ht : P.underlying t = some (.slice E)) (hI : (P.info? E).map (fun i => (i.zero, i.size, i.bytes)) = some (some (.int .u8 0), 1, 1))
    (p0 : Option Addr) (n0 c0 : Nat) (zs : List Int) (hs : a.eval sl = .slice p0 n0 c0) (hn0 : n0 = zs.length) (hown : Own w E (.slice p0 zs.length c0) zs)
    (p : Option Addr) (n c : Nat) (ns : List Int) (hx : a.eval x = .slice p n c) (hn : n = ns.length) (hp : ns = [] → p = none → c = 0) (hrd : Rd w p ns) (hsz : zs.length + ns.length ≤ 140737488355328)
    (h : ∀ xs p2 c2 w', Hid (xs = zs ++ ns) → Hid (Own w' E (.slice p2 xs.length c2) xs) → Hid (Frm (blk p0) w w') → Hid (∀ k ∈ blk p2, k ∈ blk p0 ∨ w.heap.size ≤ k) → K (a.put o.dst (.slice p2 xs.length c2)) w') :
    Oper.wp P o a w K Q := by
  have h2 := step_appB (P := P) (ops := #[]) (Z := True) (Q := Q) hgd sl x t ho E ht hI p0 n0 c0 zs hs hn0 hown p n c ns hx hn hp hrd hsz h
  rwa [if_pos (by simp [Region.wanted, hgd])] at h2
set_option maxHeartbeats 12800000 in
theorem refFeed_any (w : World) (yb : Nat) (p0 : Option Addr) (n0 c0 : Nat) (zs : List Int) (h : IsLnD w yb p0 n0 c0 zs) (q : Option Addr) (m d : Nat) (bs : List Int) (hrd : Rd w q bs) (hm : bs.length = m) (hq : bs = [] → q = none → d = 0) (hz : ∀ z ∈ zs ++ bs, 0 ≤ z ∧ z < 256) (hmax : n0 + m ≤ 70368744177664) :
    Calls Tryd.prog 23 #[.pointer (some ⟨yb, 0, none⟩), .slice q m d] w (FeedD w yb (zs ++ bs)) := by
  obtain ⟨PO, hPO⟩ : ∃ PO : Ending → World → Prop, FeedD w yb (zs ++ bs) = PO := ⟨_, rfl⟩
  rw [hPO]
  have HP := hid (show ∀ e w', FeedD w yb (zs ++ bs) e w' → PO e w' from fun e w' h => by rw [← hPO]; exact h)
  have HLN := hid h
  have HRD := hid hrd
  have HM := hid hm
  have HQ := hid hq
  have HZ := hid hz
  have c00 : w.cell? ⟨yb, 0, none⟩ = some (.slice p0 n0 c0) := by rw [cell_of_row _ _ _ _ _ _ h.row]; rfl
  have HYB := hid (lt_of_heap h.row)
  have hcap := own_capD h.own
  clear h hrd hm hq hz hPO
  go_enter Tryd.func23, Tryd.ntmps23
  go_wp2_with (at_builtin; refine wpList_appB rfl _ _ 22 rfl 5 Tryd.underlying22 infoB none 0 0 [] rfl rfl (Own.nil _ _) p0 n0 c0 zs rfl HLN.out.len.symm (fun _ hp => hcap.2.2 hp) HLN.out.own.rd (by rw [HLN.out.len]; simp; omega) ?_)
  intro xs1 p1 c1 w1 hxs1 ho1 hf1 hb1
  have HF1 : Hid (Frm [] w w1) := hid (hf1.out.mono (by simp [blk]))
  have HB1 : Hid (∀ k ∈ blk p1, w.heap.size ≤ k) := hid (fun k hk => (hb1.out k hk).elim (fun h => by simp [blk] at h) id)
  obtain rfl : xs1 = zs := by simpa using hxs1.out
  obtain ⟨n1, hn1⟩ : ∃ z, xs1.length = z := ⟨_, rfl⟩
  have hnn : n1 = n0 := by rw [← hn1, HLN.out.len]
  subst hnn
  rw [hn1]
  have HN1 := hid hn1
  have HO1 := hid ho1.out
  clear hxs1 ho1 hf1 hb1 hn1 c00 hcap
  go_wp2_with (at_builtin; refine wpList_appB rfl _ _ 22 rfl 5 Tryd.underlying22 infoB p1 n1 c1 xs1 rfl HN1.out.symm HO1.out q m d bs rfl HM.out.symm HQ.out (HRD.out.kept HF1.out (by simp)) (by rw [HN1.out, HM.out]; omega) ?_)
  intro al pa ca w2 hal hoa hf2 hb2
  have HF2 : Hid (Frm [] w w2) := hid (HF1.out.trans hf2.out (fun i hi hl => absurd hl (Nat.not_lt.2 (HB1.out i hi))))
  have HBA : Hid (∀ k ∈ blk pa, w.heap.size ≤ k) := hid (fun k hk => (hb2.out k hk).elim (HB1.out k) (fun h => Nat.le_trans HF1.out.size h))
  have HAZ : Hid (∀ z ∈ al, 0 ≤ z ∧ z < 256) := hid (by rw [hal.out]; exact HZ.out)
  rw [← hal.out] at HP
  obtain ⟨N, hN⟩ : ∃ z, al.length = z := ⟨_, rfl⟩
  have hNb : N ≤ 70368744177664 := by rw [← hN, hal.out, List.length_append, HN1.out, HM.out]; exact hmax
  rw [hN]
  have HN := hid hN
  have hoa2 := hoa.out
  have hcapa := own_capD (by rw [hN] at hoa2; exact hoa2)
  have HOA := hid hoa2
  rw [hN] at HOA
  have hrow2 := HF2.out.heap HLN.out.row (by simp)
  have hzf := frozen_of_row w2 yb 0 _ _ hrow2
  have hcl : w2.cell? ⟨yb, 0, none⟩ = some (.slice p0 n1 c0) := by rw [cell_of_row _ _ _ _ _ _ hrow2]; rfl
  obtain ⟨W0, hW0⟩ : ∃ z, w2.setCell ⟨yb, 0, none⟩ (.slice none 0 0) = z := ⟨_, rfl⟩
  have hfs : Frm [yb] w2 W0 := by rw [← hW0]; exact (Frm.refl _ _).setCell _ _ (by simp)
  have HROW0 : Hid (W0.heap[yb]? = some (.cells #[.slice none 0 0] 51 (0, 0))) := hid (by rw [← hW0, heap_setCell_same _ _ 0 _ _ _ hrow2]; rfl)
  have HF0 : Hid (Frm [yb] w W0) := hid ((HF2.out.mono (by simp)).trans hfs (fun i hi _ => hi))
  have HOA0 : Hid (Own W0 5 (.slice pa N ca) al) := hid (HOA.out.kept hfs (by rw [own_blk]; exact fun k hk hm => by rw [List.mem_singleton] at hm; subst hm; have := HBA.out k hk; have := HYB.out; omega))
  have HW0 := hid hW0
  clear hal hoa hoa2 hf2 hb2 hN hrow2 hfs hW0 HO1 HRD HQ HZ HM HN1 hmax HOA
  go_wp2_with fail
  first | rw [HW0.out] | skip
  clear HW0 hzf hcl
  obtain ⟨_, hca1, hca0⟩ := hcapa
  have hca2 : ca ≤ 9223372036854775807 := (own_cpD HOA0.out)
  have HBAD : Hid (∀ wr qf t cf ls, Frm [] W0 wr → RdK wr qf t cf ls → (∀ k ∈ blk qf, W0.heap.size ≤ k) → feedR al = (ls.map Bk.bs, [], 230) → PO (.returned (.tuple #[.slice qf t cf, .int .i64 230])) wr) := hid (fun wr qf t cf ls hf hr hk hfd => by
    refine HP.out _ _ ⟨qf, t, cf, ls, none, 0, 0, by rw [hfd], hr, by rw [hfd], ?_, HF0.out.trans hf (by simp), by simp [blk], fun k h1 => Nat.le_trans HF0.out.size (hk k h1)⟩
    rw [hfd]
    exact ⟨hf.heap HROW0.out (by simp), Own.nil _ _, rfl, by simp [blk]⟩)
  have HEND : Hid (∀ wr qf t cf ls a w3 p3 c3, Frm [] W0 wr → RdK wr qf t cf ls → (∀ k ∈ blk qf, W0.heap.size ≤ k) → (∀ x ∈ ls, ∀ k ∈ blk x.p, k ∈ blk pa) → feedR al = (ls.map Bk.bs, al.drop a, 0) → Frm [] wr w3 → Own w3 5 (.slice p3 (al.drop a).length c3) (al.drop a) → (∀ k ∈ blk p3, wr.heap.size ≤ k) → PO (.returned (.tuple #[.slice qf t cf, .int .i64 0])) (w3.setCell ⟨yb, 0, none⟩ (.slice p3 (al.drop a).length c3))) := hid (fun wr qf t cf ls a w3 p3 c3 hf hr hk hx hfd hf3 ho3 hb3 => by
    have hs : Frm [yb] w3 (w3.setCell ⟨yb, 0, none⟩ (.slice p3 (al.drop a).length c3)) := (Frm.refl _ _).setCell _ _ (by simp)
    have hy3 : yb ∉ blk p3 := fun hm => by have h1 := hb3 yb hm; have h2 := hf.size; have h3 := HF0.out.size; have h4 := HYB.out; omega
    refine HP.out _ _ ⟨qf, t, cf, ls, p3, (al.drop a).length, c3, by rw [hfd], (hr.k0 hf3).kept hs (fun k h1 hm => ?_) (fun x h1 k h2 hm => ?_), by rw [hfd], ?_, ((HF0.out.trans hf (by simp)).trans hf3 (by simp)).trans hs (fun i hi _ => hi), fun k h1 => ?_, fun k h1 => Nat.le_trans HF0.out.size (hk k h1)⟩
    · rw [List.mem_singleton] at hm; subst hm; have h2 := hk k h1; have h3 := HF0.out.size; have h4 := HYB.out; omega
    · rw [List.mem_singleton] at hm; subst hm; have h3 := HBA.out k (hx x h1 k h2); have h4 := HYB.out; omega
    · rw [hfd]
      refine ⟨by rw [heap_setCell_same _ _ 0 _ _ _ (hf3.heap (hf.heap HROW0.out (by simp)) (by simp))]; rfl, ho3.kept hs (by rw [own_blk]; exact fun k hk hm => by rw [List.mem_singleton] at hm; subst hm; exact hy3 hk), rfl, hy3⟩
    · have h2 := hb3 k h1; have h3 := hf.size; have h4 := HF0.out.size; omega)
  go_loopw [7, 8] (fun s7 s8 wr => ∃ (qf : Option Addr) (t cf : Nat) (ls : List Bk) (a : Nat), s7 = .slice qf t cf ∧ s8 = .int .i64 (a : Int) ∧ a ≤ N ∧ t * 13 ≤ a ∧ Hid (Frm [] W0 wr ∧ RdK wr qf t cf ls ∧ (∀ k ∈ blk qf, W0.heap.size ≤ k) ∧ (∀ x ∈ ls, ∀ k ∈ blk x.p, k ∈ blk pa) ∧ feedR al = (ls.map Bk.bs ++ (feedR (al.drop a)).1, (feedR (al.drop a)).2))) (fun _ s8 _ => N - (intOf s8).toNat)
  case atStart => exact ⟨none, 0, 0, [], 0, rfl, rfl, by omega, by omega, hid ⟨Frm.refl _ _, RdK.nil _, by simp [blk], by simp, by simp⟩⟩
  case round =>
    obtain ⟨qf, t, cf, ls, a, rfl, rfl, haN, hta, hin⟩ := hrel
    have HIN := hid hin.out
    clear hin
    by_cases h4 : a + 4 ≤ N
    case neg =>
      have HE : Hid (feedR al = (ls.map Bk.bs, al.drop a, 0)) := hid (by rw [HIN.out.2.2.2.2, feedR_short (by rw [List.length_drop, HN.out]; omega)]; simp)
      have h4' : ¬ ((a : Int) + 4 ≤ (N : Int)) := by omega
      have hw4 : wrap64 ((a : Int) + 4) = (a : Int) + 4 := by unfold wrap64; omega
      go_wp2_with fail
      have HRK := hid HIN.out.2.1
      have hq0 : wr.drew.cell? ⟨yb, 0, none⟩ = some (.slice none 0 0) := by rw [cell_of_row _ _ _ _ _ _ (HIN.out.1.drew.heap HROW0.out (by simp))]; rfl
      have hsl := fun W => sl_l (P := Tryd.prog) (sz := 1) Tryd.underlying22 infoU8E pa N ca a haN W
      refine wp_region_tail (S := fun W => (W.cell? ⟨yb, 0, none⟩ = some (.slice none 0 0))) 9 12 rfl (by kernel_rfl) (by kernel_rfl) ?_
      refine wpAnyHT_take (i := 0) (oi := _) (v := ?_) (by kernel_rfl) rfl (by kernel_rfl) (by kernel_rfl) (by kernel_rfl) (by kernel_rfl) (fun _ _ _ h => h) (Or.inl ⟨by rfl, ?_⟩) hq0 ?_
      rotate_left 1
      · (intro W hSw; obtain s0 := hSw; (try simp only [List.getElem_toArray, List.getElem_cons_zero]); go_simp; try with_reducible rfl)
      try simp only [List.getElem_toArray, List.getElem_cons_zero, Act.put, List.setIfInBounds_toArray, List.set_cons_zero, List.set_cons_succ]
      refine wpAnyHT_take (i := 1) (oi := _) (v := ?_) (by kernel_rfl) rfl (by kernel_rfl) (by kernel_rfl) (by kernel_rfl) (by kernel_rfl) (fun _ _ _ h => h) (Or.inl ⟨by rfl, ?_⟩) hq0 ?_
      rotate_left 1
      · (intro W hSw; obtain s0 := hSw; (try simp only [List.getElem_toArray, List.getElem_cons_succ, List.getElem_cons_zero]); go_simp; try with_reducible rfl)
      try simp only [List.getElem_toArray, List.getElem_cons_succ, List.getElem_cons_zero, Act.put, List.setIfInBounds_toArray, List.set_cons_zero, List.set_cons_succ]
      refine wpAnyHT_take (i := 2) (oi := _) (v := ?_) (by kernel_rfl) rfl (by kernel_rfl) (by kernel_rfl) (by kernel_rfl) (by kernel_rfl) (fun _ _ _ h => h) (Or.inl ⟨by rfl, ?_⟩) hq0 ?_
      rotate_left 1
      · (intro W hSw; obtain s0 := hSw; (try simp only [List.getElem_toArray, List.getElem_cons_succ, List.getElem_cons_zero]); go_simp; try with_reducible rfl)
      try simp only [List.getElem_toArray, List.getElem_cons_succ, List.getElem_cons_zero, Act.put, List.setIfInBounds_toArray, List.set_cons_zero, List.set_cons_succ]
      refine wpAnyHT_take (i := 3) (oi := _) (v := ?_) (by kernel_rfl) rfl (by kernel_rfl) (by kernel_rfl) (by kernel_rfl) (by kernel_rfl) (fun _ _ _ h => h) (Or.inl ⟨by rfl, ?_⟩) hq0 ?_
      rotate_left 1
      · (intro W hSw; obtain s0 := hSw; (try simp only [List.getElem_toArray, List.getElem_cons_succ, List.getElem_cons_zero]); go_simp; try with_reducible rfl)
      try simp only [List.getElem_toArray, List.getElem_cons_succ, List.getElem_cons_zero, Act.put, List.setIfInBounds_toArray, List.set_cons_zero, List.set_cons_succ]
      refine wpAnyHT_take (i := 4) (oi := _) (v := ?_) (by kernel_rfl) rfl (by kernel_rfl) (by kernel_rfl) (by kernel_rfl) (by kernel_rfl) (fun _ _ _ h => h) (Or.inl ⟨by rfl, ?_⟩) hq0 ?_
      rotate_left 1
      · (intro W hSw; obtain s0 := hSw; (try simp only [List.getElem_toArray, List.getElem_cons_succ, List.getElem_cons_zero]); go_simp; try with_reducible rfl)
      try simp only [List.getElem_toArray, List.getElem_cons_succ, List.getElem_cons_zero, Act.put, List.setIfInBounds_toArray, List.set_cons_zero, List.set_cons_succ]
      refine wpAnyHT_take (i := 5) (oi := _) (v := ?_) (by kernel_rfl) rfl (by kernel_rfl) (by kernel_rfl) (by kernel_rfl) (by kernel_rfl) (fun _ _ _ h => h) (Or.inl ⟨by rfl, ?_⟩) hq0 ?_
      rotate_left 1
      · (intro W hSw; obtain s0 := hSw; (try simp only [List.getElem_toArray, List.getElem_cons_succ, List.getElem_cons_zero]); go_simp; try with_reducible rfl)
      try simp only [List.getElem_toArray, List.getElem_cons_succ, List.getElem_cons_zero, Act.put, List.setIfInBounds_toArray, List.set_cons_zero, List.set_cons_succ]
      refine wpAnyHT_take (i := 6) (oi := _) (v := ?_) (by kernel_rfl) rfl (by kernel_rfl) (by kernel_rfl) (by kernel_rfl) (by kernel_rfl) (fun _ _ _ h => h) (Or.inl ⟨by rfl, ?_⟩) hq0 ?_
      rotate_left 1
      · (intro W hSw; obtain s0 := hSw; (try simp only [List.getElem_toArray, List.getElem_cons_succ, List.getElem_cons_zero]); go_simp; try with_reducible rfl)
      try simp only [List.getElem_toArray, List.getElem_cons_succ, List.getElem_cons_zero, Act.put, List.setIfInBounds_toArray, List.set_cons_zero, List.set_cons_succ]
      refine wpAnyHT_take (i := 7) (oi := _) (v := ?_) (by kernel_rfl) rfl (by kernel_rfl) (by kernel_rfl) (by kernel_rfl) (by kernel_rfl) (fun _ _ _ h => h) (Or.inl ⟨by rfl, ?_⟩) hq0 ?_
      rotate_left 1
      · (intro W hSw; obtain s0 := hSw; (try simp only [List.getElem_toArray, List.getElem_cons_succ, List.getElem_cons_zero]); go_simp; try with_reducible rfl)
      try simp only [List.getElem_toArray, List.getElem_cons_succ, List.getElem_cons_zero, Act.put, List.setIfInBounds_toArray, List.set_cons_zero, List.set_cons_succ]
      have HRA := hid (rd_dropD (HOA0.out.kept HIN.out.1.drew (by simp)).rd N ca a HN.out haN hca1 (w := wr.drew))
      have hAL : (al.drop a).length = N - a := by rw [List.length_drop, HN.out]
      refine wpAnyHT_one (i := 8) rfl (by kernel_rfl) (by kernel_rfl) (fun K hK => ?_)
      try simp only [List.getElem_toArray, List.getElem_cons_succ, List.getElem_cons_zero]
      rw [if_pos (by rfl)]
      apply wp_appB (sl := .tmp 88) (x := .tmp 91) (t := 22) (E := 5) (p0 := none) (n0 := 0) (c0 := 0) (zs := []) (p := (partAt pa ca a 1)) (n := N - a) (c := ca - a) (ns := al.drop a)
      case hgd => exact rfl
      case ho => exact rfl
      case ht => exact Tryd.underlying22
      case hI => exact infoB
      case hs => exact rfl
      case hn0 => exact rfl
      case hown => exact Own.nil _ _
      case hx => exact rfl
      case hn => exact hAL.symm
      case hp => exact (fun h1 h2 => cap_dropD hca0 hca1 haN h2 (by rw [← hAL, h1]; rfl))
      case hrd => exact HRA.out
      case hsz => rw [hAL]; simp; omega
      intro xs p3 c3 w3 hxs ho3 hf3 hb3
      refine hK _ _ ((hf3.out.cell (World.block_lt_of_cell? _ _ hq0) (by simp [blk])).trans hq0) ?_
      clear hK K
      try simp only [Act.put, List.setIfInBounds_toArray, List.set_cons_zero, List.set_cons_succ]
      refine wpAnyHT_end (by kernel_rfl) ?_
      simp only [List.drop_succ_cons, List.drop_zero]
      obtain rfl : xs = al.drop a := by simpa using hxs.out
      have HFX : Hid (Frm [] wr w3) := hid (((Frm.refl [] wr).drew).trans (hf3.out.mono (by simp [blk])) (fun _ h _ => h))
      have hrow3 := (HIN.out.1.trans HFX.out (by simp)).heap HROW0.out (by simp)
      have hzf := frozen_of_row w3 yb 0 _ _ hrow3
      have hcl : w3.cell? ⟨yb, 0, none⟩ = some (.slice none 0 0) := by rw [cell_of_row _ _ _ _ _ _ hrow3]; rfl
      have HFIN := hid (HEND.out wr qf t cf ls a w3 p3 c3 HIN.out.1 HRK.out HIN.out.2.2.1 HIN.out.2.2.2.1 HE.out HFX.out ho3.out (fun k hk => (hb3.out k hk).elim (fun h => by simp [blk] at h) (fun h => h)))
      rw [hAL] at HFIN
      clear hxs ho3 hf3 hb3 hrow3 hsl hAL hq0
      go_wp2_with fail
      first | go_returns | skip
      exact HFIN.out
    have h4' : (a : Int) + 4 ≤ (N : Int) := by omega
    obtain ⟨g, hg, hcell⟩ : ∃ g, pa = some ⟨g, 0, none⟩ ∧ ∀ j, j < 4 → wr.cell? ⟨g, a + j, none⟩ = some (.int .u8 (al.getD (a + j) 0)) := by
      rcases (HOA0.out.kept HIN.out.1 (by simp)).rd with h0 | ⟨g, o, he, hc⟩
      · have h1 := HN.out; rw [h0] at h1; simp at h1; omega
      · obtain ⟨_, h0⟩ := own_at0 HOA0.out g o he
        subst h0
        exact ⟨g, he, fun j hj => by have := hc (a + j) (by rw [HN.out]; omega); rw [Nat.zero_add] at this; exact this⟩
    subst hg
    have k0 := hcell 0 (by omega)
    have k1 := hcell 1 (by omega)
    have k2 := hcell 2 (by omega)
    have k3 := hcell 3 (by omega)
    have HV := hid (leV_at4 (al := al) (a := a) (by rw [HN.out]; exact h4))
    have b0 := HAZ.out _ (getD_memF (l := al) (i := a + 0) (by rw [HN.out]; omega))
    have b1 := HAZ.out _ (getD_memF (l := al) (i := a + 1) (by rw [HN.out]; omega))
    have b2 := HAZ.out _ (getD_memF (l := al) (i := a + 2) (by rw [HN.out]; omega))
    have b3 := HAZ.out _ (getD_memF (l := al) (i := a + 3) (by rw [HN.out]; omega))
    rw [Nat.add_zero] at k0 b0
    obtain ⟨x0, hx0⟩ : ∃ z, al.getD a 0 = z := ⟨_, rfl⟩
    obtain ⟨x1, hx1⟩ : ∃ z, al.getD (a + 1) 0 = z := ⟨_, rfl⟩
    obtain ⟨x2, hx2⟩ : ∃ z, al.getD (a + 2) 0 = z := ⟨_, rfl⟩
    obtain ⟨x3, hx3⟩ : ∃ z, al.getD (a + 3) 0 = z := ⟨_, rfl⟩
    rw [hx0] at k0 b0 HV
    rw [hx1] at k1 b1 HV
    rw [hx2] at k2 b2 HV
    rw [hx3] at k3 b3 HV
    clear hx0 hx1 hx2 hx3 hcell
    have hw1 : IntKind.i64.wrap ((a : Int) + 1) = ((a + 1 : Nat) : Int) := by rw [IntKind.wrap_i64]; omega
    have hw2 : IntKind.i64.wrap ((a : Int) + 2) = ((a + 2 : Nat) : Int) := by rw [IntKind.wrap_i64]; omega
    have hw3 : IntKind.i64.wrap ((a : Int) + 3) = ((a + 3 : Nat) : Int) := by rw [IntKind.wrap_i64]; omega
    have v1 : IntKind.i64.wrap x0 = x0 := by rw [IntKind.wrap_i64]; omega
    have v2 : IntKind.i64.wrap x1 = x1 := by rw [IntKind.wrap_i64]; omega
    have v3 : IntKind.i64.wrap x2 = x2 := by rw [IntKind.wrap_i64]; omega
    have v4 : IntKind.i64.wrap x3 = x3 := by rw [IntKind.wrap_i64]; omega
    have v5 : IntKind.i64.wrap (256 * x3) = 256 * x3 := by rw [IntKind.wrap_i64]; omega
    have v6 : IntKind.i64.wrap (x2 + 256 * x3) = x2 + 256 * x3 := by rw [IntKind.wrap_i64]; omega
    have v7 : IntKind.i64.wrap (256 * (x2 + 256 * x3)) = 256 * (x2 + 256 * x3) := by rw [IntKind.wrap_i64]; omega
    have v8 : IntKind.i64.wrap (x1 + 256 * (x2 + 256 * x3)) = x1 + 256 * (x2 + 256 * x3) := by rw [IntKind.wrap_i64]; omega
    have v9 : IntKind.i64.wrap (256 * (x1 + 256 * (x2 + 256 * x3))) = 256 * (x1 + 256 * (x2 + 256 * x3)) := by rw [IntKind.wrap_i64]; omega
    have v10 : IntKind.i64.wrap (x0 + 256 * (x1 + 256 * (x2 + 256 * x3))) = x0 + 256 * (x1 + 256 * (x2 + 256 * x3)) := by rw [IntKind.wrap_i64]; omega
    go_wp2_with fail
    go_quiet (fail)
    have HFQ : Hid (Frm [] W0 (wr.drewN nq)) := hid (HIN.out.1.drewN nq)
    have HRK : Hid (RdK (wr.drewN nq) qf t cf ls) := hid (HIN.out.2.1.k0 ((Frm.refl [] wr).drewN nq))
    obtain ⟨wq, hwq⟩ : ∃ z, wr.drewN nq = z := ⟨_, rfl⟩
    rw [hwq] at HFQ HRK ⊢
    have hNN0 : 0 ≤ x0 + 256 * (x1 + 256 * (x2 + 256 * x3)) ∧ x0 + 256 * (x1 + 256 * (x2 + 256 * x3)) < 4294967296 := by omega
    obtain ⟨NZ, hNZ⟩ : ∃ z, x0 + 256 * (x1 + 256 * (x2 + 256 * x3)) = z := ⟨_, rfl⟩
    rw [hNZ] at HV hNN0 ⊢
    obtain ⟨NN, rfl⟩ := Int.eq_ofNat_of_zero_le hNN0.1
    have hNB : NN < 4294967296 := by have := hNN0.2; omega
    have HN4 : Hid (¬ (al.drop a).length < 4) := hid (by rw [List.length_drop, HN.out]; omega)
    have HLA : Hid ((al.drop a).length = N - a) := hid (by rw [List.length_drop, HN.out])
    clear hwq hNN0 hNZ k0 k1 k2 k3 b0 b1 b2 b3 hw1 hw2 hw3 v1 v2 v3 v4 v5 v6 v7 v8 v9 v10
    by_cases h9 : NN < 9
    · have d9 : decide ((NN : Int) < 9) = true := decide_eq_true (by omega)
      have e9 : (NN : Int) < 9 := by omega
      have HE : Hid (feedR al = (ls.map Bk.bs, [], 230)) := hid (by rw [HIN.out.2.2.2.2, feedR_bad HN4.out (Or.inl (by rw [HV.out]; exact e9))]; simp)
      clear h9
      go_wp2_with fail
      first | go_returns | skip
      exact HBAD.out _ qf t cf ls HFQ.out HRK.out HIN.out.2.2.1 HE.out
    by_cases hbig : 65532 < NN
    · have d9 : decide ((NN : Int) < 9) = false := decide_eq_false (by omega)
      have e9 : ¬ (NN : Int) < 9 := by omega
      have e8 : (65532 : Int) < (NN : Int) := by omega
      have HE : Hid (feedR al = (ls.map Bk.bs, [], 230)) := hid (by rw [HIN.out.2.2.2.2, feedR_bad HN4.out (Or.inr (by rw [HV.out]; exact e8))]; simp)
      clear h9
      go_wp2_with fail
      first | go_returns | skip
      exact HBAD.out _ qf t cf ls HFQ.out HRK.out HIN.out.2.2.1 HE.out
    have d9 : decide ((NN : Int) < 9) = false := decide_eq_false (by omega)
    have e9 : ¬ (NN : Int) < 9 := by omega
    have e8 : ¬ (65532 : Int) < (NN : Int) := by omega
    have d8 : decide ((65532 : Int) < (NN : Int)) = false := decide_eq_false e8
    have HNB2 : Hid (¬ (leV ((al.drop a).take 4) < 9 ∨ 65532 < leV ((al.drop a).take 4))) := hid (by rw [HV.out]; omega)
    by_cases hsh : (N : Int) < (a : Int) + 4 + (NN : Int)
    · have HE : Hid (feedR al = (ls.map Bk.bs, al.drop a, 0)) := hid (by rw [HIN.out.2.2.2.2, feedR_wait HN4.out HNB2.out (by rw [HV.out, HLA.out]; omega)]; simp)
      go_wp2_with fail
      have hq0 : wq.drew.cell? ⟨yb, 0, none⟩ = some (.slice none 0 0) := by rw [cell_of_row _ _ _ _ _ _ (HFQ.out.drew.heap HROW0.out (by simp))]; rfl
      have hsl := fun W => sl_l (P := Tryd.prog) (sz := 1) Tryd.underlying22 infoU8E (some (⟨g, 0, none⟩ : Addr)) N ca a haN W
      refine wp_region_tail (S := fun W => (W.cell? ⟨yb, 0, none⟩ = some (.slice none 0 0))) 9 12 rfl (by kernel_rfl) (by kernel_rfl) ?_
      refine wpAnyHT_take (i := 0) (oi := _) (v := ?_) (by kernel_rfl) rfl (by kernel_rfl) (by kernel_rfl) (by kernel_rfl) (by kernel_rfl) (fun _ _ _ h => h) (Or.inl ⟨by rfl, ?_⟩) hq0 ?_
      rotate_left 1
      · (intro W hSw; obtain s0 := hSw; (try simp only [List.getElem_toArray, List.getElem_cons_zero]); go_simp; try with_reducible rfl)
      try simp only [List.getElem_toArray, List.getElem_cons_zero, Act.put, List.setIfInBounds_toArray, List.set_cons_zero, List.set_cons_succ]
      refine wpAnyHT_take (i := 1) (oi := _) (v := ?_) (by kernel_rfl) rfl (by kernel_rfl) (by kernel_rfl) (by kernel_rfl) (by kernel_rfl) (fun _ _ _ h => h) (Or.inl ⟨by rfl, ?_⟩) hq0 ?_
      rotate_left 1
      · (intro W hSw; obtain s0 := hSw; (try simp only [List.getElem_toArray, List.getElem_cons_succ, List.getElem_cons_zero]); go_simp; try with_reducible rfl)
      try simp only [List.getElem_toArray, List.getElem_cons_succ, List.getElem_cons_zero, Act.put, List.setIfInBounds_toArray, List.set_cons_zero, List.set_cons_succ]
      refine wpAnyHT_take (i := 2) (oi := _) (v := ?_) (by kernel_rfl) rfl (by kernel_rfl) (by kernel_rfl) (by kernel_rfl) (by kernel_rfl) (fun _ _ _ h => h) (Or.inl ⟨by rfl, ?_⟩) hq0 ?_
      rotate_left 1
      · (intro W hSw; obtain s0 := hSw; (try simp only [List.getElem_toArray, List.getElem_cons_succ, List.getElem_cons_zero]); go_simp; try with_reducible rfl)
      try simp only [List.getElem_toArray, List.getElem_cons_succ, List.getElem_cons_zero, Act.put, List.setIfInBounds_toArray, List.set_cons_zero, List.set_cons_succ]
      refine wpAnyHT_take (i := 3) (oi := _) (v := ?_) (by kernel_rfl) rfl (by kernel_rfl) (by kernel_rfl) (by kernel_rfl) (by kernel_rfl) (fun _ _ _ h => h) (Or.inl ⟨by rfl, ?_⟩) hq0 ?_
      rotate_left 1
      · (intro W hSw; obtain s0 := hSw; (try simp only [List.getElem_toArray, List.getElem_cons_succ, List.getElem_cons_zero]); go_simp; try with_reducible rfl)
      try simp only [List.getElem_toArray, List.getElem_cons_succ, List.getElem_cons_zero, Act.put, List.setIfInBounds_toArray, List.set_cons_zero, List.set_cons_succ]
      refine wpAnyHT_take (i := 4) (oi := _) (v := ?_) (by kernel_rfl) rfl (by kernel_rfl) (by kernel_rfl) (by kernel_rfl) (by kernel_rfl) (fun _ _ _ h => h) (Or.inl ⟨by rfl, ?_⟩) hq0 ?_
      rotate_left 1
      · (intro W hSw; obtain s0 := hSw; (try simp only [List.getElem_toArray, List.getElem_cons_succ, List.getElem_cons_zero]); go_simp; try with_reducible rfl)
      try simp only [List.getElem_toArray, List.getElem_cons_succ, List.getElem_cons_zero, Act.put, List.setIfInBounds_toArray, List.set_cons_zero, List.set_cons_succ]
      refine wpAnyHT_take (i := 5) (oi := _) (v := ?_) (by kernel_rfl) rfl (by kernel_rfl) (by kernel_rfl) (by kernel_rfl) (by kernel_rfl) (fun _ _ _ h => h) (Or.inl ⟨by rfl, ?_⟩) hq0 ?_
      rotate_left 1
      · (intro W hSw; obtain s0 := hSw; (try simp only [List.getElem_toArray, List.getElem_cons_succ, List.getElem_cons_zero]); go_simp; try with_reducible rfl)
      try simp only [List.getElem_toArray, List.getElem_cons_succ, List.getElem_cons_zero, Act.put, List.setIfInBounds_toArray, List.set_cons_zero, List.set_cons_succ]
      refine wpAnyHT_take (i := 6) (oi := _) (v := ?_) (by kernel_rfl) rfl (by kernel_rfl) (by kernel_rfl) (by kernel_rfl) (by kernel_rfl) (fun _ _ _ h => h) (Or.inl ⟨by rfl, ?_⟩) hq0 ?_
      rotate_left 1
      · (intro W hSw; obtain s0 := hSw; (try simp only [List.getElem_toArray, List.getElem_cons_succ, List.getElem_cons_zero]); go_simp; try with_reducible rfl)
      try simp only [List.getElem_toArray, List.getElem_cons_succ, List.getElem_cons_zero, Act.put, List.setIfInBounds_toArray, List.set_cons_zero, List.set_cons_succ]
      refine wpAnyHT_take (i := 7) (oi := _) (v := ?_) (by kernel_rfl) rfl (by kernel_rfl) (by kernel_rfl) (by kernel_rfl) (by kernel_rfl) (fun _ _ _ h => h) (Or.inl ⟨by rfl, ?_⟩) hq0 ?_
      rotate_left 1
      · (intro W hSw; obtain s0 := hSw; (try simp only [List.getElem_toArray, List.getElem_cons_succ, List.getElem_cons_zero]); go_simp; try with_reducible rfl)
      try simp only [List.getElem_toArray, List.getElem_cons_succ, List.getElem_cons_zero, Act.put, List.setIfInBounds_toArray, List.set_cons_zero, List.set_cons_succ]
      have HRA := hid (rd_dropD (HOA0.out.kept HFQ.out.drew (by simp)).rd N ca a HN.out haN hca1 (w := wq.drew))
      have hAL : (al.drop a).length = N - a := by rw [List.length_drop, HN.out]
      refine wpAnyHT_one (i := 8) rfl (by kernel_rfl) (by kernel_rfl) (fun K hK => ?_)
      try simp only [List.getElem_toArray, List.getElem_cons_succ, List.getElem_cons_zero]
      rw [if_pos (by rfl)]
      apply wp_appB (sl := .tmp 88) (x := .tmp 91) (t := 22) (E := 5) (p0 := none) (n0 := 0) (c0 := 0) (zs := []) (p := (partAt (some (⟨g, 0, none⟩ : Addr)) ca a 1)) (n := N - a) (c := ca - a) (ns := al.drop a)
      case hgd => exact rfl
      case ho => exact rfl
      case ht => exact Tryd.underlying22
      case hI => exact infoB
      case hs => exact rfl
      case hn0 => exact rfl
      case hown => exact Own.nil _ _
      case hx => exact rfl
      case hn => exact hAL.symm
      case hp => exact (fun _ h2 => by rw [part0F g ca a (by omega)] at h2; cases h2)
      case hrd => exact HRA.out
      case hsz => rw [hAL]; simp; omega
      intro xs p3 c3 w3 hxs ho3 hf3 hb3
      refine hK _ _ ((hf3.out.cell (World.block_lt_of_cell? _ _ hq0) (by simp [blk])).trans hq0) ?_
      clear hK K
      try simp only [Act.put, List.setIfInBounds_toArray, List.set_cons_zero, List.set_cons_succ]
      refine wpAnyHT_end (by kernel_rfl) ?_
      simp only [List.drop_succ_cons, List.drop_zero]
      obtain rfl : xs = al.drop a := by simpa using hxs.out
      have HFX : Hid (Frm [] wq w3) := hid (((Frm.refl [] wq).drew).trans (hf3.out.mono (by simp [blk])) (fun _ h _ => h))
      have hrow3 := (HFQ.out.trans HFX.out (by simp)).heap HROW0.out (by simp)
      have hzf := frozen_of_row w3 yb 0 _ _ hrow3
      have hcl : w3.cell? ⟨yb, 0, none⟩ = some (.slice none 0 0) := by rw [cell_of_row _ _ _ _ _ _ hrow3]; rfl
      have HFIN := hid (HEND.out wq qf t cf ls a w3 p3 c3 HFQ.out HRK.out HIN.out.2.2.1 HIN.out.2.2.2.1 HE.out HFX.out ho3.out (fun k hk => (hb3.out k hk).elim (fun h => by simp [blk] at h) (fun h => h)))
      rw [hAL] at HFIN
      clear hxs ho3 hf3 hb3 hrow3 hsl hAL hq0
      go_wp2_with fail
      first | go_returns | skip
      exact HFIN.out
    obtain ⟨E, hE⟩ : ∃ E, 4 + NN = E := ⟨_, rfl⟩
    have hEN : a + E ≤ N := by omega
    have hE13 : 13 ≤ E := by omega
    have hEB : E ≤ 65536 := by omega
    have HNX : Hid (feedR al = ((ls.map Bk.bs ++ [(al.drop a).take E]) ++ (feedR (al.drop (a + E))).1, (feedR (al.drop (a + E))).2)) := hid (by
      have h := feedR_next HN4.out HNB2.out (by rw [HV.out, HLA.out]; omega)
      rw [HV.out, Int.toNat_natCast, hE, List.drop_drop] at h
      rw [HIN.out.2.2.2.2, h]
      simp)
    obtain ⟨pp, hs1, hs2, hrp, hkp⟩ := slice_midF _ al N ca a (a + E) HN.out (by omega) hEN hca1 wq (HOA0.out.kept HFQ.out (by simp)).rd
    rw [show a + E - a = E by omega] at hs1 hs2 hrp
    rw [show ((a + E : Nat) : Int) = (a : Int) + 4 + (NN : Int) by omega] at hs1 hs2
    have HTL : Hid (((al.drop a).take E).length = E) := hid (by rw [List.length_take, HLA.out]; omega)
    have hlp : ∀ k ∈ blk pp, k < W0.heap.size := fun k hk => own_lowF HOA0.out k (hkp k hk)
    have HX : Hid (Rd wq pp ((al.drop a).take E) ∧ ∀ k ∈ blk pp, k ∈ blk (some (⟨g, 0, none⟩ : Addr)) ∧ k < W0.heap.size) := hid ⟨hrp, fun k hk => ⟨hkp k hk, hlp k hk⟩⟩
    have HA := hid ((Frm.refl [] wq).alloc (.cells #[.slice pp E (ca - a)] 22))
    have HRV := hid (rv_block (heap_alloc_new wq (.cells #[.slice pp E (ca - a)] 22)))
    have HOW := hid (ownsRow_kept HRK.out.ow HA.out (by simp))
    clear hrp hkp hlp
    go_wp2_with (at_builtin; refine wpList_appV rfl _ _ 46 rfl 22 1 24 _ Tryd.underlying46 infoK rfl (by decide) qf t cf (rowsK ls) rfl HOW.out (some ⟨wq.heap.size, 0, none⟩) 1 1 [.slice pp E (ca - a)] rfl rfl (by simp) HRV.out (by intro u hu; simp at hu; subst hu; rfl) (by unfold maxLen; omega) (by omega) ?_)
    intro q3 c3 w8 ho8 hf8 hb8
    have HRK8 : Hid (RdK w8 q3 (t + 1) c3 (ls ++ [⟨pp, ca - a, (al.drop a).take E⟩])) := hid (HRK.out.app (x := ⟨pp, ca - a, (al.drop a).take E⟩) ⟨HX.out.1, by show ((al.drop a).take E).length ≤ ca - a; rw [HTL.out]; omega, by show ca - a ≤ _; omega⟩ HA.out (by have h := ho8.out; unfold Bk.v; simp only [HTL.out]; exact h) hf8.out (fun y hy k hk hm => by
      have h1 := HIN.out.2.2.1 k hm
      rcases List.mem_append.1 hy with hy | hy
      · have h2 := HIN.out.2.2.2.1 y hy k hk
        have h3 := own_lowF HOA0.out k h2
        omega
      · rw [List.mem_singleton] at hy; subst hy
        have h2 := (HX.out.2 k hk).2
        omega))
    have HF8 : Hid (Frm [] W0 w8) := hid ((HFQ.out.trans HA.out (by simp)).trans hf8.out (fun i hi hl => by have := HIN.out.2.2.1 i hi; omega))
    have HB8 : Hid (∀ k ∈ blk q3, W0.heap.size ≤ k) := hid (fun k hk => (hb8.out k hk).elim (HIN.out.2.2.1 k) (fun h => by have h1 := HFQ.out.size; have h2 := HA.out.size; omega))
    have HP8 : Hid (∀ x ∈ ls ++ [(⟨pp, ca - a, (al.drop a).take E⟩ : Bk)], ∀ k ∈ blk x.p, k ∈ blk (some (⟨g, 0, none⟩ : Addr))) := hid (fun y hy k hk => by
      rcases List.mem_append.1 hy with hy | hy
      · exact HIN.out.2.2.2.1 y hy k hk
      · rw [List.mem_singleton] at hy; subst hy; exact (HX.out.2 k hk).1)
    have HNX2 : Hid (feedR al = ((ls ++ [(⟨pp, ca - a, (al.drop a).take E⟩ : Bk)]).map Bk.bs ++ (feedR (al.drop (a + E))).1, (feedR (al.drop (a + E))).2)) := hid (by rw [HNX.out, List.map_append, List.map_singleton])
    clear ho8 hf8 hb8 HOW HRV HA hs1 hs2
    go_wp2_with fail
    go_roundw
    case rel => exact ⟨q3, t + 1, c3, _, a + E, by go_num, by rw [show ((a + E : Nat) : Int) = (a : Int) + 4 + (NN : Int) by omega], hEN, by omega, hid ⟨HF8.out, HRK8.out, HB8.out, HP8.out, HNX2.out⟩⟩
    case measure => first | (simp [intOf]; done) | (simp [intOf]; omega)
end
section
open Go.RowKit Go.Lib
set_option maxRecDepth 100000

theorem feedR_rest : ∀ (m : Nat) (a : List Int), a.length ≤ m → (feedR a).2.1.length ≤ 65536 ∧ ∀ z ∈ (feedR a).2.1, z ∈ a
  | m, a, hm => by
    by_cases h4 : a.length < 4
    · rw [feedR_short h4]; exact ⟨by show a.length ≤ _; omega, fun z hz => hz⟩
    · by_cases hb : leV (a.take 4) < 9 ∨ 65532 < leV (a.take 4)
      · rw [feedR_bad h4 hb]; exact ⟨by simp, by simp⟩
      · by_cases hs : (a.length : Int) < 4 + leV (a.take 4)
        · rw [feedR_wait h4 hb hs]; exact ⟨by show a.length ≤ _; omega, fun z hz => hz⟩
        · rw [feedR_next h4 hb hs]
          match m, hm with
          | 0, hm => omega
          | m + 1, hm =>
            have ih := feedR_rest m (a.drop (4 + (leV (a.take 4)).toNat)) (by rw [List.length_drop]; omega)
            exact ⟨ih.1, fun z hz => List.mem_of_mem_drop (ih.2 z hz)⟩
set_option maxHeartbeats 3200000 in
theorem sameF_any (qa qb : Option Addr) (n ca cb : Nat) (la lb : List Bk) (w : World) (ha : OwnK w qa n ca la) (hb : RdK w qb n cb lb) (he : la.map Bk.bs = lb.map Bk.bs) (hn : n ≤ 140737488351232) :
    Calls Tryd.prog 24 #[.slice qa n ca, .slice qb n cb] w fun e w' => e = .returned (.bool true) ∧ Frm [] w w' := by
  obtain ⟨PO, hPO⟩ : ∃ PO : Ending → World → Prop, (fun e w' => e = .returned (.bool true) ∧ Frm [] w w') = PO := ⟨_, rfl⟩
  rw [hPO]
  have HP : Hid (∀ w', Frm [] w w' → PO (.returned (.bool true)) w') := hid (fun w' h => by rw [← hPO]; exact ⟨rfl, h⟩)
  have HOA := hid ha
  have HOB := hid hb
  have HE := hid he
  clear hPO ha hb he
  go_enter Tryd.func24, Tryd.ntmps24
  go_wp2_with fail
  go_loopw [5] (fun i wr => ∃ t : Nat, t ≤ n ∧ i = .int .i64 (t : Int) ∧ Hid (Frm [] w wr)) (fun i _ => n - (intOf i).toNat)
  case atStart => exact ⟨0, Nat.zero_le _, rfl, hid (Frm.refl _ _)⟩
  case round =>
    obtain ⟨t, ht, rfl, hin⟩ := hrel
    have HIN := hid hin.out
    clear hin
    by_cases hlt : t < n
    · have t1 : (t : Int) < (n : Int) := by omega
      obtain ⟨x, hx⟩ : ∃ x, la[t]? = some x := ⟨_, List.getElem?_eq_getElem (by rw [HOA.out.ln]; exact hlt)⟩
      obtain ⟨y, hy⟩ : ∃ y, lb[t]? = some y := ⟨_, List.getElem?_eq_getElem (by rw [HOB.out.ln]; exact hlt)⟩
      have hxy : x.bs = y.bs := by
        have h1 : (la.map Bk.bs)[t]? = some x.bs := by rw [List.getElem?_map, hx]; rfl
        rw [HE.out, List.getElem?_map, hy] at h1
        exact (Option.some.inj h1).symm
      obtain ⟨ga, cura, rfl, _, q0⟩ := (HOA.out.k0 HIN.out).at hx
      obtain ⟨gb, rfl, q1⟩ := (HOB.out.k0 HIN.out).at hy
      have r1 := ((HOA.out.k0 HIN.out).it x (List.mem_of_getElem? hx)).1.rd
      have r2 := ((HOB.out.k0 HIN.out).it y (List.mem_of_getElem? hy)).1
      rw [← hxy] at r2 q1
      have hcv1 := fun k => cv_any (P := Tryd.prog) (w := wr.drewN k) 22 5 9 Tryd.underlying22 Tryd.underlying5 Tryd.underlying9 (r1.drewN k) x.c rfl
      have hcv2 := fun k => cv_any (P := Tryd.prog) (w := wr.drewN k) 22 5 9 Tryd.underlying22 Tryd.underlying5 Tryd.underlying9 (r2.drewN k) y.c rfl
      have HF : Hid (∀ k, Frm [] w (wr.drewN k)) := hid (fun k => HIN.out.drewN k)
      clear hx hy hxy r1 r2
      generalize strOfNums x.bs = S at hcv1 hcv2
      go_wp2_with fail
      go_quiet (fail)
      clear hcv1 hcv2
      go_wp2_with fail
      go_roundw
      case rel => exact ⟨t + 1, by omega, by go_num, HF.out _⟩
      case measure => first | (simp [intOf]; done) | (simp [intOf]; omega)
    · obtain rfl : t = n := by omega
      go_wp2_with fail
      first | go_returns | skip
      exact HP.out _ HIN.out
theorem setF_get {α : Type} {ls : List α} {i : Nat} {x' : α} {m : Nat} {y : α} (h : (ls.set i x')[m]? = some y) : (m = i ∧ y = x') ∨ (m ≠ i ∧ ls[m]? = some y) := by
  rw [List.getElem?_set] at h
  by_cases e : i = m
  · subst e
    rw [if_pos rfl] at h
    split at h
    · exact Or.inl ⟨rfl, (Option.some.inj h).symm⟩
    · cases h
  · rw [if_neg e] at h
    exact Or.inr ⟨fun h2 => e h2.symm, h⟩
theorem rowsK_setF (ls : List Bk) (i : Nat) (y : Bk) : rowsK (ls.set i y) = (rowsK ls).set i y.v := by unfold rowsK; rw [List.map_set]
/-- One byte of a block, another. -/
theorem OwnK.byteF {w : World} {q : Option Addr} {n c i g j : Nat} {ls : List Bk} {x : Bk} (h : OwnK w q n c ls) (hx : ls[i]? = some x) (hg : x.p = some ⟨g, 0, none⟩) (hj : j < x.bs.length) (z : Int) : OwnK (w.setCell ⟨g, j, none⟩ (.int .u8 z)) q n c (ls.set i ⟨x.p, x.c, x.bs.set j z⟩) ∧ Frm [g] w (w.setCell ⟨g, j, none⟩ (.int .u8 z)) := by
  have hf : Frm [g] w (w.setCell ⟨g, j, none⟩ (.int .u8 z)) := (Frm.refl _ _).setCell _ _ (by simp)
  have hi := (List.getElem?_eq_some_iff.1 hx).1
  have hgx : g ∈ blk x.p := by rw [hg]; simp [blk]
  have hxm := h.it x (List.mem_of_getElem? hx)
  have hxok : BkOk (w.setCell ⟨g, j, none⟩ (.int .u8 z)) ⟨x.p, x.c, x.bs.set j z⟩ := by
    refine ⟨?_, fun k hk => Nat.lt_of_lt_of_le (hxm.1.lo k hk) hf.size, by simpa using hxm.1.cp⟩
    rcases hxm.1.it with h0 | ⟨g', cur, h1, h2, h3⟩
    · rw [h0] at hj; simp at hj
    · rw [hg] at h1
      simp only [Option.some.injEq, Addr.mk.injEq, and_true] at h1
      subst h1
      refine Or.inr ⟨g, _, hg, heap_setCell_same w g j cur _ (.int .u8 z) h2, ?_⟩
      simp only [List.length_set]
      rw [Array.toList_setIfInBounds, List.take_set, h3]
      unfold bv
      rw [List.map_set]
  have hoth : ∀ m y, m ≠ i → ls[m]? = some y → ∀ k ∈ blk y.p, k ∉ [g] := fun m y hm hy k hk hkg => by
    rw [List.mem_singleton] at hkg
    subst hkg
    exact h.ap m i y x hm hy hx k hk hgx
  refine ⟨⟨?_, by rw [List.length_set]; exact h.ln, fun y hy => ?_, fun a b y u hab hy hu k hk hku => ?_⟩, hf⟩
  · have e : rowsK (ls.set i ⟨x.p, x.c, x.bs.set j z⟩) = rowsK ls := by
      rw [rowsK_setF]
      refine List.ext_getElem? fun m => ?_
      rw [List.getElem?_set]
      by_cases e : i = m
      · subst e
        rw [if_pos rfl, if_pos (by rw [rowsK_len]; exact hi), rowsK_get hx]
        simp [Bk.v]
      · rw [if_neg e]
    rw [e]
    exact ownsRow_kept h.ow hf (fun k hk hkg => by rw [List.mem_singleton] at hkg; subst hkg; exact hxm.2 k hgx hk)
  · obtain ⟨m, hm⟩ := List.getElem?_of_mem hy
    rcases setF_get hm with ⟨_, rfl⟩ | ⟨h1, h2⟩
    · exact ⟨hxok, hxm.2⟩
    · have h3 := h.it y (List.mem_of_getElem? h2)
      exact ⟨h3.1.kept hf (hoth m y h1 h2), h3.2⟩
  · rcases setF_get hy with ⟨e1, rfl⟩ | ⟨e1, h1⟩
    · rcases setF_get hu with ⟨e2, rfl⟩ | ⟨e2, h2⟩
      · omega
      · exact h.ap i b x u (fun h3 => e2 h3.symm) hx h2 k hk hku
    · rcases setF_get hu with ⟨e2, rfl⟩ | ⟨e2, h2⟩
      · exact h.ap a i y x e1 h1 hx k hk hku
      · exact h.ap a b y u hab h1 h2 k hk hku
def footF (la : List Bk) : List Nat := (la.map (fun x => blk x.p)).flatten
theorem footF_mem {la : List Bk} {k : Nat} : k ∈ footF la ↔ ∃ x ∈ la, k ∈ blk x.p := by
  unfold footF
  simp only [List.mem_flatten, List.mem_map]
  exact ⟨fun ⟨l, ⟨a, h, e⟩, hk⟩ => ⟨a, h, by rw [e]; exact hk⟩, fun ⟨x, h, hk⟩ => ⟨_, ⟨x, h, rfl⟩, hk⟩⟩
/-- While a list of blocks is written full. -/
structure FillF (w wr : World) (q : Option Addr) (n c : Nat) (la ls : List Bk) : Prop where
  ow : OwnK wr q n c ls
  fr : Frm (footF la) w wr
  sh : ∀ (i : Nat) (y : Bk), ls[i]? = some y → ∃ x : Bk, la[i]? = some x ∧ y.p = x.p ∧ y.c = x.c ∧ y.bs.length = x.bs.length
theorem FillF.put {w wr : World} {q : Option Addr} {n c t j g : Nat} {la ls : List Bk} {x : Bk} (h : FillF w wr q n c la ls) (hx : ls[t]? = some x) (hg : x.p = some ⟨g, 0, none⟩) (hj : j < x.bs.length) (z : Int) : FillF w (wr.setCell ⟨g, j, none⟩ (.int .u8 z)) q n c la (ls.set t ⟨x.p, x.c, x.bs.set j z⟩) := by
  obtain ⟨h1, h2⟩ := h.ow.byteF hx hg hj z
  obtain ⟨x0, e0, e1, e2, e3⟩ := h.sh t x hx
  refine ⟨h1, h.fr.trans h2 (fun k hk _ => ?_), fun i y hy => ?_⟩
  · rw [List.mem_singleton] at hk
    subst hk
    exact footF_mem.2 ⟨x0, List.mem_of_getElem? e0, by rw [← e1, hg]; simp [blk]⟩
  · rcases setF_get hy with ⟨rfl, rfl⟩ | ⟨_, h4⟩
    · exact ⟨x0, e0, e1, e2, by simpa using e3⟩
    · exact h.sh i y h4
/-- The law's two lines. -/
structure LnsF (w wr : World) (lb yb : Nat) (p : Option Addr) (n c : Nat) (p' : Option Addr) (n' c' : Nat) (zs : List Int) : Prop where
  fr : Frm [] w wr
  ln : IsLn wr lb p n c zs
  ld : IsLnD wr yb p' n' c' zs
  lo : w.heap.size ≤ lb ∧ w.heap.size ≤ yb ∧ lb ≠ yb
  fp : ∀ k ∈ ft p c, w.heap.size ≤ k ∧ k ≠ yb ∧ k ∉ blk p'
  fd : ∀ k ∈ blk p', w.heap.size ≤ k ∧ k ≠ lb
  bd : ∀ z ∈ zs, 0 ≤ z ∧ z < 256
  mx : n ≤ 65536
end
end Go.Proofs.YtignoocdeghiaaaDoor
