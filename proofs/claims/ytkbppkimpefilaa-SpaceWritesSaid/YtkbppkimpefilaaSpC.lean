/- Space maps: Replay and Condense. -/
import Derived.Test.YtkbppkimpefilaaSpB
namespace Go.Proofs.Ytkbppkimpefilaa
open Go.RowKit Go.Lib
set_option maxRecDepth 100000

/-- What Replay answers. -/
def RepA (w : World) (es : List Sq) (e : Ending) (w' : World) : Prop :=
  ∃ E r, RepC es E r ∧ Frm [] w w' ∧ ((E ≠ 0 ∧ e = .returned (.tuple #[.pointer none, .int .i64 E])) ∨
    (E = 0 ∧ ∃ sb p c, e = .returned (.tuple #[.pointer (some ⟨sb, 0, none⟩), .int .i64 0]) ∧ RSet w' sb p c r ∧ Norm 0 r ∧ r.length ≤ 4096 ∧ Mine w w' sb p))
set_option maxHeartbeats 6400000 in
theorem repE_any (p : Option Addr) (n c : Nat) (es : List Sq) (w : World) (hr : Rv w p (rowE es)) (hn : es.length = n) (hin : InE es) (hc : n ≤ 9223372036854775807) :
    Calls Try.prog 15 #[.slice p n c] w (RepA w es) := by
  obtain ⟨PO, hPO⟩ : ∃ PO : Ending → World → Prop, RepA w es = PO := ⟨_, rfl⟩
  rw [hPO]
  have HP1 : Hid (∀ E w', RepC es E [] → E ≠ 0 → Frm [] w w' → PO (.returned (.tuple #[.pointer none, .int .i64 E])) w') := hid (fun E w' h1 h2 h3 => by
    rw [← hPO]
    exact ⟨E, [], h1, h3, Or.inl ⟨h2, rfl⟩⟩)
  have HP2 : Hid (∀ sb p c r w', RepC es 0 r → RSet w' sb p c r → Norm 0 r → r.length ≤ 4096 → Mine w w' sb p → PO (.returned (.tuple #[.pointer (some ⟨sb, 0, none⟩), .int .i64 0])) w') := hid (fun sb p c r w' h1 h2 h3 h4 h5 => by
    rw [← hPO]
    exact ⟨0, r, h1, h5.1, Or.inr ⟨rfl, sb, p, c, rfl, h2, h3, h4, h5⟩⟩)
  have HR := hid (fun W (hf : Frm [] w W) => hr.kept hf (by simp))
  have HN := hid hn
  have HIN := hid hin
  have HCK := hid (chkE_any p n c es w hr hn hin hc)
  obtain ⟨C, hC⟩ : ∃ C, chkE es = C := ⟨_, rfl⟩
  rw [hC] at HCK
  have HC := hid hC
  clear hr hn hin hC hPO
  go_enter Try.func15, Try.ntmps15
  go_wp2_with fail
  refine HCK.out.mono ?_
  rintro e w1 ⟨rfl, hf1⟩
  have HF1 := hid hf1
  clear hf1 HCK
  by_cases hC0 : C = 0
  · subst hC0
    go_wp2_with fail
    refine (new9_any w1).mono ?_
    rintro e w2 ⟨sb, rfl, hs2, hf2, hl2⟩
    have HS2 : Hid (RSet w2 sb none 0 [] ∧ Norm 0 [] ∧ ([] : List Sp).length ≤ 4096 ∧ Mine w w2 sb none) := hid ⟨hs2, trivial, by simp, HF1.out.trans hf2 (by simp), by have := HF1.out.size; omega, by simp [blk]⟩
    clear hs2 hf2 hl2 HF1
    go_wp2_with fail
    go_loopw [17] (fun i wr => ∃ (t : Nat) (p4 : Option Addr) (c4 : Nat) (ks : List Sp), t ≤ n ∧ i = .int .i64 (t : Int) ∧ Hid (RSet wr sb p4 c4 ks ∧ Norm 0 ks ∧ ks.length ≤ 4096 ∧ Mine w wr sb p4) ∧ Hid (∀ E r, RepR (es.drop t) ks E r → RepR es [] E r)) (fun i _ => n - (intOf i).toNat)
    case atStart => exact ⟨0, none, 0, [], Nat.zero_le _, rfl, HS2, hid (fun E r h => by simpa using h)⟩
    case round =>
      clear HS2
      obtain ⟨t, p4, c4, ks, ht, rfl, hs, hq⟩ := hrel
      by_cases hlt : t < n
      · have t1 : (t : Int) < (n : Int) := by omega
        obtain ⟨y, hy⟩ : ∃ y, es[t]? = some y := ⟨_, List.getElem?_eq_getElem (by rw [HN.out]; exact hlt)⟩
        obtain ⟨g, o, rfl, y0, y1, y2⟩ := rvE_at (HR.out wr hs.out.2.2.2.1) hy
        obtain ⟨bx, hbx⟩ : ∃ q, wr.heap.size = q := ⟨_, rfl⟩
        obtain ⟨w5, hw5⟩ : ∃ q, wr.alloc (.cells #[.bool y.f, .int .i64 y.s.a, .int .i64 y.s.m] 41) = q := ⟨_, rfl⟩
        have h5 : Frm [] wr w5 := by rw [← hw5]; exact (Frm.refl _ _).alloc _
        obtain ⟨x0, x1, x2⟩ := sq_cells (W := w5) (y := y) (by rw [← hw5]; exact heap_alloc_to _ _ hbx)
        have HY := hid hy
        have HS5 : Hid (RSet w5 sb p4 c4 ks ∧ Norm 0 ks ∧ ks.length ≤ 4096 ∧ Mine w w5 sb p4) := hid ⟨hs.out.1.k0 h5, hs.out.2.1, hs.out.2.2.1, hs.out.2.2.2.k0 h5⟩
        have HW5 := hid hw5
        have HBX := hid hbx
        clear hw5 hbx h5 hy hs
        go_upto_region 8 with fail
        rw [HBX.out, HW5.out]
        clear HW5 HBX y0 y1 y2
        cases hyf : y.f with
        | false =>
          rw [hyf] at x0
          have HYF := hid hyf
          clear hyf
          have HAD := hid (add_any sb p4 c4 ks y.s w5 HS5.out.1 HS5.out.2.1 HS5.out.2.2.1 (HIN.out y (List.mem_of_getElem? HY.out)))
          go_wp2_with fail
          refine HAD.out.mono ?_
          rintro e w6 ⟨E, l', p', c', rfl, a0, a1, a2, a3, a4, a5⟩
          have HST : Hid (StepE ks y E l') := hid (Or.inr ⟨HYF.out, a0⟩)
          have HS6 : Hid (RSet w6 sb p' c' l' ∧ Norm 0 l' ∧ l'.length ≤ 4096 ∧ Mine w w6 sb p') := hid ⟨a1, a2, a3, HS5.out.2.2.2.step a4 a5⟩
          have hdr : es.drop t = y :: es.drop (t + 1) := by
            rw [List.drop_eq_getElem_cons (by rw [HN.out]; exact hlt)]
            have := HY.out
            rw [List.getElem?_eq_getElem (by rw [HN.out]; exact hlt)] at this
            cases this; rfl
          clear a0 a1 a2 a3 a4 a5 HAD x0 x1 x2
          by_cases hE : E = 0
          · subst hE
            have HQ : Hid (∀ E r, RepR (es.drop (t + 1)) l' E r → RepR es [] E r) := hid (fun E r h => hq.out E r (by rw [hdr]; exact ⟨0, l', HST.out, Or.inl ⟨rfl, h⟩⟩))
            clear hdr
            go_wp2_with fail
            go_roundw
            case rel => exact ⟨t + 1, p', c', l', by omega, by go_num, HS6, HQ⟩
            case measure => simp [intOf]; omega
          · have hb : (E != 0) = true := by simpa using hE
            have HRR : Hid (RepC es 101 []) := hid (Or.inr ⟨HC.out, hq.out 101 [] (by rw [hdr]; exact ⟨E, l', HST.out, Or.inr ⟨hE, rfl, rfl⟩⟩)⟩)
            clear hdr hE
            go_wp2_with fail
            first | go_returns | skip
            exact HP1.out 101 w6 HRR.out (by omega) HS6.out.2.2.2.1
        | true =>
          rw [hyf] at x0
          have HYF := hid hyf
          clear hyf
          have HAD := hid (rem_any sb p4 c4 ks y.s w5 HS5.out.1 HS5.out.2.1 HS5.out.2.2.1 (HIN.out y (List.mem_of_getElem? HY.out)))
          go_wp2_with fail
          refine HAD.out.mono ?_
          rintro e w6 ⟨E, l', p', c', rfl, a0, a1, a2, a3, a4, a5⟩
          have HST : Hid (StepE ks y E l') := hid (Or.inl ⟨HYF.out, a0⟩)
          have HS6 : Hid (RSet w6 sb p' c' l' ∧ Norm 0 l' ∧ l'.length ≤ 4096 ∧ Mine w w6 sb p') := hid ⟨a1, a2, a3, HS5.out.2.2.2.step a4 a5⟩
          have hdr : es.drop t = y :: es.drop (t + 1) := by
            rw [List.drop_eq_getElem_cons (by rw [HN.out]; exact hlt)]
            have := HY.out
            rw [List.getElem?_eq_getElem (by rw [HN.out]; exact hlt)] at this
            cases this; rfl
          clear a0 a1 a2 a3 a4 a5 HAD x0 x1 x2
          by_cases hE : E = 0
          · subst hE
            have HQ : Hid (∀ E r, RepR (es.drop (t + 1)) l' E r → RepR es [] E r) := hid (fun E r h => hq.out E r (by rw [hdr]; exact ⟨0, l', HST.out, Or.inl ⟨rfl, h⟩⟩))
            clear hdr
            go_wp2_with fail
            go_roundw
            case rel => exact ⟨t + 1, p', c', l', by omega, by go_num, HS6, HQ⟩
            case measure => simp [intOf]; omega
          · have hb : (E != 0) = true := by simpa using hE
            have HRR : Hid (RepC es 101 []) := hid (Or.inr ⟨HC.out, hq.out 101 [] (by rw [hdr]; exact ⟨E, l', HST.out, Or.inr ⟨hE, rfl, rfl⟩⟩)⟩)
            clear hdr hE
            go_wp2_with fail
            first | go_returns | skip
            exact HP1.out 101 w6 HRR.out (by omega) HS6.out.2.2.2.1
      · obtain rfl : n = t := by omega
        have HRR : Hid (RepC es 0 ks) := hid (Or.inr ⟨HC.out, hq.out 0 ks (by rw [List.drop_eq_nil_of_le (by rw [HN.out]; exact Nat.le_refl _)]; exact ⟨rfl, rfl⟩)⟩)
        go_wp2_with fail
        first | go_returns | skip
        exact HP2.out sb p4 c4 ks wr HRR.out hs.out.1 hs.out.2.1 hs.out.2.2.1 hs.out.2.2.2
  · have hb : (C != 0) = true := by simpa using hC0
    have HRR : Hid (RepC es C []) := hid (Or.inl ⟨by rw [HC.out]; exact hC0, HC.out.symm, rfl⟩)
    go_wp2_with fail
    first | go_returns | skip
    exact HP1.out C w1 HRR.out hC0 HF1.out
/-- What Condense answers. -/
def ConA (w : World) (es : List Sq) (e : Ending) (w' : World) : Prop :=
  ∃ E r, RepC es E r ∧ Frm [] w w' ∧ Norm 0 r ∧ r.length ≤ 4096 ∧ ∃ p c, e = .returned (.tuple #[.slice p r.length c, .int .i64 E]) ∧ OwnE w' p r.length c (toE r) ∧ ∀ k ∈ blk p, w.heap.size ≤ k
set_option maxHeartbeats 6400000 in
theorem conE_any (p : Option Addr) (n c : Nat) (es : List Sq) (w : World) (hr : Rv w p (rowE es)) (hn : es.length = n) (hin : InE es) (hc : n ≤ 9223372036854775807) :
    Calls Try.prog 17 #[.slice p n c] w (ConA w es) := by
  obtain ⟨PO, hPO⟩ : ∃ PO : Ending → World → Prop, ConA w es = PO := ⟨_, rfl⟩
  rw [hPO]
  have HP : Hid (∀ E r p c L w', r.length = L → RepC es E r → Frm [] w w' → Norm 0 r → r.length ≤ 4096 → OwnE w' p L c (toE r) → (∀ k ∈ blk p, w.heap.size ≤ k) → PO (.returned (.tuple #[.slice p L c, .int .i64 E])) w') := hid (fun E r p c L w' h0 h1 h2 h3 h4 h5 h6 => by
    rw [← hPO]
    subst h0
    exact ⟨E, r, h1, h2, h3, h4, p, c, rfl, h5, h6⟩)
  have HRE := hid (repE_any p n c es w hr hn hin hc)
  clear hr hn hin hPO
  go_enter Try.func17, Try.ntmps17
  go_wp2_with fail
  refine HRE.out.mono ?_
  rintro e w1 ⟨E, r, hc, hf1, h⟩
  have HC := hid hc
  have HF1 := hid hf1
  clear hc hf1 HRE
  rcases h with ⟨hE, rfl⟩ | ⟨rfl, sb, ps, cs, rfl, h1, h2, h3, h4⟩
  · have hb : (E != 0) = true := by simpa using hE
    have HRR : Hid (RepC es E []) := hid (by
      rcases HC.out with ⟨a, b, c⟩ | ⟨a, h⟩
      · exact Or.inl ⟨a, b, rfl⟩
      · exact Or.inr ⟨a, h.fails hE⟩)
    clear hE
    go_wp2_with fail
    first | go_returns | skip
    exact HP.out E [] none 0 0 w1 rfl HRR.out HF1.out trivial (by simp) ⟨⟨rfl, Or.inl ⟨rfl, rfl⟩⟩, rfl⟩ (by simp [blk])
  · have HAL := hid (all9_any sb ps cs r w1 h1 (by omega))
    have H2 := hid h2
    obtain ⟨L, hL⟩ : ∃ q, r.length = q := ⟨_, rfl⟩
    rw [hL] at HAL h3
    have HL := hid hL
    clear h1 h2 h4 hL
    go_wp2_with fail
    refine HAL.out.mono ?_
    rintro e w2 ⟨pa, ca, rfl, ho2, hf2, hb2⟩
    have HF2 := hid (HF1.out.trans hf2 (by simp))
    have HO2 := hid ho2
    clear ho2 hf2 hb2 HAL HF1
    go_wp2_with fail
    go_loopw [20, 6] (fun i s6 wr => ∃ (t : Nat) (pk : Option Addr) (ck : Nat), t ≤ L ∧ i = .int .i64 (t : Int) ∧ s6 = .slice pk t ck ∧ Hid (OwnE wr pk t ck (toE (r.take t)) ∧ (∀ k ∈ blk pk, w.heap.size ≤ k ∧ k ∉ blk pa) ∧ Frm [] w wr ∧ OwnS wr pa L ca r)) (fun i _ _ => L - (intOf i).toNat)
    case atStart => exact ⟨0, none, 0, Nat.zero_le _, rfl, rfl, hid ⟨⟨⟨rfl, Or.inl ⟨rfl, rfl⟩⟩, by simp [toE]⟩, by simp [blk], HF2.out, HO2.out⟩⟩
    case round =>
      clear HF2 HO2
      obtain ⟨t, pk, ck, ht, rfl, rfl, hin⟩ := hrel
      by_cases hlt : t < L
      · have t1 : (t : Int) < (L : Int) := by omega
        obtain ⟨y, hy⟩ : ∃ y, r[t]? = some y := ⟨_, List.getElem?_eq_getElem (by rw [HL.out]; exact hlt)⟩
        obtain ⟨g, hg, y0, y1⟩ := hin.out.2.2.2.at hy
        obtain ⟨bx, hbx⟩ : ∃ q, wr.heap.size = q := ⟨_, rfl⟩
        obtain ⟨w5, hw5⟩ : ∃ q, wr.alloc (.cells #[.int .i64 y.a, .int .i64 y.m] 39) = q := ⟨_, rfl⟩
        have h5 : Frm [] wr w5 := by rw [← hw5]; exact (Frm.refl _ _).alloc _
        have hx : w5.heap[bx]? = some (.cells #[.int .i64 y.a, .int .i64 y.m] 39 (0, 0)) := by rw [← hw5]; exact heap_alloc_to _ _ hbx
        have x0 : w5.cell? ⟨bx, 0, none⟩ = some (.int .i64 y.a) := by rw [cell_of_row _ _ _ _ _ _ hx]; rfl
        have x1 : w5.cell? ⟨bx, 1, none⟩ = some (.int .i64 y.m) := by rw [cell_of_row _ _ _ _ _ _ hx]; rfl
        have HTK : Hid (rowE (toE (r.take t)) ++ rowE (toE [y]) = rowE (toE (r.take (t + 1)))) := hid (by rw [List.take_add_one, hy, Option.toList_some, toE, toE, toE, List.map_append, rowE_app])
        have HTL : Hid ((toE (r.take (t + 1))).length = t + 1) := hid (by rw [toE, List.length_map, List.length_take, HL.out]; omega)
        have HW5 := hid hw5
        have HBX := hid hbx
        have h6 := h5.alloc (.cells #[.bool false, .int .i64 y.a, .int .i64 y.m] 41)
        have HOW := hid (ownsRow_kept hin.out.1.1 h6 (by simp))
        have HRV := hid (rv_block (heap_alloc_new w5 (.cells #[.bool false, .int .i64 y.a, .int .i64 y.m] 41)))
        have HF6 := hid h6
        have HA := hid hin.out.2
        have HSZ5 : Hid (wr.heap.size ≤ w5.heap.size) := hid h5.size
        subst hg
        clear hw5 hbx h5 hy hin hx h6
        go_upto_region 8 with fail
        rw [HBX.out, HW5.out]
        clear HW5 HBX y0 y1
        go_wp2_with (at_builtin; refine wpList_appV rfl _ _ 22 rfl 41 3 24 _ Try.underlying22 infoSq rfl (by decide) pk t ck (rowE (toE (r.take t))) rfl HOW.out (some ⟨w5.heap.size, 0, none⟩) 1 1 [.bool false, .int .i64 y.a, .int .i64 y.m] rfl rfl (by simp) HRV.out (by intro u hu; simp at hu; rcases hu with rfl | rfl | rfl <;> rfl) (by unfold maxLen; omega) (by omega) ?_)
        intro p6 c6 w6 ho6 hf6 hb6
        have HIN : Hid (OwnE w6 p6 (t + 1) c6 (toE (r.take (t + 1))) ∧ (∀ k ∈ blk p6, w.heap.size ≤ k ∧ k ∉ blk (some (⟨g, 0, none⟩ : Addr))) ∧ Frm [] w w6 ∧ OwnS w6 (some ⟨g, 0, none⟩) L ca r) := hid (by
          obtain ⟨a1, a2, a3⟩ := HA.out
          have hbk : ∀ k ∈ blk p6, k ∈ blk pk ∨ wr.heap.size ≤ k := fun k hk => (hb6.out k hk).imp id (fun h => by have := HSZ5.out; first | omega | (simp at h; omega))
          refine ⟨⟨by rw [← HTK.out]; exact ho6.out, HTL.out⟩, fun k hk => ?_, ?_, ?_⟩
          · rcases hbk k hk with h | h
            · exact a1 k h
            · exact ⟨by have := a2.size; omega, fun hm => by have := ownsRow_low a3.1 k hm; omega⟩
          · exact (a2.trans HF6.out (by simp)).trans hf6.out (fun k hk hkl => by have := (a1 k hk).1; omega)
          · exact (a3.kept HF6.out (by simp)).kept hf6.out (fun k hk hm => (a1 k hm).2 hk))
        clear ho6 hf6 hb6 x0 x1 HOW HRV HF6 HA
        go_wp2_with fail
        go_roundw
        case rel => exact ⟨t + 1, p6, c6, by omega, by go_num, by go_num, HIN⟩
        case measure => simp [intOf]; omega
      · obtain rfl : L = t := by omega
        have HT : Hid (r.take L = r) := hid (List.take_of_length_le (by rw [HL.out]; exact Nat.le_refl _))
        have HO := hid hin.out.1
        have HG := hid (fun k hk => (hin.out.2.1 k hk).1)
        have HFR := hid hin.out.2.2.1
        clear hin
        rw [HT.out] at HO
        go_wp2_with fail
        first | go_returns | skip
        exact HP.out 0 r pk ck L wr HL.out HC.out HFR.out H2.out (by rw [HL.out]; exact h3) HO.out HG.out
set_option maxHeartbeats 3200000 in
theorem same10_any (p q : Option Addr) (c c' : Nat) (l : List Sq) (n : Nat) (w : World) (h : Rv w p (rowE l)) (h2 : Rv w q (rowE l)) (hn : l.length = n) (hl : n ≤ 9223372036854775807) :
    Calls Try.prog 20 #[.slice p n c, .slice q n c'] w fun e w' => e = .returned (.bool true) ∧ Frm [] w w' := by
  have H1 := hid (fun W (hf : Frm [] w W) => h.kept hf (by simp))
  have H2 := hid (fun W (hf : Frm [] w W) => h2.kept hf (by simp))
  have HN := hid hn
  clear h h2 hn
  go_enter Try.func20, Try.ntmps20
  go_wp2_with fail
  go_loopw [5, 4] (fun i s4 wr => ∃ t : Nat, t ≤ n ∧ i = .int .i64 (t : Int) ∧ Hid (Frm [] w wr)) (fun i _ _ => n - (intOf i).toNat)
  case atStart => exact ⟨0, Nat.zero_le _, rfl, hid (Frm.refl _ _)⟩
  case round =>
    obtain ⟨t, ht, rfl, hin⟩ := hrel
    by_cases hlt : t < n
    · have t1 : (t : Int) < (n : Int) := by omega
      obtain ⟨y, hy⟩ : ∃ y, l[t]? = some y := ⟨_, List.getElem?_eq_getElem (by rw [HN.out]; omega)⟩
      obtain ⟨g, o, hg, y0, y1, y2⟩ := rvE_at (H1.out wr hin.out) hy
      obtain ⟨g', o', hg', z0, z1, z2⟩ := rvE_at (H2.out wr hin.out) hy
      subst hg hg'
      clear hy
      go_upto_region 6 with fail
      go_quiet (fail)
      go_wp2_with fail
      go_roundw
      case rel => exact ⟨t + 1, by omega, by go_num, hid (hin.out.drewN _)⟩
      case measure => simp [intOf]; omega
    · obtain rfl : n = t := by omega
      go_wp2_with fail
      first | go_returns | skip
      exact ⟨rfl, hin.out⟩
end Go.Proofs.Ytkbppkimpefilaa
