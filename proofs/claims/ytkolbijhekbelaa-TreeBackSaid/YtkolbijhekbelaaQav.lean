/- The document's may and Table. Bytes that may be read and written. Small laws: The statement CodeCut: plain facts and the walk. Opening the arguments of the statements: lists of calls. The statement CodeOneForm: the walk. -/
import Derived.Test.YtkolbijhekbelaaQat
import Derived.Test.YtkolbijhekbelaaQao
import Derived.Test.YtkolbijhekbelaaQaf
import Derived.Test.YtkolbijhekbelaaQac
import Derived.Test.YtkolbijhekbelaaQap
namespace Go.Proofs.Ytkolbijhekbelaa
section
open Go.RowKit Go.Lib
set_option maxRecDepth 100000

/-- A slot of a list, as cells. -/
theorem rowsSl_at {w : World} {p : Option Addr} {l : List Sl} {t : Nat} {v : Sl} (h : Rv w p (rowsSl l)) (hv : l[t]? = some v) : ∃ g o, p = some ⟨g, o, none⟩ ∧ w.cell? ⟨g, o + t * 11, none⟩ = some (.bool v.used) ∧ w.cell? ⟨g, o + t * 11 + 1, none⟩ = some (.int .i64 v.size) ∧ w.cell? ⟨g, o + t * 11 + 2, none⟩ = some (.int .i64 v.root.top) ∧ w.cell? ⟨g, o + t * 11 + 3, none⟩ = some (.int .i64 v.root.at_) ∧ w.cell? ⟨g, o + t * 11 + 4, none⟩ = some (.int .i64 v.root.bytes) ∧ w.cell? ⟨g, o + t * 11 + 5, none⟩ = some (.int .u64 v.root.birth) ∧ w.cell? ⟨g, o + t * 11 + 6, none⟩ = some (.int .i64 v.root.kind) ∧ w.cell? ⟨g, o + t * 11 + 7, none⟩ = some (.int .u64 v.root.sa) ∧ w.cell? ⟨g, o + t * 11 + 8, none⟩ = some (.int .u64 v.root.sb) ∧ w.cell? ⟨g, o + t * 11 + 9, none⟩ = some (.int .u64 v.root.sc) ∧ w.cell? ⟨g, o + t * 11 + 10, none⟩ = some (.int .u64 v.root.sd) := by
  rcases h with h0 | ⟨g, o, rfl, hcs⟩
  · exact absurd (rowsSl_get l t v hv 0 (.bool v.used) rfl) (by rw [h0]; simp)
  · have hc := fun i u hu => hcs (t * 11 + i) u (rowsSl_get l t v hv i u hu)
    simp only [← Nat.add_assoc] at hc
    exact ⟨g, o, rfl, hc 0 _ rfl, hc 1 _ rfl, hc 2 _ rfl, hc 3 _ rfl, hc 4 _ rfl, hc 5 _ rfl, hc 6 _ rfl, hc 7 _ rfl, hc 8 _ rfl, hc 9 _ rfl, hc 10 _ rfl⟩
theorem formS_zero : formS sl0 = [0, 0, 0, 0] ++ [0, 0, 0, 0] ++ ptrB zero9 := by kernel_rfl
def ub (u : Bool) : Int := if u then 1 else 0
theorem le_sz (z : Int) : le z 4 = szB z := by
  unfold le szB
  have e1 : z / 2 ^ (8 * 1) = z / 256 := rfl
  have e2 : z / 2 ^ (8 * 2) = z / 65536 := rfl
  have e3 : z / 2 ^ (8 * 3) = z / 16777216 := rfl
  have e0 : z / 2 ^ (8 * 0) = z := by simp
  simp [List.range_succ]
theorem mayS_form {s : Sl} (h : mayS s = true) : formS s = ([ub s.used, 0, 0, 0] ++ le s.size 4) ++ ptrB s.root ∧ 0 ≤ s.size ∧ s.size ≤ 65536 ∧ checkP s.root = 0 := by
  unfold mayS at h
  by_cases hu : s.used = true
  · rw [if_pos hu] at h
    simp only [Bool.and_eq_true, decide_eq_true_eq] at h
    refine ⟨?_, h.1.1, h.1.2, h.2⟩
    unfold formS
    rw [if_pos hu, le_sz, hu]
    rfl
  · rw [if_neg hu] at h
    have h1 := of_decide_eq_true h
    subst h1
    refine ⟨?_, by decide, by decide, by kernel_rfl⟩
    rw [formS_zero, le_sz]
    rfl
theorem mayS_ref (s : Sl) : mayS s = (decide (0 ≤ s.size) && decide (s.size ≤ 65536) && decide (checkP s.root = 0) && (s.used || decide (s = sl0))) := by
  unfold mayS
  by_cases hu : s.used = true
  · rw [if_pos hu, hu]; simp
  · rw [if_neg hu]
    by_cases h : s = sl0
    · subst h; kernel_rfl
    · simp [hu, h]
/-- Bytes that come together since a world. -/
structure AppT (w0 w : World) (q : Option Addr) (n c : Nat) (xs : List Int) : Prop where
  fr : Frm [] w0 w
  ow : Own w 5 (.slice q n c) xs
  nw : ∀ k ∈ blk q, w0.heap.size ≤ k
  ln : xs.length = n
theorem AppT.k0 {w0 w w' : World} {q : Option Addr} {n c : Nat} {xs : List Int} (h : AppT w0 w q n c xs) (hf : Frm [] w w') : AppT w0 w' q n c xs := ⟨h.fr.trans hf (by simp), h.ow.kept hf (by simp), h.nw, h.ln⟩
theorem AppT.put {w0 w w' : World} {q p2 : Option Addr} {n c m c2 : Nat} {xs ys zs : List Int} (h : AppT w0 w q n c xs) (hz : zs = xs ++ ys) (ho : Own w' 5 (.slice p2 zs.length c2) zs) (hf : Frm (blk q) w w') (hb : ∀ k ∈ blk p2, k ∈ blk q ∨ w.heap.size ≤ k) (hm : zs.length = m) : AppT w0 w' p2 m c2 (xs ++ ys) := by
  subst hz
  refine ⟨h.fr.trans hf (fun i hi hl => by have := h.nw i hi; omega), by rw [← hm]; exact ho, fun i hi => ?_, hm⟩
  rcases hb i hi with h1 | h1
  · exact h.nw i h1
  · have := h.fr.size; omega
set_option maxHeartbeats 6400000 in
theorem refMay_any (s : Sl) (w : World) : Calls Try.prog 40 #[.agg s.arr] w fun e w' => e = .returned (.bool (mayS s)) ∧ Frm [] w w' := by
  obtain ⟨PO, hPO⟩ : ∃ PO : Ending → World → Prop, (fun e w' => e = .returned (.bool (mayS s)) ∧ Frm [] w w') = PO := ⟨_, rfl⟩
  rw [hPO]
  have HP : Hid (∀ b w', mayS s = b → Frm [] w w' → PO (.returned (.bool b)) w') := hid (fun b w' h1 h2 => by rw [← hPO]; exact ⟨by rw [h1], h2⟩)
  have HCK := hid (fun W => refCheck9_any s.root W)
  obtain ⟨C, hC⟩ : ∃ C, checkP s.root = C := ⟨_, rfl⟩
  rw [hC] at HCK
  obtain ⟨E, hE⟩ : ∃ E, decide (s = sl0) = E := ⟨_, rfl⟩
  have heq : ∀ W, (binOp .eql 48 (.agg s.row.toArray) (.agg sl0.row.toArray)).run Try.prog W = .ok (.bool E) W := fun W => by
    rw [run_eql_struct, show (10000 : Nat) = 9993 + 7 from rfl, eqSl, hE]; rfl
  have hbz : ∀ W, (Instr.build 48 #[]).run Try.prog W = .ok (.agg sl0.row.toArray) W := fun W => run_build W _ _ _ (by kernel_rfl)
  have HV : Hid (mayS s = (decide (0 ≤ s.size) && decide (s.size ≤ 65536) && decide (C = 0) && (s.used || E))) := hid (by rw [mayS_ref, hC, hE])
  have HROW := hid (heap_alloc_new w (.cells s.arr 48))
  have HFA := hid ((Frm.refl [] w).alloc (.cells s.arr 48))
  obtain ⟨wa, hwa⟩ : ∃ z, w.alloc (.cells s.arr 48) = z := ⟨_, rfl⟩
  rw [hwa] at HROW HFA
  obtain ⟨bx, hbx⟩ : ∃ z, w.heap.size = z := ⟨_, rfl⟩
  rw [hbx] at HROW
  have hkeep : Hid (∀ W, Frm [] wa W → W.heap[bx]? = some (.cells s.arr 48 (0, 0))) := hid (fun W hf => hf.heap HROW.out (by simp))
  obtain ⟨x0, x1, x2, x3, x4, x5, x6, x7, x8, x9, x10⟩ := sl_cells HROW.out
  have HCL : Hid (∀ W, Frm [] wa W → _) := hid (fun W hf => sl_cells (hkeep.out W hf))
  obtain ⟨u, z, p⟩ := s
  obtain ⟨a0, a1, a2, a3, a4, a5, a6, a7, a8⟩ := p
  unfold P9.arr at HCK
  unfold Sl.arr Sl.row at hwa ⊢
  unfold sl0 Sl.row zero9 at hbz heq
  simp only at HCK HV hbz heq hwa x0 x1 x2 x3 x4 x5 x6 x7 x8 x9 x10 ⊢
  clear hPO hC hE HROW
  go_enter Try.func40, Try.ntmps40
  go_wp2_with fail
  refine (HCK.out wa).mono ?_
  rintro e w2 ⟨rfl, hf2⟩
  obtain ⟨y0, y1, y2, y3, y4, y5, y6, y7, y8, y9, y10⟩ := HCL.out w2 hf2
  have HF2 := hid (HFA.out.trans hf2 (by simp))
  clear hf2 x0 x1 x2 x3 x4 x5 x6 x7 x8 x9 x10 HCK HCL hkeep hwa
  by_cases h0 : 0 ≤ z
  case neg =>
    have h0' : z < 0 := by omega
    clear h0
    go_wp2_with fail
    first | go_returns | skip
    exact HP.out _ _ (by rw [HV.out, decide_eq_false (by omega)]; simp) HF2.out
  by_cases h1 : z ≤ 65536
  case neg =>
    have h1' : 65536 < z := by omega
    clear h1
    go_wp2_with fail
    first | go_returns | skip
    exact HP.out _ _ (by rw [HV.out, decide_eq_false (p := z ≤ 65536) (by omega)]; simp) HF2.out
  by_cases h2 : C = 0
  case neg =>
    have hcb : (C == 0) = false := by simpa using h2
    go_wp2_with fail
    first | go_returns | skip
    exact HP.out _ _ (by rw [HV.out, decide_eq_false h2]; simp) HF2.out
  subst h2
  cases u
  · go_wp2_with fail
    first | go_returns | skip
    exact HP.out _ _ (by rw [HV.out, decide_eq_true h0, decide_eq_true h1]; simp) HF2.out
  · go_wp2_with fail
    first | go_returns | skip
    exact HP.out _ _ (by rw [HV.out, decide_eq_true h0, decide_eq_true h1]; simp) HF2.out
set_option maxHeartbeats 12800000 in
theorem refTable_any (p : Option Addr) (L c : Nat) (l : List Sl) (w : World) (hr : Rv w p (rowsSl l)) (hL : l.length = L) (hb : L ≤ 1954687338212) (hok : ∀ s ∈ l, s.root.ok) :
    Calls Try.prog 22 #[.slice p L c] w (TabA w l) := by
  obtain ⟨PO, hPO⟩ : ∃ PO : Ending → World → Prop, TabA w l = PO := ⟨_, rfl⟩
  rw [hPO]
  have HP1 : Hid (∀ E w', tabE l = E → E ≠ 0 → Frm [] w w' → PO (.returned (.tuple #[.slice none 0 0, .int .i64 E])) w') := hid (fun E w' h1 h2 h3 => by rw [← hPO]; exact ⟨h3, Or.inl ⟨by rw [h1]; exact h2, by rw [h1]⟩⟩)
  have HP2 : Hid (∀ q m c w', tabE l = 0 → m = l.length * 72 → Own w' 5 (.slice q m c) (tabB l) → (∀ k ∈ blk q, w.heap.size ≤ k) → Frm [] w w' → PO (.returned (.tuple #[.slice q m c, .int .i64 0])) w') := hid (fun q m c w' h1 h2 h3 h4 h5 => by rw [← hPO]; exact ⟨h5, Or.inr ⟨h1, q, m, c, rfl, h2, h3, h4⟩⟩)
  have HR := hid hr
  have HL := hid hL
  have HOK := hid hok
  clear hr hL hok hPO
  by_cases hbig : 112 < L
  · have HE : Hid (tabE l = 2) := hid (by unfold tabE; rw [if_pos (by rw [HL.out]; exact hbig)])
    go_enter Try.func22, Try.ntmps22
    go_wp2_with fail
    first | go_returns | skip
    exact HP1.out 2 _ HE.out (by omega) (Frm.refl _ _)
  · have hb2 : L ≤ 112 := by omega
    go_enter Try.func22, Try.ntmps22
    go_wp2_with fail
    go_loopw [5, 4] (fun i s4 wr => ∃ (t : Nat) (q : Option Addr) (cq : Nat), t ≤ L ∧ i = .int .i64 (t : Int) ∧ s4 = .slice q (t * 72) cq ∧ Hid (AppT w wr q (t * 72) cq (tabB (l.take t)) ∧ ∀ s ∈ l.take t, mayS s = true)) (fun i _ _ => L - (intOf i).toNat)
    case atStart => exact ⟨0, none, 0, Nat.zero_le _, rfl, rfl, hid ⟨⟨Frm.refl _ _, Own.nil _ _, by simp [blk], rfl⟩, by simp⟩⟩
    case round =>
      obtain ⟨t, q, cq, ht, rfl, rfl, hin⟩ := hrel
      have HIN := hid hin.out
      clear hin
      by_cases hlt : t < L
      · have t1 : (t : Int) < (L : Int) := by omega
        obtain ⟨v, hv⟩ : ∃ v, l[t]? = some v := ⟨_, List.getElem?_eq_getElem (by rw [HL.out]; exact hlt)⟩
        have hvm := List.mem_of_getElem? hv
        have HTK : Hid (l.take (t + 1) = l.take t ++ [v]) := hid (by rw [List.take_add_one, hv]; rfl)
        obtain ⟨g, o, hgo, r0, r1, r2, r3, r4, r5, r6, r7, r8, r9, r10⟩ := rowsSl_at (HR.out.kept HIN.out.1.fr (by simp)) hv
        subst hgo
        have HAT : Hid (∀ W, Frm [] wr W → _) := hid (fun W hf => rowsSl_at (HR.out.kept (HIN.out.1.fr.trans hf (by simp)) (by simp)) hv)
        have HMB := hid (fun W => refMay_any v W)
        have HFM := hid (fun (h : mayS v = true) => mayS_form h)
        have HEN := hid (fun W => refEncode_any v.root (HOK.out v hvm) W)
        obtain ⟨M, hM⟩ : ∃ M, mayS v = M := ⟨_, rfl⟩
        rw [hM] at HMB HFM
        have HM := hid hM
        have HVM := hid hvm
        have HLT : Hid (tabB (l.take (t + 1)) = tabB (l.take t) ++ formS v) := hid (by rw [HTK.out]; unfold tabB; simp)
        obtain ⟨rb, hrb⟩ : ∃ z, ptrB v.root = z := ⟨_, rfl⟩
        obtain ⟨fb, hfb⟩ : ∃ z, formS v = z := ⟨_, rfl⟩
        have HRB : Hid (rb.length = 64) := hid (by rw [← hrb, ptrB_length])
        rw [hrb] at HEN HFM
        rw [hfb] at HLT HFM
        obtain ⟨u, z, a0, a1, a2, a3, a4, a5, a6, a7, a8⟩ := v
        unfold Sl.arr Sl.row at HMB
        unfold P9.arr at HEN
        simp only at HMB HEN HFM HAT r0 r1 r2 r3 r4 r5 r6 r7 r8 r9 r10
        clear hv hvm hM hrb hfb
        go_wp2_with fail
        refine (HMB.out _).mono ?_
        rintro e w5 ⟨rfl, hf5⟩
        obtain ⟨g', o', hgo, s0, s1, s2, s3, s4, s5, s6, s7, s8, s9, s10⟩ := HAT.out w5 hf5
        simp only [Option.some.injEq, Addr.mk.injEq, and_true] at hgo
        obtain ⟨rfl, rfl⟩ := hgo
        have HF5 := hid hf5
        clear hf5 HMB r0 r1 r2 r3 r4 r5 r6 r7 r8 r9 r10
        cases M
        · have HE : Hid (tabE l = 120) := hid (by unfold tabE; rw [if_neg (by rw [HL.out]; omega), if_neg (fun hall => by have h := hall _ HVM.out; rw [HM.out] at h; exact absurd h (by decide))])
          have HFF := hid (HIN.out.1.fr.trans HF5.out (by simp))
          go_wp2_with fail
          first | go_returns | skip
          exact HP1.out 120 _ HE.out (by omega) HFF.out
        · obtain ⟨hfb, hz0, hz1, hck⟩ := HFM.out (by trivial)
          rw [hck] at HEN
          have HFB := hid hfb
          have hwz : IntKind.u64.wrap z = z := by rw [IntKind.wrap_u64]; omega
          clear hfb hck HFM
          go_upto_if 32 with fail
          go_cut [7] from 15 to 61 (fun v wx => v = .int .u8 (ub u) ∧ wx = w5)
          case first =>
            cases u
            · go_wp2_with fail
              go_meet
              case rel => exact ⟨rfl, rfl⟩
            · go_wp2_with fail
              go_meet
              case rel => exact ⟨rfl, rfl⟩
          obtain ⟨rfl, hwc⟩ := hcut
          have hwr := hwc.symm
          clear hwc
          subst hwr
          have HFO : Hid (∀ W, Calls Try.prog 41 #[.int .u64 z, .int .i64 4] W fun e w' => ∃ p c ok, e = .returned (.tuple #[.slice p 4 c, .bool ok]) ∧ Own w' 5 (.slice p 4 c) (le z 4) ∧ (ok = true ↔ z / 2 ^ (8 * 4) = 0) ∧ Frm [] W w' ∧ ∀ i ∈ blk p, W.heap.size ≤ i) := hid (fun W => form_any z 4 hz0 (by omega) (by omega) W)
          obtain ⟨zb, hzb⟩ : ∃ y, le z 4 = y := ⟨_, rfl⟩
          have HZL : Hid (zb.length = 4) := hid (by rw [← hzb, le_length])
          rw [hzb] at HFO HFB
          clear hzb
          go_wp2_with fail
          refine (HFO.out _).mono ?_
          rintro e w6 ⟨pz, cz, okz, rfl, hoz, _, hf6, hpz⟩
          have HF6 := hid (HF5.out.trans hf6 (by simp))
          have HOZ := hid hoz
          obtain ⟨g', o', hgo, q0, q1, q2, q3, q4, q5, q6, q7, q8, q9, q10⟩ := HAT.out w6 HF6.out
          simp only [Option.some.injEq, Addr.mk.injEq, and_true] at hgo
          obtain ⟨rfl, rfl⟩ := hgo
          have HPZ : Hid (∀ i ∈ blk pz, wr.heap.size ≤ i) := hid (fun i hi => by have := hpz i hi; have := HF5.out.size; omega)
          clear hoz hf6 HFO hpz s0 s1 s2 s3 s4 s5 s6 s7 s8 s9 s10
          go_wp2_with fail
          refine (HEN.out _).mono ?_
          intro e w7 hea
          rcases hea with ⟨hne, _⟩ | ⟨_, qe, ne, ce, rfl, hne, hoe, hf7, hge⟩
          · exact absurd rfl hne
          have hn64 : ne = 64 := by rw [hne, HRB.out]
          subst hn64
          have HF7 := hid (HF6.out.trans hf7 (by simp))
          have HOE := hid hoe
          have HOZ7 := hid (HOZ.out.kept hf7 (by simp))
          have HA := hid ((Frm.refl [] w7).alloc (.cells #[.int .u8 (ub u), .int .u8 0, .int .u8 0, .int .u8 0] 5))
          have HRV : Hid (Rd (w7.alloc (.cells #[.int .u8 (ub u), .int .u8 0, .int .u8 0, .int .u8 0] 5)) (some ⟨w7.heap.size, 0, none⟩) [ub u, 0, 0, 0]) := hid (rd_blockT (heap_alloc_new w7 (.cells (bv [ub u, 0, 0, 0]).toArray 5)))
          have HAP := hid (HIN.out.1.k0 (HF7.out.trans HA.out (by simp)))
          have HQL := hid (ownsRow_low (show wr.ownsRow 0 5 1 (.slice q (t * 72) cq) (t * 72) (bv (tabB (l.take t))) from by have h := HIN.out.1.ow; have h2 := HIN.out.1.ln; unfold Own at h; rw [h2] at h; exact h))
          have HNQ : Hid (∀ i ∈ blk pz, i ∉ blk q) := hid (fun i hi hq => by have := HPZ.out i hi; have := HQL.out i hq; omega)
          have HNE : Hid (∀ i ∈ blk qe, i ∉ blk q) := hid (fun i hi hq => by have := hge i hi; have := HQL.out i hq; have := HF6.out.size; omega)
          have HLZ : Hid (∀ i ∈ blk pz, i < w7.heap.size) := hid (ownsRow_low (show w7.ownsRow 0 5 1 (.slice pz 4 cz) 4 (bv zb) from by have h := HOZ7.out; unfold Own at h; rw [HZL.out] at h; exact h))
          have HLE : Hid (∀ i ∈ blk qe, i < w7.heap.size) := hid (ownsRow_low (show w7.ownsRow 0 5 1 (.slice qe 64 ce) 64 (bv rb) from by have h := HOE.out; unfold Own at h; rw [HRB.out] at h; exact h))
          clear hoe hf7 hne hge HEN HOZ q0 q1 q2 q3 q4 q5 q6 q7 q8 q9 q10
          go_wp2_with (at_builtin; refine wpList_appB rfl _ _ 22 rfl 5 Try.underlying22 infoU8 q (t * 72) cq (tabB (l.take t)) rfl HAP.out.ln.symm (by rw [HAP.out.ln]; exact HAP.out.ow) (some ⟨w7.heap.size, 0, none⟩) 4 4 [ub u, 0, 0, 0] rfl rfl (fun _ h => by cases h) HRV.out (by rw [HAP.out.ln]; show _ + 4 ≤ _; omega) ?_)
          intro x1 p1 c1 v1 hx1 ho1 hf1 hb1
          have hl1 : x1.length = t * 72 + 4 := by rw [hx1.out, List.length_append, HAP.out.ln]; rfl
          have HP_1 := hid (HAP.out.put hx1.out ho1.out hf1.out (fun k hk => (hb1.out k hk).imp (fun h => h) (fun h => by first | exact h | (simp at h ⊢; omega))) hl1)
          have HZ1 : Hid (Rd v1 pz zb) := hid ((HOZ7.out.rd.kept HA.out (by simp)).kept hf1.out HNQ.out)
          have HE1 : Hid (Rd v1 qe rb) := hid ((HOE.out.rd.kept HA.out (by simp)).kept hf1.out HNE.out)
          have HN1 : Hid ((∀ i ∈ blk pz, i ∉ blk p1) ∧ ∀ i ∈ blk qe, i ∉ blk p1) := hid ⟨fun i hi hm => (hb1.out i hm).elim (HNQ.out i hi) (fun h => by have := HLZ.out i hi; first | omega | (simp at h; omega)), fun i hi hm => (hb1.out i hm).elim (HNE.out i hi) (fun h => by have := HLE.out i hi; first | omega | (simp at h; omega))⟩
          have HSZ1 : Hid (w7.heap.size ≤ v1.heap.size) := hid (by have := HA.out.size; have := hf1.out.size; omega)
          obtain ⟨Z1, hZ1⟩ : ∃ z, tabB (l.take t) ++ [ub u, 0, 0, 0] = z := ⟨_, rfl⟩
          rw [hZ1] at HP_1
          have HZZ1 := hid hZ1
          rw [hl1]
          clear hZ1 hx1 ho1 hf1 hb1 hl1 HAP HRV HA HNQ HNE HOZ7 HOE
          go_wp2_with (at_builtin; refine wpList_appB rfl _ _ 22 rfl 5 Try.underlying22 infoU8 p1 (t * 72 + 4) c1 Z1 rfl HP_1.out.ln.symm (by rw [HP_1.out.ln]; exact HP_1.out.ow) pz 4 cz zb rfl HZL.out.symm (fun h0 _ => by have := HZL.out; rw [h0] at this; simp at this) HZ1.out (by rw [HP_1.out.ln, HZL.out]; omega) ?_)
          intro x2 p2 c2 v2 hx2 ho2 hf2 hb2
          have hl2 : x2.length = t * 72 + 8 := by rw [hx2.out, List.length_append, HP_1.out.ln, HZL.out]
          have HP_2 := hid (HP_1.out.put hx2.out ho2.out hf2.out (fun k hk => (hb2.out k hk).imp (fun h => h) (fun h => by first | exact h | (simp at h ⊢; omega))) hl2)
          have HE2 : Hid (Rd v2 qe rb) := hid (HE1.out.kept hf2.out HN1.out.2)
          obtain ⟨Z2, hZ2⟩ : ∃ z, Z1 ++ zb = z := ⟨_, rfl⟩
          rw [hZ2] at HP_2
          have HZZ2 := hid hZ2
          rw [hl2]
          clear hZ2 hx2 ho2 hf2 hb2 hl2 HP_1 HZ1 HE1 HN1
          go_wp2_with (at_builtin; refine wpList_appB rfl _ _ 22 rfl 5 Try.underlying22 infoU8 p2 (t * 72 + 8) c2 Z2 rfl HP_2.out.ln.symm (by rw [HP_2.out.ln]; exact HP_2.out.ow) qe 64 ce rb rfl HRB.out.symm (fun h0 _ => by have := HRB.out; rw [h0] at this; simp at this) HE2.out (by rw [HP_2.out.ln, HRB.out]; omega) ?_)
          intro x3 p3 c3 v3 hx3 ho3 hf3 hb3
          have hl3 : x3.length = (t + 1) * 72 := by rw [hx3.out, List.length_append, HP_2.out.ln, HRB.out]; omega
          have HNX : Hid (AppT w v3 p3 ((t + 1) * 72) c3 (tabB (l.take (t + 1))) ∧ ∀ s ∈ l.take (t + 1), mayS s = true) := hid (by
            refine ⟨?_, fun y hy => ?_⟩
            · have h := HP_2.out.put hx3.out ho3.out hf3.out (fun k hk => (hb3.out k hk).imp (fun h => h) (fun h => by first | exact h | (simp at h ⊢; omega))) hl3
              rw [HLT.out, HFB.out]
              rw [← HZZ2.out, ← HZZ1.out] at h
              simpa only [List.append_assoc] using h
            · rw [HTK.out] at hy
              rcases List.mem_append.1 hy with hy | hy
              · exact HIN.out.2 y hy
              · rw [List.mem_singleton] at hy; subst hy; exact HM.out)
          rw [hl3]
          clear hx3 ho3 hf3 hb3 hl3 HP_2 HE2
          go_wp2_with fail
          go_roundw
          case rel => exact ⟨t + 1, p3, c3, by omega, by go_num, rfl, HNX⟩
          case measure => first | (simp [intOf]; done) | (simp [intOf]; omega)
      · obtain rfl : t = L := by omega
        have htk : l.take t = l := List.take_of_length_le (by rw [HL.out]; exact Nat.le_refl _)
        have HE : Hid (tabE l = 0) := hid (by unfold tabE; rw [if_neg (by rw [HL.out]; exact hbig), if_pos (fun y hy => HIN.out.2 y (by rw [htk]; exact hy))])
        have HA : Hid (AppT w wr q (t * 72) cq (tabB l)) := hid (by have h := HIN.out.1; rw [htk] at h; exact h)
        have HM : Hid (t * 72 = l.length * 72) := hid (by rw [HL.out])
        clear htk HIN
        go_wp2_with fail
        first | go_returns | skip
        exact HP2.out q (t * 72) cq wr HE.out HM.out HA.out.ow HA.out.nw HA.out.fr
end
section
open Go.RowKit
set_option maxRecDepth 100000

/-- n bytes that may be read and written at p. -/
def Mem (w : World) (p : Option Addr) (n : Nat) : Prop := n = 0 ∨ ∃ g cur, p = some ⟨g, 0, none⟩ ∧ w.heap[g]? = some (.cells cur 5 (0, 0)) ∧ ∀ i, i < n → ∃ z, cur[i]? = some (.int .u8 z)
theorem Own.mem {w : World} {p : Option Addr} {n c : Nat} {zs : List Int} (h : Own w 5 (.slice p n c) zs) : Mem w p zs.length := by
  rcases h.2 with ⟨_, h0⟩ | ⟨g, c', cur, he, _, hg, hc, _, hs, ht⟩
  · exact Or.inl h0
  · simp at he
    obtain ⟨rfl, _, _⟩ := he
    refine Or.inr ⟨g, cur, rfl, hg, fun i hi => ⟨zs.getD i 0, ?_⟩⟩
    have := congrArg (fun l => l[i]?) ht
    simp only [List.getElem?_take, bv_get hi] at this
    rw [if_pos (by omega)] at this
    simpa using this
theorem Mem.kept {S : List Nat} {w w' : World} {p : Option Addr} {n : Nat} (h : Mem w p n) (hf : Frm S w w') (hn : ∀ k ∈ blk p, k ∉ S) : Mem w' p n := by
  rcases h with h | ⟨g, cur, rfl, hg, hc⟩
  · exact Or.inl h
  · exact Or.inr ⟨g, cur, rfl, hf.heap hg (hn g (by simp [blk])), hc⟩
theorem Mem.keeps {A : List Nat} {w w' : World} {p : Option Addr} {n : Nat} (h : Mem w p n) (hf : Keeps A w w') (hn : ∀ k ∈ blk p, k ∈ A) : Mem w' p n := by
  rcases h with h | ⟨g, cur, rfl, hg, hc⟩
  · exact Or.inl h
  · exact Or.inr ⟨g, cur, rfl, (hf g (hn g (by simp [blk]))).trans hg, hc⟩
theorem Mem.at {w : World} {p : Option Addr} {n i : Nat} (h : Mem w p n) (hi : i < n) : ∃ g z, p = some ⟨g, 0, none⟩ ∧ g < w.heap.size ∧ w.cell? ⟨g, i, none⟩ = some (.int .u8 z) ∧ w.frozen? ⟨g, i, none⟩ = false ∧ ∀ z', Mem (w.setCell ⟨g, i, none⟩ (.int .u8 z')) p n := by
  rcases h with h | ⟨g, cur, rfl, hg, hc⟩
  · omega
  · obtain ⟨z, hz⟩ := hc i hi
    refine ⟨g, z, rfl, lt_of_heap hg, (cell_of_row w g i cur _ (0, 0) hg).trans hz, frozen_of_row w g i _ _ hg, fun z' => Or.inr ⟨g, _, rfl, heap_setCell_same w g i _ _ _ hg, fun j hj => ?_⟩⟩
    obtain ⟨y, hy⟩ := hc j hj
    by_cases hij : i = j
    · subst hij
      have := (Array.getElem?_eq_some_iff.1 hy).1
      exact ⟨z', by simp [this]⟩
    · exact ⟨y, by rw [Array.getElem?_setIfInBounds_ne hij]; exact hy⟩
theorem Rd.low {w : World} {p : Option Addr} {zs : List Int} (h : Rd w p zs) (hne : zs ≠ []) : ∀ k ∈ blk p, k < w.heap.size := by
  rcases h with h | ⟨g, o, rfl, hc⟩
  · exact absurd h hne
  · intro k hk
    simp [blk] at hk
    subst hk
    exact World.block_lt_of_cell? w _ (hc 0 (by cases zs with | nil => exact absurd rfl hne | cons _ _ => simp))
theorem Own.low {w : World} {E : TypeId} {p : Option Addr} {n c : Nat} {zs : List Int} (h : Own w E (.slice p n c) zs) : ∀ k ∈ blk p, k < w.heap.size := by
  obtain ⟨p', c', he, _, _, hh, _⟩ := h.shape
  simp only [Value.slice.injEq] at he
  obtain ⟨rfl, _, rfl⟩ := he
  intro k hk
  cases p with
  | none => simp [blk] at hk
  | some a => simp [blk] at hk; subst hk; exact (hh a rfl).2.2
theorem Keeps.cell {A : List Nat} {w w' : World} (h : Keeps A w w') {p : Addr} (hp : p.block ∈ A) : w'.cell? p = w.cell? p := World.cell?_of_block (h _ hp)
end
section
open Go.RowKit
set_option maxRecDepth 100000

theorem bool_eq {a c : Bool} (h : a = c) : Ending.returned (.bool a) = Ending.returned (.bool c) := by rw [h]
theorem tx_bd (s : ByteArray) : ∀ z ∈ tx s, 0 ≤ z ∧ z < 256 := by
  intro z hz; simp [tx] at hz; obtain ⟨u, _, rfl⟩ := hz; have := u.toNat_lt; omega
/-- The three readings, one behind the other, and the last error. -/
def cutEnd (l : List Int) (j m t : Nat) : Int :=
  let a := readS (0 : Int) 0 0 (numT (l.drop 0) j)
  let b := readS ([] : List Int) a.2.1 a.2.2 (bytesT (l.drop a.2.1) m)
  let c := readS ([] : List Int) b.2.1 b.2.2 (textT (l.drop b.2.1) t)
  doneS l.length c.2.1 c.2.2
theorem readS_err {α : Type} (z : α) (pos : Nat) (err : Int) (r : α × Nat × Int) (h : err ≠ 0) : readS z pos err r = (z, pos, err) := by
  unfold readS; rw [if_pos h]
theorem cut_pure (n : Int) (j t cut : Nat) (bs ts : List Int) (hj1 : 1 ≤ j) (hj8 : j ≤ 8) (ht : ts.length = t) (ht2 : t < 65536) (hc : cut < j + bs.length + 2 + t) :
    cutEnd ((le n j ++ bs ++ (le t 2 ++ ts)).take cut) j bs.length t = 10 := by
  obtain ⟨l, hl⟩ : ∃ l, (le n j ++ bs ++ (le t 2 ++ ts)).take cut = l := ⟨_, rfl⟩
  have hlen : l.length = cut := by rw [← hl]; simp [le_length]; omega
  have hk : ¬ ((j : Int) < 1 ∨ 8 < (j : Int)) := by omega
  have h10 : ((10 : Int) = 0) = False := by decide
  have h10' : (10 : Int) ≠ 0 := by decide
  rw [hl]
  unfold cutEnd
  simp only [List.drop_zero]
  by_cases h1 : cut < j
  · have e1 : numT l j = (0, 0, 10) := by unfold numT; rw [if_neg hk, if_pos (by omega)]
    rw [e1, readS_ok]
    simp only [h10, if_false]
    rw [readS_err [] _ 10 _ h10', readS_err [] _ 10 _ h10']
    simp [doneS]
  · have e1 : numT l j = (leV (l.take j), j, 0) := by unfold numT; rw [if_neg hk, if_neg (by omega)]; simp
    rw [e1, readS_ok]
    simp only [if_true, Nat.zero_add]
    by_cases h2 : cut < j + bs.length
    · have e2 : bytesT (l.drop j) bs.length = ([], 0, 10) := by unfold bytesT; rw [if_neg (by omega), if_pos (by simp; omega)]
      rw [e2, readS_ok]
      simp only [h10, if_false]
      rw [readS_err [] _ 10 _ h10']
      simp [doneS]
    · have e2 : bytesT (l.drop j) bs.length = ((l.drop j).take bs.length, bs.length, 0) := by unfold bytesT; rw [if_neg (by omega), if_neg (by simp; omega)]; simp
      rw [e2, readS_ok]
      simp only [if_true]
      have e3 : (textT (l.drop (j + bs.length)) t).2.2 = 10 := by
        unfold textT
        by_cases h3 : (l.drop (j + bs.length)).length < 2
        · rw [if_pos h3]
        · rw [if_neg h3]
          have hcut : j + bs.length + 2 ≤ cut := by simp at h3; omega
          have hp : (l.drop (j + bs.length)).take 2 = le t 2 := by
            rw [← hl]
            have hx : (le n j ++ bs).length = j + bs.length := by simp [le_length]
            rw [List.drop_take, List.take_take, ← hx, List.drop_left, Nat.min_eq_left (by omega), List.take_append_of_le_length (by simp [le_length]), List.take_of_length_le (by simp [le_length])]
          rw [hp, leV_fit t 2 (by omega) (by omega), if_neg (by omega), if_pos (by simp; omega)]
      rw [readS_ok]
      simp [doneS, e3]
end
section
set_option maxRecDepth 100000
open Go.ChangeShapes Go.WideShapes Go.ChangeAt Go.RowKit Go.Deep
section
variable {H : Type} {enc : TypeId × Value → H} {W : World}
/-- One call's fields. -/
structure CallD where
  kind : Int
  n : Int
  many : Int
  p : Option Addr
  bl : Nat
  bc : Nat
  s : ByteArray
def CallAt (w : World) (g o : Nat) (d : CallD) : Prop :=
  w.cell? ⟨g, o, none⟩ = some (.int .i64 d.kind) ∧ w.cell? ⟨g, o + 1, none⟩ = some (.int .u64 d.n) ∧ w.cell? ⟨g, o + 2, none⟩ = some (.int .i64 d.many) ∧ w.cell? ⟨g, o + 3, none⟩ = some (.slice d.p d.bl d.bc) ∧ w.cell? ⟨g, o + 4, none⟩ = some (.string d.s)
def CallOk (w : World) (d : CallD) : Prop :=
  (-9223372036854775808 ≤ d.kind ∧ d.kind ≤ 9223372036854775807) ∧ (0 ≤ d.n ∧ d.n < 18446744073709551616) ∧ (-9223372036854775808 ≤ d.many ∧ d.many ≤ 9223372036854775807) ∧ Came w d.p d.bl d.bc ∧ d.s.size ≤ maxLen
theorem cellsU : Try.prog.cellsOf 36 = 1 := by kernel_rfl
/-- A list of calls that came in. -/
def CameL (w : World) (p : Option Addr) (len cap : Nat) : Prop :=
  len ≤ cap ∧ cap ≤ 9223372036854775807 ∧ ((len = 0 ∧ (p = none → cap = 0)) ∨ ∃ g o, p = some ⟨g, o, none⟩ ∧ ∀ i, i < len → ∃ d, CallAt w g (o + i * 5) d ∧ CallOk w d)
end
theorem CallAt.kept {w w' : World} {g o : Nat} {d : CallD} (h : CallAt w g o d) (hf : Frm [] w w') : CallAt w' g o d := by
  obtain ⟨h0, h1, h2, h3, h4⟩ := h
  have hl := World.block_lt_of_cell? w _ h0
  exact ⟨(hf.cell (p := ⟨g, o, none⟩) hl (by simp)).trans h0, (hf.cell (p := ⟨g, o + 1, none⟩) hl (by simp)).trans h1, (hf.cell (p := ⟨g, o + 2, none⟩) hl (by simp)).trans h2, (hf.cell (p := ⟨g, o + 3, none⟩) hl (by simp)).trans h3, (hf.cell (p := ⟨g, o + 4, none⟩) hl (by simp)).trans h4⟩
theorem CallOk.kept {w w' : World} {d : CallD} (h : CallOk w d) (hf : Frm [] w w') : CallOk w' d := ⟨h.1, h.2.1, h.2.2.1, h.2.2.2.1.kept hf, h.2.2.2.2⟩
theorem CameL.kept {w w' : World} {p : Option Addr} {len cap : Nat} (h : CameL w p len cap) (hf : Frm [] w w') : CameL w' p len cap := by
  refine ⟨h.1, h.2.1, ?_⟩
  rcases h.2.2 with h' | ⟨g, o, rfl, h'⟩
  · exact Or.inl h'
  · refine Or.inr ⟨g, o, rfl, fun i hi => ?_⟩
    obtain ⟨d, h1, h2⟩ := h' i hi
    exact ⟨d, h1.kept hf, h2.kept hf⟩
end
section
open Go.RowKit
set_option maxRecDepth 100000

theorem conv_any {P : Program} {w : World} (src e dst : TypeId) (hs : P.underlying src = some (.slice e)) (he : P.underlying e = some (.int .u8)) (hd : P.underlying dst = some .string) {p : Option Addr} {n : Nat} {zs : List Int} (hrd : Rd w p zs) (cap : Nat) (hn : zs.length = n) :
    Sem.run P (convert src dst (.slice p n cap)) w = .ok (.string (strOfNums zs)) w := by
  rcases hrd with rfl | ⟨g, o, rfl, hc⟩
  · simp at hn
    subst hn
    cases p with
    | none => exact run_convert_bytes_nil (P := P) (w := w) src e hs he 0 cap dst hd
    | some a =>
      rw [run_convert_bytes_string w src dst e _ _ _ hs he hd, run_bytesToString w a 0 cap [] (by simp [loadCells, loadCellsFrom])]
      rfl
  · exact conv_rd src e dst hs he hd (Or.inr ⟨g, o, rfl, hc⟩) cap hn
theorem FreshW.other {w0 w w' : World} {b : Nat} {room : Int} {s : List Int × Int} {A S : List Nat} (h : FreshW w0 w b room s A) (hf : Frm S w w') (hS : ∀ k ∈ S, k ∈ A ∧ w0.heap.size ≤ k) : FreshW w0 w' b room s A := by
  obtain ⟨fp, h1, h2, h3, h4⟩ := h
  refine ⟨fp, h1.kept hf (fun k hk hs => (h4 k (hS k hs).1).1 hk), h2.trans hf (fun i hi hlt => absurd (hS i hi).2 (Nat.not_le.2 hlt)), h3, fun k hk => ⟨(h4 k hk).1, Nat.lt_of_lt_of_le (h4 k hk).2 hf.size⟩⟩
theorem IsR.keeps {w w' : World} {b g pos : Nat} {err : Int} {bs : List Int} (h : IsR w b g bs pos err) (hk : Keeps [b, g] w w') : IsR w' b g bs pos err :=
  ⟨(hk b (by simp)).trans h.1, (hk g (by simp)).trans h.2.1, h.2.2⟩
/-- What holds at each round's head: the reader stands at pos, the writer has just the bytes up to there. -/
def OneInv (w0 : World) (rb rg wb : Nat) (bs : List Int) (pos : Nat) (w : World) : Prop :=
  ∃ err, FreshR w0 w rb rg bs pos err ∧ FreshW w0 w wb bs.length (bs.take pos, 0) [rb, rg]
theorem OneInv.frm {w0 w : World} {rb rg wb pos : Nat} {bs : List Int} (h : OneInv w0 rb rg wb bs pos w) : Frm [] w0 w := by obtain ⟨_, h, _⟩ := h; exact h.2.1
theorem OneInv.same {w0 w w' : World} {rb rg wb pos : Nat} {bs : List Int} (h : OneInv w0 rb rg wb bs pos w) (hf : Frm [] w w') : OneInv w0 rb rg wb bs pos w' := by
  obtain ⟨err, h1, h2⟩ := h
  exact ⟨err, ⟨h1.1.kept hf (by simp) (by simp), h1.2.1.trans hf (by simp), h1.2.2⟩, h2.other hf (by simp)⟩
/-- Behind a reading call. -/
theorem OneInv.read {w0 w w' : World} {rb rg wb pos pos' : Nat} {err err' : Int} {bs : List Int} (h1 : FreshR w0 w rb rg bs pos err) (h2 : FreshW w0 w wb bs.length (bs.take pos, 0) [rb, rg]) (hr : IsR w' rb rg bs pos' err') (hf : Frm [rb] w w') :
    FreshR w0 w' rb rg bs pos' err' ∧ FreshW w0 w' wb bs.length (bs.take pos, 0) [rb, rg] :=
  ⟨h1.next hr hf, h2.other hf (by intro k hk; simp at hk; subst hk; exact ⟨by simp, h1.2.2.1⟩)⟩
/-- Behind a writing call. -/
theorem OneInv.write {w0 w w' : World} {rb rg wb pos pos' : Nat} {err : Int} {bs : List Int} {s : List Int × Int} (h1 : FreshR w0 w rb rg bs pos' err) (h2 : FreshW w0 w' wb bs.length s [rb, rg]) (hk : Keeps [rb, rg] w w') (hs : s = (bs.take pos, 0)) (hp : pos = pos') : OneInv w0 rb rg wb bs pos' w' := by
  subst hs; subst hp
  exact ⟨err, ⟨h1.1.keeps hk, h2.frm, h1.2.2⟩, h2⟩
theorem le_leV (zs : List Int) (h : ∀ z ∈ zs, 0 ≤ z ∧ z < 256) : le (leV zs) zs.length = zs := by
  induction zs with
  | nil => rfl
  | cons z zs ih =>
    have hz := h z (by simp)
    have ih := ih (fun y hy => h y (by simp [hy]))
    have hb := leV_bd zs (fun y hy => h y (by simp [hy]))
    rw [leV, List.length_cons, le, List.range_succ_eq_map, List.map_cons, List.map_map]
    congr 1
    · simp; omega
    · conv => rhs; rw [← ih]
      unfold le
      apply List.map_congr_left
      intro i _
      have e : (2 : Int) ^ (8 * (i + 1)) = 256 * 2 ^ (8 * i) := by rw [Nat.mul_add, Int.pow_add, Int.mul_comm]; rfl
      simp only [Function.comp, Nat.succ_eq_add_one]
      rw [e, ← Int.ediv_ediv_of_nonneg (by decide)]
      congr 2
      omega
theorem readS_ge {α : Type} (z : α) (pos : Nat) (err : Int) (r : α × Nat × Int) : pos ≤ (readS z pos err r).2.1 := by
  unfold readS
  split
  · simp
  · split
    · simp
    · simp
/-- Where nothing was taken nothing is laid down. -/
theorem OneInv.stay {w0 w : World} {rb rg wb pos pos' : Nat} {err : Int} {bs : List Int} (h1 : FreshR w0 w rb rg bs pos' err) (h2 : FreshW w0 w wb bs.length (bs.take pos, 0) [rb, rg]) (hge : pos ≤ pos') (hn : ¬ pos < pos') : OneInv w0 rb rg wb bs pos' w := by
  obtain rfl : pos = pos' := by omega
  exact ⟨err, h1, h2⟩
/-- What a number's reading took is laid down as it was. -/
theorem one_num {bs : List Int} (hb : ∀ z ∈ bs, 0 ≤ z ∧ z < 256) {pos : Nat} (hp : pos ≤ bs.length) {err k : Int} (hlt : pos < (readS 0 pos err (numT (bs.drop pos) k)).2.1) :
    stepW bs.length (bs.take pos, 0) (numF (readS 0 pos err (numT (bs.drop pos) k)).1 k) = (bs.take (readS 0 pos err (numT (bs.drop pos) k)).2.1, 0) ∧ 0 ≤ (readS 0 pos err (numT (bs.drop pos) k)).1 ∧ (readS 0 pos err (numT (bs.drop pos) k)).1 < 18446744073709551616 := by
  by_cases he : err = 0
  · subst he
    rw [readS_ok] at hlt ⊢
    by_cases hk : k < 1 ∨ 8 < k
    · have e : numT (bs.drop pos) k = (0, 0, 1) := by unfold numT; rw [if_pos hk]
      rw [e] at hlt; simp at hlt
    · by_cases h2 : ((bs.drop pos).length : Int) < k
      · have e : numT (bs.drop pos) k = (0, 0, 10) := by unfold numT; rw [if_neg hk, if_pos h2]
        rw [e] at hlt; simp at hlt
      · have e : numT (bs.drop pos) k = (leV ((bs.drop pos).take k.toNat), k.toNat, 0) := by unfold numT; rw [if_neg hk, if_neg h2]
        rw [e]
        simp only [if_true]
        obtain ⟨j, rfl⟩ : ∃ j : Nat, k = (j : Int) := ⟨k.toNat, by omega⟩
        simp only [Int.toNat_natCast]
        simp only [List.length_drop] at h2
        have hlen : ((bs.drop pos).take j).length = j := by simp; omega
        have hbd := leV_bd ((bs.drop pos).take j) (fun z hz => hb z (List.mem_of_mem_drop (List.mem_of_mem_take hz)))
        have hle := le_leV ((bs.drop pos).take j) (fun z hz => hb z (List.mem_of_mem_drop (List.mem_of_mem_take hz)))
        rw [hlen] at hbd hle
        have hdiv : leV ((bs.drop pos).take j) / 2 ^ (8 * j) = 0 := Int.ediv_eq_zero_of_lt hbd.1 hbd.2
        have hn : numF (leV ((bs.drop pos).take j)) j = ((bs.drop pos).take j, 0) := by
          unfold numF
          rw [if_neg hk, if_neg (by rw [Int.toNat_natCast]; intro h; exact h.2 hdiv), Int.toNat_natCast, hle]
        refine ⟨?_, hbd.1, ?_⟩
        · rw [hn]
          unfold stepW
          simp only [ne_eq, not_true, if_false]
          rw [if_neg (by rw [hlen, List.length_take]; omega), List.take_add]
        · have : (2 : Int) ^ (8 * j) ≤ 2 ^ 64 := by
            have := Nat.pow_le_pow_right (n := 2) (by decide) (show 8 * j ≤ 64 by omega)
            exact_mod_cast this
          have := hbd.2
          omega
  · rw [readS_err _ _ _ _ he] at hlt; simp at hlt
/-- What Bytes' reading took is laid down as it was. -/
theorem one_bytes {bs : List Int} {pos : Nat} (hp : pos ≤ bs.length) {err k : Int} :
    stepW bs.length (bs.take pos, 0) ((readS [] pos err (bytesT (bs.drop pos) k)).1, 0) = (bs.take (readS [] pos err (bytesT (bs.drop pos) k)).2.1, 0) := by
  by_cases he : err = 0
  · subst he
    rw [readS_ok]
    by_cases hk : k < 0
    · have e : bytesT (bs.drop pos) k = ([], 0, 1) := by unfold bytesT; rw [if_pos hk]
      rw [e]; simp [stepW]; omega
    · by_cases h2 : ((bs.drop pos).length : Int) < k
      · have e : bytesT (bs.drop pos) k = ([], 0, 10) := by unfold bytesT; rw [if_neg hk, if_pos h2]
        rw [e]; simp [stepW]; omega
      · have e : bytesT (bs.drop pos) k = ((bs.drop pos).take k.toNat, k.toNat, 0) := by unfold bytesT; rw [if_neg hk, if_neg h2]
        rw [e]
        simp only [List.length_drop] at h2
        unfold stepW
        simp only [ne_eq, not_true, if_false, if_true]
        rw [if_neg (by rw [List.length_take, List.length_take, List.length_drop]; omega), List.take_add]
  · rw [readS_err _ _ _ _ he]; simp [stepW]; omega
theorem tx_str (zs : List Int) (h : ∀ z ∈ zs, 0 ≤ z ∧ z < 256) : tx (strOfNums zs) = zs := by
  unfold tx
  rw [strOfNums_data, List.map_map]
  conv => rhs; rw [← List.map_id zs]
  apply List.map_congr_left
  intro z hz
  have := h z hz
  simp [Function.comp]
  omega
/-- What a text's reading took is laid down as it was. -/
theorem one_text {bs : List Int} (hb : ∀ z ∈ bs, 0 ≤ z ∧ z < 256) {pos : Nat} (hp : pos ≤ bs.length) {err k : Int} (hlt : pos < (readS [] pos err (textT (bs.drop pos) k)).2.1) :
    stepW bs.length (bs.take pos, 0) (textF (strOfNums (readS [] pos err (textT (bs.drop pos) k)).1)) = (bs.take (readS [] pos err (textT (bs.drop pos) k)).2.1, 0) := by
  by_cases he : err = 0
  · subst he
    rw [readS_ok] at hlt ⊢
    obtain ⟨ls, hls⟩ : ∃ ls, bs.drop pos = ls := ⟨_, rfl⟩
    have hlb : ∀ z ∈ ls, 0 ≤ z ∧ z < 256 := fun z hz => hb z (List.mem_of_mem_drop (by rw [hls]; exact hz))
    have hll : ls.length = bs.length - pos := by rw [← hls, List.length_drop]
    rw [hls] at hlt ⊢
    by_cases h1 : ls.length < 2
    · have e : textT ls k = ([], 0, 10) := by unfold textT; rw [if_pos h1]
      rw [e] at hlt; simp at hlt
    · by_cases h2 : k < leV (ls.take 2)
      · have e : textT ls k = ([], 0, 11) := by unfold textT; rw [if_neg h1, if_pos h2]
        rw [e] at hlt; simp at hlt
      · by_cases h3 : ls.length < 2 + (leV (ls.take 2)).toNat
        · have e : textT ls k = ([], 0, 10) := by unfold textT; rw [if_neg h1, if_neg h2, if_pos h3]
          rw [e] at hlt; simp at hlt
        · have e : textT ls k = ((ls.drop 2).take (leV (ls.take 2)).toNat, 2 + (leV (ls.take 2)).toNat, 0) := by unfold textT; rw [if_neg h1, if_neg h2, if_neg h3]
          rw [e]
          simp only [if_true]
          have hlen2 : (ls.take 2).length = 2 := by simp; omega
          have hbd := leV_bd (ls.take 2) (fun z hz => hlb z (List.mem_of_mem_take hz))
          have hle := le_leV (ls.take 2) (fun z hz => hlb z (List.mem_of_mem_take hz))
          rw [hlen2] at hbd hle
          obtain ⟨n, hn⟩ := Int.eq_ofNat_of_zero_le hbd.1
          rw [hn] at hbd hle h3 ⊢
          rw [Int.toNat_natCast] at h3 ⊢
          have hn2 : n < 65536 := by have := hbd.2; simp at this; omega
          have hlt2 : ((ls.drop 2).take n).length = n := by simp; omega
          have hsz : (strOfNums ((ls.drop 2).take n)).size = n := by rw [strOfNums_size, hlt2]
          have ht : textF (strOfNums ((ls.drop 2).take n)) = (ls.take (2 + n), 0) := by
            unfold textF
            rw [hsz, if_neg (by omega), hle, tx_str _ (fun z hz => hlb z (List.mem_of_mem_drop (List.mem_of_mem_take hz))), ← List.take_add]
          rw [ht]
          unfold stepW
          simp only [ne_eq, not_true, if_false]
          have e5 : bs.take (pos + (2 + n)) = bs.take pos ++ ls.take (2 + n) := by rw [List.take_add, hls]
          rw [if_neg (by rw [List.length_take, List.length_take]; omega), e5]
  · rw [readS_err _ _ _ _ he] at hlt; simp at hlt
theorem text_size {bs : List Int} {pos : Nat} (_hp : pos ≤ bs.length) (err k : Int) (hl : bs.length ≤ 2147483647) : (strOfNums (readS [] pos err (textT (bs.drop pos) k)).1).size ≤ maxLen := by
  rw [strOfNums_size]
  have h : (textT (bs.drop pos) k).1.length ≤ bs.length := by
    unfold textT
    split
    · simp
    · split
      · simp
      · split
        · simp
        · simp; omega
  unfold readS maxLen
  split
  · simp
  · split
    · simp only; omega
    · simp only; omega
/-- What noughts' reading took is laid down as it was. -/
theorem one_pad {bs : List Int} {pos : Nat} (hp : pos ≤ bs.length) {err k : Int} (hlt : pos < (readS () pos err (padT (bs.drop pos) pos k)).2.1) :
    stepW bs.length (bs.take pos, 0) (padF bs.length (bs.take pos).length k) = (bs.take (readS () pos err (padT (bs.drop pos) pos k)).2.1, 0) := by
  by_cases he : err = 0
  · subst he
    rw [readS_ok] at hlt ⊢
    obtain ⟨ls, hls⟩ : ∃ ls, bs.drop pos = ls := ⟨_, rfl⟩
    have hll : ls.length = bs.length - pos := by rw [← hls, List.length_drop]
    rw [hls] at hlt ⊢
    by_cases h1 : k < pos
    · have e : padT ls pos k = ((), 0, 11) := by unfold padT; rw [if_pos h1]
      rw [e] at hlt; simp at hlt
    · by_cases h2 : ((pos + ls.length : Nat) : Int) < k
      · have e : padT ls pos k = ((), 0, 10) := by unfold padT; rw [if_neg h1, if_pos h2]
        rw [e] at hlt; simp at hlt
      · by_cases h3 : ((ls.take (k - pos).toNat).all (· == 0)) = false
        · have e : padT ls pos k = ((), 0, 14) := by unfold padT; rw [if_neg h1, if_neg h2, if_pos h3]
          rw [e] at hlt; simp at hlt
        · have e : padT ls pos k = ((), (k - pos).toNat, 0) := by unfold padT; rw [if_neg h1, if_neg h2, if_neg h3]
          rw [e]
          simp only [if_true]
          have hz : ls.take (k - pos).toNat = List.replicate (k - pos).toNat 0 := by
            apply List.ext_getElem
            · simp; omega
            · intro i h4 h5
              have hall : ((ls.take (k - pos).toNat).all (· == 0)) = true := by simpa using h3
              rw [List.all_eq_true] at hall
              have := hall _ (List.getElem_mem h4)
              simpa using this
          have hlen : (bs.take pos).length = pos := by simp; omega
          have hpf : padF bs.length pos k = (List.replicate (k - pos).toNat 0, 0) := by unfold padF; rw [if_neg h1, if_neg (by omega)]
          rw [hlen, hpf]
          unfold stepW
          simp only [ne_eq, not_true, if_false]
          rw [if_neg (by rw [List.length_replicate, hlen]; omega), List.take_add, hls, hz]
  · rw [readS_err _ _ _ _ he] at hlt; simp at hlt
end
end Go.Proofs.Ytkolbijhekbelaa
