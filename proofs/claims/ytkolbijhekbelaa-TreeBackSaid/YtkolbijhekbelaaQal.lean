/- tree.Since. The document's Since. -/
import Derived.Test.YtkolbijhekbelaaQak
import Derived.Deep.CutBlock
import Derived.Deep.DeepCutAuto
namespace Go.Proofs.Ytkolbijhekbelaa
section
open Go.RowKit Go.Lib
set_option maxRecDepth 100000

def manyI (size : Int) (i : Nat) : Int := if size - 1024 * i < 1024 then size - 1024 * i else 1024
/-- One more span, or the last one grown. -/
def addS (acc : List Sp) (at_ many : Int) : List Sp := match acc.getLast? with
  | some y => if y.a + y.m = at_ then acc.dropLast ++ [⟨y.a, y.m + many⟩] else acc ++ [⟨at_, many⟩]
  | none => [⟨at_, many⟩]
def sinceR (size txg : Int) : Nat → List P9 → List Sp → List Sp
  | _, [], acc => acc
  | i, p :: l, acc => if size ≤ 1024 * i then acc else if p.zero ∨ p.birth ≤ txg then sinceR size txg (i + 1) l acc else sinceR size txg (i + 1) l (addS acc (1024 * i) (manyI size i))
def sinceL (size txg : Int) (l : List P9) : List Sp := sinceR size txg 0 l []
theorem addS_last (acc : List Sp) (y : Sp) (a m : Int) : addS (acc ++ [y]) a m = if y.a + y.m = a then acc ++ [⟨y.a, y.m + m⟩] else acc ++ [y] ++ [⟨a, m⟩] := by
  unfold addS
  simp
theorem OwnS.grow {w : World} {g n c k : Nat} {acc : List Sp} {y : Sp} (h : OwnS w (some ⟨g, 0, none⟩) n c (acc ++ [y])) (hk : acc.length = k) (m : Int) : OwnS (w.setCell ⟨g, k * 2 + 1, none⟩ (.int .i64 m)) (some ⟨g, 0, none⟩) n c (acc ++ [⟨y.a, m⟩]) ∧ Frm [g] w (w.setCell ⟨g, k * 2 + 1, none⟩ (.int .i64 m)) := by
  have hf : Frm [g] w (w.setCell ⟨g, k * 2 + 1, none⟩ (.int .i64 m)) := (Frm.refl _ _).setCell _ _ (by simp)
  refine ⟨⟨?_, by have := h.2; simp only [List.length_append, List.length_singleton] at this ⊢; exact this⟩, hf⟩
  have hln : n = k + 1 := by have := h.2; simp only [List.length_append, List.length_singleton] at this; omega
  obtain ⟨h0, ⟨_, h1⟩ | ⟨g', c', cur, he, hb, hg, hnc, hm, hs, ht⟩⟩ := h.1
  · omega
  · have he' := he
    simp only [Value.slice.injEq, Option.some.injEq, Addr.mk.injEq, and_true, true_and] at he'
    obtain ⟨rfl, rfl⟩ := he'
    refine ⟨by rw [rowS_len, List.length_append, hk]; simp; omega, Or.inr ⟨g, c, _, rfl, Nat.zero_le _, heap_setCell_same w g (k * 2 + 1) cur _ (.int .i64 m) hg, hnc, hm, by simpa using hs, ?_⟩⟩
    rw [Array.toList_setIfInBounds, List.take_set, ht, rowS_app, rowS_app, List.set_append_right _ _ (by rw [rowS_len, hk]; omega), rowS_len, hk, show k * 2 + 1 - k * 2 = 1 by omega]
    rfl
theorem ownS_cur {w : World} {q : Option Addr} {n c g : Nat} {l : List Sp} (h : OwnS w q n c l) (hq : q = some ⟨g, 0, none⟩) : ∃ cur, w.heap[g]? = some (.cells cur 54 (0, 0)) := by
  subst hq
  rcases h.1.2 with ⟨he, _⟩ | ⟨g', c', cur, he, _, hg, _⟩
  · cases he
  · simp only [Value.slice.injEq, Option.some.injEq, Addr.mk.injEq, and_true, true_and] at he
    obtain ⟨rfl, _⟩ := he
    exact ⟨cur, hg⟩
theorem ownS_last {w : World} {q : Option Addr} {n c k : Nat} {acc : List Sp} {y : Sp} (h : OwnS w q n c (acc ++ [y])) (hk : acc.length = k) : ∃ g, q = some ⟨g, 0, none⟩ ∧ w.cell? ⟨g, k * 2, none⟩ = some (.int .i64 y.a) ∧ w.cell? ⟨g, k * 2 + 1, none⟩ = some (.int .i64 y.m) := by
  have hln : n = k + 1 := by have := h.2; simp only [List.length_append, List.length_singleton] at this; omega
  have hg := rowS_get (acc ++ [y]) k y (by rw [List.getElem?_append_right (by omega), hk]; simp)
  rcases h.1.2 with ⟨_, h0⟩ | ⟨g, c', cur, he, _⟩
  · omega
  · have he' := he
    simp only [Value.slice.injEq] at he'
    obtain ⟨rfl, _, _⟩ := he'
    refine ⟨g, rfl, ?_, ?_⟩
    · rw [World.ownsRow.cellAt h.1 (k * 2) (by omega)]; exact hg.1
    · rw [World.ownsRow.cellAt h.1 (k * 2 + 1) (by omega)]; exact hg.2
def SinceA (w : World) (size txg : Int) (l : List P9) (e : Ending) (w' : World) : Prop := ∃ q n c, e = .returned (.slice q n c) ∧ OwnS w' q n c (sinceL size txg l) ∧ Frm [] w w' ∧ ∀ k ∈ blk q, w.heap.size ≤ k
set_option maxHeartbeats 12800000 in
theorem since_any (size txg : Int) (p : Option Addr) (L c : Nat) (l : List P9) (w : World) (hr : Rv w p (rowsP l)) (hL : l.length = L) (hb : L ≤ 1954687338212) (hsz : -9223372036854775808 ≤ size ∧ size ≤ 9223372036854775807) :
    Calls Try.prog 25 #[.int .i64 size, .slice p L c, .int .u64 txg] w (SinceA w size txg l) := by
  obtain ⟨PO, hPO⟩ : ∃ PO : Ending → World → Prop, SinceA w size txg l = PO := ⟨_, rfl⟩
  rw [hPO]
  have HP : Hid (∀ q n c w', OwnS w' q n c (sinceL size txg l) → Frm [] w w' → (∀ k ∈ blk q, w.heap.size ≤ k) → PO (.returned (.slice q n c)) w') := hid (fun q n c w' h1 h2 h3 => by rw [← hPO]; exact ⟨q, n, c, rfl, h1, h2, h3⟩)
  have HR := hid hr
  have HL := hid hL
  obtain ⟨hs0, hs1⟩ := hsz
  have hbz : ∀ W, (Instr.build 40 #[]).run Try.prog W = .ok (.agg zero9.arr) W := fun W => run_build W _ _ _ (by kernel_rfl)
  unfold P9.arr zero9 at hbz
  simp only at hbz
  clear hr hL hPO
  go_enter Try.func25, Try.ntmps25
  go_wp2_with fail
  go_loopw [15, 7] (fun i s7 wr => ∃ (t n : Nat) (q : Option Addr) (cq : Nat) (acc : List Sp), t ≤ L ∧ n ≤ t ∧ i = .int .i64 (t : Int) ∧ s7 = .slice q n cq ∧ Hid (Frm [] w wr ∧ OwnS wr q n cq acc ∧ (∀ k ∈ blk q, w.heap.size ≤ k) ∧ sinceL size txg l = sinceR size txg t (l.drop t) acc ∧ ∀ y ∈ acc, 0 ≤ y.a ∧ 1 ≤ y.m ∧ y.a + y.m ≤ 1024 * t)) (fun i _ _ => L - (intOf i).toNat)
  case atStart => exact ⟨0, 0, none, 0, [], Nat.zero_le _, Nat.le_refl _, rfl, rfl, hid ⟨Frm.refl _ _, ⟨⟨rfl, Or.inl ⟨rfl, rfl⟩⟩, rfl⟩, by simp [blk], rfl, by simp⟩⟩
  case round =>
    obtain ⟨t, n, q, cq, acc, ht, hnt, rfl, rfl, hin⟩ := hrel
    by_cases hlt : t < L
    · have t1 : (t : Int) < (L : Int) := by omega
      obtain ⟨v, hv⟩ : ∃ v, l[t]? = some v := ⟨_, List.getElem?_eq_getElem (by rw [HL.out]; exact hlt)⟩
      have HDR : Hid (l.drop t = v :: l.drop (t + 1)) := hid (by rw [List.drop_eq_getElem_cons (List.getElem?_eq_some_iff.1 hv).1, (List.getElem?_eq_some_iff.1 hv).2])
      have hrr := HR.out
      rcases hrr with h0 | ⟨g, o, rfl, hcs⟩
      · exact absurd (rowsP_get l t v hv 0 (.int .i64 v.top) rfl) (by rw [h0]; simp)
      have hcell := fun i u hu => (hin.out.1.cell (World.block_lt_of_cell? w _ (hcs (t * 9 + i) u (rowsP_get l t v hv i u hu))) (by simp)).trans (hcs (t * 9 + i) u (rowsP_get l t v hv i u hu))
      obtain ⟨Z, hZ⟩ : ∃ z, decide (v = zero9) = z := ⟨_, rfl⟩
      have heq := fun W => eq9_eql v zero9 W
      rw [hZ] at heq
      have HZ : Hid (Z = true ↔ v.zero) := hid (by rw [← hZ, decide_eq_true_iff, P9.zero_iff])
      obtain ⟨a0, a1, a2, a3, a4, a5, a6, a7, a8⟩ := v
      unfold P9.arr zero9 at heq
      unfold P9.arr at hcell
      simp only at heq hcell
      have r0 : wr.cell? ⟨g, o + t * 9, none⟩ = some (.int .i64 a0) := by have := hcell 0 _ rfl; simpa [Nat.add_assoc] using this
      have r1 : wr.cell? ⟨g, o + t * 9 + 1, none⟩ = some (.int .i64 a1) := by have := hcell 1 _ rfl; simpa [Nat.add_assoc] using this
      have r2 : wr.cell? ⟨g, o + t * 9 + 2, none⟩ = some (.int .i64 a2) := by have := hcell 2 _ rfl; simpa [Nat.add_assoc] using this
      have r3 : wr.cell? ⟨g, o + t * 9 + 3, none⟩ = some (.int .u64 a3) := by have := hcell 3 _ rfl; simpa [Nat.add_assoc] using this
      have r4 : wr.cell? ⟨g, o + t * 9 + 4, none⟩ = some (.int .i64 a4) := by have := hcell 4 _ rfl; simpa [Nat.add_assoc] using this
      have r5 : wr.cell? ⟨g, o + t * 9 + 5, none⟩ = some (.int .u64 a5) := by have := hcell 5 _ rfl; simpa [Nat.add_assoc] using this
      have r6 : wr.cell? ⟨g, o + t * 9 + 6, none⟩ = some (.int .u64 a6) := by have := hcell 6 _ rfl; simpa [Nat.add_assoc] using this
      have r7 : wr.cell? ⟨g, o + t * 9 + 7, none⟩ = some (.int .u64 a7) := by have := hcell 7 _ rfl; simpa [Nat.add_assoc] using this
      have r8 : wr.cell? ⟨g, o + t * 9 + 8, none⟩ = some (.int .u64 a8) := by have := hcell 8 _ rfl; simpa [Nat.add_assoc] using this
      have HIN := hid hin.out
      have hmul : IntKind.i64.wrap ((t : Int) * 1024) = 1024 * (t : Int) := by rw [IntKind.wrap_i64]; omega
      have hmul2 : wrap64 ((t : Int) * 1024) = 1024 * (t : Int) := by unfold wrap64; omega
      clear hcell hv hZ hin hcs
      by_cases hend : size ≤ 1024 * (t : Int)
      · have HE : Hid (sinceL size txg l = acc) := hid (by rw [HIN.out.2.2.2.1, HDR.out]; unfold sinceR; rw [if_pos hend])
        go_wp2_with fail
        first | go_returns | skip
        exact HP.out q n cq _ (by rw [HE.out]; exact HIN.out.2.1.kept ((Frm.refl [] _).alloc _) (by simp)) (HIN.out.1.trans ((Frm.refl [] _).alloc _) (by simp)) HIN.out.2.2.1
      · have hend' : 1024 * (t : Int) < size := by omega
        obtain ⟨w6, hw6⟩ : ∃ z, wr.alloc (.cells #[.int .i64 a0, .int .i64 a1, .int .i64 a2, .int .u64 a3, .int .i64 a4, .int .u64 a5, .int .u64 a6, .int .u64 a7, .int .u64 a8] 40) = z := ⟨_, rfl⟩
        have hf6 : Frm [] wr w6 := by rw [← hw6]; exact (Frm.refl _ _).alloc _
        obtain ⟨bx, hbx⟩ : ∃ z, wr.heap.size = z := ⟨_, rfl⟩
        have hrow6 : w6.heap[bx]? = some (.cells #[.int .i64 a0, .int .i64 a1, .int .i64 a2, .int .u64 a3, .int .i64 a4, .int .u64 a5, .int .u64 a6, .int .u64 a7, .int .u64 a8] 40 (0, 0)) := by rw [← hw6]; exact heap_alloc_to _ _ hbx
        obtain ⟨y0, y1, y2, y3, y4, y5, y6, y7, y8⟩ := ptr_cells (p := ⟨a0, a1, a2, a3, a4, a5, a6, a7, a8⟩) hrow6
        simp only at y0 y1 y2 y3 y4 y5 y6 y7 y8
        have HF6 := hid hf6
        have HW6 := hid hw6
        have HBX := hid hbx
        clear hf6 hw6 hbx hrow6
        go_upto_region 5 with fail
        rw [HBX.out, HW6.out]
        clear HW6 HBX r0 r1 r2 r3 r4 r5 r6 r7 r8
        by_cases hskip : Z = true ∨ a3 ≤ txg
        · have HNS : Hid (sinceL size txg l = sinceR size txg (t + 1) (l.drop (t + 1)) acc) := hid (by
            rw [HIN.out.2.2.2.1, HDR.out]
            conv => lhs; unfold sinceR
            rw [if_neg hend, if_pos (hskip.imp (fun h => HZ.out.1 h) (fun h => h))])
          have HNX : Hid (∀ W, Frm [] w6 W → Frm [] w W ∧ OwnS W q n cq acc ∧ (∀ k ∈ blk q, w.heap.size ≤ k) ∧ sinceL size txg l = sinceR size txg (t + 1) (l.drop (t + 1)) acc ∧ ∀ y ∈ acc, 0 ≤ y.a ∧ 1 ≤ y.m ∧ y.a + y.m ≤ 1024 * ((t + 1 : Nat) : Int)) := hid (fun W hW => by
            obtain ⟨b1, b2, b3, b4, b5⟩ := HIN.out
            exact ⟨(b1.trans HF6.out (by simp)).trans hW (by simp), (b2.kept HF6.out (by simp)).kept hW (by simp), b3, HNS.out, fun y hy => by have := b5 y hy; omega⟩)
          by_cases hZt : Z = true
          · subst hZt
            clear hskip
            go_wp2_with fail
            go_roundw
            case rel => exact ⟨t + 1, n, q, cq, acc, by omega, by omega, by go_num, rfl, hid (HNX.out _ (by first | exact Frm.refl _ _ | exact (Frm.refl _ _).drewN _ | exact (Frm.refl _ _).drew))⟩
            case measure => first | (simp [intOf]; done) | (simp [intOf]; omega)
          · have hZf : Z = false := by simpa using hZt
            have hle : a3 ≤ txg := hskip.resolve_left hZt
            have hd : decide (a3 ≤ txg) = true := decide_eq_true hle
            subst hZf
            clear hskip hZt
            go_wp2_with fail
            go_roundw
            case rel => exact ⟨t + 1, n, q, cq, acc, by omega, by omega, by go_num, rfl, hid (HNX.out _ (by first | exact Frm.refl _ _ | exact (Frm.refl _ _).drewN _ | exact (Frm.refl _ _).drew))⟩
            case measure => first | (simp [intOf]; done) | (simp [intOf]; omega)
        · have hZf : Z = false := by
            cases Z
            · rfl
            · exact absurd (Or.inl rfl) hskip
          have hgt : txg < a3 := by
            rcases Int.lt_or_le txg a3 with h | h
            · exact h
            · exact absurd (Or.inr h) hskip
          have hd : decide (a3 ≤ txg) = false := decide_eq_false (by omega)
          obtain ⟨M, hM⟩ : ∃ z, manyI size t = z := ⟨_, rfl⟩
          have HMB : Hid (1 ≤ M ∧ M ≤ 1024) := hid (by rw [← hM]; unfold manyI; split <;> omega)
          have HNS : Hid (sinceL size txg l = sinceR size txg (t + 1) (l.drop (t + 1)) (addS acc (1024 * (t : Int)) M)) := hid (by
            rw [HIN.out.2.2.2.1, HDR.out, ← hM]
            conv => lhs; unfold sinceR
            rw [if_neg hend, if_neg (fun h => hskip (h.imp (fun h => HZ.out.2 h) (fun h => h)))])
          have hmin : ∀ (ts : Array TypeId) (ty : TypeId) (W : World), Sem.run Try.prog (Builtin.min_ ts ty #[.int .i64 1024, .int .i64 (size - 1024 * (t : Int))]) W = .ok (.int .i64 M) W := by
            intro ts ty W
            have h := run_min_int2 (P := Try.prog) (w := W) ts ty .i64 .i64 1024 (size - 1024 * (t : Int))
            rw [h]
            have e : (if size - 1024 * (t : Int) < 1024 then size - 1024 * (t : Int) else 1024) = M := by rw [← hM]; rfl
            rw [e]
          subst hZf
          clear hskip hM
          go_upto_region 10 with fail
          rcases List.eq_nil_or_concat acc with hacc | ⟨acc', y, hacc⟩
          · have hn0 : n = 0 := by have := HIN.out.2.1.2; rw [hacc] at this; exact this.symm
            subst hn0
            have HADD : Hid (addS acc (1024 * (t : Int)) M = acc ++ [⟨1024 * (t : Int), M⟩]) := hid (by rw [hacc]; rfl)
            have hd0 : decide ((0 : Int) < ((0 : Nat) : Int)) = false := by decide
            clear hacc
            go_quiet (fail)
            have HFW : Hid (Frm [] wr (w6.drewN nq)) := hid (HF6.out.drewN nq)
            generalize w6.drewN nq = w7 at *
            go_upto_region 12 with fail
            have HA := hid ((Frm.refl [] w7).alloc (.cells #[.int .i64 (1024 * (t : Int)), .int .i64 M] 54))
            have HRV := hid (rv_block (heap_alloc_new w7 (.cells #[.int .i64 (1024 * (t : Int)), .int .i64 M] 54)))
            have HOW := hid (ownsRow_kept HIN.out.2.1.1 (HFW.out.trans HA.out (by simp)) (by simp))
            go_wp2_with (at_builtin; refine wpList_appV rfl _ _ 50 rfl 54 2 16 _ Try.underlying50 infoSp rfl (by decide) q 0 cq _ rfl HOW.out (some ⟨w7.heap.size, 0, none⟩) 1 1 [.int .i64 (1024 * (t : Int)), .int .i64 M] rfl rfl (by simp) HRV.out (by intro u hu; simp at hu; rcases hu with rfl | rfl <;> rfl) (by unfold maxLen; omega) (by omega) ?_)
            intro q3 c3 w3 ho3 hf3 hb3
            have HNX : Hid (Frm [] w w3 ∧ OwnS w3 q3 (0 + 1) c3 (acc ++ [⟨1024 * (t : Int), M⟩]) ∧ (∀ k ∈ blk q3, w.heap.size ≤ k) ∧ sinceL size txg l = sinceR size txg (t + 1) (l.drop (t + 1)) (acc ++ [⟨1024 * (t : Int), M⟩]) ∧ ∀ y ∈ acc ++ [(⟨1024 * (t : Int), M⟩ : Sp)], 0 ≤ y.a ∧ 1 ≤ y.m ∧ y.a + y.m ≤ 1024 * ((t + 1 : Nat) : Int)) := hid (by
              obtain ⟨b1, b2, b3, b4, b5⟩ := HIN.out
              have hz := b1.size
              have hz6 := HFW.out.size
              refine ⟨((b1.trans HFW.out (by simp)).trans HA.out (by simp)).trans hf3.out (fun i hi hl => by have := b3 i hi; omega), ⟨?_, ?_⟩, fun i hi => ?_, ?_, fun y hy => ?_⟩
              · have h := ho3.out
                rw [rowS_app]
                simpa [rowS] using h
              · have := b2.2
                simp only [List.length_append, List.length_singleton] at this ⊢
                omega
              · rcases hb3.out i hi with h | h
                · exact b3 i h
                · first | omega | (simp at h; omega)
              · rw [HNS.out, HADD.out]
              · rcases List.mem_append.1 hy with hy | hy
                · have := b5 y hy; omega
                · rw [List.mem_singleton] at hy; subst hy; have := HMB.out; simp only; omega)
            clear ho3 hf3 hb3 HOW HRV HA
            go_wp2_with fail
            go_roundw
            case rel => exact ⟨t + 1, 0 + 1, q3, c3, _, by omega, by omega, by go_num, by go_num, HNX⟩
            case measure => first | (simp [intOf]; done) | (simp [intOf]; omega)
          · rw [List.concat_eq_append] at hacc
            obtain ⟨k, hkl⟩ : ∃ k, acc'.length = k := ⟨_, rfl⟩
            have hnk : n = k + 1 := by have := HIN.out.2.1.2; rw [hacc, List.length_append, hkl] at this; exact this.symm
            subst hnk
            have hyb := HIN.out.2.2.2.2 y (by rw [hacc]; simp)
            obtain ⟨hy0, hy1, hy2⟩ := hyb
            have HACC := hid hacc
            have HKL := hid hkl
            have hown := HIN.out.2.1.kept HF6.out (by simp)
            rw [hacc] at hown
            obtain ⟨gq, hgq, z0, z1⟩ := ownS_last hown hkl
            have HOWN := hid hown
            obtain ⟨curS, hcurS⟩ := ownS_cur hown hgq
            have hzf := frozen_of_row w6 gq (k * 2 + 1) _ _ hcurS
            subst hgq
            obtain ⟨ya, ym⟩ := y
            simp only at hy0 hy1 hy2 z0 z1
            have hd0 : decide ((0 : Int) < ((k + 1 : Nat) : Int)) = true := decide_eq_true (by omega)
            have hsub : wrap64 (((k + 1 : Nat) : Int) - 1) = (k : Int) := by unfold wrap64; omega
            have hsub2 : IntKind.i64.wrap (((k + 1 : Nat) : Int) - 1) = (k : Int) := by rw [IntKind.wrap_i64]; omega
            have hkb : (k : Int) < ((k + 1 : Nat) : Int) := by omega
            have hws : wrap64 (ya + ym) = ya + ym := by unfold wrap64; omega
            have hws2 : IntKind.i64.wrap (ya + ym) = ya + ym := by rw [IntKind.wrap_i64]; omega
            clear hacc hkl hown hcurS
            by_cases hat : ya + ym = 1024 * (t : Int)
            · have hb1 : (ya + ym == 1024 * (t : Int)) = true := by simpa using hat
              have hd1 : decide (ya + ym = 1024 * (t : Int)) = true := decide_eq_true hat
              have HADD : Hid (addS acc (1024 * (t : Int)) M = acc' ++ [⟨ya, ym + M⟩]) := hid (by rw [HACC.out, addS_last, if_pos hat])
              have HAT := hid hat
              clear hat
              go_quiet (fail)
              have HFW : Hid (Frm [] w6 (w6.drewN nq)) := hid ((Frm.refl [] w6).drewN nq)
              have z1' : (w6.drewN nq).cell? ⟨gq, k * 2 + 1, none⟩ = some (.int .i64 ym) := z1
              have hzf' : (w6.drewN nq).frozen? ⟨gq, k * 2 + 1, none⟩ = false := hzf
              clear z0 z1 hzf
              generalize w6.drewN nq = w7 at *
              have hmb := HMB.out
              have hwm : wrap64 (ym + M) = ym + M := by unfold wrap64; omega
              have hwm2 : IntKind.i64.wrap (ym + M) = ym + M := by rw [IntKind.wrap_i64]; omega
              have hgr := (HOWN.out.kept HFW.out (by simp)).grow HKL.out (ym + M)
              have HNX : Hid (Frm [] w (w7.setCell ⟨gq, k * 2 + 1, none⟩ (.int .i64 (ym + M))) ∧ OwnS (w7.setCell ⟨gq, k * 2 + 1, none⟩ (.int .i64 (ym + M))) (some ⟨gq, 0, none⟩) (k + 1) cq (acc' ++ [⟨ya, ym + M⟩]) ∧ (∀ k ∈ blk (some ⟨gq, 0, none⟩ : Option Addr), w.heap.size ≤ k) ∧ sinceL size txg l = sinceR size txg (t + 1) (l.drop (t + 1)) (acc' ++ [⟨ya, ym + M⟩]) ∧ ∀ y ∈ acc' ++ [(⟨ya, ym + M⟩ : Sp)], 0 ≤ y.a ∧ 1 ≤ y.m ∧ y.a + y.m ≤ 1024 * ((t + 1 : Nat) : Int)) := hid (by
                obtain ⟨b1, b2, b3, b4, b5⟩ := HIN.out
                refine ⟨((b1.trans HF6.out (by simp)).trans HFW.out (by simp)).trans hgr.2 (fun i hi hl => by rw [List.mem_singleton] at hi; have := b3 gq (by simp [blk]); omega), hgr.1, b3, by rw [HNS.out, HADD.out], fun y hy => ?_⟩
                rcases List.mem_append.1 hy with hy | hy
                · have := b5 y (by rw [HACC.out]; simp [hy]); omega
                · rw [List.mem_singleton] at hy; subst hy; have := HMB.out; have := HAT.out; simp only; omega)
              clear hgr
              go_wp2_with fail
              go_roundw
              case rel => exact ⟨t + 1, k + 1, _, cq, _, by omega, by omega, by go_num, rfl, HNX⟩
              case measure => first | (simp [intOf]; done) | (simp [intOf]; omega)
            · have hb1 : (ya + ym == 1024 * (t : Int)) = false := by simpa using hat
              have hd1 : decide (ya + ym = 1024 * (t : Int)) = false := decide_eq_false hat
              have HADD : Hid (addS acc (1024 * (t : Int)) M = acc ++ [⟨1024 * (t : Int), M⟩]) := hid (by rw [HACC.out, addS_last, if_neg hat])
              clear hat
              go_quiet (fail)
              have HFW : Hid (Frm [] wr (w6.drewN nq)) := hid (HF6.out.drewN nq)
              clear z0 z1 hzf
              generalize w6.drewN nq = w7 at *
              go_upto_region 12 with fail
              have HA := hid ((Frm.refl [] w7).alloc (.cells #[.int .i64 (1024 * (t : Int)), .int .i64 M] 54))
              have HRV := hid (rv_block (heap_alloc_new w7 (.cells #[.int .i64 (1024 * (t : Int)), .int .i64 M] 54)))
              have HOW := hid (ownsRow_kept HIN.out.2.1.1 (HFW.out.trans HA.out (by simp)) (by simp))
              go_wp2_with (at_builtin; refine wpList_appV rfl _ _ 50 rfl 54 2 16 _ Try.underlying50 infoSp rfl (by decide) (some ⟨gq, 0, none⟩) (k + 1) cq _ rfl HOW.out (some ⟨w7.heap.size, 0, none⟩) 1 1 [.int .i64 (1024 * (t : Int)), .int .i64 M] rfl rfl (by simp) HRV.out (by intro u hu; simp at hu; rcases hu with rfl | rfl <;> rfl) (by unfold maxLen; omega) (by omega) ?_)
              intro q3 c3 w3 ho3 hf3 hb3
              have HNX : Hid (Frm [] w w3 ∧ OwnS w3 q3 ((k + 1) + 1) c3 (acc ++ [⟨1024 * (t : Int), M⟩]) ∧ (∀ k ∈ blk q3, w.heap.size ≤ k) ∧ sinceL size txg l = sinceR size txg (t + 1) (l.drop (t + 1)) (acc ++ [⟨1024 * (t : Int), M⟩]) ∧ ∀ y ∈ acc ++ [(⟨1024 * (t : Int), M⟩ : Sp)], 0 ≤ y.a ∧ 1 ≤ y.m ∧ y.a + y.m ≤ 1024 * ((t + 1 : Nat) : Int)) := hid (by
                obtain ⟨b1, b2, b3, b4, b5⟩ := HIN.out
                have hz := b1.size
                have hz6 := HFW.out.size
                refine ⟨((b1.trans HFW.out (by simp)).trans HA.out (by simp)).trans hf3.out (fun i hi hl => by have := b3 i hi; omega), ⟨?_, ?_⟩, fun i hi => ?_, ?_, fun y hy => ?_⟩
                · have h := ho3.out
                  rw [rowS_app]
                  simpa [rowS] using h
                · have := b2.2
                  simp only [List.length_append, List.length_singleton] at this ⊢
                  omega
                · rcases hb3.out i hi with h | h
                  · exact b3 i h
                  · first | omega | (simp at h; omega)
                · rw [HNS.out, HADD.out]
                · rcases List.mem_append.1 hy with hy | hy
                  · have := b5 y hy; omega
                  · rw [List.mem_singleton] at hy; subst hy; have := HMB.out; simp only; omega)
              clear ho3 hf3 hb3 HOW HRV HA
              go_wp2_with fail
              go_roundw
              case rel => exact ⟨t + 1, (k + 1) + 1, q3, c3, _, by omega, by omega, by go_num, by go_num, HNX⟩
              case measure => first | (simp [intOf]; done) | (simp [intOf]; omega)
    · obtain rfl : t = L := by omega
      have HE : Hid (sinceL size txg l = acc) := hid (by rw [hin.out.2.2.2.1, List.drop_of_length_le (by rw [HL.out]; exact Nat.le_refl _)]; rfl)
      have HIN := hid hin.out
      clear hin
      go_wp2_with fail
      first | go_returns | skip
      exact HP.out q n cq _ (by rw [HE.out]; exact HIN.out.2.1) HIN.out.1 HIN.out.2.2.1
end
section
open Go.RowKit Go.Lib
set_option maxRecDepth 100000
set_option maxHeartbeats 12800000 in
theorem refSince_any (size txg : Int) (p : Option Addr) (L c : Nat) (l : List P9) (w : World) (hr : Rv w p (rowsP l)) (hL : l.length = L) (hb : L ≤ 1954687338212) (hsz : -9223372036854775808 ≤ size ∧ size ≤ 9223372036854775807) :
    Calls Try.prog 26 #[.int .i64 size, .slice p L c, .int .u64 txg] w (SinceA w size txg l) := by
  obtain ⟨PO, hPO⟩ : ∃ PO : Ending → World → Prop, SinceA w size txg l = PO := ⟨_, rfl⟩
  rw [hPO]
  have HP : Hid (∀ q n c w', OwnS w' q n c (sinceL size txg l) → Frm [] w w' → (∀ k ∈ blk q, w.heap.size ≤ k) → PO (.returned (.slice q n c)) w') := hid (fun q n c w' h1 h2 h3 => by rw [← hPO]; exact ⟨q, n, c, rfl, h1, h2, h3⟩)
  have HR := hid hr
  have HL := hid hL
  obtain ⟨hs0, hs1⟩ := hsz
  have hbz : ∀ W, (Instr.build 40 #[]).run Try.prog W = .ok (.agg zero9.arr) W := fun W => run_build W _ _ _ (by kernel_rfl)
  unfold P9.arr zero9 at hbz
  simp only at hbz
  clear hr hL hPO
  go_enter Try.func26, Try.ntmps26
  go_wp2_with fail
  go_loopw [8, 7] (fun i s7 wr => ∃ (t n : Nat) (q : Option Addr) (cq : Nat) (acc : List Sp), t ≤ L ∧ n ≤ t ∧ i = .int .i64 (t : Int) ∧ s7 = .slice q n cq ∧ Hid (Frm [] w wr ∧ OwnS wr q n cq acc ∧ (∀ k ∈ blk q, w.heap.size ≤ k) ∧ sinceL size txg l = sinceR size txg t (l.drop t) acc ∧ ∀ y ∈ acc, 0 ≤ y.a ∧ 1 ≤ y.m ∧ y.a + y.m ≤ 1024 * t)) (fun i _ _ => L - (intOf i).toNat)
  case atStart => exact ⟨0, 0, none, 0, [], Nat.zero_le _, Nat.le_refl _, rfl, rfl, hid ⟨Frm.refl _ _, ⟨⟨rfl, Or.inl ⟨rfl, rfl⟩⟩, rfl⟩, by simp [blk], rfl, by simp⟩⟩
  case round =>
    obtain ⟨t, n, q, cq, acc, ht, hnt, rfl, rfl, hin⟩ := hrel
    by_cases hlt : t < L
    · have t1 : (t : Int) < (L : Int) := by omega
      obtain ⟨v, hv⟩ : ∃ v, l[t]? = some v := ⟨_, List.getElem?_eq_getElem (by rw [HL.out]; exact hlt)⟩
      have HDR : Hid (l.drop t = v :: l.drop (t + 1)) := hid (by rw [List.drop_eq_getElem_cons (List.getElem?_eq_some_iff.1 hv).1, (List.getElem?_eq_some_iff.1 hv).2])
      have hrr := HR.out
      rcases hrr with h0 | ⟨g, o, rfl, hcs⟩
      · exact absurd (rowsP_get l t v hv 0 (.int .i64 v.top) rfl) (by rw [h0]; simp)
      have hcell := fun i u hu => (hin.out.1.cell (World.block_lt_of_cell? w _ (hcs (t * 9 + i) u (rowsP_get l t v hv i u hu))) (by simp)).trans (hcs (t * 9 + i) u (rowsP_get l t v hv i u hu))
      obtain ⟨Z, hZ⟩ : ∃ z, decide (v = zero9) = z := ⟨_, rfl⟩
      have heq := fun W => eq9_eql v zero9 W
      rw [hZ] at heq
      have HZ : Hid (Z = true ↔ v.zero) := hid (by rw [← hZ, decide_eq_true_iff, P9.zero_iff])
      obtain ⟨a0, a1, a2, a3, a4, a5, a6, a7, a8⟩ := v
      unfold P9.arr zero9 at heq
      unfold P9.arr at hcell
      simp only at heq hcell
      have r0 : wr.cell? ⟨g, o + t * 9, none⟩ = some (.int .i64 a0) := by have := hcell 0 _ rfl; simpa [Nat.add_assoc] using this
      have r1 : wr.cell? ⟨g, o + t * 9 + 1, none⟩ = some (.int .i64 a1) := by have := hcell 1 _ rfl; simpa [Nat.add_assoc] using this
      have r2 : wr.cell? ⟨g, o + t * 9 + 2, none⟩ = some (.int .i64 a2) := by have := hcell 2 _ rfl; simpa [Nat.add_assoc] using this
      have r3 : wr.cell? ⟨g, o + t * 9 + 3, none⟩ = some (.int .u64 a3) := by have := hcell 3 _ rfl; simpa [Nat.add_assoc] using this
      have r4 : wr.cell? ⟨g, o + t * 9 + 4, none⟩ = some (.int .i64 a4) := by have := hcell 4 _ rfl; simpa [Nat.add_assoc] using this
      have r5 : wr.cell? ⟨g, o + t * 9 + 5, none⟩ = some (.int .u64 a5) := by have := hcell 5 _ rfl; simpa [Nat.add_assoc] using this
      have r6 : wr.cell? ⟨g, o + t * 9 + 6, none⟩ = some (.int .u64 a6) := by have := hcell 6 _ rfl; simpa [Nat.add_assoc] using this
      have r7 : wr.cell? ⟨g, o + t * 9 + 7, none⟩ = some (.int .u64 a7) := by have := hcell 7 _ rfl; simpa [Nat.add_assoc] using this
      have r8 : wr.cell? ⟨g, o + t * 9 + 8, none⟩ = some (.int .u64 a8) := by have := hcell 8 _ rfl; simpa [Nat.add_assoc] using this
      have HIN := hid hin.out
      have hmul : IntKind.i64.wrap (1024 * (t : Int)) = 1024 * (t : Int) := by rw [IntKind.wrap_i64]; omega
      have hmul2 : wrap64 (1024 * (t : Int)) = 1024 * (t : Int) := by unfold wrap64; omega
      clear hcell hv hZ hin hcs
      have hdiv : Int.tdiv (size - 1) 1024 = (size - 1) / 1024 ∨ size ≤ 0 := by
        rcases Int.lt_or_le 0 size with h | h
        · exact Or.inl (Int.tdiv_eq_ediv_of_nonneg (by omega))
        · exact Or.inr h
      have hsub1 : 0 < size → wrap64 (size - 1) = size - 1 := fun _ => by unfold wrap64; omega
      by_cases hend : size ≤ 1024 * (t : Int)
      · have HE : Hid (sinceL size txg l = acc) := hid (by rw [HIN.out.2.2.2.1, HDR.out]; unfold sinceR; rw [if_pos hend])
        by_cases hs : 0 < size
        · have hq : wrap64 (Int.tdiv (size - 1) 1024) = (size - 1) / 1024 := by rw [hdiv.resolve_right (by omega)]; unfold wrap64; omega
          have hd : decide ((t : Int) ≤ (size - 1) / 1024) = false := decide_eq_false (by omega)
          have hw := hsub1 hs
          clear hdiv hsub1
          go_wp2_with fail
          first | go_returns | skip
          exact HP.out q n cq _ (by rw [HE.out]; exact HIN.out.2.1) HIN.out.1 HIN.out.2.2.1
        · have hd : decide (0 < size) = false := decide_eq_false hs
          clear hdiv hsub1
          go_wp2_with fail
          first | go_returns | skip
          exact HP.out q n cq _ (by rw [HE.out]; exact HIN.out.2.1) HIN.out.1 HIN.out.2.2.1
      · have hend' : 1024 * (t : Int) < size := by omega
        have hs : 0 < size := by omega
        have hq : wrap64 (Int.tdiv (size - 1) 1024) = (size - 1) / 1024 := by rw [hdiv.resolve_right (by omega)]; unfold wrap64; omega
        have hd1 : (t : Int) ≤ (size - 1) / 1024 := by omega
        have hw := hsub1 hs
        have HF6 : Hid (Frm [] wr wr) := hid (Frm.refl _ _)
        clear hdiv hsub1
        go_upto_region 5 with fail
        clear hq hd1 hw
        by_cases hskip : Z = true ∨ a3 ≤ txg
        · have HNS : Hid (sinceL size txg l = sinceR size txg (t + 1) (l.drop (t + 1)) acc) := hid (by
            rw [HIN.out.2.2.2.1, HDR.out]
            conv => lhs; unfold sinceR
            rw [if_neg hend, if_pos (hskip.imp (fun h => HZ.out.1 h) (fun h => h))])
          have HNX : Hid (∀ W, Frm [] wr W → Frm [] w W ∧ OwnS W q n cq acc ∧ (∀ k ∈ blk q, w.heap.size ≤ k) ∧ sinceL size txg l = sinceR size txg (t + 1) (l.drop (t + 1)) acc ∧ ∀ y ∈ acc, 0 ≤ y.a ∧ 1 ≤ y.m ∧ y.a + y.m ≤ 1024 * ((t + 1 : Nat) : Int)) := hid (fun W hW => by
            obtain ⟨b1, b2, b3, b4, b5⟩ := HIN.out
            exact ⟨(b1.trans HF6.out (by simp)).trans hW (by simp), (b2.kept HF6.out (by simp)).kept hW (by simp), b3, HNS.out, fun y hy => by have := b5 y hy; omega⟩)
          by_cases hZt : Z = true
          · subst hZt
            clear hskip
            go_wp2_with fail
            go_roundw
            case rel => exact ⟨t + 1, n, q, cq, acc, by omega, by omega, by go_num, rfl, hid (HNX.out _ (by first | exact Frm.refl _ _ | exact (Frm.refl _ _).drewN _ | exact (Frm.refl _ _).drew))⟩
            case measure => first | (simp [intOf]; done) | (simp [intOf]; omega)
          · have hZf : Z = false := by simpa using hZt
            have hle : a3 ≤ txg := hskip.resolve_left hZt
            have hd : decide (a3 ≤ txg) = true := decide_eq_true hle
            subst hZf
            clear hskip hZt
            go_wp2_with fail
            go_roundw
            case rel => exact ⟨t + 1, n, q, cq, acc, by omega, by omega, by go_num, rfl, hid (HNX.out _ (by first | exact Frm.refl _ _ | exact (Frm.refl _ _).drewN _ | exact (Frm.refl _ _).drew))⟩
            case measure => first | (simp [intOf]; done) | (simp [intOf]; omega)
        · have hZf : Z = false := by
            cases Z
            · rfl
            · exact absurd (Or.inl rfl) hskip
          have hgt : txg < a3 := by
            rcases Int.lt_or_le txg a3 with h | h
            · exact h
            · exact absurd (Or.inr h) hskip
          have hd : decide (a3 ≤ txg) = false := decide_eq_false (by omega)
          obtain ⟨M, hM⟩ : ∃ z, manyI size t = z := ⟨_, rfl⟩
          have HMB : Hid (1 ≤ M ∧ M ≤ 1024) := hid (by rw [← hM]; unfold manyI; split <;> omega)
          have HNS : Hid (sinceL size txg l = sinceR size txg (t + 1) (l.drop (t + 1)) (addS acc (1024 * (t : Int)) M)) := hid (by
            rw [HIN.out.2.2.2.1, HDR.out, ← hM]
            conv => lhs; unfold sinceR
            rw [if_neg hend, if_neg (fun h => hskip (h.imp (fun h => HZ.out.2 h) (fun h => h)))])
          have HM1 : Hid (size - 1024 * (t : Int) < 1024 → size - 1024 * (t : Int) = M) := hid (fun h => by rw [← hM]; unfold manyI; rw [if_pos h])
          have HM2 : Hid (¬ size - 1024 * (t : Int) < 1024 → 1024 = M) := hid (fun h => by rw [← hM]; unfold manyI; rw [if_neg h])
          have hms : wrap64 (size - 1024 * (t : Int)) = size - 1024 * (t : Int) := by unfold wrap64; omega
          subst hZf
          clear hskip hM
          go_upto_if 48 with fail
          go_cut [9] from 11 to 94 (fun v wx => v = .int .i64 M ∧ wx = wr)
          case first =>
            by_cases hm : size - 1024 * (t : Int) < 1024
            · go_wp2_with fail
              go_meet
              case rel => exact ⟨by rw [HM1.out hm], rfl⟩
            · go_wp2_with fail
              go_meet
              case rel => exact ⟨by rw [HM2.out hm], rfl⟩
          obtain ⟨rfl, hwc⟩ := hcut
          have hwr := hwc.symm
          clear hwc
          subst hwr
          clear hms
          go_upto_region 10 with fail
          rcases List.eq_nil_or_concat acc with hacc | ⟨acc', y, hacc⟩
          · have hn0 : n = 0 := by have := HIN.out.2.1.2; rw [hacc] at this; exact this.symm
            subst hn0
            have HADD : Hid (addS acc (1024 * (t : Int)) M = acc ++ [⟨1024 * (t : Int), M⟩]) := hid (by rw [hacc]; rfl)
            have hd0 : decide ((0 : Int) < ((0 : Nat) : Int)) = false := by decide
            clear hacc
            go_quiet (fail)
            have HFW : Hid (Frm [] wr (wr.drewN nq)) := hid (HF6.out.drewN nq)
            generalize wr.drewN nq = w7 at *
            go_upto_region 12 with fail
            have HA := hid ((Frm.refl [] w7).alloc (.cells #[.int .i64 (1024 * (t : Int)), .int .i64 M] 54))
            have HRV := hid (rv_block (heap_alloc_new w7 (.cells #[.int .i64 (1024 * (t : Int)), .int .i64 M] 54)))
            have HOW := hid (ownsRow_kept HIN.out.2.1.1 (HFW.out.trans HA.out (by simp)) (by simp))
            go_wp2_with (at_builtin; refine wpList_appV rfl _ _ 50 rfl 54 2 16 _ Try.underlying50 infoSp rfl (by decide) q 0 cq _ rfl HOW.out (some ⟨w7.heap.size, 0, none⟩) 1 1 [.int .i64 (1024 * (t : Int)), .int .i64 M] rfl rfl (by simp) HRV.out (by intro u hu; simp at hu; rcases hu with rfl | rfl <;> rfl) (by unfold maxLen; omega) (by omega) ?_)
            intro q3 c3 w3 ho3 hf3 hb3
            have HNX : Hid (Frm [] w w3 ∧ OwnS w3 q3 (0 + 1) c3 (acc ++ [⟨1024 * (t : Int), M⟩]) ∧ (∀ k ∈ blk q3, w.heap.size ≤ k) ∧ sinceL size txg l = sinceR size txg (t + 1) (l.drop (t + 1)) (acc ++ [⟨1024 * (t : Int), M⟩]) ∧ ∀ y ∈ acc ++ [(⟨1024 * (t : Int), M⟩ : Sp)], 0 ≤ y.a ∧ 1 ≤ y.m ∧ y.a + y.m ≤ 1024 * ((t + 1 : Nat) : Int)) := hid (by
              obtain ⟨b1, b2, b3, b4, b5⟩ := HIN.out
              have hz := b1.size
              have hz6 := HFW.out.size
              refine ⟨((b1.trans HFW.out (by simp)).trans HA.out (by simp)).trans hf3.out (fun i hi hl => by have := b3 i hi; omega), ⟨?_, ?_⟩, fun i hi => ?_, ?_, fun y hy => ?_⟩
              · have h := ho3.out
                rw [rowS_app]
                simpa [rowS] using h
              · have := b2.2
                simp only [List.length_append, List.length_singleton] at this ⊢
                omega
              · rcases hb3.out i hi with h | h
                · exact b3 i h
                · first | omega | (simp at h; omega)
              · rw [HNS.out, HADD.out]
              · rcases List.mem_append.1 hy with hy | hy
                · have := b5 y hy; omega
                · rw [List.mem_singleton] at hy; subst hy; have := HMB.out; simp only; omega)
            clear ho3 hf3 hb3 HOW HRV HA
            go_wp2_with fail
            go_roundw
            case rel => exact ⟨t + 1, 0 + 1, q3, c3, _, by omega, by omega, by go_num, by go_num, HNX⟩
            case measure => first | (simp [intOf]; done) | (simp [intOf]; omega)
          · rw [List.concat_eq_append] at hacc
            obtain ⟨k, hkl⟩ : ∃ k, acc'.length = k := ⟨_, rfl⟩
            have hnk : n = k + 1 := by have := HIN.out.2.1.2; rw [hacc, List.length_append, hkl] at this; exact this.symm
            subst hnk
            have hyb := HIN.out.2.2.2.2 y (by rw [hacc]; simp)
            obtain ⟨hy0, hy1, hy2⟩ := hyb
            have HACC := hid hacc
            have HKL := hid hkl
            have hown := HIN.out.2.1.kept HF6.out (by simp)
            rw [hacc] at hown
            obtain ⟨gq, hgq, z0, z1⟩ := ownS_last hown hkl
            have HOWN := hid hown
            obtain ⟨curS, hcurS⟩ := ownS_cur hown hgq
            have hzf := frozen_of_row wr gq (k * 2 + 1) _ _ hcurS
            subst hgq
            obtain ⟨ya, ym⟩ := y
            simp only at hy0 hy1 hy2 z0 z1
            have hd0 : decide ((0 : Int) < ((k + 1 : Nat) : Int)) = true := decide_eq_true (by omega)
            have hsub : wrap64 (((k + 1 : Nat) : Int) - 1) = (k : Int) := by unfold wrap64; omega
            have hsub2 : IntKind.i64.wrap (((k + 1 : Nat) : Int) - 1) = (k : Int) := by rw [IntKind.wrap_i64]; omega
            have hkb : (k : Int) < ((k + 1 : Nat) : Int) := by omega
            have hws : wrap64 (ya + ym) = ya + ym := by unfold wrap64; omega
            have hws2 : IntKind.i64.wrap (ya + ym) = ya + ym := by rw [IntKind.wrap_i64]; omega
            clear hacc hkl hown hcurS
            by_cases hat : ya + ym = 1024 * (t : Int)
            · have hb1 : (ya + ym == 1024 * (t : Int)) = true := by simpa using hat
              have hd1 : decide (ya + ym = 1024 * (t : Int)) = true := decide_eq_true hat
              have HADD : Hid (addS acc (1024 * (t : Int)) M = acc' ++ [⟨ya, ym + M⟩]) := hid (by rw [HACC.out, addS_last, if_pos hat])
              have HAT := hid hat
              clear hat
              go_quiet (fail)
              have HFW : Hid (Frm [] wr (wr.drewN nq)) := hid ((Frm.refl [] wr).drewN nq)
              have z1' : (wr.drewN nq).cell? ⟨gq, k * 2 + 1, none⟩ = some (.int .i64 ym) := z1
              have hzf' : (wr.drewN nq).frozen? ⟨gq, k * 2 + 1, none⟩ = false := hzf
              clear z0 z1 hzf
              generalize wr.drewN nq = w7 at *
              have hmb := HMB.out
              have hwm : wrap64 (ym + M) = ym + M := by unfold wrap64; omega
              have hwm2 : IntKind.i64.wrap (ym + M) = ym + M := by rw [IntKind.wrap_i64]; omega
              have hgr := (HOWN.out.kept HFW.out (by simp)).grow HKL.out (ym + M)
              have HNX : Hid (Frm [] w (w7.setCell ⟨gq, k * 2 + 1, none⟩ (.int .i64 (ym + M))) ∧ OwnS (w7.setCell ⟨gq, k * 2 + 1, none⟩ (.int .i64 (ym + M))) (some ⟨gq, 0, none⟩) (k + 1) cq (acc' ++ [⟨ya, ym + M⟩]) ∧ (∀ k ∈ blk (some ⟨gq, 0, none⟩ : Option Addr), w.heap.size ≤ k) ∧ sinceL size txg l = sinceR size txg (t + 1) (l.drop (t + 1)) (acc' ++ [⟨ya, ym + M⟩]) ∧ ∀ y ∈ acc' ++ [(⟨ya, ym + M⟩ : Sp)], 0 ≤ y.a ∧ 1 ≤ y.m ∧ y.a + y.m ≤ 1024 * ((t + 1 : Nat) : Int)) := hid (by
                obtain ⟨b1, b2, b3, b4, b5⟩ := HIN.out
                refine ⟨((b1.trans HF6.out (by simp)).trans HFW.out (by simp)).trans hgr.2 (fun i hi hl => by rw [List.mem_singleton] at hi; have := b3 gq (by simp [blk]); omega), hgr.1, b3, by rw [HNS.out, HADD.out], fun y hy => ?_⟩
                rcases List.mem_append.1 hy with hy | hy
                · have := b5 y (by rw [HACC.out]; simp [hy]); omega
                · rw [List.mem_singleton] at hy; subst hy; have := HMB.out; have := HAT.out; simp only; omega)
              clear hgr
              go_wp2_with fail
              go_roundw
              case rel => exact ⟨t + 1, k + 1, _, cq, _, by omega, by omega, by go_num, rfl, HNX⟩
              case measure => first | (simp [intOf]; done) | (simp [intOf]; omega)
            · have hb1 : (ya + ym == 1024 * (t : Int)) = false := by simpa using hat
              have hd1 : decide (ya + ym = 1024 * (t : Int)) = false := decide_eq_false hat
              have HADD : Hid (addS acc (1024 * (t : Int)) M = acc ++ [⟨1024 * (t : Int), M⟩]) := hid (by rw [HACC.out, addS_last, if_neg hat])
              clear hat
              go_quiet (fail)
              have HFW : Hid (Frm [] wr (wr.drewN nq)) := hid (HF6.out.drewN nq)
              clear z0 z1 hzf
              generalize wr.drewN nq = w7 at *
              go_upto_region 12 with fail
              have HA := hid ((Frm.refl [] w7).alloc (.cells #[.int .i64 (1024 * (t : Int)), .int .i64 M] 54))
              have HRV := hid (rv_block (heap_alloc_new w7 (.cells #[.int .i64 (1024 * (t : Int)), .int .i64 M] 54)))
              have HOW := hid (ownsRow_kept HIN.out.2.1.1 (HFW.out.trans HA.out (by simp)) (by simp))
              go_wp2_with (at_builtin; refine wpList_appV rfl _ _ 50 rfl 54 2 16 _ Try.underlying50 infoSp rfl (by decide) (some ⟨gq, 0, none⟩) (k + 1) cq _ rfl HOW.out (some ⟨w7.heap.size, 0, none⟩) 1 1 [.int .i64 (1024 * (t : Int)), .int .i64 M] rfl rfl (by simp) HRV.out (by intro u hu; simp at hu; rcases hu with rfl | rfl <;> rfl) (by unfold maxLen; omega) (by omega) ?_)
              intro q3 c3 w3 ho3 hf3 hb3
              have HNX : Hid (Frm [] w w3 ∧ OwnS w3 q3 ((k + 1) + 1) c3 (acc ++ [⟨1024 * (t : Int), M⟩]) ∧ (∀ k ∈ blk q3, w.heap.size ≤ k) ∧ sinceL size txg l = sinceR size txg (t + 1) (l.drop (t + 1)) (acc ++ [⟨1024 * (t : Int), M⟩]) ∧ ∀ y ∈ acc ++ [(⟨1024 * (t : Int), M⟩ : Sp)], 0 ≤ y.a ∧ 1 ≤ y.m ∧ y.a + y.m ≤ 1024 * ((t + 1 : Nat) : Int)) := hid (by
                obtain ⟨b1, b2, b3, b4, b5⟩ := HIN.out
                have hz := b1.size
                have hz6 := HFW.out.size
                refine ⟨((b1.trans HFW.out (by simp)).trans HA.out (by simp)).trans hf3.out (fun i hi hl => by have := b3 i hi; omega), ⟨?_, ?_⟩, fun i hi => ?_, ?_, fun y hy => ?_⟩
                · have h := ho3.out
                  rw [rowS_app]
                  simpa [rowS] using h
                · have := b2.2
                  simp only [List.length_append, List.length_singleton] at this ⊢
                  omega
                · rcases hb3.out i hi with h | h
                  · exact b3 i h
                  · first | omega | (simp at h; omega)
                · rw [HNS.out, HADD.out]
                · rcases List.mem_append.1 hy with hy | hy
                  · have := b5 y hy; omega
                  · rw [List.mem_singleton] at hy; subst hy; have := HMB.out; simp only; omega)
              clear ho3 hf3 hb3 HOW HRV HA
              go_wp2_with fail
              go_roundw
              case rel => exact ⟨t + 1, (k + 1) + 1, q3, c3, _, by omega, by omega, by go_num, by go_num, HNX⟩
              case measure => first | (simp [intOf]; done) | (simp [intOf]; omega)
    · obtain rfl : t = L := by omega
      have HE : Hid (sinceL size txg l = acc) := hid (by rw [hin.out.2.2.2.1, List.drop_of_length_le (by rw [HL.out]; exact Nat.le_refl _)]; rfl)
      have HIN := hid hin.out
      clear hin
      go_wp2_with fail
      first | go_returns | skip
      exact HP.out q n cq _ (by rw [HE.out]; exact HIN.out.2.1) HIN.out.1 HIN.out.2.2.1
end
end Go.Proofs.Ytkolbijhekbelaa
