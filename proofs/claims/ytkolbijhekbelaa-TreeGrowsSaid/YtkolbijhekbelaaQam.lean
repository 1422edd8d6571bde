/- tree.Pack. tree.Unpack. -/
import Derived.Test.YtkolbijhekbelaaQal
import Derived.Test.YtkolbijhekbelaaQae
import Derived.Test.YtkolbijhekbelaaQag
import Derived.Test.YtkolbijhekbelaaQai
namespace Go.Proofs.Ytkolbijhekbelaa
section
open Go.RowKit Go.Lib
set_option maxRecDepth 100000

def blkOf (x : List P9) : List Int := (x.map ptrB).flatten
def nb (b : List Int) : List Int := if blank b then [] else b
/-- What Pack answers: an error, or blocks. -/
def packE (l : List P9) : Int := if 4096 < l.length then 2 else if ∀ p ∈ l, checkP p = 0 then 0 else 40
def packB (l : List P9) : List (List Int) := (cutL 16 l).map (fun x => nb (blkOf x))
theorem pc_get {α : Type} {n i : Nat} {l : List α} {x : List α} (h : (cutL n l)[i]? = some x) : x = pc n i l ∧ i < np n l.length := by
  unfold cutL at h
  rw [List.getElem?_map] at h
  have hi : i < (List.range (np n l.length)).length := by
    rcases Nat.lt_or_ge i (List.range (np n l.length)).length with h1 | h1
    · exact h1
    · rw [List.getElem?_eq_none h1] at h; cases h
  rw [List.length_range] at hi
  rw [List.getElem?_range hi] at h
  simp at h
  exact ⟨h.symm, hi⟩
theorem np_le {n len i : Nat} (hn : 0 < n) (h : i < np n len) : i * n < len := by
  unfold np at h
  rw [Nat.lt_iff_add_one_le, Nat.le_div_iff_mul_le hn, Nat.add_mul, Nat.one_mul] at h
  omega
theorem cutL_mem {α : Type} {n : Nat} {l x : List α} (hn : 0 < n) (h : x ∈ cutL n l) : x ≠ [] ∧ x.length ≤ n ∧ ∀ y ∈ x, y ∈ l := by
  obtain ⟨i, hi⟩ := List.getElem?_of_mem h
  obtain ⟨rfl, h2⟩ := pc_get hi
  have h3 := np_le hn h2
  refine ⟨fun h0 => ?_, pc_len _ _ _, fun y hy => List.mem_of_mem_drop (List.mem_of_mem_take hy)⟩
  have h4 := congrArg List.length h0
  unfold pc at h4
  rw [List.length_take, List.length_drop] at h4
  simp at h4
  omega
theorem cutL_cover {α : Type} {n : Nat} {l : List α} (hn : 0 < n) {y : α} (h : y ∈ l) : ∃ x ∈ cutL n l, y ∈ x := by
  obtain ⟨j, hj⟩ := List.getElem?_of_mem h
  have hjl := (List.getElem?_eq_some_iff.1 hj).1
  have h1 : j / n * n ≤ j := Nat.div_mul_le_self j n
  have h2 : j < j / n * n + n := by
    have := Nat.lt_div_mul_add hn (a := j)
    omega
  refine ⟨pc n (j / n) l, ?_, ?_⟩
  · unfold cutL
    exact List.mem_map.2 ⟨j / n, List.mem_range.2 (np_lt hn (by omega)), rfl⟩
  · unfold pc
    refine List.mem_of_getElem? (i := j - j / n * n) ?_
    rw [List.getElem?_take, if_pos (by omega), List.getElem?_drop, show j / n * n + (j - j / n * n) = j by omega]
    exact hj
theorem owns_cap {w : World} {T : TypeId} {sz : Nat} {p : Option Addr} {n c : Nat} {xs : List Value} (h : w.ownsRow 0 T sz (.slice p n c) n xs) : n ≤ c ∧ c ≤ maxLen := by
  rcases h.2 with ⟨he, h0⟩ | ⟨g, c', cur, he, _, _, hc, hm, _⟩
  · simp only [Value.slice.injEq] at he
    unfold maxLen; omega
  · simp only [Value.slice.injEq] at he
    obtain ⟨_, _, rfl⟩ := he
    exact ⟨hc, hm⟩
theorem bkNil (w : World) : BkOk w ⟨none, 0, []⟩ := ⟨Or.inl rfl, by simp [blk], by simp⟩
/-- While Pack goes on: t pieces are done. -/
structure PackS (w wr : World) (l : List P9) (t : Nat) (q : Option Addr) (cq : Nat) (ls : List Bk) : Prop where
  fr : Frm [] w wr
  ow : OwnK wr q t cq ls
  bs : ls.map Bk.bs = ((cutL 16 l).take t).map (fun x => nb (blkOf x))
  nw : NewK w.heap.size q ls
  ok : ∀ x ∈ (cutL 16 l).take t, ∀ p ∈ x, checkP p = 0
theorem PackS.k0 {w wr w' : World} {l : List P9} {t : Nat} {q : Option Addr} {cq : Nat} {ls : List Bk} (h : PackS w wr l t q cq ls) (hf : Frm [] wr w') : PackS w w' l t q cq ls :=
  ⟨h.fr.trans hf (by simp), h.ow.k0 hf, h.bs, h.nw, h.ok⟩
theorem PackS.next {w wr wx wa w' : World} {l : List P9} {t : Nat} {q q' : Option Addr} {cq cq' : Nat} {ls : List Bk} {x : Bk} {z : List P9} (h : PackS w wr l t q cq ls) (hz : (cutL 16 l)[t]? = some z ∧ (∀ p ∈ z, checkP p = 0)) (hfx : Frm [] wr wx) (hA : Frm [] wx wa) (hx : BkOk wx x ∧ x.bs = nb (blkOf z) ∧ ∀ k ∈ blk x.p, wr.heap.size ≤ k) (ho : w'.ownsRow 0 22 1 (.slice q' (t + 1) cq') (t + 1) (rowsK ls ++ [x.v])) (hf : Frm (blk q) wa w') (hb : ∀ k ∈ blk q', k ∈ blk q ∨ wa.heap.size ≤ k) :
    PackS w w' l (t + 1) q' cq' (ls ++ [x]) := by
  have hz0 := h.fr.size
  have hz1 := hfx.size
  have hz2 := hA.size
  have hlow := ownsRow_low h.ow.ow
  refine ⟨?_, (h.ow.k0 hfx).app hx.1 (fun k hk hm => by have := hx.2.2 k hk; have := hlow k hm; omega) (fun y hy k hk hm => by have := hx.2.2 k hk; have := (h.ow.it y hy).1.lo k hm; omega) hA ho hf hb, ?_, ⟨fun k hk => ?_, fun y hy k hk => ?_⟩, fun y hy p hp => ?_⟩
  · exact (h.fr.trans (hfx.trans hA (by simp)) (by simp)).trans hf (fun k hk hl => by have := h.nw.1 k hk; omega)
  · rw [List.map_append, h.bs, List.take_add_one, hz.1, List.map_append]
    simp [hx.2.1]
  · rcases hb k hk with h1 | h1
    · exact h.nw.1 k h1
    · omega
  · rcases List.mem_append.1 hy with hy | hy
    · exact h.nw.2 y hy k hk
    · rw [List.mem_singleton] at hy; subst hy
      have := hx.2.2 k hk; omega
  · rw [List.take_add_one, hz.1] at hy
    rcases List.mem_append.1 hy with hy | hy
    · exact h.ok y hy p hp
    · simp at hy; subst hy; exact hz.2 p hp
def PackA (w : World) (l : List P9) (e : Ending) (w' : World) : Prop := Frm [] w w' ∧ ((packE l ≠ 0 ∧ e = .returned (.tuple #[.slice none 0 0, .int .i64 (packE l)])) ∨ (packE l = 0 ∧ ∃ q m cq ls, e = .returned (.tuple #[.slice q m cq, .int .i64 0]) ∧ OwnK w' q m cq ls ∧ ls.map Bk.bs = packB l ∧ NewK w.heap.size q ls))
set_option maxHeartbeats 12800000 in
theorem pack_any (p : Option Addr) (L c : Nat) (l : List P9) (w : World) (hr : Rv w p (rowsP l)) (hL : l.length = L) (hb : L ≤ 4611686018427387904) (hc : L ≤ c ∧ c ≤ 9223372036854775807) (hok : ∀ p ∈ l, P9.ok p) :
    Calls Try.prog 17 #[.slice p L c] w (PackA w l) := by
  obtain ⟨PO, hPO⟩ : ∃ PO : Ending → World → Prop, PackA w l = PO := ⟨_, rfl⟩
  rw [hPO]
  have HP1 : Hid (∀ E w', packE l = E → E ≠ 0 → Frm [] w w' → PO (.returned (.tuple #[.slice none 0 0, .int .i64 E])) w') := hid (fun E w' h1 h2 h3 => by rw [← hPO]; exact ⟨h3, Or.inl ⟨by rw [h1]; exact h2, by rw [h1]⟩⟩)
  have HP2 : Hid (∀ q m cq ls w', packE l = 0 → OwnK w' q m cq ls → ls.map Bk.bs = packB l → NewK w.heap.size q ls → Frm [] w w' → PO (.returned (.tuple #[.slice q m cq, .int .i64 0])) w') := hid (fun q m cq ls w' h1 h2 h3 h4 h5 => by rw [← hPO]; exact ⟨h5, Or.inr ⟨h1, q, m, cq, ls, rfl, h2, h3, h4⟩⟩)
  have HL := hid hL
  have HOK := hid hok
  obtain ⟨hc0, hc1⟩ := hc
  by_cases hbig : 4096 < L
  · have HE : Hid (packE l = 2) := hid (by unfold packE; rw [if_pos (by rw [hL]; exact hbig)])
    clear hr hL hok hPO
    go_enter Try.func17, Try.ntmps17
    go_wp2_with fail
    first | go_returns | skip
    exact HP1.out 2 _ HE.out (by omega) (Frm.refl _ _)
  · have HCU := hid (cutp_any 16 (by omega) p L c l w hr hL (by omega) ⟨hc0, hc1⟩)
    clear hr hL hok hPO
    go_enter Try.func17, Try.ntmps17
    go_wp2_with fail
    refine HCU.out.mono ?_
    rintro e w1 ⟨qp, m, cp, ps, rfl, hpo, hps, hpf, hpn⟩
    have hmb : m ≤ 4096 := by
      rw [← hpo.ln, ← List.length_map (f := Bp.ps), hps, cutL_len]
      unfold np
      have := HL.out
      omega
    have HPO' := hid hpo
    have HPS := hid hps
    have HPF := hid hpf
    have HCL : Hid ((cutL 16 l).length = m) := hid (by rw [← hps, List.length_map, hpo.ln])
    clear hpo hps hpf hpn HCU
    go_wp2_with fail
    go_loopw [19, 4] (fun i s4 wr => ∃ (t : Nat) (q : Option Addr) (cq : Nat) (ls : List Bk), t ≤ m ∧ i = .int .i64 (t : Int) ∧ s4 = .slice q t cq ∧ Hid (PackS w1 wr l t q cq ls)) (fun i _ _ => m - (intOf i).toNat)
    case atStart => exact ⟨0, none, 0, [], Nat.zero_le _, rfl, rfl, hid ⟨Frm.refl _ _, OwnK.nil _, rfl, ⟨by simp [blk], by simp⟩, by simp⟩⟩
    case round =>
      obtain ⟨t, q, cq, ls, ht, rfl, rfl, hin⟩ := hrel
      by_cases hlt : t < m
      · have t1 : (t : Int) < (m : Int) := by omega
        obtain ⟨xp, hxp⟩ : ∃ x, ps[t]? = some x := ⟨_, List.getElem?_eq_getElem (by rw [HPO'.out.ln]; exact hlt)⟩
        have hxm := List.mem_of_getElem? hxp
        have hzc : (cutL 16 l)[t]? = some xp.ps := by rw [← HPS.out, List.getElem?_map, hxp]; rfl
        obtain ⟨xne, xle, xin⟩ := cutL_mem (n := 16) (by omega) (List.mem_of_getElem? hzc)
        obtain ⟨g, rfl, hgc⟩ := HPO'.out.at hxp
        obtain ⟨hxr, _, _⟩ := HPO'.out.it xp hxm
        obtain ⟨k, hk⟩ : ∃ k, xp.ps.length = k := ⟨_, rfl⟩
        rw [hk] at hgc xle
        have hk1 : 1 ≤ k := by rw [← hk]; exact List.length_pos_iff.2 xne
        have q0 : wr.cell? ⟨g, t, none⟩ = some (.slice xp.p k xp.c) := (hin.out.fr.cell (World.block_lt_of_cell? w1 _ hgc) (by simp)).trans hgc
        rcases hxr with h0 | ⟨gx, ox, hxpe, hxc⟩
        · exact absurd (List.eq_nil_of_length_eq_zero (by have := congrArg List.length h0; rw [rowsP_len] at this; simp only [List.length_nil] at this; omega)) xne
        rw [hxpe] at q0
        have HXC : Hid (∀ (i : Nat) (u : Value), (rowsP xp.ps)[i]? = some u → wr.cell? ⟨gx, ox + i, none⟩ = some u) := hid (fun i u hu => (hin.out.fr.cell (World.block_lt_of_cell? w1 _ (hxc i u hu)) (by simp)).trans (hxc i u hu))
        have HK := hid hk
        have HZC := hid hzc
        have HXI := hid xin
        have HST := hid hin.out
        obtain ⟨wo, rfl⟩ : ∃ z, z = wr := ⟨_, rfl⟩
        clear hxp hxm hzc xne hgc hxpe hxc hin hk xin
        go_wp2_with fail
        go_loopw [25, 7] (fun i s7 wr => ∃ (j : Nat) (q2 : Option Addr) (c2 : Nat) (fs : List Bk), j ≤ k ∧ i = .int .i64 (j : Int) ∧ s7 = .slice q2 j c2 ∧ Hid (Frm [] wo wr ∧ OwnK wr q2 j c2 fs ∧ NewK wo.heap.size q2 fs ∧ fs.map Bk.bs = (xp.ps.take j).map ptrB ∧ ∀ p ∈ xp.ps.take j, checkP p = 0)) (fun i _ _ => k - (intOf i).toNat)
        case atStart => exact ⟨0, none, 0, [], Nat.zero_le _, rfl, rfl, hid ⟨Frm.refl _ _, OwnK.nil _, ⟨by simp [blk], by simp⟩, rfl, by simp⟩⟩
        case round =>
          obtain ⟨j, q2, c2, fs, hj, rfl, rfl, hin⟩ := hrel
          by_cases hlt3 : j < k
          · have t2 : (j : Int) < (k : Int) := by omega
            obtain ⟨v, hv⟩ : ∃ v, xp.ps[j]? = some v := ⟨_, List.getElem?_eq_getElem (by rw [HK.out]; exact hlt3)⟩
            have HVJ : Hid (xp.ps.take (j + 1) = xp.ps.take j ++ [v]) := hid (by rw [List.take_add_one, hv]; rfl)
            have hvl := HXI.out v (List.mem_of_getElem? hv)
            have hen := encode_any v (HOK.out v hvl)
            obtain ⟨C, hC⟩ : ∃ C, checkP v = C := ⟨_, rfl⟩
            rw [hC] at hen
            have HVC := hid hC
            have HVL := hid hvl
            obtain ⟨zs, hzs⟩ : ∃ z, ptrB v = z := ⟨_, rfl⟩
            rw [hzs] at hen
            have HZS := hid hzs
            have HZL : Hid (zs.length = 64) := hid (by rw [← hzs, ptrB_length])
            have hcell := fun i u hu => (hin.out.1.cell (World.block_lt_of_cell? wo _ (HXC.out (j * 9 + i) u (rowsP_get xp.ps j v hv i u hu))) (by simp)).trans (HXC.out (j * 9 + i) u (rowsP_get xp.ps j v hv i u hu))
            obtain ⟨a0, a1, a2, a3, a4, a5, a6, a7, a8⟩ := v
            unfold P9.arr at hen hcell
            simp only at hen hcell
            have r0 : wr.cell? ⟨gx, ox + j * 9, none⟩ = some (.int .i64 a0) := by have := hcell 0 _ rfl; simpa [Nat.add_assoc] using this
            have r1 : wr.cell? ⟨gx, ox + j * 9 + 1, none⟩ = some (.int .i64 a1) := by have := hcell 1 _ rfl; simpa [Nat.add_assoc] using this
            have r2 : wr.cell? ⟨gx, ox + j * 9 + 2, none⟩ = some (.int .i64 a2) := by have := hcell 2 _ rfl; simpa [Nat.add_assoc] using this
            have r3 : wr.cell? ⟨gx, ox + j * 9 + 3, none⟩ = some (.int .u64 a3) := by have := hcell 3 _ rfl; simpa [Nat.add_assoc] using this
            have r4 : wr.cell? ⟨gx, ox + j * 9 + 4, none⟩ = some (.int .i64 a4) := by have := hcell 4 _ rfl; simpa [Nat.add_assoc] using this
            have r5 : wr.cell? ⟨gx, ox + j * 9 + 5, none⟩ = some (.int .u64 a5) := by have := hcell 5 _ rfl; simpa [Nat.add_assoc] using this
            have r6 : wr.cell? ⟨gx, ox + j * 9 + 6, none⟩ = some (.int .u64 a6) := by have := hcell 6 _ rfl; simpa [Nat.add_assoc] using this
            have r7 : wr.cell? ⟨gx, ox + j * 9 + 7, none⟩ = some (.int .u64 a7) := by have := hcell 7 _ rfl; simpa [Nat.add_assoc] using this
            have r8 : wr.cell? ⟨gx, ox + j * 9 + 8, none⟩ = some (.int .u64 a8) := by have := hcell 8 _ rfl; simpa [Nat.add_assoc] using this
            have HEN := hid (hen (wr.alloc (.cells #[.int .i64 a0, .int .i64 a1, .int .i64 a2, .int .u64 a3, .int .i64 a4, .int .u64 a5, .int .u64 a6, .int .u64 a7, .int .u64 a8] 40)))
            have HIN := hid hin.out
            have HFB := hid ((Frm.refl [] wr).alloc (.cells #[.int .i64 a0, .int .i64 a1, .int .i64 a2, .int .u64 a3, .int .i64 a4, .int .u64 a5, .int .u64 a6, .int .u64 a7, .int .u64 a8] 40))
            clear hcell hen hv hvl hC hzs hin
            go_wp2_with fail
            refine HEN.out.mono ?_
            intro e w5 hea
            rcases hea with ⟨hne, rfl, hf5⟩ | ⟨h0, ge, rfl, hrow, hf5, hge⟩
            · have HE : Hid (packE l = C) := hid (by
                unfold packE
                rw [if_neg (by rw [HL.out]; exact hbig), if_neg (fun hall => hne (by rw [← HVC.out]; exact hall _ HVL.out))]
                rw [← HVC.out]
                rcases checkP_cases (⟨a0, a1, a2, a3, a4, a5, a6, a7, a8⟩ : P9) with ⟨_, h⟩ | ⟨_, _, h⟩ | ⟨_, _, h⟩
                · exact absurd (by rw [← HVC.out]; exact h) hne
                · exact absurd (by rw [← HVC.out]; exact h) hne
                · rw [h])
              have HNE := hid hne
              have hcb : (C == 0) = false := by simpa using hne
              have HFF := hid ((((HPF.out.trans HST.out.fr (by simp)).trans HIN.out.1 (by simp)).trans HFB.out (by simp)).trans hf5 (by simp))
              clear hne hf5 HEN
              go_wp2_with fail
              first | go_returns | skip
              exact HP1.out C _ HE.out HNE.out HFF.out
            · subst h0
              obtain ⟨n64, hn64⟩ : ∃ z, zs.length = z := ⟨_, rfl⟩
              have HN64 := hid hn64
              rw [hn64]
              have HF5 := hid (HFB.out.trans hf5 (by simp))
              have HBK : Hid (BkOk w5 ⟨some ⟨ge, 0, none⟩, n64, zs⟩) := hid ⟨Or.inr ⟨ge, _, rfl, hrow, List.take_of_length_le (by simp [bv_len])⟩, fun i hi => by simp [blk] at hi; subst hi; exact lt_of_heap hrow, by have h1 := HZL.out; have h2 := HN64.out; constructor <;> (simp only; omega)⟩
              have HGE : Hid (wr.heap.size ≤ ge) := hid (by have := HFB.out.size; omega)
              have HOF := hid (HIN.out.2.1.k0 (HFB.out.trans hf5 (by simp)))
              have HA := hid ((Frm.refl [] w5).alloc (.cells #[.slice (some ⟨ge, 0, none⟩) n64 n64] 22))
              have HRV := hid (rv_block (heap_alloc_new w5 (.cells #[.slice (some ⟨ge, 0, none⟩) n64 n64] 22)))
              have HOW := hid (ownsRow_kept HOF.out.ow HA.out (by simp))
              clear hn64 hrow hf5 hge HEN
              go_wp2_with (at_builtin; refine wpList_appV rfl _ _ 25 rfl 22 1 24 _ Try.underlying25 infoK rfl (by decide) q2 j c2 (rowsK fs) rfl HOW.out (some ⟨w5.heap.size, 0, none⟩) 1 1 [.slice (some ⟨ge, 0, none⟩) n64 n64] rfl rfl (by simp) HRV.out (by intro u hu; simp at hu; subst hu; rfl) (by unfold maxLen; omega) (by omega) ?_)
              intro q3 c3 w3 ho3 hf3 hb3
              have HNX : Hid (Frm [] wo w3 ∧ OwnK w3 q3 (j + 1) c3 (fs ++ [⟨some ⟨ge, 0, none⟩, n64, zs⟩]) ∧ NewK wo.heap.size q3 (fs ++ [⟨some ⟨ge, 0, none⟩, n64, zs⟩]) ∧ (fs ++ [(⟨some ⟨ge, 0, none⟩, n64, zs⟩ : Bk)]).map Bk.bs = (xp.ps.take (j + 1)).map ptrB ∧ ∀ p ∈ xp.ps.take (j + 1), checkP p = 0) := hid (by
                obtain ⟨b1, b2, b3, b4, b5⟩ := HIN.out
                have hz := b1.size
                have hz5 := HF5.out.size
                have hzA := HA.out.size
                have hge := HGE.out
                have hlow := ownsRow_low b2.ow
                refine ⟨((b1.trans HF5.out (by simp)).trans HA.out (by simp)).trans hf3.out (fun i hi hl => by have := b3.1 i hi; omega), HOF.out.app (x := ⟨some ⟨ge, 0, none⟩, n64, zs⟩) HBK.out (fun i hi hm => by simp [blk] at hi; have := hlow i hm; omega) (fun y hy i hi hm => by simp [blk] at hi; have := (b2.it y hy).1.lo i hm; omega) HA.out (by have h := ho3.out; rw [← HN64.out] at h ⊢; exact h) hf3.out (fun i hi => (hb3.out i hi).imp (fun h => h) (fun h => by first | exact h | (simp at h ⊢; omega))), ⟨fun i hi => ?_, fun y hy i hi => ?_⟩, ?_, fun y hy => ?_⟩
                · rcases hb3.out i hi with h | h
                  · exact b3.1 i h
                  · first | omega | (simp at h; omega)
                · rcases List.mem_append.1 hy with hy | hy
                  · exact b3.2 y hy i hi
                  · rw [List.mem_singleton] at hy; subst hy; simp [blk] at hi; omega
                · rw [HVJ.out, List.map_append, List.map_append, b4]; simp [HZS.out]
                · rw [HVJ.out] at hy
                  rcases List.mem_append.1 hy with hy | hy
                  · exact b5 y hy
                  · rw [List.mem_singleton] at hy; subst hy; exact HVC.out)
              clear ho3 hf3 hb3 HOW HRV HA
              go_wp2_with fail
              go_roundw
              case rel => exact ⟨j + 1, q3, c3, _, by omega, by go_num, by go_num, HNX⟩
              case measure => first | (simp [intOf]; done) | (simp [intOf]; omega)
          · obtain rfl : j = k := by omega
            have htk : xp.ps.take j = xp.ps := List.take_of_length_le (by rw [HK.out]; exact Nat.le_refl _)
            obtain ⟨b1, b2, b3, b4, b5⟩ := hin.out
            rw [htk] at b4 b5
            have hfl : flat fs = blkOf xp.ps := by unfold flat blkOf; rw [b4]
            have h64 : ∀ x ∈ fs, x.bs.length = 64 := fun x hx => by
              have h1 : x.bs ∈ (xp.ps).map ptrB := by rw [← b4]; exact List.mem_map.2 ⟨x, hx, rfl⟩
              obtain ⟨y, _, hy⟩ := List.mem_map.1 h1
              rw [← hy, ptrB_length]
            have hflen : (flat fs).length ≤ 65536 := by
              have h2 : (flat fs).length = 64 * fs.length := by
                unfold flat
                rw [List.length_flatten, List.map_map]
                have : ∀ l : List Bk, (∀ x ∈ l, x.bs.length = 64) → (l.map (List.length ∘ Bk.bs)).sum = 64 * l.length := fun l => by
                  induction l with
                  | nil => intro _; rfl
                  | cons y l ih => intro hl; rw [List.map_cons, List.sum_cons, ih (fun x hx => hl x (List.mem_cons_of_mem _ hx))]; show y.bs.length + _ = _; rw [hl y List.mem_cons_self, List.length_cons]; omega
                exact this fs h64
              rw [h2, b2.ln]; omega
            have hcap := owns_cap b2.ow
            have HJN := hid (join_any q2 j c2 fs wr b2 hk1 ⟨hcap.1, by have := hcap.2; unfold maxLen at this; omega⟩ hflen (fun x hx h0 => by have := h64 x hx; rw [h0] at this; simp at this))
            have HB1 := hid b1
            have HB5 := hid b5
            have HFL := hid hfl
            have HFLN := hid hflen
            clear b1 b2 b3 b4 b5 hfl h64 hflen hcap hin htk
            go_wp2_with fail
            refine HJN.out.mono ?_
            rintro e w6 ⟨⟨jp, jc, jb⟩, rfl, hjb, hjo, hjf, hjn⟩
            unfold Bk.v
            simp only
            simp only at hjb
            obtain ⟨jn, hjl⟩ : ∃ z, jb.length = z := ⟨_, rfl⟩
            have HJL := hid hjl
            have hjlb : jn ≤ 65536 := by rw [← hjl, hjb]; exact HFLN.out
            rw [hjl]
            have HFX := hid (HB1.out.trans hjf (by simp))
            have HJO := hid hjo
            have HJB : Hid (jb = blkOf xp.ps) := hid (hjb.trans HFL.out)
            have HJW : Hid (∀ i ∈ blk jp, wo.heap.size ≤ i) := hid (fun i hi => by have := hjn i hi; have := HB1.out.size; simp only at *; omega)
            have HPC : Hid ((cutL 16 l)[t]? = some xp.ps ∧ ∀ p ∈ xp.ps, checkP p = 0) := hid ⟨HZC.out, HB5.out⟩
            have HBL := hid (blank_any jp jn jc jb w6 hjo.rd hjl (by omega))
            clear hjb hjo hjf hjn hjl HJN
            go_wp2_with fail
            refine HBL.out.mono ?_
            rintro e w6' ⟨rfl, hww⟩
            subst hww
            by_cases hbk : blank jb = true
            · have HBN : Hid (nb (blkOf xp.ps) = []) := hid (by unfold nb; rw [← HJB.out, if_pos hbk])
              rw [hbk]
              clear hbk HBL
              have HA := hid ((Frm.refl [] w6').alloc (.cells #[.slice none 0 0] 22))
              have HRV := hid (rv_block (heap_alloc_new w6' (.cells #[.slice none 0 0] 22)))
              have HOW := hid (ownsRow_kept (HST.out.ow.k0 HFX.out).ow HA.out (by simp))
              go_wp2_with (at_builtin; refine wpList_appV rfl _ _ 25 rfl 22 1 24 _ Try.underlying25 infoK rfl (by decide) q t cq (rowsK ls) rfl HOW.out (some ⟨w6'.heap.size, 0, none⟩) 1 1 [.slice none 0 0] rfl rfl (by simp) HRV.out (by intro u hu; simp at hu; subst hu; rfl) (by unfold maxLen; omega) (by omega) ?_)
              intro q3 c3 w3 ho3 hf3 hb3
              have HNX : Hid (PackS w1 w3 l (t + 1) q3 c3 (ls ++ [⟨none, 0, []⟩])) := hid (HST.out.next (x := ⟨none, 0, []⟩) HPC.out HFX.out HA.out (⟨bkNil _, HBN.out.symm, by simp [blk]⟩) (by have h := ho3.out; simpa [Bk.v] using h) hf3.out (fun k hk => (hb3.out k hk).imp (fun h => h) (fun h => by first | exact h | (simp at h ⊢; omega))))
              clear ho3 hf3 hb3 HOW HRV HA
              go_wp2_with fail
              go_roundw
              case rel => exact ⟨t + 1, q3, c3, _, by omega, by go_num, by go_num, HNX⟩
              case measure => first | (simp [intOf]; done) | (simp [intOf]; omega)
            · have hbf : blank jb = false := by simpa using hbk
              have HBN : Hid (nb (blkOf xp.ps) = jb) := hid (by unfold nb; rw [← HJB.out, if_neg hbk])
              rw [hbf]
              clear hbk hbf HBL
              have HA := hid ((Frm.refl [] w6').alloc (.cells #[.slice jp jn jc] 22))
              have HRV := hid (rv_block (heap_alloc_new w6' (.cells #[.slice jp jn jc] 22)))
              have HOW := hid (ownsRow_kept (HST.out.ow.k0 HFX.out).ow HA.out (by simp))
              go_wp2_with (at_builtin; refine wpList_appV rfl _ _ 25 rfl 22 1 24 _ Try.underlying25 infoK rfl (by decide) q t cq (rowsK ls) rfl HOW.out (some ⟨w6'.heap.size, 0, none⟩) 1 1 [.slice jp jn jc] rfl rfl (by simp) HRV.out (by intro u hu; simp at hu; subst hu; rfl) (by unfold maxLen; omega) (by omega) ?_)
              intro q3 c3 w3 ho3 hf3 hb3
              have HNX : Hid (PackS w1 w3 l (t + 1) q3 c3 (ls ++ [⟨jp, jc, jb⟩])) := hid (HST.out.next (x := ⟨jp, jc, jb⟩) HPC.out HFX.out HA.out (⟨HJO.out, HBN.out.symm, HJW.out⟩) (by have h := ho3.out; rw [← HJL.out] at h; simpa [Bk.v] using h) hf3.out (fun k hk => (hb3.out k hk).imp (fun h => h) (fun h => by first | exact h | (simp at h ⊢; omega))))
              clear ho3 hf3 hb3 HOW HRV HA
              go_wp2_with fail
              go_roundw
              case rel => exact ⟨t + 1, q3, c3, _, by omega, by go_num, by go_num, HNX⟩
              case measure => first | (simp [intOf]; done) | (simp [intOf]; omega)
      · obtain rfl : t = m := by omega
        have HE : Hid (packE l = 0) := hid (by
          unfold packE
          rw [if_neg (by rw [HL.out]; exact hbig), if_pos (fun y hy => ?_)]
          obtain ⟨x, hx, hyx⟩ := cutL_cover (n := 16) (by omega) hy
          exact hin.out.ok x (by rw [List.take_of_length_le (by rw [HCL.out]; exact Nat.le_refl _)]; exact hx) y hyx)
        have HIN := hid hin.out
        clear hin
        go_wp2_with fail
        first | go_returns | skip
        exact HP2.out q t cq ls _ HE.out HIN.out.ow (by rw [HIN.out.bs, List.take_of_length_le (by rw [HCL.out]; exact Nat.le_refl _)]; rfl) ⟨fun k hk => by have := HIN.out.nw.1 k hk; have := HPF.out.size; omega, fun x hx k hk => by have := HIN.out.nw.2 x hx k hk; have := HPF.out.size; omega⟩ (HPF.out.trans HIN.out.fr (by simp))
end
section
open Go.RowKit Go.Lib
set_option maxRecDepth 100000

def badU (bs : List Int) : Prop := bs.length = 0 ∨ 1024 < bs.length ∨ bs.length % 64 ≠ 0
instance (bs : List Int) : Decidable (badU bs) := by unfold badU; infer_instance
/-- What Unpack answers: an error, or pointers. -/
def unpE (bs : List Int) : Int := if badU bs then 120 else if ∀ x ∈ cutL 64 bs, (decP x).2 = 0 then 0 else 120
def unpL (bs : List Int) : List P9 := (cutL 64 bs).map (fun x => (decP x).1)
def UnpA (w : World) (bs : List Int) (e : Ending) (w' : World) : Prop := Frm [] w w' ∧ ((unpE bs = 120 ∧ e = .returned (.tuple #[.slice none 0 0, .int .i64 120])) ∨ (unpE bs = 0 ∧ ∃ q m cq, e = .returned (.tuple #[.slice q m cq, .int .i64 0]) ∧ w'.ownsRow 0 40 9 (.slice q m cq) m (rowsP (unpL bs)) ∧ m = (unpL bs).length ∧ m ≤ 16 ∧ ∀ k ∈ blk q, w.heap.size ≤ k))
set_option maxHeartbeats 12800000 in
theorem unpack_any (p : Option Addr) (L c : Nat) (bs : List Int) (w : World) (hr : Rd w p bs) (hL : bs.length = L) (hb : L ≤ 140737488351232) (hc : L ≤ c ∧ c ≤ 9223372036854775807) (hz : ∀ z ∈ bs, 0 ≤ z ∧ z < 256) :
    Calls Try.prog 19 #[.slice p L c] w (UnpA w bs) := by
  obtain ⟨PO, hPO⟩ : ∃ PO : Ending → World → Prop, UnpA w bs = PO := ⟨_, rfl⟩
  rw [hPO]
  have HP1 : Hid (∀ w', unpE bs = 120 → Frm [] w w' → PO (.returned (.tuple #[.slice none 0 0, .int .i64 120])) w') := hid (fun w' h1 h3 => by rw [← hPO]; exact ⟨h3, Or.inl ⟨h1, rfl⟩⟩)
  have HP2 : Hid (∀ q m cq w', unpE bs = 0 → w'.ownsRow 0 40 9 (.slice q m cq) m (rowsP (unpL bs)) → m = (unpL bs).length → m ≤ 16 → (∀ k ∈ blk q, w.heap.size ≤ k) → Frm [] w w' → PO (.returned (.tuple #[.slice q m cq, .int .i64 0])) w') := hid (fun q m cq w' h1 h2 h3 h4 h5 h6 => by rw [← hPO]; exact ⟨h6, Or.inr ⟨h1, q, m, cq, rfl, h2, h3, h4, h5⟩⟩)
  have HL := hid hL
  have HZ := hid hz
  by_cases hbad : badU bs
  · have HE : Hid (unpE bs = 120) := hid (by unfold unpE; rw [if_pos hbad])
    have HBAD := hid hbad
    obtain ⟨hc0, hc1⟩ := hc
    clear hr hL hz hPO hbad
    by_cases h0 : L = 0
    · subst h0
      go_enter Try.func19, Try.ntmps19
      go_wp2_with fail
      first | go_returns | skip
      exact HP1.out _ HE.out (Frm.refl _ _)
    · have h0b : ((L : Int) == 0) = false := by simp; omega
      by_cases h1 : 1024 < L
      · go_enter Try.func19, Try.ntmps19
        go_wp2_with fail
        first | go_returns | skip
        exact HP1.out _ HE.out (Frm.refl _ _)
      · have h2 : L % 64 ≠ 0 := by
          rcases HBAD.out with h | h | h <;> rw [HL.out] at h <;> omega
        have h2b : (((L : Int) % 64) != 0) = true := by simp; omega
        have h2c : ((L : Int) % 64 == 0) = false := by simp; omega
        have htm : (L : Int).tmod 64 = ((L % 64 : Nat) : Int) := by rw [Int.tmod_eq_emod_of_nonneg (by omega)]; omega
        have h2d : ((L : Int).tmod 64 != 0) = true := by rw [htm, bne_iff_ne]; omega
        have h2e : ((L : Int).tmod 64 == 0) = false := by rw [htm, beq_eq_false_iff_ne]; omega
        clear htm
        go_enter Try.func19, Try.ntmps19
        go_wp2_with fail
        first | go_returns | skip
        exact HP1.out _ HE.out (Frm.refl _ _)
  · have hnb : L ≠ 0 ∧ L ≤ 1024 ∧ L % 64 = 0 := by unfold badU at hbad; rw [hL] at hbad; omega
    obtain ⟨hn0, hn1, hn2⟩ := hnb
    have HCU := hid (cutb_any 64 (by omega) p L c bs w hr hL hb hc)
    obtain ⟨hc0, hc1⟩ := hc
    have HNB := hid hbad
    have h0b : ((L : Int) == 0) = false := by simp; omega
    have h2c : ((L : Int) % 64 == 0) = true := by simp; omega
    have h2d : ((L : Int) % 64 != 0) = false := by simp; omega
    have htm : (L : Int).tmod 64 = ((L % 64 : Nat) : Int) := by rw [Int.tmod_eq_emod_of_nonneg (by omega)]; omega
    have h2e : ((L : Int).tmod 64 != 0) = false := by rw [htm, hn2]; rfl
    clear htm
    clear hr hL hz hPO hbad
    go_enter Try.func19, Try.ntmps19
    go_wp2_with fail
    refine HCU.out.mono ?_
    rintro e w1 ⟨qp, m, cp, ks, rfl, ho, hks, hf, hnw⟩
    have hmb : m ≤ 16 := by
      rw [← ho.ln, ← List.length_map (f := Bk.bs), hks, cutL_len]
      unfold np
      have := HL.out
      omega
    have HO := hid ho
    have HKS := hid hks
    have HF := hid hf
    have HCL : Hid ((cutL 64 bs).length = m) := hid (by rw [← hks, List.length_map, ho.ln])
    clear ho hks hf hnw HCU h0b h2c h2d h2e
    go_wp2_with fail
    go_loopw [26, 4] (fun i s4 wr => ∃ (t : Nat) (q : Option Addr) (cq : Nat), t ≤ m ∧ i = .int .i64 (t : Int) ∧ s4 = .slice q t cq ∧ Hid (Frm [] w1 wr ∧ wr.ownsRow 0 40 9 (.slice q t cq) t (rowsP (((cutL 64 bs).take t).map (fun x => (decP x).1))) ∧ (∀ k ∈ blk q, w1.heap.size ≤ k) ∧ ∀ x ∈ (cutL 64 bs).take t, (decP x).2 = 0)) (fun i _ _ => m - (intOf i).toNat)
    case atStart => exact ⟨0, none, 0, Nat.zero_le _, rfl, rfl, hid ⟨Frm.refl _ _, ⟨rfl, Or.inl ⟨rfl, rfl⟩⟩, by simp [blk], by simp⟩⟩
    case round =>
      obtain ⟨t, q, cq, ht, rfl, rfl, hin⟩ := hrel
      by_cases hlt : t < m
      · have t1 : (t : Int) < (m : Int) := by omega
        obtain ⟨x, hx⟩ : ∃ x, ks[t]? = some x := ⟨_, List.getElem?_eq_getElem (by rw [HO.out.ln]; exact hlt)⟩
        obtain ⟨g, cur, rfl, _, hgc⟩ := HO.out.at hx
        have hzc : (cutL 64 bs)[t]? = some x.bs := by rw [← HKS.out, List.getElem?_map, hx]; rfl
        obtain ⟨xne, xle, xin⟩ := cutL_mem (n := 64) (by omega) (List.mem_of_getElem? hzc)
        have q0 : wr.cell? ⟨g, t, none⟩ = some (.slice x.p x.bs.length x.c) := (hin.out.1.cell (World.block_lt_of_cell? w1 _ hgc) (by simp)).trans hgc
        have hdc := decode_any x.p x.bs.length x.c x.bs wr rfl (by omega) (((HO.out.it x (List.mem_of_getElem? hx)).1.rd).kept hin.out.1 (by simp)) (fun z hz => HZ.out z (xin z hz))
        have HTK : Hid ((cutL 64 bs).take (t + 1) = (cutL 64 bs).take t ++ [x.bs]) := hid (by rw [List.take_add_one, hzc]; rfl)
        have HZC := hid hzc
        obtain ⟨⟨v, E⟩, hv⟩ : ∃ z, decP x.bs = z := ⟨_, rfl⟩
        rw [hv] at hdc
        have HV := hid hv
        obtain ⟨a0, a1, a2, a3, a4, a5, a6, a7, a8⟩ := v
        unfold P9.arr at hdc
        simp only at hdc
        obtain ⟨xl, hxl⟩ : ∃ z, x.bs.length = z := ⟨_, rfl⟩
        rw [hxl] at hdc q0
        have HDC := hid hdc
        have HIN := hid hin.out
        clear hdc hin hx hgc hzc hv xin xne hxl
        go_wp2_with fail
        refine HDC.out.mono ?_
        rintro e w5 ⟨rfl, hf5⟩
        by_cases hE : E = 0
        · subst hE
          obtain ⟨w6, hw6⟩ : ∃ z, w5.alloc (.cells #[.int .i64 a0, .int .i64 a1, .int .i64 a2, .int .u64 a3, .int .i64 a4, .int .u64 a5, .int .u64 a6, .int .u64 a7, .int .u64 a8] 40) = z := ⟨_, rfl⟩
          have hf6 : Frm [] w5 w6 := by rw [← hw6]; exact (Frm.refl _ _).alloc _
          have hrow6 : w6.heap[w5.heap.size]? = some (.cells #[.int .i64 a0, .int .i64 a1, .int .i64 a2, .int .u64 a3, .int .i64 a4, .int .u64 a5, .int .u64 a6, .int .u64 a7, .int .u64 a8] 40 (0, 0)) := by rw [← hw6]; exact heap_alloc_to _ _ rfl
          obtain ⟨b6, hb6⟩ : ∃ z, w5.heap.size = z := ⟨_, rfl⟩
          rw [hb6] at hrow6
          obtain ⟨y0, y1, y2, y3, y4, y5, y6, y7, y8⟩ := ptr_cells (p := ⟨a0, a1, a2, a3, a4, a5, a6, a7, a8⟩) hrow6
          simp only at y0 y1 y2 y3 y4 y5 y6 y7 y8
          have HF6 := hid (hf5.trans hf6 (by simp))
          have HW6 := hid hw6
          have HB6 := hid hb6
          clear hf5 hf6 hrow6 hw6 hb6 HDC
          go_upto_region 8 with fail
          rw [HB6.out, HW6.out]
          clear HW6 HB6
          have HA := hid ((Frm.refl [] w6).alloc (.cells #[.int .i64 a0, .int .i64 a1, .int .i64 a2, .int .u64 a3, .int .i64 a4, .int .u64 a5, .int .u64 a6, .int .u64 a7, .int .u64 a8] 40))
          have HRV := hid (rv_block (heap_alloc_new w6 (.cells #[.int .i64 a0, .int .i64 a1, .int .i64 a2, .int .u64 a3, .int .i64 a4, .int .u64 a5, .int .u64 a6, .int .u64 a7, .int .u64 a8] 40)))
          have HOW := hid (ownsRow_kept HIN.out.2.1 (HF6.out.trans HA.out (by simp)) (by simp))
          go_wp2_with (at_builtin; refine wpList_appV rfl _ _ 30 rfl 40 9 72 _ Try.underlying30 infoP9 rfl (by decide) q t cq _ rfl HOW.out (some ⟨w6.heap.size, 0, none⟩) 1 1 [.int .i64 a0, .int .i64 a1, .int .i64 a2, .int .u64 a3, .int .i64 a4, .int .u64 a5, .int .u64 a6, .int .u64 a7, .int .u64 a8] rfl rfl (by simp) HRV.out (by intro u hu; simp at hu; rcases hu with rfl | rfl | rfl | rfl | rfl | rfl | rfl | rfl | rfl <;> rfl) (by unfold maxLen; omega) (by omega) ?_)
          intro q3 c3 w3 ho3 hf3 hb3
          have HNX : Hid (Frm [] w1 w3 ∧ w3.ownsRow 0 40 9 (.slice q3 (t + 1) c3) (t + 1) (rowsP (((cutL 64 bs).take (t + 1)).map (fun x => (decP x).1))) ∧ (∀ k ∈ blk q3, w1.heap.size ≤ k) ∧ ∀ x ∈ (cutL 64 bs).take (t + 1), (decP x).2 = 0) := hid (by
            obtain ⟨b1, b2, b3, b4⟩ := HIN.out
            have hz := b1.size
            have hz6 := HF6.out.size
            have hzA := HA.out.size
            refine ⟨((b1.trans HF6.out (by simp)).trans HA.out (by simp)).trans hf3.out (fun i hi hl => by have := b3 i hi; omega), ?_, fun i hi => ?_, fun y hy => ?_⟩
            · have h := ho3.out
              rw [HTK.out, List.map_append, rowsP_app]
              simpa [HV.out, rowsP, P9.arr] using h
            · rcases hb3.out i hi with h | h
              · exact b3 i h
              · first | omega | (simp at h; omega)
            · rw [HTK.out] at hy
              rcases List.mem_append.1 hy with hy | hy
              · exact b4 y hy
              · rw [List.mem_singleton] at hy; subst hy; rw [HV.out])
          clear ho3 hf3 hb3 HOW HRV HA y0 y1 y2 y3 y4 y5 y6 y7 y8
          go_wp2_with fail
          go_roundw
          case rel => exact ⟨t + 1, q3, c3, by omega, by go_num, by go_num, HNX⟩
          case measure => first | (simp [intOf]; done) | (simp [intOf]; omega)
        · have HE : Hid (unpE bs = 120) := hid (by
            unfold unpE
            rw [if_neg HNB.out, if_neg (fun hall => hE (by have := hall x.bs (List.mem_of_getElem? HZC.out); rw [HV.out] at this; exact this))])
          have hcb : (E == 0) = false := by simpa using hE
          have HFF := hid (((HF.out.trans HIN.out.1 (by simp)).trans hf5 (by simp)))
          clear hf5 HDC
          go_wp2_with fail
          first | go_returns | skip
          exact HP1.out _ HE.out (HFF.out.trans ((Frm.refl [] _).alloc _) (by simp))
      · obtain rfl : t = m := by omega
        have htk : (cutL 64 bs).take t = cutL 64 bs := List.take_of_length_le (by rw [HCL.out]; exact Nat.le_refl _)
        have HE : Hid (unpE bs = 0) := hid (by
          unfold unpE
          rw [if_neg HNB.out, if_pos (fun y hy => hin.out.2.2.2 y (by rw [htk]; exact hy))])
        have HOW : Hid (wr.ownsRow 0 40 9 (.slice q t cq) t (rowsP (unpL bs))) := hid (by have h := hin.out.2.1; rw [htk] at h; exact h)
        have HML : Hid (t = (unpL bs).length) := hid (by unfold unpL; rw [List.length_map, HCL.out])
        have HFF := hid (HF.out.trans hin.out.1 (by simp))
        have HNN := hid (fun k hk => by have := hin.out.2.2.1 k hk; have := HF.out.size; exact (show w.heap.size ≤ k by omega))
        clear hin htk
        go_wp2_with fail
        first | go_returns | skip
        exact HP2.out q t cq _ HE.out HOW.out HML.out hmb HNN.out HFF.out
end
end Go.Proofs.Ytkolbijhekbelaa
