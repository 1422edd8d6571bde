/- tree.cut at bytes, Split. tree.cut at pointers. -/
import Derived.Test.YtkolbijhekbelaaQah
import Derived.Test.YtkolbijhekbelaaQad
namespace Go.Proofs.Ytkolbijhekbelaa
section
open Go.RowKit Go.Lib
set_option maxRecDepth 100000

def CutA (w : World) (n : Nat) (bs : List Int) (e : Ending) (w' : World) : Prop := ∃ q m cq ls, e = .returned (.slice q m cq) ∧ OwnK w' q m cq ls ∧ ls.map Bk.bs = cutL n bs ∧ Frm [] w w' ∧ NewK w.heap.size q ls
set_option maxHeartbeats 6400000 in
theorem cutb_any (n : Nat) (hn : 24 ≤ n ∧ n ≤ 1048576) (p : Option Addr) (L c : Nat) (bs : List Int) (w : World) (hr : Rd w p bs) (hL : bs.length = L) (hb : L ≤ 140737488351232) (hc : L ≤ c ∧ c ≤ 9223372036854775807) :
    Calls Try.prog 29 #[.slice p L c, .int .i64 (n : Int)] w (CutA w n bs) := by
  obtain ⟨PO, hPO⟩ : ∃ PO : Ending → World → Prop, CutA w n bs = PO := ⟨_, rfl⟩
  rw [hPO]
  have HP : Hid (∀ q m cq ls w', OwnK w' q m cq ls → ls.map Bk.bs = cutL n bs → Frm [] w w' → NewK w.heap.size q ls → PO (.returned (.slice q m cq)) w') := hid (fun q m cq ls w' h1 h2 h3 h4 => by rw [← hPO]; exact ⟨q, m, cq, ls, rfl, h1, h2, h3, h4⟩)
  have HR := hid hr
  have HL := hid hL
  obtain ⟨hn24, hn1⟩ := hn
  have hn0 : 0 < n := by omega
  clear hr hL hPO
  go_enter Try.func29, Try.ntmps29
  go_wp2_with fail
  go_loopw [0, 5] (fun s0 s5 wr => ∃ (t r : Nat) (pa : Option Addr) (ca : Nat) (q : Option Addr) (cq : Nat) (ls : List Bk), s0 = .slice pa r ca ∧ s5 = .slice q t cq ∧ r ≤ L ∧ r ≤ ca ∧ ca ≤ 9223372036854775807 ∧ t ≤ L ∧ Hid (t * n + r = L ∨ (r = 0 ∧ L ≤ t * n ∧ t * n < L + n)) ∧ Hid (Frm [] w wr ∧ Rd w pa (bs.drop (t * n)) ∧ OwnK wr q t cq ls ∧ ls.map Bk.bs = (List.range t).map (fun i => pc n i bs) ∧ NewK w.heap.size q ls)) (fun s0 _ _ => lenK s0)
  case atStart => exact ⟨0, L, p, c, none, 0, [], rfl, rfl, Nat.le_refl _, hc.1, hc.2, Nat.zero_le _, hid (Or.inl (by omega)), hid ⟨Frm.refl _ _, by simpa using HR.out, OwnK.nil _, rfl, by simp [blk], by simp⟩⟩
  case round =>
    obtain ⟨t, r, pa, ca, q, cq, ls, rfl, rfl, hrL, hrc, hca, htL, hT, hin⟩ := hrel
    by_cases hlt : 0 < r
    · have t1 : (0 : Int) < (r : Int) := by omega
      obtain ⟨k, hk⟩ : ∃ k, min n r = k := ⟨_, rfl⟩
      have hkb : 0 < k ∧ k ≤ r ∧ k ≤ n ∧ k ≤ ca ∧ (k = n ∨ k = r) := by omega
      have hmin : ∀ (ts : Array TypeId) (ty : TypeId) (W : World), Sem.run Try.prog (Builtin.min_ ts ty #[.int .i64 (n : Int), .int .i64 (r : Int)]) W = .ok (.int .i64 (k : Int)) W := by
        intro ts ty W
        have h := run_min_int2 (P := Try.prog) (w := W) ts ty .i64 .i64 (n : Int) (r : Int)
        rw [h]
        have e : (if (r : Int) < (n : Int) then (r : Int) else (n : Int)) = (k : Int) := by split <;> omega
        first | rw [e] | simp [e] | (simp; omega)
      have hTT : Hid (t * n + r = L) := hid (by rcases hT.out with h | h <;> omega)
      have hsl1 := fun W => sl_h (P := Try.prog) Try.underlying22 infoU8 pa r ca k (by omega) W
      obtain ⟨pp, hsl2, hrp⟩ := slice_low Try.underlying22 infoU8 pa (bs.drop (t * n)) r ca k (by rw [List.length_drop, HL.out]; have := hTT.out; omega) (by omega) hrc w hin.out.2.1
      have HRP : Hid (Rd w pp (bs.drop ((t + 1) * n))) := hid (by
        rw [List.drop_drop] at hrp
        rcases Nat.lt_or_ge r n with h1 | h1
        · rw [List.drop_of_length_le (by rw [HL.out, Nat.succ_mul]; have := hTT.out; omega)]; exact Or.inl rfl
        · rw [Nat.succ_mul, show n = k by omega]; rw [show n = k by omega] at hrp; exact hrp)
      have hpl : ((bs.drop (t * n)).take k).length = k := by rw [List.length_take, List.length_drop, HL.out]; have := hTT.out; omega
      have hpe : (bs.drop (t * n)).take k = pc n t bs := by
        unfold pc
        rcases Nat.lt_or_ge r n with h1 | h1
        · rw [List.take_of_length_le (by rw [List.length_drop, HL.out]; have := hTT.out; omega), List.take_of_length_le (by rw [List.length_drop, HL.out]; have := hTT.out; omega)]
        · rw [show k = n by omega]
      have HPL := hid hpl
      have HPE := hid hpe
      have HIN := hid hin.out
      have HOE : Hid (Own (wr.alloc (.cells #[] 5)) 5 (.slice (some ⟨wr.heap.size, 0, none⟩) ([] : List Int).length 0) []) := hid ⟨rfl, Or.inr ⟨wr.heap.size, 0, #[], rfl, by omega, heap_alloc_new _ _, by simp, by unfold maxLen; omega, rfl, rfl⟩⟩
      have HRT := hid (((hin.out.2.1.take k).kept hin.out.1 (by simp)).alloc (.cells #[] 5))
      have hkb1 := hkb.1
      have hb24 : t * 24 ≤ L := by have h1 := Nat.mul_le_mul_left t hn24; have h2 := hTT.out; omega
      clear hrp hpl hpe hin hT hk
      go_wp2_with (at_builtin; refine wpList_appB rfl _ _ 22 rfl 5 Try.underlying22 infoU8 (some ⟨wr.heap.size, 0, none⟩) 0 0 [] rfl rfl HOE.out pa k ca ((bs.drop (t * n)).take k) rfl HPL.out.symm (fun h0 _ => by have := HPL.out; rw [h0] at this; simp at this; omega) HRT.out (by rw [HPL.out]; show 0 + k ≤ _; omega) ?_)
      intro xs p2 c2 w1 hxs ho1 hf1 hb1
      have HXS : Hid (xs = pc n t bs ∧ xs.length = k) := hid (by
        have h : xs = (bs.drop (t * n)).take k := by simpa using hxs.out
        rw [h]; exact ⟨HPE.out, HPL.out⟩)
      have hf1' : Frm [] wr w1 := ((Frm.refl [] wr).alloc (.cells #[] 5)).trans hf1.out (fun i hi hl => by simp [blk] at hi; omega)
      have HB1 : Hid (∀ i ∈ blk p2, wr.heap.size ≤ i) := hid (fun i hi => (hb1.out i hi).elim (fun h => by simp [blk] at h; omega) (fun h => by first | omega | (simp at h; omega)))
      have HO1 := hid ho1.out
      have HF1 := hid hf1'
      obtain ⟨kx, hkx⟩ : ∃ q, xs.length = q := ⟨_, rfl⟩
      have HKX := hid hkx
      rw [hkx]
      have HA := hid ((Frm.refl [] w1).alloc (.cells #[.slice p2 kx c2] 22))
      have HRV := hid (rv_block (heap_alloc_new w1 (.cells #[.slice p2 kx c2] 22)))
      have HOW := hid (ownsRow_kept HIN.out.2.2.1.ow (hf1'.trans HA.out (by simp)) (by simp))
      clear hxs ho1 hf1 hb1 hf1' hkx HOE HRT
      go_wp2_with (at_builtin; refine wpList_appV rfl _ _ 25 rfl 22 1 24 _ Try.underlying25 infoK rfl (by decide) q t cq (rowsK ls) rfl HOW.out (some ⟨w1.heap.size, 0, none⟩) 1 1 [.slice p2 kx c2] rfl rfl (by simp) HRV.out (by intro u hu; simp at hu; subst hu; rfl) (by unfold maxLen; omega) (by omega) ?_)
      intro q3 c3 w3 ho3 hf3 hb3
      have HNX : Hid (Frm [] w w3 ∧ OwnK w3 q3 (t + 1) c3 (ls ++ [⟨p2, c2, xs⟩]) ∧ (ls ++ [(⟨p2, c2, xs⟩ : Bk)]).map Bk.bs = (List.range (t + 1)).map (fun i => pc n i bs) ∧ NewK w.heap.size q3 (ls ++ [⟨p2, c2, xs⟩])) := hid (by
        obtain ⟨a1, a2, a3, a4, a5⟩ := HIN.out
        have hz := a1.size
        have hz1 := HF1.out.size
        have hzA := HA.out.size
        have hlow := ownsRow_low a3.ow
        have hx : BkOk w1 (⟨p2, c2, xs⟩ : Bk) := BkOk.of_own (x := ⟨p2, c2, xs⟩) HO1.out
        have hap := (a3.k0 HF1.out).app (x := ⟨p2, c2, xs⟩) hx (fun i hi hq => by have := HB1.out i hi; have := hlow i hq; omega) (fun y hy i hi hq => by have := HB1.out i hi; have := (a3.it y hy).1.lo i hq; omega) HA.out (by have h := ho3.out; rw [← HKX.out] at h; exact h) hf3.out (fun i hi => (hb3.out i hi).imp (fun h => h) (fun h => by simp at h ⊢; omega))
        refine ⟨?_, hap, ?_, fun i hi => ?_, fun y hy i hi => ?_⟩
        · exact ((a1.trans HF1.out (by simp)).trans HA.out (by simp)).trans hf3.out (fun i hi hl => by have := a5.1 i hi; omega)
        · rw [List.map_append, a4, List.range_succ, List.map_append, List.map_singleton, List.map_singleton]; exact congrArg (fun z => _ ++ [z]) HXS.out.1
        · rcases hb3.out i hi with h | h
          · exact a5.1 i h
          · first | omega | (simp at h; omega)
        · rcases List.mem_append.1 hy with hy | hy
          · exact a5.2 y hy i hi
          · rw [List.mem_singleton] at hy; subst hy; have := HB1.out i hi; omega)
      have HT2 : Hid ((t + 1) * n + (r - k) = L ∨ (r - k = 0 ∧ L ≤ (t + 1) * n ∧ (t + 1) * n < L + n)) := hid (by have := hTT.out; rw [Nat.succ_mul]; omega)
      have hb2 : r - k ≤ L ∧ r - k ≤ ca - k ∧ ca - k ≤ 9223372036854775807 ∧ t + 1 ≤ L := by
        have h1 := hTT.out
        have h2 : t ≤ t * n := Nat.le_mul_of_pos_right t hn0
        omega
      have hlt2 : r - k < r := by omega
      clear ho3 hf3 hb3 HOW HRV HA HIN hmin hsl1
      go_wp2_with fail
      go_roundw
      case rel => exact ⟨t + 1, r - k, pp, ca - k, q3, c3, _, rfl, by go_num, hb2.1, hb2.2.1, hb2.2.2.1, hb2.2.2.2, HT2, hid ⟨HNX.out.1, HRP.out, HNX.out.2.1, HNX.out.2.2.1, HNX.out.2.2.2⟩⟩
      case measure => first | (simp [lenK]; done) | (simp [lenK]; omega)
    · obtain rfl : r = 0 := by omega
      have HFIN : Hid (np n L = t) := hid (by rcases hT.out with h | ⟨_, h1, h2⟩ <;> exact np_eq hn0 (by omega) (by omega))
      have HIN := hid hin.out
      clear hin hT
      go_wp2_with fail
      first | go_returns | skip
      exact HP.out q t cq ls wr HIN.out.2.2.1 (by rw [HIN.out.2.2.2.1]; unfold cutL; rw [HL.out, HFIN.out]) HIN.out.1 HIN.out.2.2.2.2
/-- One block of the list, another value. -/
theorem rowsK_set : ∀ (ls : List Bk) (i : Nat) (y : Bk), rowsK (ls.set i y) = (rowsK ls).set i y.v := fun ls i y => by unfold rowsK; rw [List.map_set]
theorem OwnK.put {w : World} {q : Option Addr} {n c g i : Nat} {ls : List Bk} {x : Bk} (h : OwnK w q n c ls) (hq : q = some ⟨g, 0, none⟩) (hx : ls[i]? = some x) : OwnK (w.setCell ⟨g, i, none⟩ (.slice none 0 0)) q n c (ls.set i ⟨none, 0, []⟩) ∧ Frm [g] w (w.setCell ⟨g, i, none⟩ (.slice none 0 0)) := by
  have hf : Frm [g] w (w.setCell ⟨g, i, none⟩ (.slice none 0 0)) := (Frm.refl _ _).setCell _ _ (by simp)
  have hi : i < n := by rw [← h.ln]; exact (List.getElem?_eq_some_iff.1 hx).1
  subst hq
  refine ⟨⟨?_, by rw [List.length_set]; exact h.ln, fun y hy => ?_, fun a b y z hab hy hz k hk hkz => ?_⟩, hf⟩
  · obtain ⟨h0, ⟨_, h1⟩ | ⟨g', c', cur, he, hb, hg, hnc, hm, hs, ht⟩⟩ := h.ow
    · omega
    · have he' := he
      simp only [Value.slice.injEq, Option.some.injEq, Addr.mk.injEq, and_true, true_and] at he'
      obtain ⟨rfl, rfl⟩ := he'
      refine ⟨by rw [rowsK_len, List.length_set, h.ln]; omega, Or.inr ⟨g, c, _, rfl, Nat.zero_le _, heap_setCell_same w g i cur _ (.slice none 0 0) hg, hnc, hm, by simpa using hs, ?_⟩⟩
      rw [rowsK_set, Array.toList_setIfInBounds, List.take_set, ht]
      rfl
  · have h2 := List.mem_or_eq_of_mem_set hy
    rcases h2 with h2 | rfl
    · exact ⟨(h.it y h2).1.kept hf (fun k hk hm => by rw [List.mem_singleton] at hm; exact (h.it y h2).2 k hk (by simp [blk, hm])), (h.it y h2).2⟩
    · exact ⟨⟨Or.inl rfl, by simp [blk], by simp⟩, by simp [blk]⟩
  · rw [List.getElem?_set] at hy hz
    have hil : i < ls.length := by rw [h.ln]; exact hi
    by_cases e1 : i = a
    · subst e1
      simp only [if_true, if_pos hil, Option.some.injEq] at hy
      subst hy
      simp [blk] at hk
    · rw [if_neg e1] at hy
      by_cases e2 : i = b
      · subst e2
        simp only [if_true, if_pos hil, Option.some.injEq] at hz
        subst hz
        simp [blk] at hkz
      · rw [if_neg e2] at hz
        exact h.ap a b y z hab hy hz k hk hkz
/-- Bytes as blocks, one of noughts alone as none. -/
def splitL (bs : List Int) : List (List Int) := (cutL 1024 bs).map (fun x => if blank x then [] else x)
theorem cutL_len {α : Type} (n : Nat) (l : List α) : (cutL n l).length = np n l.length := by simp [cutL]
theorem pc_len {α : Type} (n i : Nat) (l : List α) : (pc n i l).length ≤ n := by unfold pc; rw [List.length_take]; omega
def SplitA (w : World) (bs : List Int) (e : Ending) (w' : World) : Prop := ∃ q m cq ls, e = .returned (.slice q m cq) ∧ OwnK w' q m cq ls ∧ ls.map Bk.bs = splitL bs ∧ Frm [] w w' ∧ NewK w.heap.size q ls
set_option maxHeartbeats 6400000 in
theorem split_any (p : Option Addr) (L c : Nat) (bs : List Int) (w : World) (hr : Rd w p bs) (hL : bs.length = L) (hb : L ≤ 140737488351232) (hc : L ≤ c ∧ c ≤ 9223372036854775807) :
    Calls Try.prog 11 #[.slice p L c] w (SplitA w bs) := by
  obtain ⟨PO, hPO⟩ : ∃ PO : Ending → World → Prop, SplitA w bs = PO := ⟨_, rfl⟩
  rw [hPO]
  have HP : Hid (∀ q m cq ls w', OwnK w' q m cq ls → ls.map Bk.bs = splitL bs → Frm [] w w' → NewK w.heap.size q ls → PO (.returned (.slice q m cq)) w') := hid (fun q m cq ls w' h1 h2 h3 h4 => by rw [← hPO]; exact ⟨q, m, cq, ls, rfl, h1, h2, h3, h4⟩)
  have HCU := hid (cutb_any 1024 (by omega) p L c bs w hr hL hb hc)
  have HNB : Hid (np 1024 bs.length ≤ 140737488351232) := hid (by unfold np; rw [hL]; omega)
  clear hPO hr hL
  go_enter Try.func11, Try.ntmps11
  go_wp2_with fail
  refine HCU.out.mono ?_
  rintro e w1 ⟨q, m, cq, ls, rfl, ho, hls, hf, hnw⟩
  have hmb : m ≤ 140737488351232 := by rw [← ho.ln, ← List.length_map (f := Bk.bs), hls, cutL_len]; exact HNB.out
  have HLS := hid hls
  have HO := hid ho
  have HF := hid hf
  have HNW := hid hnw
  clear ho hls hf hnw HCU
  go_wp2_with fail
  go_loopw [9] (fun i wr => ∃ (t : Nat) (ks : List Bk), t ≤ m ∧ i = .int .i64 (t : Int) ∧ Hid (Frm [] w wr ∧ OwnK wr q m cq ks ∧ NewK w.heap.size q ks ∧ ks.map Bk.bs = ((cutL 1024 bs).take t).map (fun x => if blank x then [] else x) ++ (cutL 1024 bs).drop t ∧ ∀ x ∈ ks, x.bs.length ≤ 1024)) (fun i _ => m - (intOf i).toNat)
  case atStart => exact ⟨0, ls, Nat.zero_le _, rfl, hid ⟨HF.out, HO.out, HNW.out, by simpa using HLS.out, fun x hx => by
    have h1 : x.bs ∈ cutL 1024 bs := by rw [← HLS.out]; exact List.mem_map.2 ⟨x, hx, rfl⟩
    unfold cutL at h1
    obtain ⟨i, _, h2⟩ := List.mem_map.1 h1
    rw [← h2]; exact pc_len _ _ _⟩⟩
  case round =>
    obtain ⟨t, ks, ht, rfl, hin⟩ := hrel
    by_cases hlt : t < m
    · have t1 : (t : Int) < (m : Int) := by omega
      obtain ⟨x, hx⟩ : ∃ x, ks[t]? = some x := ⟨_, List.getElem?_eq_getElem (by rw [hin.out.2.1.ln]; exact hlt)⟩
      have HX := hid hx
      obtain ⟨g, cur, rfl, hg, hc0⟩ := hin.out.2.1.at hx
      have hzf := frozen_of_row wr g t _ _ hg
      have hxm := List.mem_of_getElem? hx
      have HBL := hid (blank_any x.p x.bs.length x.c x.bs wr (hin.out.2.1.it x hxm).1.rd rfl (by have := hin.out.2.2.2.2 x hxm; omega))
      have hclen : (cutL 1024 bs).length = m := by rw [← HLS.out, List.length_map, HO.out.ln]
      have hxb : (cutL 1024 bs)[t]? = some x.bs := by
        have h1 : (ks.map Bk.bs)[t]? = some x.bs := by rw [List.getElem?_map, hx]; rfl
        rw [hin.out.2.2.2.1, List.getElem?_append_right (by rw [List.length_map, List.length_take]; omega), List.length_map, List.length_take, List.getElem?_drop] at h1
        rw [← h1]; congr 1; omega
      have HTK : Hid ((cutL 1024 bs).take (t + 1) = (cutL 1024 bs).take t ++ [x.bs] ∧ (cutL 1024 bs).drop t = x.bs :: (cutL 1024 bs).drop (t + 1)) := hid ⟨by rw [List.take_add_one, hxb]; rfl, by rw [List.drop_eq_getElem_cons (List.getElem?_eq_some_iff.1 hxb).1, (List.getElem?_eq_some_iff.1 hxb).2]⟩
      have HCL := hid hclen
      have HIN := hid hin.out
      clear hin hx hxm hxb hclen hg
      go_wp2_with fail
      refine HBL.out.mono ?_
      rintro e w2 ⟨rfl, hww⟩
      subst hww
      by_cases hbk : blank x.bs = true
      · obtain ⟨hp1, hp2⟩ := HIN.out.2.1.put rfl HX.out
        have HNX : Hid (Frm [] w (w2.setCell ⟨g, t, none⟩ (.slice none 0 0)) ∧ OwnK (w2.setCell ⟨g, t, none⟩ (.slice none 0 0)) (some ⟨g, 0, none⟩) m cq (ks.set t ⟨none, 0, []⟩) ∧ NewK w.heap.size (some ⟨g, 0, none⟩) (ks.set t ⟨none, 0, []⟩) ∧ (ks.set t ⟨none, 0, []⟩).map Bk.bs = ((cutL 1024 bs).take (t + 1)).map (fun x => if blank x then [] else x) ++ (cutL 1024 bs).drop (t + 1) ∧ ∀ x ∈ ks.set t ⟨none, 0, []⟩, x.bs.length ≤ 1024) := hid (by
          obtain ⟨a1, a2, a3, a4, a5⟩ := HIN.out
          have hg0 := a3.1 g (by simp [blk])
          refine ⟨a1.trans hp2 (fun k hk hl => by rw [List.mem_singleton] at hk; omega), hp1, ⟨a3.1, fun y hy => ?_⟩, ?_, fun y hy => ?_⟩
          · rcases List.mem_or_eq_of_mem_set hy with h | rfl
            · exact a3.2 y h
            · simp [blk]
          · rw [List.map_set, a4, HTK.out.2, HTK.out.1, List.map_append, List.set_append_right _ _ (by rw [List.length_map, List.length_take]; omega)]
            have : t - (((cutL 1024 bs).take t).map (fun x => if blank x then [] else x)).length = 0 := by rw [List.length_map, List.length_take, HCL.out]; omega
            rw [this, List.set_cons_zero]
            simp [hbk]
          · rcases List.mem_or_eq_of_mem_set hy with h | rfl
            · exact a5 y h
            · simp)
        rw [hbk]
        clear hp1 hp2 hbk
        go_wp2_with fail
        go_roundw
        case rel => exact ⟨t + 1, _, by omega, by go_num, HNX⟩
        case measure => first | (simp [intOf]; done) | (simp [intOf]; omega)
      · have hbf : blank x.bs = false := by simpa using hbk
        have HNX : Hid (ks.map Bk.bs = ((cutL 1024 bs).take (t + 1)).map (fun x => if blank x then [] else x) ++ (cutL 1024 bs).drop (t + 1)) := hid (by
          rw [HIN.out.2.2.2.1, HTK.out.2, HTK.out.1, List.map_append, List.append_assoc]
          simp [hbf])
        rw [hbf]
        clear hbk hbf
        go_wp2_with fail
        go_roundw
        case rel => exact ⟨t + 1, ks, by omega, by go_num, hid ⟨HIN.out.1, HIN.out.2.1, HIN.out.2.2.1, HNX.out, HIN.out.2.2.2.2⟩⟩
        case measure => first | (simp [intOf]; done) | (simp [intOf]; omega)
    · obtain rfl : t = m := by omega
      have HIN := hid hin.out
      clear hin
      have hclen : (cutL 1024 bs).length = t := by rw [← HLS.out, List.length_map, HO.out.ln]
      have HCL := hid hclen
      clear hclen
      go_wp2_with fail
      first | go_returns | skip
      exact HP.out q t cq ks _ HIN.out.2.1 (by rw [HIN.out.2.2.2.1, List.take_of_length_le (by rw [HCL.out]; exact Nat.le_refl _), List.drop_of_length_le (by rw [HCL.out]; exact Nat.le_refl _), List.append_nil]; rfl) HIN.out.1 HIN.out.2.2.1
end
section
open Go.RowKit Go.Lib
set_option maxRecDepth 100000

def rowsP : List P9 → List Value
  | [] => []
  | p :: l => p.arr.toList ++ rowsP l
theorem rowsP_len : ∀ l : List P9, (rowsP l).length = l.length * 9
  | [] => rfl
  | p :: l => by simp only [rowsP, List.length_append, rowsP_len l, List.length_cons]; show 9 + _ = _; omega
theorem rowsP_app : ∀ a b : List P9, rowsP (a ++ b) = rowsP a ++ rowsP b
  | [], b => rfl
  | p :: a, b => by simp [rowsP, rowsP_app a b]
theorem rowsP_take : ∀ (k : Nat) (l : List P9), (rowsP l).take (k * 9) = rowsP (l.take k)
  | 0, l => by simp [rowsP]
  | k + 1, [] => by simp [rowsP]
  | k + 1, p :: l => by
    rw [rowsP, List.take_succ_cons, rowsP, ← rowsP_take k l, show (k + 1) * 9 = p.arr.toList.length + k * 9 by show _ = 9 + _; omega, List.take_length_add_append]
theorem rowsP_drop : ∀ (k : Nat) (l : List P9), (rowsP l).drop (k * 9) = rowsP (l.drop k)
  | 0, l => by simp
  | k + 1, [] => by simp [rowsP]
  | k + 1, p :: l => by
    rw [rowsP, List.drop_succ_cons, ← rowsP_drop k l, show (k + 1) * 9 = p.arr.toList.length + k * 9 by show _ = 9 + _; omega, List.drop_length_add_append]
theorem rowsP_get : ∀ (l : List P9) (i : Nat) (v : P9), l[i]? = some v → ∀ (j : Nat) (u : Value), v.arr.toList[j]? = some u → (rowsP l)[i * 9 + j]? = some u
  | [], i, v, h, _, _, _ => by simp at h
  | x :: l, 0, v, h, j, u, hu => by
    simp at h; subst h
    have hj : j < 9 := (List.getElem?_eq_some_iff.1 hu).1
    rw [rowsP, List.getElem?_append_left (by show _ < 9; omega), Nat.zero_mul, Nat.zero_add]
    exact hu
  | x :: l, i + 1, v, h, j, u, hu => by
    simp only [List.getElem?_cons_succ] at h
    have h1 := rowsP_get l i v h j u hu
    rw [rowsP, List.getElem?_append_right (by show 9 ≤ _; omega)]
    show (rowsP l)[(i + 1) * 9 + j - 9]? = some u
    rw [show (i + 1) * 9 + j - 9 = i * 9 + j by omega]
    exact h1
theorem rowsP_one (l : List P9) : ∀ u ∈ rowsP l, u.oneCell' = true := by
  induction l with
  | nil => intro u hu; simp [rowsP] at hu
  | cons p l ih =>
    intro u hu
    rw [rowsP] at hu
    rcases List.mem_append.1 hu with h | h
    · simp [P9.arr] at h
      rcases h with rfl | rfl | rfl | rfl | rfl | rfl | rfl | rfl | rfl <;> rfl
    · exact ih u h
theorem infoP9 : (Try.prog.info? 40).map (fun i => (i.zero, i.size, i.bytes)) = some (some (.agg #[.int .i64 0, .int .i64 0, .int .i64 0, .int .u64 0, .int .i64 0, .int .u64 0, .int .u64 0, .int .u64 0, .int .u64 0]), 9, 72) := by kernel_rfl
theorem infoPs : (Try.prog.info? 30).map (fun i => (i.zero, i.size, i.bytes)) = some (some (.slice none 0 0), 1, 24) := by kernel_rfl
/-- A piece: where it lies, its room, its pointers. -/
structure Bp where
  p : Option Addr
  c : Nat
  ps : List P9
def Bp.v (x : Bp) : Value := .slice x.p x.ps.length x.c
def rowsB (ls : List Bp) : List Value := ls.map Bp.v
theorem rowsB_len (ls : List Bp) : (rowsB ls).length = ls.length := by simp [rowsB]
/-- A list of pieces that can be read. -/
structure OwnB (w : World) (q : Option Addr) (n c : Nat) (ls : List Bp) : Prop where
  ow : w.ownsRow 0 30 1 (.slice q n c) n (rowsB ls)
  ln : ls.length = n
  it : ∀ x ∈ ls, Rv w x.p (rowsP x.ps) ∧ (∀ k ∈ blk x.p, k ∉ blk q ∧ k < w.heap.size) ∧ x.ps.length ≤ x.c
theorem OwnB.k0 {w w' : World} {q : Option Addr} {n c : Nat} {ls : List Bp} (h : OwnB w q n c ls) (hf : Frm [] w w') : OwnB w' q n c ls :=
  ⟨ownsRow_kept h.ow hf (by simp), h.ln, fun x hx => ⟨(h.it x hx).1.kept hf (by simp), fun k hk => ⟨((h.it x hx).2.1 k hk).1, Nat.lt_of_lt_of_le ((h.it x hx).2.1 k hk).2 hf.size⟩, (h.it x hx).2.2⟩⟩
theorem OwnB.at {w : World} {q : Option Addr} {n c : Nat} {ls : List Bp} (h : OwnB w q n c ls) {i : Nat} {x : Bp} (hx : ls[i]? = some x) : ∃ g, q = some ⟨g, 0, none⟩ ∧ w.cell? ⟨g, i, none⟩ = some (.slice x.p x.ps.length x.c) := by
  have hlt : i < n := by rw [← h.ln]; exact (List.getElem?_eq_some_iff.1 hx).1
  rcases h.ow.2 with ⟨_, h0⟩ | ⟨g, c', cur, he, _, hg, _⟩
  · omega
  · simp only [Value.slice.injEq] at he
    obtain ⟨rfl, _, _⟩ := he
    refine ⟨g, rfl, ?_⟩
    rw [World.ownsRow.cellAt h.ow i (by omega)]
    simp [rowsB, hx, Bp.v]
def CutP (w : World) (n : Nat) (l : List P9) (e : Ending) (w' : World) : Prop := ∃ q m cq ls, e = .returned (.slice q m cq) ∧ OwnB w' q m cq ls ∧ ls.map Bp.ps = cutL n l ∧ Frm [] w w' ∧ ∀ k ∈ blk q, w.heap.size ≤ k
set_option maxHeartbeats 6400000 in
theorem cutp_any (n : Nat) (hn : 1 ≤ n ∧ n ≤ 1048576) (p : Option Addr) (L c : Nat) (l : List P9) (w : World) (hr : Rv w p (rowsP l)) (hL : l.length = L) (hb : L ≤ 1000000) (hc : L ≤ c ∧ c ≤ 9223372036854775807) :
    Calls Try.prog 31 #[.slice p L c, .int .i64 (n : Int)] w (CutP w n l) := by
  obtain ⟨PO, hPO⟩ : ∃ PO : Ending → World → Prop, CutP w n l = PO := ⟨_, rfl⟩
  rw [hPO]
  have HP : Hid (∀ q m cq ls w', OwnB w' q m cq ls → ls.map Bp.ps = cutL n l → Frm [] w w' → (∀ k ∈ blk q, w.heap.size ≤ k) → PO (.returned (.slice q m cq)) w') := hid (fun q m cq ls w' h1 h2 h3 h4 => by rw [← hPO]; exact ⟨q, m, cq, ls, rfl, h1, h2, h3, h4⟩)
  have HR := hid hr
  have HL := hid hL
  obtain ⟨hn0, hn1⟩ := hn
  clear hr hL hPO
  go_enter Try.func31, Try.ntmps31
  go_wp2_with fail
  go_loopw [0, 5] (fun s0 s5 wr => ∃ (t r : Nat) (pa : Option Addr) (ca : Nat) (q : Option Addr) (cq : Nat) (ls : List Bp), s0 = .slice pa r ca ∧ s5 = .slice q t cq ∧ r ≤ L ∧ r ≤ ca ∧ ca ≤ 9223372036854775807 ∧ t ≤ L ∧ Hid (t * n + r = L ∨ (r = 0 ∧ L ≤ t * n ∧ t * n < L + n)) ∧ Hid (Frm [] w wr ∧ Rv w pa (rowsP (l.drop (t * n))) ∧ OwnB wr q t cq ls ∧ ls.map Bp.ps = (List.range t).map (fun i => pc n i l) ∧ ∀ k ∈ blk q, w.heap.size ≤ k)) (fun s0 _ _ => lenK s0)
  case atStart => exact ⟨0, L, p, c, none, 0, [], rfl, rfl, Nat.le_refl _, hc.1, hc.2, Nat.zero_le _, hid (Or.inl (by omega)), hid ⟨Frm.refl _ _, by simpa using HR.out, ⟨⟨rfl, Or.inl ⟨rfl, rfl⟩⟩, rfl, by simp⟩, rfl, by simp [blk]⟩⟩
  case round =>
    obtain ⟨t, r, pa, ca, q, cq, ls, rfl, rfl, hrL, hrc, hca, htL, hT, hin⟩ := hrel
    by_cases hlt : 0 < r
    · have t1 : (0 : Int) < (r : Int) := by omega
      obtain ⟨k, hk⟩ : ∃ k, min n r = k := ⟨_, rfl⟩
      have hkb : 0 < k ∧ k ≤ r ∧ k ≤ n ∧ k ≤ ca ∧ (k = n ∨ k = r) := by omega
      have hmin : ∀ (ts : Array TypeId) (ty : TypeId) (W : World), Sem.run Try.prog (Builtin.min_ ts ty #[.int .i64 (n : Int), .int .i64 (r : Int)]) W = .ok (.int .i64 (k : Int)) W := by
        intro ts ty W
        have h := run_min_int2 (P := Try.prog) (w := W) ts ty .i64 .i64 (n : Int) (r : Int)
        rw [h]
        have e : (if (r : Int) < (n : Int) then (r : Int) else (n : Int)) = (k : Int) := by split <;> omega
        first | rw [e] | simp [e] | (simp; omega)
      have hTT : Hid (t * n + r = L) := hid (by rcases hT.out with h | h <;> omega)
      have hsl1 := fun W => sl_h (P := Try.prog) Try.underlying30 infoP9 pa r ca k (by omega) W
      have hsl2 := fun W => sl_l (P := Try.prog) Try.underlying30 infoP9 pa r ca k (by omega) W
      have hdl : (l.drop (t * n)).length = r := by rw [List.length_drop, HL.out]; have := hTT.out; omega
      have hrp := partAt_rv (sz := 9) pa ca k (rowsP (l.drop (t * n))) r (by rw [rowsP_len, hdl]) (by omega) hrc hin.out.2.1
      rw [rowsP_drop, List.drop_drop] at hrp
      obtain ⟨pp, hpp⟩ : ∃ z, partAt pa ca k 9 = z := ⟨_, rfl⟩
      rw [hpp] at hrp hsl2
      have HRP : Hid (Rv w pp (rowsP (l.drop ((t + 1) * n)))) := hid (by
        rcases Nat.lt_or_ge r n with h1 | h1
        · rw [List.drop_of_length_le (by rw [HL.out, Nat.succ_mul]; have := hTT.out; omega)]; exact Or.inl rfl
        · rw [Nat.succ_mul, show n = k by omega]; rw [show n = k by omega] at hrp; exact hrp)
      have hpl : ((l.drop (t * n)).take k).length = k := by rw [List.length_take, hdl]; omega
      have hpe : (l.drop (t * n)).take k = pc n t l := by
        unfold pc
        rcases Nat.lt_or_ge r n with h1 | h1
        · rw [List.take_of_length_le (by omega), List.take_of_length_le (by omega)]
        · rw [show k = n by omega]
      have HPL := hid hpl
      have HPE := hid hpe
      have HIN := hid hin.out
      have HOE : Hid ((wr.alloc (.cells #[] 40)).ownsRow 0 40 9 (.slice (some ⟨wr.heap.size, 0, none⟩) 0 0) 0 (rowsP [])) := hid ⟨rfl, Or.inr ⟨wr.heap.size, 0, #[], rfl, by omega, heap_alloc_new _ _, by simp, by unfold maxLen; omega, rfl, rfl⟩⟩
      have HRT : Hid (Rv (wr.alloc (.cells #[] 40)) pa (rowsP ((l.drop (t * n)).take k))) := hid (by
        rw [← rowsP_take]
        exact ((hin.out.2.1.takeV).kept hin.out.1 (by simp)).kept ((Frm.refl [] wr).alloc (.cells #[] 40)) (by simp))
      have hkb1 := hkb.1
      clear hrp hpl hpe hin hT hk hpp hdl
      go_wp2_with (at_builtin; refine wpList_appV rfl _ _ 30 rfl 40 9 72 _ Try.underlying30 infoP9 rfl (by decide) (some ⟨wr.heap.size, 0, none⟩) 0 0 (rowsP []) rfl HOE.out pa k ca (rowsP ((l.drop (t * n)).take k)) rfl (by rw [rowsP_len, HPL.out]) (fun h0 _ => by omega) HRT.out (rowsP_one _) (by unfold maxLen; omega) (by omega) ?_)
      intro p2 c2 w1 ho1 hf1 hb1
      have hf1' : Frm [] wr w1 := ((Frm.refl [] wr).alloc (.cells #[] 40)).trans hf1.out (fun i hi hl => by simp [blk] at hi; omega)
      have HB1 : Hid (∀ i ∈ blk p2, wr.heap.size ≤ i) := hid (fun i hi => (hb1.out i hi).elim (fun h => by simp [blk] at h; omega) (fun h => by first | omega | (simp at h; omega)))
      have HO1 : Hid (w1.ownsRow 0 40 9 (.slice p2 k c2) k (rowsP (pc n t l))) := hid (by
        have h := ho1.out
        rw [HPE.out] at h
        simpa [rowsP] using h)
      have HF1 := hid hf1'
      have e0 : 0 + k = k := by omega
      try rw [e0]
      have HA := hid ((Frm.refl [] w1).alloc (.cells #[.slice p2 k c2] 30))
      have HRV := hid (rv_block (heap_alloc_new w1 (.cells #[.slice p2 k c2] 30)))
      have HOW := hid (ownsRow_kept HIN.out.2.2.1.ow (hf1'.trans HA.out (by simp)) (by simp))
      clear ho1 hf1 hb1 hf1' HOE HRT
      go_wp2_with (at_builtin; refine wpList_appV rfl _ _ 61 rfl 30 1 24 _ Try.underlying61 infoPs rfl (by decide) q t cq (rowsB ls) rfl HOW.out (some ⟨w1.heap.size, 0, none⟩) 1 1 [.slice p2 k c2] rfl rfl (by simp) HRV.out (by intro u hu; simp at hu; subst hu; rfl) (by unfold maxLen; omega) (by omega) ?_)
      intro q3 c3 w3 ho3 hf3 hb3
      have HNX : Hid (Frm [] w w3 ∧ OwnB w3 q3 (t + 1) c3 (ls ++ [⟨p2, c2, pc n t l⟩]) ∧ (ls ++ [(⟨p2, c2, pc n t l⟩ : Bp)]).map Bp.ps = (List.range (t + 1)).map (fun i => pc n i l) ∧ ∀ k ∈ blk q3, w.heap.size ≤ k) := hid (by
        obtain ⟨a1, a2, a3, a4, a5⟩ := HIN.out
        have hz := a1.size
        have hz1 := HF1.out.size
        have hzA := HA.out.size
        have hz3 := hf3.out.size
        have hlow := ownsRow_low a3.ow
        have hF : Frm (blk q) wr w3 := ((HF1.out.trans HA.out (by simp)).mono (by simp)).trans hf3.out (fun k hk _ => hk)
        have hF1 : Frm (blk q) w1 w3 := (HA.out.mono (by simp)).trans hf3.out (fun k hk _ => hk)
        have hkl : (pc n t l).length = k := by rw [← HPE.out]; exact HPL.out
        have hbq : ∀ i ∈ blk q3, i ∈ blk q ∨ w1.heap.size ≤ i := fun i hi => (hb3.out i hi).imp (fun h => h) (fun h => by first | omega | (simp at h; omega))
        refine ⟨a1.trans hF (fun i hi hl => by have := a5 i hi; omega), ⟨?_, by rw [List.length_append, a3.ln]; rfl, fun y hy => ?_⟩, ?_, fun i hi => ?_⟩
        · have h := ho3.out
          unfold rowsB at h ⊢
          rw [List.map_append]
          simpa [Bp.v, hkl] using h
        · rcases List.mem_append.1 hy with hy | hy
          · obtain ⟨b1, b2, b3⟩ := a3.it y hy
            exact ⟨b1.kept hF (fun i hi hm => (b2 i hi).1 hm), fun i hi => ⟨fun hm => by
              rcases hbq i hm with h | h
              · exact (b2 i hi).1 h
              · have := (b2 i hi).2; omega, by have := (b2 i hi).2; omega⟩, b3⟩
          · rw [List.mem_singleton] at hy
            subst hy
            have hl1 := ownsRow_low HO1.out
            have hnq : ∀ i ∈ blk p2, i ∉ blk q := fun i hi hm => by have := HB1.out i hi; have := hlow i hm; omega
            have hrv : Rv w1 p2 (rowsP (pc n t l)) := by
              rcases HO1.out.2 with ⟨_, h0⟩ | ⟨g, c', cur, he, _⟩
              · omega
              · simp only [Value.slice.injEq] at he
                obtain ⟨rfl, _, _⟩ := he
                have hcell := fun i hi => World.ownsRow.cellAt HO1.out i hi
                refine Or.inr ⟨g, 0, rfl, fun i u hu => ?_⟩
                have hi := (List.getElem?_eq_some_iff.1 hu).1
                rw [rowsP_len, hkl] at hi
                rw [Nat.zero_add, hcell i hi]
                exact hu
            refine ⟨hrv.kept hF1 hnq, fun i hi => ⟨fun hm => ?_, by have := hl1 i hi; have := hF1.size; omega⟩, ?_⟩
            · rcases hbq i hm with h | h
              · exact hnq i hi h
              · have := hl1 i hi; omega
            · show (pc n t l).length ≤ c2
              rw [hkl]
              rcases HO1.out.2 with ⟨_, h0⟩ | ⟨g, c', cur, he, _, _, hc, _⟩
              · omega
              · simp only [Value.slice.injEq] at he
                omega
        · rw [List.map_append, a4, List.range_succ, List.map_append, List.map_singleton, List.map_singleton]
        · rcases hbq i hi with h | h
          · exact a5 i h
          · omega)
      have HT2 : Hid ((t + 1) * n + (r - k) = L ∨ (r - k = 0 ∧ L ≤ (t + 1) * n ∧ (t + 1) * n < L + n)) := hid (by have := hTT.out; rw [Nat.succ_mul]; omega)
      have hb2 : r - k ≤ L ∧ r - k ≤ ca - k ∧ ca - k ≤ 9223372036854775807 ∧ t + 1 ≤ L := by
        have h1 := hTT.out
        have h2 : t ≤ t * n := Nat.le_mul_of_pos_right t hn0
        omega
      clear ho3 hf3 hb3 HOW HRV HA HIN hmin hsl1
      go_wp2_with fail
      go_roundw
      case rel => exact ⟨t + 1, r - k, pp, ca - k, q3, c3, _, rfl, by go_num, hb2.1, hb2.2.1, hb2.2.2.1, hb2.2.2.2, HT2, hid ⟨HNX.out.1, HRP.out, HNX.out.2.1, HNX.out.2.2.1, HNX.out.2.2.2⟩⟩
      case measure => first | (simp [lenK]; done) | (simp [lenK]; omega)
    · obtain rfl : r = 0 := by omega
      have HFIN : Hid (np n L = t) := hid (by rcases hT.out with h | ⟨_, h1, h2⟩ <;> exact np_eq hn0 (by omega) (by omega))
      have HIN := hid hin.out
      clear hin hT
      go_wp2_with fail
      first | go_returns | skip
      exact HP.out q t cq ls wr HIN.out.2.2.1 (by rw [HIN.out.2.2.2.1]; unfold cutL; rw [HL.out, HFIN.out]) HIN.out.1 HIN.out.2.2.2.2
end
end Go.Proofs.Ytkolbijhekbelaa
