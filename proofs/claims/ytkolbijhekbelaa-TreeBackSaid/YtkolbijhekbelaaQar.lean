/- The document's Blank, Cost, Split. The law's same: two lists of blocks held against one another, and the first one written full. TreeSplits, for any arguments. -/
import Derived.Test.YtkolbijhekbelaaQaj
import Derived.Deep.DeepCutAuto
import Derived.Test.YtkolbijhekbelaaQao
namespace Go.Proofs.Ytkolbijhekbelaa
section
open Go.RowKit Go.Lib
set_option maxRecDepth 100000

set_option maxHeartbeats 1600000 in
theorem refBlank_any (p : Option Addr) (n c : Nat) (bs : List Int) (w : World) (hr : Rd w p bs) (hn : bs.length = n) (hb : n ≤ 4611686018427387904) :
    Calls Try.prog 14 #[.slice p n c] w fun e w' => e = .returned (.bool (blank bs)) ∧ w' = w := by
  obtain ⟨B, hB⟩ : ∃ q, blank bs = q := ⟨_, rfl⟩
  rw [hB]
  have HB := hid hB
  have HN := hid hn
  have HR := hid hr
  clear hB hn hr
  go_enter Try.func14, Try.ntmps14
  go_wp2_with fail
  go_loopw [3, 2] (fun i s2 wr => ∃ t : Nat, t ≤ n ∧ i = .int .i64 (t : Int) ∧ s2 = .bool false ∧ Hid (wr = w ∧ blank (bs.take t) = true)) (fun i _ _ => n - (intOf i).toNat)
  case atStart => exact ⟨0, Nat.zero_le _, rfl, rfl, hid ⟨rfl, rfl⟩⟩
  case round =>
    obtain ⟨t, ht, rfl, rfl, hin⟩ := hrel
    have hwr := hin.out.1
    have HT := hid hin.out.2
    subst hwr
    clear hin
    by_cases hlt : t < n
    · have t1 : (t : Int) < (n : Int) := by omega
      obtain ⟨z, hz⟩ : ∃ z, bs[t]? = some z := ⟨_, List.getElem?_eq_getElem (by rw [HN.out]; exact hlt)⟩
      have HST := hid (blank_step hz)
      have HZM := hid (List.mem_of_getElem? hz)
      have hrr := HR.out
      rcases hrr with h0 | ⟨g, o, rfl, hcs⟩
      · rw [h0] at hz; simp at hz
      have q0 : wr.cell? ⟨g, o + t, none⟩ = some (.int .u8 z) := by
        rw [hcs t (by rw [HN.out]; exact hlt), List.getD_eq_getElem?_getD, hz]; rfl
      clear hcs hz
      by_cases h0 : z = 0
      · subst h0
        have HT2 : Hid (blank (bs.take (t + 1)) = true) := hid (by rw [HST.out, HT.out]; rfl)
        go_wp2_with fail
        go_roundw
        case rel => exact ⟨t + 1, by omega, by go_num, by first | rfl | trivial, hid ⟨by first | rfl | trivial, HT2.out⟩⟩
        case measure => first | (simp [intOf]; done) | (simp [intOf]; omega)
      · have HE : Hid (B = false) := hid (by
          rw [← HB.out]
          unfold blank
          rw [List.all_eq_false]
          exact ⟨z, HZM.out, by simpa using h0⟩)
        go_wp2_with fail
        first | go_returns | skip
        exact ⟨by rw [HE.out]; rfl, rfl⟩
    · obtain rfl : t = n := by omega
      have HE : Hid (B = true) := hid (by rw [← HB.out, ← HT.out, List.take_of_length_le (by rw [HN.out]; exact Nat.le_refl _)])
      go_wp2_with fail
      first | go_returns | skip
      exact ⟨by rw [HE.out]; rfl, rfl⟩
set_option maxHeartbeats 1600000 in
theorem refCost_any (size : Int) (w : World) (h : -9223372036854775808 ≤ size ∧ size ≤ 9223372036854775807) :
    Calls Try.prog 16 #[.int .i64 size] w fun e w' => e = .returned (.int .i64 (costI size)) ∧ w' = w := by
  obtain ⟨E, hE⟩ : ∃ q, costI size = q := ⟨_, rfl⟩
  rw [hE]
  have HE := hid hE
  obtain ⟨h0, h1⟩ := h
  clear hE
  by_cases hs : size ≤ 0
  · have HEE : Hid (E = 0) := hid (by rw [← HE.out]; unfold costI; rw [if_pos hs])
    go_enter Try.func16, Try.ntmps16
    go_wp2_with fail
    first | go_returns | skip
    exact ⟨by rw [HEE.out]; rfl, rfl⟩
  · obtain ⟨k, hk⟩ : ∃ k, (size - 1) / 1024 = k := ⟨_, rfl⟩
    have hkb : 0 ≤ k ∧ k ≤ 9007199254740991 := by omega
    obtain ⟨hk0, hk1⟩ := hkb
    have HEE : Hid (E = k + 1 + (k / 16 + 1) + 1) := hid (by rw [← HE.out]; unfold costI; rw [if_neg hs, hk])
    have h2 : wrap64 (size - 1) = size - 1 := by unfold wrap64; omega
    have h3 : Int.tdiv (size - 1) 1024 = k := by rw [Int.tdiv_eq_ediv_of_nonneg (by omega)]; exact hk
    have h4 : wrap64 k = k := by unfold wrap64; omega
    have h5 : wrap64 (k + 1) = k + 1 := by unfold wrap64; omega
    have h6 : wrap64 (k + 1 - 1) = k := by unfold wrap64; omega
    have h7 : Int.tdiv k 16 = k / 16 := Int.tdiv_eq_ediv_of_nonneg (by omega)
    have h8 : wrap64 (k / 16) = k / 16 := by unfold wrap64; omega
    have h9 : wrap64 (k + 1 + k / 16) = k + 1 + k / 16 := by unfold wrap64; omega
    have h10 : wrap64 (k + 1 + k / 16 + 1) = k + 1 + k / 16 + 1 := by unfold wrap64; omega
    have h11 : wrap64 (k + 1 + k / 16 + 1 + 1) = k + 1 + k / 16 + 1 + 1 := by unfold wrap64; omega
    clear hk
    go_enter Try.func16, Try.ntmps16
    go_wp2_with fail
    first | go_returns | skip
    refine ⟨?_, rfl⟩
    rw [HEE.out]
    congr 2
    first | omega | (simp; omega)
/-- A slice from a bound on up to another. -/
theorem slice_midT (p : Option Addr) (zs : List Int) (n c lo hi : Nat) (hn : zs.length = n) (hlo : lo ≤ hi) (hhi : hi ≤ n) (hc : n ≤ c) (w : World) (hr : Rd w p zs) :
    ∃ pp, (∀ W : World, (Instr.slice 22 (.slice p n c) (some (.int .i64 (lo : Int))) (some (.int .i64 (hi : Int))) none).run Try.prog W = .ok (.slice pp (hi - lo) (c - lo)) W) ∧ (∀ W : World, (Instr.sliceAt 22 (.slice p n c) (some (.int .i64 (lo : Int))) (some (.int .i64 (hi : Int))) none).run Try.prog W = .ok (.slice pp (hi - lo) (c - lo)) W) ∧ Rd w pp ((zs.drop lo).take (hi - lo)) ∧ (∀ k ∈ blk pp, k ∈ blk p) ∧ (c ≠ lo → pp = p.map (·.add lo)) := by
  obtain ⟨i, hi', hz, h1, h2⟩ := info_parts (infoB)
  have hrun : ∀ W : World, (Instr.slice 22 (.slice p n c) (some (.int .i64 (lo : Int))) (some (.int .i64 (hi : Int))) none).run Try.prog W = .ok (.slice (if c = lo then p else p.map (·.add lo)) (hi - lo) (c - lo)) W := fun W => by
    rw [run_slice_lh W 22 _ _ _ (elem_of Try.underlying22) .i64 .i64 _ _ (by omega) (by omega) (by omega), show Try.prog.elem 22 = 5 by simp [Program.elem, Try.underlying22]]
    have hs : (sizeOf 5).run Try.prog W = .ok 1 W := by simp [sizeOf, typeInfo, hi', h1, Result.andThen]
    rw [hs]
    simp [Result.andThen, sliced]
  refine ⟨_, hrun, fun W => by rw [run_sliceAt_slice (h := elem_of Try.underlying22)]; exact hrun W, ?_, ?_, fun h => if_neg h⟩
  · by_cases h : c = lo
    · rw [if_pos h, List.drop_eq_nil_of_le (by omega)]
      simpa using Rd.nil _ _
    · rw [if_neg h]
      rcases hr with hr | ⟨g, o, rfl, hr⟩
      · subst hr
        simpa using Rd.nil _ _
      · have h2 := (Rd.drop (Or.inr ⟨g, o, rfl, hr⟩ : Rd w (some ⟨g, o, none⟩) zs) lo).take (hi - lo)
        by_cases h0 : lo = 0
        · simpa [Addr.add, h0] using h2
        · simpa [Addr.add, h0] using h2
  · intro k hk
    split at hk
    · exact hk
    · cases p with
      | none => simp [blk] at hk
      | some a => by_cases h0 : lo = 0 <;> simpa [blk, Addr.add, h0] using hk
/-- While blocks come together: t of the wanted ones are there. -/
structure BlkS (w wr : World) (Z : List (List Int)) (t : Nat) (q : Option Addr) (cq : Nat) (ls : List Bk) : Prop where
  fr : Frm [] w wr
  ow : OwnK wr q t cq ls
  bs : ls.map Bk.bs = Z.take t
  nw : NewK w.heap.size q ls
theorem BlkS.nil (w : World) (Z : List (List Int)) : BlkS w w Z 0 none 0 [] := ⟨Frm.refl _ _, OwnK.nil _, rfl, by simp [blk], by simp⟩
theorem BlkS.k0 {w wr w' : World} {Z : List (List Int)} {t : Nat} {q : Option Addr} {cq : Nat} {ls : List Bk} (h : BlkS w wr Z t q cq ls) (hf : Frm [] wr w') : BlkS w w' Z t q cq ls := ⟨h.fr.trans hf (by simp), h.ow.k0 hf, h.bs, h.nw⟩
theorem BlkS.next {w wr wx wa w' : World} {Z : List (List Int)} {t : Nat} {q q' : Option Addr} {cq cq' : Nat} {ls : List Bk} {x : Bk} (h : BlkS w wr Z t q cq ls) (hfx : Frm [] wr wx) (hA : Frm [] wx wa) (hz : Z[t]? = some x.bs) (hx : BkOk wx x) (hxn : ∀ k ∈ blk x.p, wr.heap.size ≤ k) (ho : w'.ownsRow 0 22 1 (.slice q' (t + 1) cq') (t + 1) (rowsK ls ++ [x.v])) (hf : Frm (blk q) wa w') (hb : ∀ k ∈ blk q', k ∈ blk q ∨ wa.heap.size ≤ k) : BlkS w w' Z (t + 1) q' cq' (ls ++ [x]) := by
  obtain ⟨a1, a2, a3, a4⟩ := h
  have hz1 := a1.size
  have hz2 := hfx.size
  have hz3 := hA.size
  have hlow := ownsRow_low a2.ow
  refine ⟨((a1.trans hfx (by simp)).trans hA (by simp)).trans hf (fun i hi hl => by have := a4.1 i hi; omega), (a2.k0 hfx).app hx (fun i hi hq => by have := hxn i hi; have := hlow i hq; omega) (fun y hy i hi hq => by have := hxn i hi; have := (a2.it y hy).1.lo i hq; omega) hA ho hf hb, ?_, fun i hi => ?_, fun y hy i hi => ?_⟩
  · rw [List.map_append, a3, List.take_add_one, hz]; rfl
  · rcases hb i hi with h | h
    · exact a4.1 i h
    · omega
  · rcases List.mem_append.1 hy with hy | hy
    · exact a4.2 y hy i hi
    · rw [List.mem_singleton] at hy; subst hy; have := hxn i hi; omega
theorem cutL_get {α : Type} {n t : Nat} {l : List α} (hn : 0 < n) (h : t * n < l.length) : (cutL n l)[t]? = some (pc n t l) := by
  unfold cutL
  rw [List.getElem?_map, List.getElem?_range (np_lt hn h)]
  rfl
set_option maxHeartbeats 6400000 in
theorem refSplit_any (p : Option Addr) (L c : Nat) (bs : List Int) (w : World) (hr : Rd w p bs) (hL : bs.length = L) (hb : L ≤ 140737488351232) (hc : L ≤ c ∧ c ≤ 9223372036854775807) :
    Calls Try.prog 12 #[.slice p L c] w (SplitA w bs) := by
  obtain ⟨PO, hPO⟩ : ∃ PO : Ending → World → Prop, SplitA w bs = PO := ⟨_, rfl⟩
  rw [hPO]
  have HP : Hid (∀ q m cq ls w', OwnK w' q m cq ls → ls.map Bk.bs = splitL bs → Frm [] w w' → NewK w.heap.size q ls → PO (.returned (.slice q m cq)) w') := hid (fun q m cq ls w' h1 h2 h3 h4 => by rw [← hPO]; exact ⟨q, m, cq, ls, rfl, h1, h2, h3, h4⟩)
  have HR := hid hr
  have HL := hid hL
  have HSG : Hid (∀ t : Nat, t * 1024 < L → (splitL bs)[t]? = some (if blank (pc 1024 t bs) then [] else pc 1024 t bs)) := hid (fun t ht => by unfold splitL; rw [List.getElem?_map, cutL_get (by omega) (by rw [hL]; exact ht)]; rfl)
  have HSL : Hid ((splitL bs).length = np 1024 L) := hid (by unfold splitL; rw [List.length_map, cutL_len, hL])
  obtain ⟨hc0, hc1⟩ := hc
  clear hr hL hPO
  go_enter Try.func12, Try.ntmps12
  go_wp2_with fail
  go_loopw [4, 3] (fun i s3 wr => ∃ (t a : Nat) (q : Option Addr) (cq : Nat) (ls : List Bk), a < L + 1024 ∧ i = .int .i64 (a : Int) ∧ s3 = .slice q t cq ∧ t ≤ a ∧ Hid (a = t * 1024) ∧ Hid (BlkS w wr (splitL bs) t q cq ls)) (fun i _ _ => L - (intOf i).toNat)
  case atStart => exact ⟨0, 0, none, 0, [], by omega, rfl, rfl, Nat.le_refl _, hid (by omega), hid (BlkS.nil _ _)⟩
  case round =>
    obtain ⟨t, a, q, cq, ls, haL, rfl, rfl, hta, hA, hin⟩ := hrel
    have HA0 := hid hA.out
    have HIN := hid hin.out
    clear hA hin
    by_cases hlt : a < L
    · have t1 : (a : Int) < (L : Int) := by omega
      obtain ⟨E, hE⟩ : ∃ E, min (a + 1024) L = E := ⟨_, rfl⟩
      have HEE := hid hE
      have hb1 : a < E := by omega
      have hb2 : E ≤ L := by omega
      have hb3 : E ≤ a + 1024 := by omega
      have hws : wrap64 ((a : Int) + 1024) = (a : Int) + 1024 := by unfold wrap64; omega
      clear hE
      go_upto_if 19 with fail
      go_cut [5] from 8 to 33 (fun v wx => v = .int .i64 (E : Int) ∧ wx = wr)
      case first =>
        by_cases hm : (L : Int) < (a : Int) + 1024
        · have HX : Hid (E = L) := hid (by have := HEE.out; omega)
          go_wp2_with fail
          go_meet
          case rel => exact ⟨by rw [HX.out], rfl⟩
        · have HX : Hid (E = a + 1024) := hid (by have := HEE.out; omega)
          go_wp2_with fail
          go_meet
          case rel => exact ⟨by rw [HX.out]; rfl, rfl⟩
      obtain ⟨rfl, hwc⟩ := hcut
      have hwr := hwc.symm
      clear hwc
      subst hwr
      clear hws
      obtain ⟨pp, hsl1, hsl2, hrd2, hbk2, hpp⟩ := slice_midT p bs L c a E HL.out (by omega) hb2 hc0 wr (HR.out.kept HIN.out.fr (by simp))
      obtain rfl := hpp (by omega)
      obtain ⟨k, hk⟩ : ∃ k, E - a = k := ⟨_, rfl⟩
      have hkb : 0 < k ∧ k ≤ 1024 := by omega
      obtain ⟨hk0, hk1⟩ := hkb
      rw [hk] at hsl1 hsl2 hrd2
      have HPL : Hid (((bs.drop a).take k).length = k) := hid (by rw [List.length_take, List.length_drop, HL.out]; omega)
      have HPE : Hid ((bs.drop a).take k = pc 1024 t bs) := hid (by
        unfold pc
        rw [← HA0.out]
        rcases Nat.lt_or_ge L (a + 1024) with h | h
        · rw [List.take_of_length_le (by rw [List.length_drop, HL.out]; have := HEE.out; omega), List.take_of_length_le (by rw [List.length_drop, HL.out]; omega)]
        · rw [show k = 1024 by have := HEE.out; omega])
      have HZ := hid (HSG.out t (by have := HA0.out; omega))
      have hb24 : t * 24 ≤ L := by have := HA0.out; omega
      have HRD := hid hrd2
      clear hrd2 hbk2 hpp hk
      go_wp2_with (at_builtin; refine wpList_appB rfl _ _ 22 rfl 5 Try.underlying22 infoU8 none 0 0 [] rfl rfl (Own.nil _ _) (p.map (·.add a)) k (c - a) ((bs.drop a).take k) rfl HPL.out.symm (fun h0 _ => by have := HPL.out; rw [h0] at this; simp at this; omega) HRD.out (by rw [HPL.out]; simp; omega) ?_)
      intro xs p2 c2 w1 hxs ho1 hf1 hb1
      have HXS : Hid (xs = pc 1024 t bs ∧ xs.length = k) := hid (by
        have h : xs = (bs.drop a).take k := by simpa using hxs.out
        rw [h]; exact ⟨HPE.out, HPL.out⟩)
      have hf1' : Frm [] wr w1 := hf1.out.mono (by simp [blk])
      have HB1 : Hid (∀ i ∈ blk p2, wr.heap.size ≤ i) := hid (fun i hi => (hb1.out i hi).elim (fun h => by simp [blk] at h) (fun h => by first | omega | (simp at h; omega)))
      have HBK : Hid (BkOk w1 (⟨p2, c2, xs⟩ : Bk)) := hid (BkOk.of_own (x := ⟨p2, c2, xs⟩) ho1.out)
      have HF1 := hid hf1'
      obtain ⟨kx, hkx⟩ : ∃ q, xs.length = q := ⟨_, rfl⟩
      have hkk : kx ≤ 1024 := by rw [← hkx, HXS.out.2]; exact hk1
      have HKX := hid hkx
      rw [hkx]
      have HBL := hid (refBlank_any p2 kx c2 xs w1 HBK.out.rd hkx (by omega))
      clear hxs ho1 hf1 hb1 hf1' hkx
      go_wp2_with fail
      refine HBL.out.mono ?_
      rintro e w2 ⟨rfl, hww⟩
      subst hww
      by_cases hbk : blank xs = true
      · have HZN : Hid ((splitL bs)[t]? = some []) := hid (by rw [HZ.out, ← HXS.out.1, if_pos hbk])
        rw [hbk]
        clear hbk HBL
        have HA := hid ((Frm.refl [] w2).alloc (.cells #[.slice none 0 0] 22))
        have HRV := hid (rv_block (heap_alloc_new w2 (.cells #[.slice none 0 0] 22)))
        have HOW := hid (ownsRow_kept HIN.out.ow.ow (HF1.out.trans HA.out (by simp)) (by simp))
        go_wp2_with (at_builtin; refine wpList_appV rfl _ _ 25 rfl 22 1 24 _ Try.underlying25 infoK rfl (by decide) q t cq (rowsK ls) rfl HOW.out (some ⟨w2.heap.size, 0, none⟩) 1 1 [.slice none 0 0] rfl rfl (by simp) HRV.out (by intro u hu; simp at hu; subst hu; rfl) (by unfold maxLen; have := HA0.out; omega) (by omega) ?_)
        intro q3 c3 w3 ho3 hf3 hb3
        have HNX : Hid (BlkS w w3 (splitL bs) (t + 1) q3 c3 (ls ++ [⟨none, 0, []⟩])) := hid (HIN.out.next (x := ⟨none, 0, []⟩) HF1.out HA.out HZN.out (bkNil _) (by simp [blk]) (by have h := ho3.out; simpa [Bk.v] using h) hf3.out (fun k hk => (hb3.out k hk).imp (fun h => h) (fun h => by first | exact h | (simp at h ⊢; omega))))
        have HA1 : Hid (a + 1024 = (t + 1) * 1024) := hid (by have := HA0.out; omega)
        clear ho3 hf3 hb3 HOW HRV HA
        go_wp2_with fail
        go_roundw
        case rel => exact ⟨t + 1, a + 1024, q3, c3, _, by omega, by go_num, by go_num, by omega, HA1, HNX⟩
        case measure => first | (simp [intOf]; done) | (simp [intOf]; omega)
      · have hbf : blank xs = false := by simpa using hbk
        have HZN : Hid ((splitL bs)[t]? = some xs) := hid (by rw [HZ.out, ← HXS.out.1, if_neg hbk])
        rw [hbf]
        clear hbk hbf HBL
        have HA := hid ((Frm.refl [] w2).alloc (.cells #[.slice p2 kx c2] 22))
        have HRV := hid (rv_block (heap_alloc_new w2 (.cells #[.slice p2 kx c2] 22)))
        have HOW := hid (ownsRow_kept HIN.out.ow.ow (HF1.out.trans HA.out (by simp)) (by simp))
        go_wp2_with (at_builtin; refine wpList_appV rfl _ _ 25 rfl 22 1 24 _ Try.underlying25 infoK rfl (by decide) q t cq (rowsK ls) rfl HOW.out (some ⟨w2.heap.size, 0, none⟩) 1 1 [.slice p2 kx c2] rfl rfl (by simp) HRV.out (by intro u hu; simp at hu; subst hu; rfl) (by unfold maxLen; have := HA0.out; omega) (by omega) ?_)
        intro q3 c3 w3 ho3 hf3 hb3
        have HNX : Hid (BlkS w w3 (splitL bs) (t + 1) q3 c3 (ls ++ [⟨p2, c2, xs⟩])) := hid (HIN.out.next (x := ⟨p2, c2, xs⟩) HF1.out HA.out HZN.out HBK.out HB1.out (by have h := ho3.out; rw [← HKX.out] at h; simpa [Bk.v] using h) hf3.out (fun k hk => (hb3.out k hk).imp (fun h => h) (fun h => by first | exact h | (simp at h ⊢; omega))))
        have HA1 : Hid (a + 1024 = (t + 1) * 1024) := hid (by have := HA0.out; omega)
        clear ho3 hf3 hb3 HOW HRV HA
        go_wp2_with fail
        go_roundw
        case rel => exact ⟨t + 1, a + 1024, q3, c3, _, by omega, by go_num, by go_num, by omega, HA1, HNX⟩
        case measure => first | (simp [intOf]; done) | (simp [intOf]; omega)
    · have HFIN : Hid (np 1024 L = t) := hid (np_eq (by omega) (by have := HA0.out; omega) (by have := HA0.out; omega))
      go_wp2_with fail
      first | go_returns | skip
      exact HP.out q t cq ls wr HIN.out.ow (by rw [HIN.out.bs, List.take_of_length_le (by rw [HSL.out, HFIN.out]; exact Nat.le_refl _)]) HIN.out.fr HIN.out.nw
end
section
open Go.RowKit Go.Lib
set_option maxRecDepth 100000

theorem set_get {α : Type} {ls : List α} {i : Nat} {x' : α} {m : Nat} {y : α} (h : (ls.set i x')[m]? = some y) : (m = i ∧ y = x') ∨ (m ≠ i ∧ ls[m]? = some y) := by
  rw [List.getElem?_set] at h
  by_cases e : i = m
  · subst e
    rw [if_pos rfl] at h
    split at h
    · exact Or.inl ⟨rfl, (Option.some.inj h).symm⟩
    · cases h
  · rw [if_neg e] at h
    exact Or.inr ⟨fun h2 => e h2.symm, h⟩
/-- One byte of a block, another. -/
theorem OwnK.byte {w : World} {q : Option Addr} {n c i g j : Nat} {ls : List Bk} {x : Bk} (h : OwnK w q n c ls) (hx : ls[i]? = some x) (hg : x.p = some ⟨g, 0, none⟩) (hj : j < x.bs.length) (z : Int) : OwnK (w.setCell ⟨g, j, none⟩ (.int .u8 z)) q n c (ls.set i ⟨x.p, x.c, x.bs.set j z⟩) ∧ Frm [g] w (w.setCell ⟨g, j, none⟩ (.int .u8 z)) := by
  have hf : Frm [g] w (w.setCell ⟨g, j, none⟩ (.int .u8 z)) := (Frm.refl _ _).setCell _ _ (by simp)
  have hi := (List.getElem?_eq_some_iff.1 hx).1
  have hgx : g ∈ blk x.p := by rw [hg]; simp [blk]
  have hxm := h.it x (List.mem_of_getElem? hx)
  have hxok : BkOk (w.setCell ⟨g, j, none⟩ (.int .u8 z)) ⟨x.p, x.c, x.bs.set j z⟩ := by
    refine ⟨?_, fun k hk => Nat.lt_of_lt_of_le (hxm.1.lo k hk) hf.size, by simpa using hxm.1.cp⟩
    rcases hxm.1.it with h0 | ⟨g', cur, h1, h2, h3⟩
    · rw [h0] at hj; simp at hj
    · rw [hg] at h1
      simp only [Option.some.injEq, Addr.mk.injEq, and_true] at h1
      subst h1
      refine Or.inr ⟨g, _, hg, heap_setCell_same w g j cur _ (.int .u8 z) h2, ?_⟩
      simp only [List.length_set]
      rw [Array.toList_setIfInBounds, List.take_set, h3]
      unfold bv
      rw [List.map_set]
  have hoth : ∀ m y, m ≠ i → ls[m]? = some y → ∀ k ∈ blk y.p, k ∉ [g] := fun m y hm hy k hk hkg => by
    rw [List.mem_singleton] at hkg
    subst hkg
    exact h.ap m i y x hm hy hx k hk hgx
  refine ⟨⟨?_, by rw [List.length_set]; exact h.ln, fun y hy => ?_, fun a b y u hab hy hu k hk hku => ?_⟩, hf⟩
  · have e : rowsK (ls.set i ⟨x.p, x.c, x.bs.set j z⟩) = rowsK ls := by
      rw [rowsK_set]
      refine List.ext_getElem? fun m => ?_
      rw [List.getElem?_set]
      by_cases e : i = m
      · subst e
        rw [if_pos rfl, if_pos (by rw [rowsK_len]; exact hi), rowsK_get hx]
        simp [Bk.v]
      · rw [if_neg e]
    rw [e]
    exact ownsRow_kept h.ow hf (fun k hk hkg => by rw [List.mem_singleton] at hkg; subst hkg; exact hxm.2 k hgx hk)
  · obtain ⟨m, hm⟩ := List.getElem?_of_mem hy
    rcases set_get hm with ⟨_, rfl⟩ | ⟨h1, h2⟩
    · exact ⟨hxok, hxm.2⟩
    · have h3 := h.it y (List.mem_of_getElem? h2)
      exact ⟨h3.1.kept hf (hoth m y h1 h2), h3.2⟩
  · rcases set_get hy with ⟨e1, rfl⟩ | ⟨e1, h1⟩
    · rcases set_get hu with ⟨e2, rfl⟩ | ⟨e2, h2⟩
      · omega
      · exact h.ap i b x u (fun h3 => e2 h3.symm) hx h2 k hk hku
    · rcases set_get hu with ⟨e2, rfl⟩ | ⟨e2, h2⟩
      · exact h.ap a i y x e1 h1 hx k hk hku
      · exact h.ap a b y u hab h1 h2 k hk hku
def zz (i : Nat) : Int := (200 + (i : Int)) % 256
def footK (la : List Bk) : List Nat := (la.map (fun x => blk x.p)).flatten
theorem footK_mem {la : List Bk} {k : Nat} : k ∈ footK la ↔ ∃ x ∈ la, k ∈ blk x.p := by
  unfold footK
  simp only [List.mem_flatten, List.mem_map]
  exact ⟨fun ⟨l, ⟨a, h, e⟩, hk⟩ => ⟨a, h, by rw [e]; exact hk⟩, fun ⟨x, h, hk⟩ => ⟨_, ⟨x, h, rfl⟩, hk⟩⟩
/-- While the first list is written full: t blocks are, and j bytes of the next one. -/
structure FullK (w wr : World) (qa : Option Addr) (na ca : Nat) (la ls : List Bk) (t j : Nat) : Prop where
  ow : OwnK wr qa na ca ls
  fr : Frm (footK la) w wr
  sh : ∀ (i : Nat) (y : Bk), ls[i]? = some y → ∃ x : Bk, la[i]? = some x ∧ y.p = x.p ∧ y.c = x.c ∧ y.bs.length = x.bs.length
  dn : ∀ (i : Nat) (y : Bk), i < t → ls[i]? = some y → y.bs = List.replicate y.bs.length (zz i)
  nx : ∀ y : Bk, ls[t]? = some y → y.bs.take j = List.replicate j (zz t)
theorem FullK.put {w wr : World} {qa : Option Addr} {na ca t j g : Nat} {la ls : List Bk} {x : Bk} (h : FullK w wr qa na ca la ls t j) (hx : ls[t]? = some x) (hg : x.p = some ⟨g, 0, none⟩) (hj : j < x.bs.length) : FullK w (wr.setCell ⟨g, j, none⟩ (.int .u8 (zz t))) qa na ca la (ls.set t ⟨x.p, x.c, x.bs.set j (zz t)⟩) t (j + 1) := by
  obtain ⟨h1, h2⟩ := h.ow.byte hx hg hj (zz t)
  obtain ⟨x0, e0, e1, e2, e3⟩ := h.sh t x hx
  refine ⟨h1, h.fr.trans h2 (fun k hk _ => ?_), fun i y hy => ?_, fun i y hi hy => ?_, fun y hy => ?_⟩
  · rw [List.mem_singleton] at hk
    subst hk
    exact footK_mem.2 ⟨x0, List.mem_of_getElem? e0, by rw [← e1, hg]; simp [blk]⟩
  · rcases set_get hy with ⟨rfl, rfl⟩ | ⟨_, h4⟩
    · exact ⟨x0, e0, e1, e2, by simpa using e3⟩
    · exact h.sh i y h4
  · rcases set_get hy with ⟨rfl, rfl⟩ | ⟨_, h4⟩
    · omega
    · exact h.dn i y hi h4
  · rcases set_get hy with ⟨_, rfl⟩ | ⟨h4, _⟩
    · simp only
      have h5 := h.nx x hx
      rw [List.take_add_one, List.getElem?_set_self hj, List.take_set_of_le (by omega), h5, List.replicate_succ']
      rfl
    · exact absurd rfl h4
theorem FullK.step {w wr : World} {qa : Option Addr} {na ca t j : Nat} {la ls : List Bk} {x : Bk} (h : FullK w wr qa na ca la ls t j) (hx : ls[t]? = some x) (hj : j = x.bs.length) : FullK w wr qa na ca la ls (t + 1) 0 := by
  refine ⟨h.ow, h.fr, h.sh, fun i y hi hy => ?_, fun y hy => by simp⟩
  rcases Nat.lt_or_ge i t with h1 | h1
  · exact h.dn i y h1 hy
  · obtain rfl : i = t := by omega
    rw [hx] at hy
    obtain rfl := Option.some.inj hy
    have h2 := h.nx x hx
    rw [hj, List.take_of_length_le (Nat.le_refl _)] at h2
    exact h2
def SameA (w : World) (la : List Bk) (e : Ending) (w' : World) : Prop := e = .returned (.bool true) ∧ Frm (footK la) w w'
set_option maxHeartbeats 12800000 in
theorem sameK_any (qa qb : Option Addr) (n ca cb : Nat) (la lb : List Bk) (w : World) (ha : OwnK w qa n ca la) (hb : OwnK w qb n cb lb) (he : la.map Bk.bs = lb.map Bk.bs) (hn : n ≤ 140737488351232) :
    Calls Try.prog 10 #[.slice qa n ca, .slice qb n cb] w (SameA w la) := by
  obtain ⟨PO, hPO⟩ : ∃ PO : Ending → World → Prop, SameA w la = PO := ⟨_, rfl⟩
  rw [hPO]
  have HP : Hid (∀ w', Frm (footK la) w w' → PO (.returned (.bool true)) w') := hid (fun w' h => by rw [← hPO]; exact ⟨rfl, h⟩)
  have HOA := hid ha
  have HOB := hid hb
  have HE := hid he
  clear hPO ha hb he
  go_enter Try.func10, Try.ntmps10
  go_wp2_with fail
  go_loopw [5] (fun i wr => ∃ t : Nat, t ≤ n ∧ i = .int .i64 (t : Int) ∧ Hid (Frm [] w wr)) (fun i _ => n - (intOf i).toNat)
  case atStart => exact ⟨0, Nat.zero_le _, rfl, hid (Frm.refl _ _)⟩
  case round =>
    obtain ⟨t, ht, rfl, hin⟩ := hrel
    have HIN := hid hin.out
    clear hin
    by_cases hlt : t < n
    · have t1 : (t : Int) < (n : Int) := by omega
      obtain ⟨x, hx⟩ : ∃ x, la[t]? = some x := ⟨_, List.getElem?_eq_getElem (by rw [HOA.out.ln]; exact hlt)⟩
      obtain ⟨y, hy⟩ : ∃ y, lb[t]? = some y := ⟨_, List.getElem?_eq_getElem (by rw [HOB.out.ln]; exact hlt)⟩
      have hxy : x.bs = y.bs := by
        have h1 : (la.map Bk.bs)[t]? = some x.bs := by rw [List.getElem?_map, hx]; rfl
        rw [HE.out, List.getElem?_map, hy] at h1
        exact (Option.some.inj h1).symm
      obtain ⟨ga, cura, rfl, _, q0⟩ := (HOA.out.k0 HIN.out).at hx
      obtain ⟨gb, curb, rfl, _, q1⟩ := (HOB.out.k0 HIN.out).at hy
      have r1 := ((HOA.out.k0 HIN.out).it x (List.mem_of_getElem? hx)).1.rd
      have r2 := ((HOB.out.k0 HIN.out).it y (List.mem_of_getElem? hy)).1.rd
      rw [← hxy] at r2 q1
      have hcv1 := fun k => cv_any (P := Try.prog) (w := wr.drewN k) 22 5 9 Try.underlying22 Try.underlying5 Try.underlying9 (r1.drewN k) x.c rfl
      have hcv2 := fun k => cv_any (P := Try.prog) (w := wr.drewN k) 22 5 9 Try.underlying22 Try.underlying5 Try.underlying9 (r2.drewN k) y.c rfl
      have HF : Hid (∀ k, Frm [] w (wr.drewN k)) := hid (fun k => HIN.out.drewN k)
      clear hx hy hxy r1 r2
      generalize strOfNums x.bs = S at hcv1 hcv2
      go_wp2_with fail
      go_quiet (fail)
      clear hcv1 hcv2
      go_wp2_with fail
      go_roundw
      case rel => exact ⟨t + 1, by omega, by go_num, HF.out _⟩
      case measure => first | (simp [intOf]; done) | (simp [intOf]; omega)
    · obtain rfl : t = n := by omega
      have HF0 : Hid (FullK wr wr qa t ca la la 0 0) := hid ⟨HOA.out.k0 HIN.out, Frm.refl _ _, fun i y hy => ⟨y, hy, rfl, rfl, rfl⟩, fun i y hi => by omega, fun y hy => by simp⟩
      have HFW : Hid (∀ W, Frm (footK la) wr W → Frm (footK la) w W) := hid (fun W hW => (HIN.out.mono (by simp)).trans hW (fun k hk _ => hk))
      generalize wr = w5 at *
      clear HIN HOB HE ht hlt
      go_wp2_with fail
      go_loopw [6] (fun i wr => ∃ (u : Nat) (ls : List Bk), u ≤ t ∧ i = .int .i64 (u : Int) ∧ Hid (FullK w5 wr qa t ca la ls u 0)) (fun i _ => t - (intOf i).toNat)
      case atStart => exact ⟨0, la, Nat.zero_le _, rfl, HF0⟩
      case round =>
        clear HF0
        obtain ⟨u, ls, hu, rfl, hin⟩ := hrel
        have HIN := hid hin.out
        clear hin
        by_cases hlt : u < t
        · have u1 : (u : Int) < (t : Int) := by omega
          obtain ⟨x, hx⟩ : ∃ x, ls[u]? = some x := ⟨_, List.getElem?_eq_getElem (by rw [HIN.out.ow.ln]; exact hlt)⟩
          obtain ⟨xl, hxl⟩ : ∃ z, x.bs.length = z := ⟨_, rfl⟩
          obtain ⟨xp, hxp⟩ : ∃ z, x.p = z := ⟨_, rfl⟩
          obtain ⟨xc, hxc⟩ : ∃ z, x.c = z := ⟨_, rfl⟩
          have hxcp := (HIN.out.ow.it x (List.mem_of_getElem? hx)).1.cp
          have hxb : xl ≤ 9223372036854775807 := by omega
          have HX := hid hx
          have HXL := hid hxl
          have HXP := hid hxp
          have HXC := hid hxc
          obtain ⟨Z, hZ⟩ : ∃ z, zz u = z := ⟨_, rfl⟩
          have HZ := hid hZ
          have hw1 : wrap64 (200 + (u : Int)) = 200 + (u : Int) := by unfold wrap64; omega
          have hw2 : IntKind.u8.wrap (200 + (u : Int)) = Z := by rw [← hZ]; unfold zz; rw [IntKind.wrap_u8]
          clear hx hxl hxp hxc hxcp hZ
          have HIX : Hid (FullK w5 wr qa t ca la ls u 0 ∧ ∃ x' : Bk, ls[u]? = some x' ∧ x'.p = xp ∧ x'.c = xc ∧ x'.bs.length = xl) := hid ⟨HIN.out, x, HX.out, HXP.out, HXC.out, HXL.out⟩
          clear HIN HX HXL HXP HXC
          go_wp2_with fail
          go_loopw [7] (fun j wr => ∃ (k : Nat) (ls : List Bk), k ≤ xl ∧ j = .int .i64 (k : Int) ∧ Hid (FullK w5 wr qa t ca la ls u k ∧ ∃ x' : Bk, ls[u]? = some x' ∧ x'.p = xp ∧ x'.c = xc ∧ x'.bs.length = xl)) (fun j _ => xl - (intOf j).toNat)
          case atStart => exact ⟨0, ls, Nat.zero_le _, rfl, HIX⟩
          case round =>
            clear HIX
            obtain ⟨k, ks, hk, rfl, hin⟩ := hrel
            have HIN := hid hin.out
            clear hin
            obtain ⟨y, hy, hyp, hyc, hyl⟩ := HIN.out.2
            obtain ⟨ga, cura, hqa, _, q0⟩ := HIN.out.1.ow.at hy
            rw [hyp, hyc, hyl] at q0
            subst hqa
            by_cases hlt2 : k < xl
            · have k1 : (k : Int) < (xl : Int) := by omega
              obtain ⟨b, hb⟩ : ∃ b, y.bs[k]? = some b := ⟨_, List.getElem?_eq_getElem (by rw [hyl]; exact hlt2)⟩
              obtain ⟨g, cur, hgp, hg, hc⟩ := (HIN.out.1.ow.it y (List.mem_of_getElem? hy)).1.at hb
              have hzf := frozen_of_row wr g k _ _ hg
              have hput := HIN.out.1.put hy hgp (by rw [hyl]; exact hlt2)
              rw [HZ.out] at hput
              have HNX : Hid (FullK w5 (wr.setCell ⟨g, k, none⟩ (.int .u8 Z)) (some ⟨ga, 0, none⟩) t ca la (ks.set u ⟨y.p, y.c, y.bs.set k Z⟩) u (k + 1) ∧ ∃ x' : Bk, (ks.set u ⟨y.p, y.c, y.bs.set k Z⟩)[u]? = some x' ∧ x'.p = xp ∧ x'.c = xc ∧ x'.bs.length = xl) := hid ⟨hput, _, List.getElem?_set_self (List.getElem?_eq_some_iff.1 hy).1, hyp, hyc, by simpa using hyl⟩
              rw [hgp] at hyp
              subst hyp
              clear hput hy hgp hg hyc hyl hb
              go_wp2_with fail
              go_roundw
              case rel => exact ⟨k + 1, _, by omega, by go_num, HNX⟩
              case measure => first | (simp [intOf]; done) | (simp [intOf]; omega)
            · obtain rfl : k = xl := by omega
              have HNX : Hid (FullK w5 wr (some ⟨ga, 0, none⟩) t ca la ks (u + 1) 0) := hid (HIN.out.1.step hy hyl.symm)
              clear hy hyp hyc hyl HIN
              go_wp2_with fail
              go_roundw
              case rel => exact ⟨u + 1, ks, by omega, by go_num, HNX⟩
              case measure => first | (simp [intOf]; done) | (simp [intOf]; omega)
        · obtain rfl : u = t := by omega
          have HFL := hid HIN.out
          generalize wr = w6 at *
          clear HIN hu hlt
          go_wp2_with fail
          go_loopw [8] (fun i wr => ∃ v : Nat, v ≤ u ∧ i = .int .i64 (v : Int) ∧ Hid (Frm [] w6 wr)) (fun i _ => u - (intOf i).toNat)
          case atStart => exact ⟨0, Nat.zero_le _, rfl, hid (Frm.refl _ _)⟩
          case round =>
            obtain ⟨v, hv, rfl, hin⟩ := hrel
            have HIN := hid hin.out
            clear hin
            by_cases hlt : v < u
            · have v1 : (v : Int) < (u : Int) := by omega
              obtain ⟨y, hy⟩ : ∃ y, ls[v]? = some y := ⟨_, List.getElem?_eq_getElem (by rw [HFL.out.ow.ln]; exact hlt)⟩
              obtain ⟨xl, hxl⟩ : ∃ z, y.bs.length = z := ⟨_, rfl⟩
              have hyb := HFL.out.dn v y hlt hy
              have hxcp := (HFL.out.ow.it y (List.mem_of_getElem? hy)).1.cp
              have hxb : xl ≤ 9223372036854775807 := by omega
              have HY := hid hy
              have HYB := hid hyb
              have HXL := hid hxl
              obtain ⟨Z, hZ⟩ : ∃ z, zz v = z := ⟨_, rfl⟩
              have HZ := hid hZ
              have hw1 : wrap64 (200 + (v : Int)) = 200 + (v : Int) := by unfold wrap64; omega
              have hw2 : IntKind.u8.wrap (200 + (v : Int)) = Z := by rw [← hZ]; unfold zz; rw [IntKind.wrap_u8]
              clear hy hyb hxl hxcp hZ
              go_wp2_with fail
              go_loopw [9] (fun j wr => ∃ k : Nat, k ≤ xl ∧ j = .int .i64 (k : Int) ∧ Hid (Frm [] w6 wr)) (fun j _ => xl - (intOf j).toNat)
              case atStart => exact ⟨0, Nat.zero_le _, rfl, HIN⟩
              case round =>
                clear HIN
                obtain ⟨k, hk, rfl, hin⟩ := hrel
                have HIN := hid hin.out
                clear hin
                obtain ⟨ga, cura, hqa, _, q0⟩ := (HFL.out.ow.k0 HIN.out).at HY.out
                rw [HXL.out] at q0
                subst hqa
                by_cases hlt2 : k < xl
                · have k1 : (k : Int) < (xl : Int) := by omega
                  have hb : y.bs[k]? = some Z := by rw [HYB.out, List.getElem?_replicate, if_pos (by rw [HXL.out]; exact hlt2), HZ.out]
                  obtain ⟨g, cur, hgp, hg, hc⟩ := ((HFL.out.ow.k0 HIN.out).it y (List.mem_of_getElem? HY.out)).1.at hb
                  rw [hgp] at q0
                  clear hg hb
                  go_wp2_with fail
                  go_roundw
                  case rel => exact ⟨k + 1, by omega, by go_num, HIN⟩
                  case measure => first | (simp [intOf]; done) | (simp [intOf]; omega)
                · obtain rfl : k = xl := by omega
                  go_wp2_with fail
                  go_roundw
                  case rel => exact ⟨v + 1, by omega, by go_num, HIN⟩
                  case measure => first | (simp [intOf]; done) | (simp [intOf]; omega)
            · obtain rfl : v = u := by omega
              go_wp2_with fail
              first | go_returns | skip
              exact HP.out _ (HFW.out _ (HFL.out.fr.trans HIN.out (by simp)))
end
section
open Go.RowKit Go.Lib
set_option maxRecDepth 100000

theorem splitL_len (bs : List Int) : (splitL bs).length = np 1024 bs.length := by unfold splitL; rw [List.length_map, cutL_len]
set_option maxHeartbeats 6400000 in
theorem treesplits_any (size : Int) (p : Option Addr) (L c : Nat) (bs : List Int) (w : World) (hr : Rd w p bs) (hL : bs.length = L) (hb : L ≤ 140737488351232) (hc : L ≤ c ∧ c ≤ 9223372036854775807) (hp : bs = [] → p = none → c = 0) (hsz : -9223372036854775808 ≤ size ∧ size ≤ 9223372036854775807) :
    Calls Try.prog 3 #[.slice p L c, .int .i64 size] w fun e w' => e = .returned (.bool true) ∧ Frm [] w w' := by
  obtain ⟨PO, hPO⟩ : ∃ PO : Ending → World → Prop, (fun e w' => e = .returned (.bool true) ∧ Frm [] w w') = PO := ⟨_, rfl⟩
  rw [hPO]
  have HP : Hid (∀ w', Frm [] w w' → PO (.returned (.bool true)) w') := hid (fun w' h => by rw [← hPO]; exact ⟨rfl, h⟩)
  have HR := hid (fun W (hf : Frm [] w W) => hr.kept hf (by simp))
  have HL := hid hL
  have HAW := hid (awakeT_any w)
  have HPN := hid hp
  have HSR := hid (fun W (hf : Frm [] w W) => refSplit_any p L c bs W (hr.kept hf (by simp)) hL hb hc)
  have HB1 := hid (fun W (hf : Frm [] w W) => blank_any p L c bs W (hr.kept hf (by simp)) hL (by omega))
  have HB2 := hid (fun W (hf : Frm [] w W) => refBlank_any p L c bs W (hr.kept hf (by simp)) hL (by omega))
  have HC1 := hid (fun W => cost_any size W hsz)
  have HC2 := hid (fun W => refCost_any size W hsz)
  have HNP : Hid (np 1024 bs.length ≤ 140737488351232) := hid (by unfold np; rw [hL]; omega)
  obtain ⟨B, hB⟩ : ∃ B, blank bs = B := ⟨_, rfl⟩
  obtain ⟨C, hC⟩ : ∃ C, costI size = C := ⟨_, rfl⟩
  rw [hB] at HB1 HB2
  rw [hC] at HC1 HC2
  obtain ⟨hc0, hc1⟩ := hc
  clear hr hL hPO hp hB hC hsz
  go_enter Try.func3, Try.ntmps3
  go_wp2_with fail
  refine HAW.out.mono ?_
  rintro e w1 ⟨rfl, hf1⟩
  have HF1 := hid hf1
  have HRD := hid (HR.out w1 hf1)
  clear hf1 HAW
  go_wp2_with (at_builtin; refine wpList_appB rfl _ _ 22 rfl 5 Try.underlying22 infoU8 none 0 0 [] rfl rfl (Own.nil _ _) p L c bs rfl HL.out.symm HPN.out HRD.out (by rw [HL.out]; simp; omega) ?_)
  intro xs p2 c2 w2 hxs ho2 hf2 hb2
  have hx2 : xs = bs := by simpa using hxs.out
  subst hx2
  have HO2 := hid ho2.out
  have HF2 : Hid (Frm [] w w2) := hid (HF1.out.trans (T := []) (hf2.out.mono (by simp [blk])) (by simp))
  have hcap := ho2.out
  have HC2' : Hid (L ≤ c2 ∧ c2 ≤ 9223372036854775807) := hid (by
    have h := owns_cap (show w2.ownsRow 0 5 1 (.slice p2 xs.length c2) xs.length (bv xs) from ho2.out)
    rw [HL.out] at h
    unfold maxLen at h
    omega)
  have HSP := hid (split_any p2 L c2 xs w2 ho2.out.rd HL.out hb HC2'.out)
  have HLO : Hid (∀ k ∈ blk p2, k < w2.heap.size) := hid (ownsRow_low (show w2.ownsRow 0 5 1 (.slice p2 xs.length c2) xs.length (bv xs) from ho2.out))
  have HLL := hid HL.out
  rw [HL.out]
  clear hxs ho2 hf2 hb2 hcap HRD
  go_wp2_with fail
  refine HSP.out.mono ?_
  rintro e w3 ⟨q, m, cq, ls, rfl, ho, hls, hf, hnw⟩
  have HO := hid ho
  have HLS := hid hls
  have HF3 := hid (HF2.out.trans hf (by simp))
  have HO3 := hid (HO2.out.kept hf (by simp))
  have HNW := hid hnw
  have hmb : m ≤ 140737488351232 := by rw [← ho.ln, ← List.length_map (f := Bk.bs), hls, splitL_len]; exact HNP.out
  clear ho hls hf hnw HSP HO2
  go_wp2_with fail
  refine (HSR.out w3 HF3.out).mono ?_
  rintro e w4 ⟨q', m', cq', ls', rfl, ho', hls', hf', hnw'⟩
  obtain rfl : m' = m := by
    have h1 : (ls'.map Bk.bs).length = (ls.map Bk.bs).length := by rw [hls', HLS.out]
    rw [List.length_map, List.length_map, ho'.ln, HO.out.ln] at h1
    exact h1
  have HF4 := hid (HF3.out.trans hf' (by simp))
  have HO4 := hid (HO3.out.kept hf' (by simp))
  have HSK := hid (sameK_any q q' m' cq cq' ls ls' w4 (HO.out.k0 hf') ho' (by rw [HLS.out, hls']) hmb)
  clear ho' hls' hf' hnw' HSR HO3
  go_wp2_with fail
  refine HSK.out.mono ?_
  rintro e w5 ⟨rfl, hf5⟩
  have HF5 : Hid (Frm [] w w5) := hid (HF4.out.trans hf5 (fun k hk hkl => by
    obtain ⟨x, hx, hkx⟩ := footK_mem.1 hk
    have h1 := HNW.out.2 x hx k hkx
    have h2 := HF2.out.size
    omega))
  have HRX : Hid (Rd w5 p2 xs) := hid ((HO4.out.rd).kept hf5 (fun k hk hkm => by
    obtain ⟨x, hx, hkx⟩ := footK_mem.1 hkm
    have h1 := HNW.out.2 x hx k hkx
    have h2 := HLO.out k hk
    omega))
  have hcv1 := cv_any (P := Try.prog) (w := w5) 22 5 9 Try.underlying22 Try.underlying5 Try.underlying9 HRX.out c2 HLL.out
  have hcv2 := cv_any (P := Try.prog) (w := w5) 22 5 9 Try.underlying22 Try.underlying5 Try.underlying9 (HR.out w5 HF5.out) c HLL.out
  generalize strOfNums xs = S at hcv1 hcv2
  clear hf5 HSK
  go_wp2_with fail
  refine (HB1.out w5 HF5.out).mono ?_
  rintro e w6 ⟨rfl, h6⟩
  subst h6
  go_wp2_with fail
  refine (HB2.out w6 HF5.out).mono ?_
  rintro e w7 ⟨rfl, h7⟩
  subst h7
  go_wp2_with fail
  refine (HC1.out w7).mono ?_
  rintro e w8 ⟨rfl, h8⟩
  subst h8
  go_wp2_with fail
  refine (HC2.out w8).mono ?_
  rintro e w9 ⟨rfl, h9⟩
  subst h9
  go_wp2_with fail
  first | go_returns | skip
  exact HP.out _ HF5.out
end
end Go.Proofs.Ytkolbijhekbelaa
