/- The document's Pack. The document's Unpack. TreePacks, for any arguments. -/
import Derived.Test.YtkolbijhekbelaaQar
import Derived.Test.YtkolbijhekbelaaQag
import Derived.Test.YtkolbijhekbelaaQak
import Derived.Test.YtkolbijhekbelaaQah
import Derived.Test.YtkolbijhekbelaaQao
namespace Go.Proofs.Ytkolbijhekbelaa
section
open Go.RowKit Go.Lib
set_option maxRecDepth 100000

/-- A pointer of a list, as cells. -/
theorem rowsP_at {w : World} {p : Option Addr} {l : List P9} {t : Nat} {v : P9} (h : Rv w p (rowsP l)) (hv : l[t]? = some v) : ∃ g o, p = some ⟨g, o, none⟩ ∧ w.cell? ⟨g, o + t * 9, none⟩ = some (.int .i64 v.top) ∧ w.cell? ⟨g, o + t * 9 + 1, none⟩ = some (.int .i64 v.at_) ∧ w.cell? ⟨g, o + t * 9 + 2, none⟩ = some (.int .i64 v.bytes) ∧ w.cell? ⟨g, o + t * 9 + 3, none⟩ = some (.int .u64 v.birth) ∧ w.cell? ⟨g, o + t * 9 + 4, none⟩ = some (.int .i64 v.kind) ∧ w.cell? ⟨g, o + t * 9 + 5, none⟩ = some (.int .u64 v.sa) ∧ w.cell? ⟨g, o + t * 9 + 6, none⟩ = some (.int .u64 v.sb) ∧ w.cell? ⟨g, o + t * 9 + 7, none⟩ = some (.int .u64 v.sc) ∧ w.cell? ⟨g, o + t * 9 + 8, none⟩ = some (.int .u64 v.sd) := by
  rcases h with h0 | ⟨g, o, rfl, hcs⟩
  · exact absurd (rowsP_get l t v hv 0 (.int .i64 v.top) rfl) (by rw [h0]; simp)
  · have hc := fun i u hu => hcs (t * 9 + i) u (rowsP_get l t v hv i u hu)
    simp only [← Nat.add_assoc] at hc
    exact ⟨g, o, rfl, hc 0 _ rfl, hc 1 _ rfl, hc 2 _ rfl, hc 3 _ rfl, hc 4 _ rfl, hc 5 _ rfl, hc 6 _ rfl, hc 7 _ rfl, hc 8 _ rfl⟩
theorem blkOf_snoc (a : List P9) (v : P9) : blkOf (a ++ [v]) = blkOf a ++ ptrB v := by unfold blkOf; simp
theorem blkOf_len (a : List P9) : (blkOf a).length = a.length * 64 := by
  induction a with
  | nil => rfl
  | cons v a ih => unfold blkOf at ih ⊢; rw [List.map_cons, List.flatten_cons, List.length_append, ih, ptrB_length, List.length_cons]; omega
theorem packB_get {l : List P9} {t : Nat} (h : t * 16 < l.length) : (packB l)[t]? = some (nb (blkOf (pc 16 t l))) := by
  unfold packB
  rw [List.getElem?_map, cutL_get (by omega) h]
  rfl
set_option maxHeartbeats 12800000 in
theorem refPack_any (p : Option Addr) (L c : Nat) (l : List P9) (w : World) (hr : Rv w p (rowsP l)) (hL : l.length = L) (hb : L ≤ 4611686018427387904) (hok : ∀ p ∈ l, P9.ok p) :
    Calls Try.prog 18 #[.slice p L c] w (PackA w l) := by
  obtain ⟨PO, hPO⟩ : ∃ PO : Ending → World → Prop, PackA w l = PO := ⟨_, rfl⟩
  rw [hPO]
  have HP1 : Hid (∀ E w', packE l = E → E ≠ 0 → Frm [] w w' → PO (.returned (.tuple #[.slice none 0 0, .int .i64 E])) w') := hid (fun E w' h1 h2 h3 => by rw [← hPO]; exact ⟨h3, Or.inl ⟨by rw [h1]; exact h2, by rw [h1]⟩⟩)
  have HP2 : Hid (∀ q m cq ls w', packE l = 0 → OwnK w' q m cq ls → ls.map Bk.bs = packB l → NewK w.heap.size q ls → Frm [] w w' → PO (.returned (.tuple #[.slice q m cq, .int .i64 0])) w') := hid (fun q m cq ls w' h1 h2 h3 h4 h5 => by rw [← hPO]; exact ⟨h5, Or.inr ⟨h1, q, m, cq, ls, rfl, h2, h3, h4⟩⟩)
  have HL := hid hL
  have HOK := hid hok
  have HR := hid hr
  by_cases hbig : 4096 < L
  · have HE : Hid (packE l = 2) := hid (by unfold packE; rw [if_pos (by rw [hL]; exact hbig)])
    clear hr hL hok hPO
    go_enter Try.func18, Try.ntmps18
    go_wp2_with fail
    first | go_returns | skip
    exact HP1.out 2 _ HE.out (by omega) (Frm.refl _ _)
  · have hb2 : L ≤ 4096 := by omega
    have HPG : Hid (∀ t : Nat, t * 16 < L → (packB l)[t]? = some (nb (blkOf (pc 16 t l)))) := hid (fun t ht => packB_get (by rw [hL]; exact ht))
    have HPL : Hid ((packB l).length = np 16 L) := hid (by unfold packB; rw [List.length_map, cutL_len, hL])
    clear hr hL hok hPO
    go_enter Try.func18, Try.ntmps18
    go_wp2_with fail
    go_loopw [4] (fun i wr => ∃ t : Nat, t ≤ L ∧ i = .int .i64 (t : Int) ∧ Hid (Frm [] w wr ∧ ∀ v ∈ l.take t, checkP v = 0)) (fun i _ => L - (intOf i).toNat)
    case atStart => exact ⟨0, Nat.zero_le _, rfl, hid ⟨Frm.refl _ _, by simp⟩⟩
    case round =>
      obtain ⟨t, ht, rfl, hin⟩ := hrel
      have HIN := hid hin.out
      clear hin
      by_cases hlt : t < L
      · have t1 : (t : Int) < (L : Int) := by omega
        obtain ⟨v, hv⟩ : ∃ v, l[t]? = some v := ⟨_, List.getElem?_eq_getElem (by rw [HL.out]; exact hlt)⟩
        obtain ⟨g, o, rfl, r0, r1, r2, r3, r4, r5, r6, r7, r8⟩ := rowsP_at (HR.out.kept HIN.out.1 (by simp)) hv
        have HVM := hid (List.mem_of_getElem? hv)
        have HTK : Hid (l.take (t + 1) = l.take t ++ [v]) := hid (by rw [List.take_add_one, hv]; rfl)
        have hck := refCheck9_any v wr
        obtain ⟨C, hC⟩ : ∃ C, checkP v = C := ⟨_, rfl⟩
        have HC := hid hC
        have HCS := hid (checkP_cases v)
        rw [hC] at hck
        obtain ⟨a0, a1, a2, a3, a4, a5, a6, a7, a8⟩ := v
        unfold P9.arr at hck
        simp only at hck r0 r1 r2 r3 r4 r5 r6 r7 r8
        have HCK := hid hck
        clear hck hv hC
        go_wp2_with fail
        refine HCK.out.mono ?_
        rintro e w5 ⟨rfl, hf5⟩
        have HF5 := hid (HIN.out.1.trans hf5 (by simp))
        clear hf5 HCK
        by_cases h0 : C = 0
        · subst h0
          have HNX : Hid (Frm [] w w5 ∧ ∀ v ∈ l.take (t + 1), checkP v = 0) := hid ⟨HF5.out, fun y hy => by
            rw [HTK.out] at hy
            rcases List.mem_append.1 hy with hy | hy
            · exact HIN.out.2 y hy
            · rw [List.mem_singleton] at hy; subst hy; exact HC.out⟩
          go_wp2_with fail
          go_roundw
          case rel => exact ⟨t + 1, by omega, by go_num, HNX⟩
          case measure => first | (simp [intOf]; done) | (simp [intOf]; omega)
        · have HE : Hid (packE l = C) := hid (by
            unfold packE
            rw [if_neg (by rw [HL.out]; exact hbig), if_neg (fun hall => h0 (by rw [← HC.out]; exact hall _ HVM.out)), ← HC.out]
            rcases HCS.out with ⟨_, h⟩ | ⟨_, _, h⟩ | ⟨_, _, h⟩
            · exact absurd (by rw [← HC.out]; exact h) h0
            · exact absurd (by rw [← HC.out]; exact h) h0
            · exact h.symm)
          have hcb : (C == 0) = false := by simpa using h0
          go_wp2_with fail
          first | go_returns | skip
          exact HP1.out C _ HE.out h0 HF5.out
      · obtain rfl : t = L := by omega
        have HALL : Hid (∀ v ∈ l, checkP v = 0) := hid (fun v hv => HIN.out.2 v (by rw [List.take_of_length_le (by rw [HL.out]; exact Nat.le_refl _)]; exact hv))
        have HE : Hid (packE l = 0) := hid (by unfold packE; rw [if_neg (by rw [HL.out]; exact hbig), if_pos HALL.out])
        have HF0 := hid HIN.out.1
        generalize wr = w5 at *
        clear HIN hlt ht
        go_wp2_with fail
        go_loopw [7, 6] (fun i s6 wr => ∃ (u a : Nat) (q : Option Addr) (cq : Nat) (ls : List Bk), a < t + 16 ∧ i = .int .i64 (a : Int) ∧ s6 = .slice q u cq ∧ u ≤ a ∧ Hid (a = u * 16) ∧ Hid (BlkS w5 wr (packB l) u q cq ls)) (fun i _ _ => t - (intOf i).toNat)
        case atStart => exact ⟨0, 0, none, 0, [], by omega, rfl, rfl, Nat.le_refl _, hid (by omega), hid (BlkS.nil _ _)⟩
        case round =>
          obtain ⟨u, a, q, cq, ls, haL, rfl, rfl, hua, hA, hin⟩ := hrel
          have HA0 := hid hA.out
          have HIN := hid hin.out
          clear hA hin
          by_cases hlt : a < t
          · have t1 : (a : Int) < (t : Int) := by omega
            obtain ⟨J, hJ⟩ : ∃ J, min 16 (t - a) = J := ⟨_, rfl⟩
            have HJ := hid hJ
            have hJ1 : J ≤ 16 := by omega
            have hJ2 : a + J ≤ t := by omega
            have HPC : Hid ((l.drop a).take J = pc 16 u l ∧ ((l.drop a).take J).length = J) := hid (by
              have hl : (l.drop a).length = t - a := by rw [List.length_drop, HL.out]
              refine ⟨?_, by rw [List.length_take, hl]; omega⟩
              unfold pc
              rw [← HA0.out]
              rcases Nat.lt_or_ge (t - a) 16 with h | h
              · rw [List.take_of_length_le (by omega), List.take_of_length_le (by omega)]
              · rw [show J = 16 by omega])
            have HZ := hid (HPG.out u (by have := HA0.out; omega))
            clear hJ
            obtain ⟨wo, rfl⟩ : ∃ z, z = wr := ⟨_, rfl⟩
            go_wp2_with fail
            go_loopw [9, 8] (fun i s8 wr => ∃ (j k : Nat) (q2 : Option Addr) (c2 : Nat), j ≤ J ∧ k ≤ t ∧ i = .int .i64 (k : Int) ∧ s8 = .slice q2 (j * 64) c2 ∧ Hid (k = a + j) ∧ Hid (Frm [] wo wr ∧ Own wr 5 (.slice q2 (j * 64) c2) (blkOf ((l.drop a).take j)) ∧ ∀ k ∈ blk q2, wo.heap.size ≤ k)) (fun i _ _ => t - (intOf i).toNat)
            case atStart => exact ⟨0, a, none, 0, Nat.zero_le _, by omega, rfl, rfl, hid (by omega), hid ⟨Frm.refl _ _, Own.nil _ _, by simp [blk]⟩⟩
            case round =>
              obtain ⟨j, k, q2, c2, hj, hkt, rfl, rfl, hK, hin2⟩ := hrel
              have HK := hid hK.out
              have HI2 := hid hin2.out
              clear hK hin2
              by_cases hltj : j < J
              · have k1 : (k : Int) < (t : Int) := by have := HK.out; omega
                have k2 : (k : Int) < (a : Int) + 16 := by have := HK.out; omega
                have hws : wrap64 ((a : Int) + 16) = (a : Int) + 16 := by unfold wrap64; omega
                obtain ⟨v, hv⟩ : ∃ v, l[k]? = some v := ⟨_, List.getElem?_eq_getElem (by rw [HL.out]; omega)⟩
                have hvd : (l.drop a)[j]? = some v := by rw [List.getElem?_drop, ← HK.out]; exact hv
                have hvm := List.mem_of_getElem? hv
                obtain ⟨g, o, hgo, r0, r1, r2, r3, r4, r5, r6, r7, r8⟩ := rowsP_at ((HR.out.kept HF0.out (by simp)).kept (HIN.out.fr.trans HI2.out.1 (by simp)) (by simp)) hv
                subst hgo
                have HLT : Hid (blkOf ((l.drop a).take (j + 1)) = blkOf ((l.drop a).take j) ++ ptrB v) := hid (by rw [List.take_add_one, hvd]; exact blkOf_snoc _ _)
                have hen := refEncode_any v (HOK.out v hvm) wr
                rw [HALL.out v hvm] at hen
                obtain ⟨zs, hzs⟩ : ∃ z, ptrB v = z := ⟨_, rfl⟩
                have HZL : Hid (zs.length = 64) := hid (by rw [← hzs, ptrB_length])
                have HTL : Hid ((blkOf ((l.drop a).take j)).length = j * 64) := hid (by rw [blkOf_len, List.length_take, List.length_drop, HL.out]; have := HK.out; congr 1; omega)
                rw [hzs] at hen HLT
                obtain ⟨a0, a1, a2, a3, a4, a5, a6, a7, a8⟩ := v
                unfold P9.arr at hen
                simp only at hen r0 r1 r2 r3 r4 r5 r6 r7 r8
                have HEN := hid hen
                clear hen hv hvd hvm hzs
                go_wp2_with fail
                refine HEN.out.mono ?_
                intro e w6 hea
                rcases hea with ⟨hne, _⟩ | ⟨_, qe, ne, ce, rfl, hne, hoe, hf6, hge⟩
                · exact absurd rfl hne
                have hn64 : ne = 64 := by rw [hne, HZL.out]
                subst hn64
                have HF6 := hid hf6
                have HOE := hid hoe
                have HOW := hid (HI2.out.2.1.kept hf6 (by simp))
                clear hoe hf6 hne hge HEN
                go_wp2_with (at_builtin; refine wpList_appB rfl _ _ 22 rfl 5 Try.underlying22 infoU8 q2 (j * 64) c2 (blkOf ((l.drop a).take j)) rfl HTL.out.symm (by rw [HTL.out]; exact HOW.out) qe 64 ce zs rfl HZL.out.symm (fun h0 _ => by have := HZL.out; rw [h0] at this; simp at this) HOE.out.rd (by rw [HTL.out, HZL.out]; omega) ?_)
                intro xs p3 c3 w9 hxs ho9 hf9 hb9
                have hxl : xs.length = (j + 1) * 64 := by rw [hxs.out, List.length_append, HTL.out, HZL.out]; omega
                have HNX : Hid (Frm [] wo w9 ∧ Own w9 5 (.slice p3 ((j + 1) * 64) c3) (blkOf ((l.drop a).take (j + 1))) ∧ ∀ k ∈ blk p3, wo.heap.size ≤ k) := hid (by
                  obtain ⟨b1, b2, b3⟩ := HI2.out
                  have hz := (b1.trans HF6.out (by simp)).size
                  refine ⟨(b1.trans HF6.out (by simp)).trans hf9.out (fun i hi hl => by have := b3 i hi; omega), ?_, fun i hi => ?_⟩
                  · have h := ho9.out
                    rw [hxl, hxs.out, ← HLT.out] at h
                    exact h
                  · rcases hb9.out i hi with h | h
                    · exact b3 i h
                    · omega)
                have HK1 : Hid (k + 1 = a + (j + 1)) := hid (by have := HK.out; omega)
                rw [hxl]
                clear ho9 hf9 hb9 hxs hxl HOW
                go_wp2_with fail
                go_roundw
                case rel => exact ⟨j + 1, k + 1, p3, c3, by omega, by omega, by go_num, rfl, HK1, HNX⟩
                case measure => first | (simp [intOf]; done) | (simp [intOf]; omega)
              · obtain rfl : j = J := by omega
                have hws : wrap64 ((a : Int) + 16) = (a : Int) + 16 := by unfold wrap64; omega
                go_upto_region 15 with fail
                go_cut [46] from 37 to 59 (fun v wx => v = .bool false ∧ wx = wr)
                case first =>
                  by_cases hx : (k : Int) < (a : Int) + 16
                  · have hx3 : t ≤ k := by have := HK.out; have := HJ.out; omega
                    have hx2 : decide ((k : Int) < (t : Int)) = false := decide_eq_false (by omega)
                    go_wp2_with fail
                    go_meet
                    case rel => exact ⟨by first | rfl | (simp; omega), rfl⟩
                  · have hx2 : decide ((k : Int) < (a : Int) + 16) = false := decide_eq_false hx
                    go_wp2_with fail
                    go_meet
                    case rel => exact ⟨rfl, rfl⟩
                obtain ⟨rfl, hwc⟩ := hcut
                have hwr := hwc.symm
                clear hwc
                subst hwr
                have HPB : Hid (blkOf ((l.drop a).take j) = blkOf (pc 16 u l)) := hid (by rw [HPC.out.1])
                obtain ⟨bb, hbb⟩ : ∃ z, blkOf ((l.drop a).take j) = z := ⟨_, rfl⟩
                have HBL : Hid (bb.length = j * 64) := hid (by rw [← hbb, blkOf_len, HPC.out.2])
                rw [hbb] at HI2 HPB
                have hj64 : j * 64 ≤ 1024 := by omega
                obtain ⟨n2, hn2⟩ : ∃ z, j * 64 = z := ⟨_, rfl⟩
                rw [hn2] at HI2 HBL hj64 ⊢
                have HBN := hid (refBlank_any q2 n2 c2 bb wr HI2.out.2.1.rd HBL.out (by omega))
                have HBK : Hid (BkOk wr (⟨q2, c2, bb⟩ : Bk)) := hid (BkOk.of_own (x := ⟨q2, c2, bb⟩) (by have h := HI2.out.2.1; rw [← HBL.out] at h; exact h))
                have hu24 : u ≤ 4096 := by omega
                clear hbb hn2 hws
                go_wp2_with fail
                refine HBN.out.mono ?_
                rintro e w7 ⟨rfl, hww⟩
                subst hww
                by_cases hbk : blank bb = true
                · have HZN : Hid ((packB l)[u]? = some []) := hid (by rw [HZ.out, ← HPB.out]; unfold nb; rw [if_pos hbk])
                  rw [hbk]
                  clear hbk HBN
                  have HA := hid ((Frm.refl [] w7).alloc (.cells #[.slice none 0 0] 22))
                  have HRV := hid (rv_block (heap_alloc_new w7 (.cells #[.slice none 0 0] 22)))
                  have HOW := hid (ownsRow_kept HIN.out.ow.ow (HI2.out.1.trans HA.out (by simp)) (by simp))
                  go_wp2_with (at_builtin; refine wpList_appV rfl _ _ 25 rfl 22 1 24 _ Try.underlying25 infoK rfl (by decide) q u cq (rowsK ls) rfl HOW.out (some ⟨w7.heap.size, 0, none⟩) 1 1 [.slice none 0 0] rfl rfl (by simp) HRV.out (by intro u hu; simp at hu; subst hu; rfl) (by unfold maxLen; omega) (by omega) ?_)
                  intro q3 c3 w3 ho3 hf3 hb3
                  have HNX : Hid (BlkS w5 w3 (packB l) (u + 1) q3 c3 (ls ++ [⟨none, 0, []⟩])) := hid (HIN.out.next (x := ⟨none, 0, []⟩) HI2.out.1 HA.out HZN.out (bkNil _) (by simp [blk]) (by have h := ho3.out; simpa [Bk.v] using h) hf3.out (fun k hk => (hb3.out k hk).imp (fun h => h) (fun h => by first | exact h | (simp at h ⊢; omega))))
                  have HA1 : Hid (a + 16 = (u + 1) * 16) := hid (by have := HA0.out; omega)
                  clear ho3 hf3 hb3 HOW HRV HA
                  go_wp2_with fail
                  go_roundw
                  case rel => exact ⟨u + 1, a + 16, q3, c3, _, by omega, by go_num, by go_num, by omega, HA1, HNX⟩
                  case measure => first | (simp [intOf]; done) | (simp [intOf]; omega)
                · have hbf : blank bb = false := by simpa using hbk
                  have HZN : Hid ((packB l)[u]? = some bb) := hid (by rw [HZ.out, ← HPB.out]; unfold nb; rw [if_neg hbk])
                  rw [hbf]
                  clear hbk hbf HBN
                  have HA := hid ((Frm.refl [] w7).alloc (.cells #[.slice q2 n2 c2] 22))
                  have HRV := hid (rv_block (heap_alloc_new w7 (.cells #[.slice q2 n2 c2] 22)))
                  have HOW := hid (ownsRow_kept HIN.out.ow.ow (HI2.out.1.trans HA.out (by simp)) (by simp))
                  go_wp2_with (at_builtin; refine wpList_appV rfl _ _ 25 rfl 22 1 24 _ Try.underlying25 infoK rfl (by decide) q u cq (rowsK ls) rfl HOW.out (some ⟨w7.heap.size, 0, none⟩) 1 1 [.slice q2 n2 c2] rfl rfl (by simp) HRV.out (by intro u hu; simp at hu; subst hu; rfl) (by unfold maxLen; omega) (by omega) ?_)
                  intro q3 c3 w3 ho3 hf3 hb3
                  have HNX : Hid (BlkS w5 w3 (packB l) (u + 1) q3 c3 (ls ++ [⟨q2, c2, bb⟩])) := hid (HIN.out.next (x := ⟨q2, c2, bb⟩) HI2.out.1 HA.out HZN.out HBK.out HI2.out.2.2 (by have h := ho3.out; rw [← HBL.out] at h; simpa [Bk.v] using h) hf3.out (fun k hk => (hb3.out k hk).imp (fun h => h) (fun h => by first | exact h | (simp at h ⊢; omega))))
                  have HA1 : Hid (a + 16 = (u + 1) * 16) := hid (by have := HA0.out; omega)
                  clear ho3 hf3 hb3 HOW HRV HA
                  go_wp2_with fail
                  go_roundw
                  case rel => exact ⟨u + 1, a + 16, q3, c3, _, by omega, by go_num, by go_num, by omega, HA1, HNX⟩
                  case measure => first | (simp [intOf]; done) | (simp [intOf]; omega)
          · have HFIN : Hid (np 16 t = u) := hid (np_eq (by omega) (by have := HA0.out; omega) (by have := HA0.out; omega))
            have HNW : Hid (NewK w.heap.size q ls) := hid ⟨fun k hk => by have := HIN.out.nw.1 k hk; have := HF0.out.size; omega, fun x hx k hk => by have := HIN.out.nw.2 x hx k hk; have := HF0.out.size; omega⟩
            go_wp2_with fail
            first | go_returns | skip
            exact HP2.out q u cq ls wr HE.out HIN.out.ow (by rw [HIN.out.bs, List.take_of_length_le (by rw [HPL.out, HFIN.out]; exact Nat.le_refl _)]) HNW.out (HF0.out.trans HIN.out.fr (by simp))
end
section
open Go.RowKit Go.Lib
set_option maxRecDepth 100000

set_option maxHeartbeats 12800000 in
theorem refUnpack_any (p : Option Addr) (L c : Nat) (bs : List Int) (w : World) (hr : Rd w p bs) (hL : bs.length = L) (hb : L ≤ 140737488351232) (hc : L ≤ c ∧ c ≤ 9223372036854775807) (hz : ∀ z ∈ bs, 0 ≤ z ∧ z < 256) :
    Calls Try.prog 20 #[.slice p L c] w (UnpA w bs) := by
  obtain ⟨PO, hPO⟩ : ∃ PO : Ending → World → Prop, UnpA w bs = PO := ⟨_, rfl⟩
  rw [hPO]
  have HP1 : Hid (∀ w', unpE bs = 120 → Frm [] w w' → PO (.returned (.tuple #[.slice none 0 0, .int .i64 120])) w') := hid (fun w' h1 h3 => by rw [← hPO]; exact ⟨h3, Or.inl ⟨h1, rfl⟩⟩)
  have HP2 : Hid (∀ q m cq w', unpE bs = 0 → w'.ownsRow 0 40 9 (.slice q m cq) m (rowsP (unpL bs)) → m = (unpL bs).length → m ≤ 16 → (∀ k ∈ blk q, w.heap.size ≤ k) → Frm [] w w' → PO (.returned (.tuple #[.slice q m cq, .int .i64 0])) w') := hid (fun q m cq w' h1 h2 h3 h4 h5 h6 => by rw [← hPO]; exact ⟨h6, Or.inr ⟨h1, q, m, cq, rfl, h2, h3, h4, h5⟩⟩)
  have HL := hid hL
  have HZ := hid hz
  by_cases hbad : badU bs
  · have HE : Hid (unpE bs = 120) := hid (by unfold unpE; rw [if_pos hbad])
    have HBAD := hid hbad
    obtain ⟨hc0, hc1⟩ := hc
    clear hr hL hz hPO hbad
    by_cases h0 : L = 0
    · subst h0
      go_enter Try.func20, Try.ntmps20
      go_wp2_with fail
      first | go_returns | skip
      exact HP1.out _ HE.out (Frm.refl _ _)
    · have h0b : ((L : Int) == 0) = false := by simp; omega
      by_cases h1 : 1024 < L
      · go_enter Try.func20, Try.ntmps20
        go_wp2_with fail
        first | go_returns | skip
        exact HP1.out _ HE.out (Frm.refl _ _)
      · have h2 : L % 64 ≠ 0 := by
          rcases HBAD.out with h | h | h <;> rw [HL.out] at h <;> omega
        have h2b : (((L : Int) % 64) != 0) = true := by simp; omega
        have h2c : ((L : Int) % 64 == 0) = false := by simp; omega
        have htm : (L : Int).tmod 64 = ((L % 64 : Nat) : Int) := by rw [Int.tmod_eq_emod_of_nonneg (by omega)]; omega
        have h2d : ((L : Int).tmod 64 != 0) = true := by rw [htm, bne_iff_ne]; omega
        have h2e : ((L : Int).tmod 64 == 0) = false := by rw [htm, beq_eq_false_iff_ne]; omega
        clear htm
        go_enter Try.func20, Try.ntmps20
        go_wp2_with fail
        first | go_returns | skip
        exact HP1.out _ HE.out (Frm.refl _ _)
  · have hnb : L ≠ 0 ∧ L ≤ 1024 ∧ L % 64 = 0 := by unfold badU at hbad; rw [hL] at hbad; omega
    obtain ⟨hn0, hn1, hn2⟩ := hnb
    have HR := hid hr
    obtain ⟨hc0, hc1⟩ := hc
    have HNB := hid hbad
    have h0b : ((L : Int) == 0) = false := by simp; omega
    have h2c : ((L : Int) % 64 == 0) = true := by simp; omega
    have h2d : ((L : Int) % 64 != 0) = false := by simp; omega
    have htm : (L : Int).tmod 64 = ((L % 64 : Nat) : Int) := by rw [Int.tmod_eq_emod_of_nonneg (by omega)]; omega
    have h2e : ((L : Int).tmod 64 != 0) = false := by rw [htm, hn2]; rfl
    clear htm
    clear hr hL hz hPO hbad
    go_enter Try.func20, Try.ntmps20
    go_wp2_with fail
    have HCL : Hid ((cutL 64 bs).length = L / 64) := hid (by rw [cutL_len, HL.out]; unfold np; omega)
    clear h0b h2c h2d h2e
    go_loopw [5, 4] (fun i s4 wr => ∃ (t a : Nat) (q : Option Addr) (cq : Nat), a ≤ L ∧ t ≤ 16 ∧ i = .int .i64 (a : Int) ∧ s4 = .slice q t cq ∧ Hid (a = t * 64) ∧ Hid (Frm [] w wr ∧ wr.ownsRow 0 40 9 (.slice q t cq) t (rowsP (((cutL 64 bs).take t).map (fun x => (decP x).1))) ∧ (∀ k ∈ blk q, w.heap.size ≤ k) ∧ ∀ x ∈ (cutL 64 bs).take t, (decP x).2 = 0)) (fun i _ _ => L - (intOf i).toNat)
    case atStart => exact ⟨0, 0, none, 0, Nat.zero_le _, Nat.zero_le _, rfl, rfl, hid (by omega), hid ⟨Frm.refl _ _, ⟨rfl, Or.inl ⟨rfl, rfl⟩⟩, by simp [blk], by simp⟩⟩
    case round =>
      obtain ⟨t, a, q, cq, ht, ht16, rfl, rfl, hA, hin⟩ := hrel
      have HA0 := hid hA.out
      clear hA
      by_cases hlt : a < L
      · have t1 : (a : Int) < (L : Int) := by omega
        obtain ⟨E4, hE4⟩ : ∃ z, a + 64 = z := ⟨_, rfl⟩
        have hws : wrap64 ((a : Int) + 64) = (a : Int) + 64 := by unfold wrap64; omega
        have hE5 : E4 ≤ L := by have := HA0.out; omega
        have hE6 : a < E4 := by omega
        obtain ⟨pp, hsl1, hsl2, hrd2, hbk2, hpp⟩ := slice_midT p bs L c a E4 HL.out (by omega) hE5 hc0 wr (HR.out.kept hin.out.1 (by simp))
        obtain rfl := hpp (by omega)
        have h64 : E4 - a = 64 := by omega
        rw [h64] at hsl1 hsl2 hrd2
        rw [show ((E4 : Nat) : Int) = (a : Int) + 64 by omega] at hsl1 hsl2
        have hpe : (bs.drop a).take 64 = pc 64 t bs := by unfold pc; rw [HA0.out]
        rw [hpe] at hrd2
        have hzc : (cutL 64 bs)[t]? = some (pc 64 t bs) := cutL_get (by omega) (by rw [HL.out, ← HA0.out]; exact hlt)
        obtain ⟨xne, xle, xin⟩ := cutL_mem (n := 64) (by omega) (List.mem_of_getElem? hzc)
        have hxl : (pc 64 t bs).length = 64 := by unfold pc; rw [List.length_take, List.length_drop, HL.out, ← HA0.out]; omega
        have hdc := refDecode_any (p.map (·.add a)) 64 (c - a) (pc 64 t bs) wr hxl hrd2 (fun z hz => HZ.out z (xin z hz)) (by omega)
        obtain ⟨xb, hxb⟩ : ∃ z, pc 64 t bs = z := ⟨_, rfl⟩
        rw [hxb] at hzc hdc
        have HTK : Hid ((cutL 64 bs).take (t + 1) = (cutL 64 bs).take t ++ [xb]) := hid (by rw [List.take_add_one, hzc]; rfl)
        have HZC := hid hzc
        obtain ⟨⟨v, E⟩, hv⟩ : ∃ z, decP xb = z := ⟨_, rfl⟩
        rw [hv] at hdc
        have HV := hid hv
        obtain ⟨a0, a1, a2, a3, a4, a5, a6, a7, a8⟩ := v
        unfold P9.arr at hdc
        simp only at hdc
        have HE4 : Hid (a + 64 = (t + 1) * 64) := hid (by have := HA0.out; omega)
        have hE7 : a + 64 ≤ L := by omega
        have ht15 : t + 1 ≤ 16 := by have := HA0.out; omega
        have HDC := hid hdc
        have HIN := hid hin.out
        clear hdc hin hzc hv xin xne hxl hrd2 hbk2 hpp hpe h64 hE4 hxb xle hws
        go_wp2_with fail
        refine HDC.out.mono ?_
        rintro e w5 ⟨rfl, hf5⟩
        by_cases hE : E = 0
        · subst hE
          obtain ⟨w6, hw6⟩ : ∃ z, w5.alloc (.cells #[.int .i64 a0, .int .i64 a1, .int .i64 a2, .int .u64 a3, .int .i64 a4, .int .u64 a5, .int .u64 a6, .int .u64 a7, .int .u64 a8] 40) = z := ⟨_, rfl⟩
          have hf6 : Frm [] w5 w6 := by rw [← hw6]; exact (Frm.refl _ _).alloc _
          have hrow6 : w6.heap[w5.heap.size]? = some (.cells #[.int .i64 a0, .int .i64 a1, .int .i64 a2, .int .u64 a3, .int .i64 a4, .int .u64 a5, .int .u64 a6, .int .u64 a7, .int .u64 a8] 40 (0, 0)) := by rw [← hw6]; exact heap_alloc_to _ _ rfl
          obtain ⟨b6, hb6⟩ : ∃ z, w5.heap.size = z := ⟨_, rfl⟩
          rw [hb6] at hrow6
          obtain ⟨y0, y1, y2, y3, y4, y5, y6, y7, y8⟩ := ptr_cells (p := ⟨a0, a1, a2, a3, a4, a5, a6, a7, a8⟩) hrow6
          simp only at y0 y1 y2 y3 y4 y5 y6 y7 y8
          have HF6 := hid (hf5.trans hf6 (by simp))
          have HW6 := hid hw6
          have HB6 := hid hb6
          clear hf5 hf6 hrow6 hw6 hb6 HDC
          go_upto_region 8 with fail
          rw [HB6.out, HW6.out]
          clear HW6 HB6
          have HA := hid ((Frm.refl [] w6).alloc (.cells #[.int .i64 a0, .int .i64 a1, .int .i64 a2, .int .u64 a3, .int .i64 a4, .int .u64 a5, .int .u64 a6, .int .u64 a7, .int .u64 a8] 40))
          have HRV := hid (rv_block (heap_alloc_new w6 (.cells #[.int .i64 a0, .int .i64 a1, .int .i64 a2, .int .u64 a3, .int .i64 a4, .int .u64 a5, .int .u64 a6, .int .u64 a7, .int .u64 a8] 40)))
          have HOW := hid (ownsRow_kept HIN.out.2.1 (HF6.out.trans HA.out (by simp)) (by simp))
          go_wp2_with (at_builtin; refine wpList_appV rfl _ _ 30 rfl 40 9 72 _ Try.underlying30 infoP9 rfl (by decide) q t cq _ rfl HOW.out (some ⟨w6.heap.size, 0, none⟩) 1 1 [.int .i64 a0, .int .i64 a1, .int .i64 a2, .int .u64 a3, .int .i64 a4, .int .u64 a5, .int .u64 a6, .int .u64 a7, .int .u64 a8] rfl rfl (by simp) HRV.out (by intro u hu; simp at hu; rcases hu with rfl | rfl | rfl | rfl | rfl | rfl | rfl | rfl | rfl <;> rfl) (by unfold maxLen; omega) (by omega) ?_)
          intro q3 c3 w3 ho3 hf3 hb3
          have HNX : Hid (Frm [] w w3 ∧ w3.ownsRow 0 40 9 (.slice q3 (t + 1) c3) (t + 1) (rowsP (((cutL 64 bs).take (t + 1)).map (fun x => (decP x).1))) ∧ (∀ k ∈ blk q3, w.heap.size ≤ k) ∧ ∀ x ∈ (cutL 64 bs).take (t + 1), (decP x).2 = 0) := hid (by
            obtain ⟨b1, b2, b3, b4⟩ := HIN.out
            have hz := b1.size
            have hz6 := HF6.out.size
            have hzA := HA.out.size
            refine ⟨((b1.trans HF6.out (by simp)).trans HA.out (by simp)).trans hf3.out (fun i hi hl => by have := b3 i hi; omega), ?_, fun i hi => ?_, fun y hy => ?_⟩
            · have h := ho3.out
              rw [HTK.out, List.map_append, rowsP_app]
              simpa [HV.out, rowsP, P9.arr] using h
            · rcases hb3.out i hi with h | h
              · exact b3 i h
              · first | omega | (simp at h; omega)
            · rw [HTK.out] at hy
              rcases List.mem_append.1 hy with hy | hy
              · exact b4 y hy
              · rw [List.mem_singleton] at hy; subst hy; rw [HV.out])
          have HA1 : Hid (a + 64 = (t + 1) * 64) := hid HE4.out
          clear ho3 hf3 hb3 HOW HRV HA y0 y1 y2 y3 y4 y5 y6 y7 y8
          go_wp2_with fail
          go_roundw
          case rel => exact ⟨t + 1, a + 64, q3, c3, by omega, by omega, by go_num, by go_num, HA1, HNX⟩
          case measure => first | (simp [intOf]; done) | (simp [intOf]; omega)
        · have HE : Hid (unpE bs = 120) := hid (by
            unfold unpE
            rw [if_neg HNB.out, if_neg (fun hall => hE (by have := hall xb (List.mem_of_getElem? HZC.out); rw [HV.out] at this; exact this))])
          have hcb : (E == 0) = false := by simpa using hE
          have HFF := hid (HIN.out.1.trans hf5 (by simp))
          clear hf5 HDC
          go_wp2_with fail
          first | go_returns | skip
          exact HP1.out _ HE.out (HFF.out.trans ((Frm.refl [] _).alloc _) (by simp))
      · have HT : Hid (t = L / 64) := hid (by have := HA0.out; omega)
        have htk : (cutL 64 bs).take t = cutL 64 bs := List.take_of_length_le (by rw [HCL.out, HT.out]; exact Nat.le_refl _)
        have HE : Hid (unpE bs = 0) := hid (by
          unfold unpE
          rw [if_neg HNB.out, if_pos (fun y hy => hin.out.2.2.2 y (by rw [htk]; exact hy))])
        have HOW : Hid (wr.ownsRow 0 40 9 (.slice q t cq) t (rowsP (unpL bs))) := hid (by have h := hin.out.2.1; rw [htk] at h; exact h)
        have HML : Hid (t = (unpL bs).length) := hid (by unfold unpL; rw [List.length_map, HCL.out, HT.out])
        have HFF := hid hin.out.1
        have HNN := hid hin.out.2.2.1
        clear hin htk
        go_wp2_with fail
        first | go_returns | skip
        exact HP2.out q t cq _ HE.out HOW.out HML.out ht16 HNN.out HFF.out
end
section
open Go.RowKit Go.Lib
set_option maxRecDepth 100000

/-- What Pack answers, in one form. -/
theorem PackA.one {w w' : World} {l : List P9} {e : Ending} (h : PackA w l e w') : ∃ q m cq ls, e = .returned (.tuple #[.slice q m cq, .int .i64 (packE l)]) ∧ OwnK w' q m cq ls ∧ ls.map Bk.bs = (if packE l = 0 then packB l else []) ∧ NewK w.heap.size q ls ∧ Frm [] w w' := by
  obtain ⟨hf, ⟨h1, h2⟩ | ⟨h1, q, m, cq, ls, h2, h3, h4, h5⟩⟩ := h
  · exact ⟨none, 0, 0, [], h2, OwnK.nil _, by rw [if_neg h1]; rfl, ⟨by simp [blk], by simp⟩, hf⟩
  · exact ⟨q, m, cq, ls, by rw [h2, h1], h3, by rw [if_pos h1]; exact h4, h5, hf⟩
def unpR (bs : List Int) : List P9 := if unpE bs = 0 then unpL bs else []
theorem UnpA.one {w w' : World} {bs : List Int} {e : Ending} (h : UnpA w bs e w') : ∃ q m cq, e = .returned (.tuple #[.slice q m cq, .int .i64 (unpE bs)]) ∧ w'.ownsRow 0 40 9 (.slice q m cq) m (rowsP (unpR bs)) ∧ m = (unpR bs).length ∧ m ≤ 16 ∧ (∀ k ∈ blk q, w.heap.size ≤ k) ∧ Frm [] w w' := by
  obtain ⟨hf, ⟨h1, h2⟩ | ⟨h1, q, m, cq, h2, h3, h4, h5, h6⟩⟩ := h
  · have h0 : unpR bs = [] := by unfold unpR; rw [h1]; rfl
    rw [h0]
    exact ⟨none, 0, 0, by rw [h2, h1], ⟨rfl, Or.inl ⟨rfl, rfl⟩⟩, rfl, by omega, by simp [blk], hf⟩
  · have h0 : unpR bs = unpL bs := by unfold unpR; rw [if_pos h1]
    rw [h0]
    exact ⟨q, m, cq, by rw [h2, h1], h3, h4, h5, h6, hf⟩
/-- A row of one's own can be read. -/
theorem rv_ofP {w : World} {p : Option Addr} {n c : Nat} {l : List P9} (h : w.ownsRow 0 40 9 (.slice p n c) n (rowsP l)) (hl : l.length = n) : Rv w p (rowsP l) := by
  by_cases hn : n = 0
  · subst hn
    rw [List.eq_nil_of_length_eq_zero hl]
    exact Or.inl rfl
  · rcases h.2 with ⟨_, h0⟩ | ⟨g, c', cur, he, _⟩
    · omega
    · simp only [Value.slice.injEq] at he
      obtain ⟨rfl, _, _⟩ := he
      have hcell := fun i hi => World.ownsRow.cellAt h i hi
      refine Or.inr ⟨g, 0, rfl, fun i u hu => ?_⟩
      have hi := (List.getElem?_eq_some_iff.1 hu).1
      rw [rowsP_len, hl] at hi
      rw [Nat.zero_add, hcell i hi]
      exact hu
set_option maxHeartbeats 12800000 in
theorem treepacks_any (p pb : Option Addr) (L c n d : Nat) (l : List P9) (bs : List Int) (w : World) (hr : Rv w p (rowsP l)) (hL : l.length = L) (hb : L * 72 ≤ 140737488351232) (hc : L ≤ c ∧ c ≤ 9223372036854775807) (hp : p = none → c = 0) (hok : ∀ v ∈ l, v.ok)
    (hrb : Rd w pb bs) (hn : bs.length = n) (hnb : n ≤ 140737488351232) (hd : n ≤ d ∧ d ≤ 9223372036854775807) (hz : ∀ z ∈ bs, 0 ≤ z ∧ z < 256) :
    Calls Try.prog 4 #[.slice p L c, .slice pb n d] w fun e w' => e = .returned (.bool true) ∧ Frm [] w w' := by
  obtain ⟨PO, hPO⟩ : ∃ PO : Ending → World → Prop, (fun e w' => e = .returned (.bool true) ∧ Frm [] w w') = PO := ⟨_, rfl⟩
  rw [hPO]
  have HP : Hid (∀ w', Frm [] w w' → PO (.returned (.bool true)) w') := hid (fun w' h => by rw [← hPO]; exact ⟨rfl, h⟩)
  have HR := hid (fun W (hf : Frm [] w W) => hr.kept hf (by simp))
  have HL := hid hL
  have HPN := hid hp
  have HAW := hid (awakeT_any w)
  have HPK := hid (fun (q : Option Addr) (cc : Nat) W (h : Rv W q (rowsP l)) (h1 : L ≤ cc ∧ cc ≤ 9223372036854775807) => pack_any q L cc l W h hL (by omega) h1 hok)
  have HRK := hid (fun W (hf : Frm [] w W) => refPack_any p L c l W (hr.kept hf (by simp)) hL (by omega) hok)
  have HUN := hid (fun W (hf : Frm [] w W) => unpack_any pb n d bs W (hrb.kept hf (by simp)) hn hnb hd hz)
  have HRU := hid (fun W (hf : Frm [] w W) => refUnpack_any pb n d bs W (hrb.kept hf (by simp)) hn hnb hd hz)
  obtain ⟨hc0, hc1⟩ := hc
  have HPB : Hid ((if packE l = 0 then packB l else []).length ≤ 4096) := hid (by
    split
    · rename_i h
      unfold packE at h
      split at h
      · omega
      · unfold packB; rw [List.length_map, cutL_len]; unfold np; omega
    · simp)
  obtain ⟨PB, hPB⟩ : ∃ z, (if packE l = 0 then packB l else []) = z := ⟨_, rfl⟩
  rw [hPB] at HPB
  have HPBE := hid hPB
  obtain ⟨C, hC⟩ : ∃ z, packE l = z := ⟨_, rfl⟩
  obtain ⟨D, hD⟩ : ∃ z, unpE bs = z := ⟨_, rfl⟩
  obtain ⟨us, hus⟩ : ∃ z, unpR bs = z := ⟨_, rfl⟩
  have HCC := hid hC
  have HDD := hid hD
  have HUS := hid hus
  have hL72 : L ≤ 1954687338212 := by omega
  clear hr hL hPO hp hok hrb hn hnb hd hz hPB hC hD hus
  go_enter Try.func4, Try.ntmps4
  go_wp2_with fail
  refine HAW.out.mono ?_
  rintro e w1 ⟨rfl, hf1⟩
  have HF1 := hid hf1
  have HRV := hid (HR.out w1 hf1)
  have HOE : Hid (w1.ownsRow 0 40 9 (.slice none 0 0) 0 (rowsP [])) := hid ⟨rfl, Or.inl ⟨rfl, rfl⟩⟩
  clear hf1 HAW
  go_wp2_with (at_builtin; refine wpList_appV rfl _ _ 30 rfl 40 9 72 _ Try.underlying30 infoP9 rfl (by decide) none 0 0 (rowsP []) rfl HOE.out p L c (rowsP l) rfl (by rw [rowsP_len, HL.out]) (fun _ h1 => HPN.out h1) HRV.out (rowsP_one _) (by unfold maxLen; omega) (by omega) ?_)
  intro p2 c2 w2 ho2 hf2 hb2
  have HO2 : Hid (w2.ownsRow 0 40 9 (.slice p2 L c2) L (rowsP l)) := hid (by have h := ho2.out; simpa [rowsP] using h)
  have e0 : 0 + L = L := by omega
  try rw [e0]
  have HF2 : Hid (Frm [] w w2) := hid (HF1.out.trans (T := []) (hf2.out.mono (by simp [blk])) (by simp))
  have HCP : Hid (L ≤ c2 ∧ c2 ≤ 9223372036854775807) := hid (by
    have h := owns_cap HO2.out
    unfold maxLen at h
    omega)
  have HLO := hid (ownsRow_low HO2.out)
  have HRO := hid (rv_ofP HO2.out HL.out)
  clear ho2 hf2 hb2 HOE HRV
  go_wp2_with fail
  refine (HPK.out p2 c2 w2 HRO.out HCP.out).mono ?_
  intro e w3 hpa
  obtain ⟨q, m, cq, ls, rfl, ho, hls, hnw, hf⟩ := hpa.one
  rw [HPBE.out] at hls
  rw [HCC.out]
  have HO := hid ho
  have HLS := hid hls
  have HNW := hid hnw
  have HF3 := hid (HF2.out.trans hf (by simp))
  have HRO3 := hid (HRO.out.kept hf (by simp))
  have hmb : m ≤ 4096 := by rw [← ho.ln, ← List.length_map (f := Bk.bs), hls]; exact HPB.out
  clear hpa ho hls hnw hf HPK HO2
  go_wp2_with fail
  refine (HRK.out w3 HF3.out).mono ?_
  intro e w4 hpa
  obtain ⟨q', m', cq', ls', rfl, ho', hls', hnw', hf'⟩ := hpa.one
  rw [HPBE.out] at hls'
  rw [HCC.out]
  obtain rfl : m' = m := by
    have h1 : (ls'.map Bk.bs).length = (ls.map Bk.bs).length := by rw [hls', HLS.out]
    rw [List.length_map, List.length_map, ho'.ln, HO.out.ln] at h1
    exact h1
  have HF4 := hid (HF3.out.trans hf' (by simp))
  have HRO4 := hid (HRO3.out.kept hf' (by simp))
  have HSK := hid (sameK_any q q' m' cq cq' ls ls' w4 (HO.out.k0 hf') ho' (by rw [HLS.out, hls']) (by omega))
  clear hpa ho' hls' hnw' hf' HRK HRO3
  go_wp2_with fail
  refine HSK.out.mono ?_
  rintro e w5 ⟨rfl, hf5⟩
  have HF5 : Hid (Frm [] w w5) := hid (HF4.out.trans hf5 (fun k hk hkl => by
    obtain ⟨x, hx, hkx⟩ := footK_mem.1 hk
    have h1 := HNW.out.2 x hx k hkx
    have h2 := HF2.out.size
    omega))
  have HRO5 : Hid (Rv w5 p2 (rowsP l)) := hid (HRO4.out.kept hf5 (fun k hk hkm => by
    obtain ⟨x, hx, hkx⟩ := footK_mem.1 hkm
    have h1 := HNW.out.2 x hx k hkx
    have h2 := HLO.out k hk
    omega))
  clear hf5 HSK
  go_wp2_with fail
  refine (HUN.out w5 HF5.out).mono ?_
  intro e w6 hua
  obtain ⟨qu, mu, cu, rfl, hu1, hu2, hu3, hu4, hu5⟩ := hua.one
  rw [HUS.out] at hu1 hu2
  rw [HDD.out]
  have HF6 := hid (HF5.out.trans hu5 (by simp))
  have HRO6 := hid (HRO5.out.kept hu5 (by simp))
  have HU1 := hid (rv_ofP hu1 hu2.symm)
  have HU2 := hid hu2
  clear hua hu1 hu2 hu4 hu5 HUN HRO5
  go_wp2_with fail
  refine (HRU.out w6 HF6.out).mono ?_
  intro e w7 hua
  obtain ⟨qv, mv, cv, rfl, hv1, hv2, hv3, hv4, hv5⟩ := hua.one
  rw [HUS.out] at hv1 hv2
  rw [HDD.out]
  obtain rfl : mv = mu := by rw [hv2, HU2.out]
  have HF7 := hid (HF6.out.trans hv5 (by simp))
  have HRO7 := hid (HRO6.out.kept hv5 (by simp))
  have HU7 := hid (HU1.out.kept hv5 (by simp))
  have HV7 := hid (rv_ofP hv1 hv2.symm)
  clear hua hv1 hv2 hv4 hv5 HRU HRO6 HU1
  go_wp2_with fail
  go_loopw [16] (fun i wr => ∃ t : Nat, t ≤ L ∧ i = .int .i64 (t : Int) ∧ Hid (Frm [] w7 wr)) (fun i _ => L - (intOf i).toNat)
  case atStart => exact ⟨0, Nat.zero_le _, rfl, hid (Frm.refl _ _)⟩
  case round =>
    obtain ⟨t, ht, rfl, hin⟩ := hrel
    have HIN := hid hin.out
    clear hin
    by_cases hlt : t < L
    · have t1 : (t : Int) < (L : Int) := by omega
      obtain ⟨v, hv⟩ : ∃ v, l[t]? = some v := ⟨_, List.getElem?_eq_getElem (by rw [HL.out]; exact hlt)⟩
      obtain ⟨g, o, hgo, r0, r1, r2, r3, r4, r5, r6, r7, r8⟩ := rowsP_at (HRO7.out.kept HIN.out (by simp)) hv
      obtain ⟨g', o', hgo', q0, q1, q2, q3, q4, q5, q6, q7, q8⟩ := rowsP_at (HR.out _ (HF7.out.trans HIN.out (by simp))) hv
      subst hgo
      subst hgo'
      have hne := fun W => eq9_neq v v W
      rw [decide_eq_true (p := v = v) rfl] at hne
      simp only [Bool.not_true] at hne
      unfold P9.arr at hne
      obtain ⟨a0, a1, a2, a3, a4, a5, a6, a7, a8⟩ := v
      simp only at hne r0 r1 r2 r3 r4 r5 r6 r7 r8 q0 q1 q2 q3 q4 q5 q6 q7 q8
      clear hv
      go_wp2_with fail
      go_quiet (fail)
      go_wp2_with fail
      go_roundw
      case rel => exact ⟨t + 1, by omega, by go_num, hid (HIN.out.drewN _)⟩
      case measure => first | (simp [intOf]; done) | (simp [intOf]; omega)
    · obtain rfl : t = L := by omega
      clear hlt ht
      go_wp2_with fail
      go_loopw [17] (fun i wx => ∃ u : Nat, u ≤ mv ∧ i = .int .i64 (u : Int) ∧ Hid (Frm [] w7 wx)) (fun i _ => mv - (intOf i).toNat)
      case atStart => exact ⟨0, Nat.zero_le _, rfl, HIN⟩
      case round =>
        clear HIN
        obtain ⟨u, hu, rfl, hin⟩ := hrel
        have HIN := hid hin.out
        clear hin
        by_cases hlt : u < mv
        · have t1 : (u : Int) < (mv : Int) := by omega
          obtain ⟨v, hv⟩ : ∃ v, us[u]? = some v := ⟨_, List.getElem?_eq_getElem (by rw [← HU2.out]; exact hlt)⟩
          obtain ⟨g, o, hgo, r0, r1, r2, r3, r4, r5, r6, r7, r8⟩ := rowsP_at (HU7.out.kept HIN.out (by simp)) hv
          obtain ⟨g', o', hgo', q0, q1, q2, q3, q4, q5, q6, q7, q8⟩ := rowsP_at (HV7.out.kept HIN.out (by simp)) hv
          subst hgo
          subst hgo'
          have hne := fun W => eq9_neq v v W
          rw [decide_eq_true (p := v = v) rfl] at hne
          simp only [Bool.not_true] at hne
          unfold P9.arr at hne
          obtain ⟨a0, a1, a2, a3, a4, a5, a6, a7, a8⟩ := v
          simp only at hne r0 r1 r2 r3 r4 r5 r6 r7 r8 q0 q1 q2 q3 q4 q5 q6 q7 q8
          clear hv
          go_wp2_with fail
          go_quiet (fail)
          go_wp2_with fail
          go_roundw
          case rel => exact ⟨u + 1, by omega, by go_num, hid (HIN.out.drewN _)⟩
          case measure => first | (simp [intOf]; done) | (simp [intOf]; omega)
        · obtain rfl : u = mv := by omega
          go_wp2_with fail
          first | go_returns | skip
          exact HP.out _ (HF7.out.trans HIN.out (by simp))
end
end Go.Proofs.Ytkolbijhekbelaa
