/- Records: the law's awake. Records: the document's Same of two records that are the same. A region that draws its order: three operations that may come up. Speaks of no program. -/
import Derived.Test.YtajfjkfnmmfhmaaDoorQas
import Derived.Test.YtajfjkfnmmfhmaaDoorQau
import Derived.Test.YtajfjkfnmmfhmaaDoorQai
import Derived.Test.YtajfjkfnmmfhmaaDoorQao
import Derived.BigQuiet
import Derived.Test.YtajfjkfnmmfhmaaDoorQah
namespace Go.Proofs.YtajfjkfnmmfhmaaDoor
section
open Go.RowKit Go.Lib
set_option maxRecDepth 100000

theorem DecP.good {w w' : World} {a : S4} {bs : List Int} {e : Ending} (h : DecP w a bs e w') (h0 : dcE a bs = 0) : Frm [] w w' ∧ ∃ r : Rc, e = .returned (.tuple #[.agg r.arr, .int .i64 (37 + spM bs), .agg (sealR a (dcH bs)).arr, .int .i64 0]) ∧ r.core = ((tvK (spK bs) (dcB bs)).rc (spK bs)).core ∧ RcOwn w' r (tvK (spK bs) (dcB bs)).p (tvK (spK bs) (dcB bs)).k (tvK (spK bs) (dcB bs)).d w.heap.size := by
  rcases h.2 with h1 | h1
  · exact absurd h0 h1.1
  · exact ⟨h.1, h1.2⟩
theorem DecP.bad {w w' : World} {a : S4} {bs : List Int} {e : Ending} {E : Int} (h : DecP w a bs e w') (h0 : dcE a bs = E) (h1 : E ≠ 0) : Frm [] w w' ∧ e = .returned (.tuple #[.agg Rc.z.arr, .int .i64 0, .agg S4.z.arr, .int .i64 E]) := by
  rcases h.2 with h2 | h2
  · exact ⟨h.1, by rw [h2.2, h0]⟩
  · exact absurd (h0.symm.trans h2.1) h1
theorem EncR.good {w w' : World} {a : S4} {r : Rc} {P : List Pr} {K D : List Int} {e : Ending} (h : EncR w a r P K D e w') (hm : RcMay r P K D) : Frm [] w w' ∧ ∃ g n, e = .returned (.tuple #[.slice (some ⟨g, 0, none⟩) n n, .agg (selR a r P K D).arr, .int .i64 0]) ∧ n = (recB a r P K D).length ∧ w'.heap[g]? = some (.cells (bv (recB a r P K D)).toArray 5 (0, 0)) ∧ w.heap.size ≤ g := by
  rcases h.2 with h2 | h2
  · exact absurd hm h2.1
  · exact ⟨h.1, h2.2⟩
theorem recB_bd {a : S4} {r : Rc} {P : List Pr} {K D : List Int} (hd : ∀ z ∈ D, 0 ≤ z ∧ z < 256) : ∀ z ∈ recB a r P K D, 0 ≤ z ∧ z < 256 := recL_bd (bodyR_bd r P K D hd)
/-- What is decoded of a record's bytes. -/
theorem dec_of {a : S4} {r : Rc} {P : List Pr} {K D : List Int} (rest : List Int) (hm : RcMay r P K D) (hp : P.length = r.pn) (hk : K.length = r.kn) (hd : D.length = r.dl) :
    37 + spM (recB a r P K D ++ rest) = ((recB a r P K D).length : Int) ∧ sealR a (dcH (recB a r P K D ++ rest)) = selR a r P K D ∧ ((tvK (spK (recB a r P K D ++ rest)) (dcB (recB a r P K D ++ rest))).rc (spK (recB a r P K D ++ rest))).core = r.core ∧ (tvK (spK (recB a r P K D ++ rest)) (dcB (recB a r P K D ++ rest))).p = P ∧ (tvK (spK (recB a r P K D ++ rest)) (dcB (recB a r P K D ++ rest))).k = K ∧ (tvK (spK (recB a r P K D ++ rest)) (dcB (recB a r P K D ++ rest))).d = D := by
  obtain ⟨h1, h2, _, h4, h5, _⟩ := rec_head a r.kind (bodyR r P K D) rest (rcMay_kind hm) (bodyR_len hm hp hk hd)
  obtain ⟨k1, k2, k3, _, k5⟩ := tv_back hm hp hk hd
  unfold recB
  rw [h1, h2, h4, h5, recL_len]
  exact ⟨by omega, rfl, k5, k1, k2, k3⟩
theorem rcOk_nil (w : World) (r : Rc) (h1 : r.pn = 0) (h2 : r.kn = 0) (h3 : r.dl = 0) : RcOk w r [] [] [] := ⟨RdP.none _ _, h1.symm, RdI.none _ _, h2.symm, Rd.nil _ _, h3.symm, by simp, by omega⟩
def rEnd (m : Int) : Rc := ⟨6, ⟨#[]⟩, 0, 0, 0, 0, ⟨#[]⟩, none, 0, 0, 0, 0, m, none, 0, 0, none, 0, 0⟩
theorem rEnd_may : RcMay (rEnd 5) [] [] [] := (rcMay_6 [] [] [] rfl).2 ⟨⟨by decide, by decide⟩, ⟨rfl, rfl, rfl, rfl, rfl, rfl, rfl, rfl, rfl, rfl, rfl, rfl, rfl⟩⟩
theorem rEnd_not : ¬ RcMay (rEnd 0) [] [] [] := fun h => by
  have h1 := ((rcMay_6 [] [] [] rfl).1 h).1.1
  exact absurd h1 (by decide)
theorem rEnd_len : (recB S4.z (rEnd 5) [] [] []).length = 41 := by
  unfold recB
  rw [recL_len, bodyR_6 [] [] [] rfl]
  rfl
theorem rEnd_nine : (recB S4.z (rEnd 5) [] [] []).take 9 = [6, 4, 0, 0, 0, 5, 0, 0, 0] := by
  unfold recB recL hbL
  rw [bodyR_6 [] [] [] rfl]
  rfl
theorem eqlS (s t : S4) (w : World) : (binOp .eql 39 (.agg #[.int .u64 s.a, .int .u64 s.b, .int .u64 s.c, .int .u64 s.d]) (.agg #[.int .u64 t.a, .int .u64 t.b, .int .u64 t.c, .int .u64 t.d])).run Tryd.prog w = .ok (.bool (decide (s = t))) w := by
  rw [run_eql_struct, show (10000 : Nat) = 9997 + 3 from rfl, eqS]
  have e : (s.a = t.a ∧ s.b = t.b ∧ s.c = t.c ∧ s.d = t.d) ↔ s = t := by
    obtain ⟨a0, a1, a2, a3⟩ := s
    obtain ⟨b0, b1, b2, b3⟩ := t
    simp
  simp only [e]
  rfl
set_option maxHeartbeats 12800000 in
theorem awake20_any (w : World) (hpr : Primes w) : Calls Tryd.prog 5 #[] w fun e w' => e = .returned (.bool true) ∧ Frm [] w w' := by
  have hbr : ∀ V, (Instr.build 30 #[(0, .int .i64 6), (10, .int .i64 5)]).run Tryd.prog V = .ok (.agg (rEnd 5).arr) V := fun V => run_build V _ _ _ (by kernel_rfl)
  have hbr2 : ∀ V, (Instr.build 30 #[(0, .int .i64 6)]).run Tryd.prog V = .ok (.agg (rEnd 0).arr) V := fun V => run_build V _ _ _ (by kernel_rfl)
  have hbs : ∀ V, (Instr.build 39 #[]).run Tryd.prog V = .ok (.agg S4.z.arr) V := fun V => run_build V _ _ _ (by kernel_rfl)
  have HPR := hid hpr
  have HE : Hid (Calls Tryd.prog 10 #[.agg #[.int .i64 6, .string ⟨#[]⟩, .int .i64 0, .int .i64 0, .int .i64 0, .int .i64 0, .string ⟨#[]⟩, .slice none 0 0, .int .i64 0, .int .i64 0, .int .i64 5, .slice none 0 0, .slice none 0 0], .agg #[.int .u64 0, .int .u64 0, .int .u64 0, .int .u64 0]] w (EncR w S4.z (rEnd 5) [] [] [])) := hid (encodeR_any (rEnd 5) [] [] [] S4.z S4.z_Bd w (rcOk_nil _ _ rfl rfl rfl) (by decide) hpr)
  have HC := hid (fun W => check_any (rEnd 0) [] [] [] W (rcOk_nil _ _ rfl rfl rfl) (by decide))
  simp only [if_neg rEnd_not] at HC
  unfold rEnd Rc.arr at hbr hbr2 HC
  unfold S4.z S4.arr at hbs
  simp only at hbr hbr2 hbs HC
  clear hpr
  go_enter Tryd.func5, Tryd.ntmps5
  go_wp2_with fail
  refine HE.out.mono ?_
  rintro e w1 he
  obtain ⟨hf1, g, n, rfl, hn, hg, hlo⟩ := EncR.good he rEnd_may
  obtain ⟨S, hS⟩ : ∃ S, selR S4.z (rEnd 5) [] [] [] = S := ⟨_, rfl⟩
  have hSe : selR S4.z (rEnd 5) [] [] [] = S := hS
  obtain ⟨BS, hBS⟩ : ∃ z, recB S4.z (rEnd 5) [] [] [] = z := ⟨_, rfl⟩
  have hl41 : BS.length = 41 := by rw [← hBS]; exact rEnd_len
  have hn41 : n = 41 := by rw [hn]; exact rEnd_len
  subst hn41
  rw [hBS] at hg
  have hrd1 : Rd w1 (some ⟨g, 0, none⟩) BS := (own_of_block (E := 5) hg (by unfold maxLen; omega)).rd
  have hbb : ∀ z ∈ BS, 0 ≤ z ∧ z < 256 := by rw [← hBS]; exact recB_bd (by simp)
  rw [hSe]
  obtain ⟨s0, s1, s2, s3⟩ := S
  simp only [S4.arr]
  have hrz := heap_alloc_new w1 (.cells #[.int .u64 s0, .int .u64 s1, .int .u64 s2, .int .u64 s3] 39)
  have hf2 : Frm [] w1 (w1.alloc (.cells #[.int .u64 s0, .int .u64 s1, .int .u64 s2, .int .u64 s3] 39)) := (Frm.refl _ _).alloc _
  obtain ⟨w2, hw2⟩ : ∃ z, w1.alloc (.cells #[.int .u64 s0, .int .u64 s1, .int .u64 s2, .int .u64 s3] 39) = z := ⟨_, rfl⟩
  obtain ⟨bz, hbz⟩ : ∃ z, w1.heap.size = z := ⟨_, rfl⟩
  rw [hw2, hbz] at hrz
  rw [hw2] at hf2
  have HF2 : Hid (Frm [] w w2) := hid (hf1.trans hf2 (by simp))
  have HRZ := hid hrz
  have HRD : Hid (∀ W, Frm [] w2 W → Rd W (some ⟨g, 0, none⟩) BS) := hid (fun W hf => (hrd1.kept hf2 (by simp)).kept hf (by simp))
  have hsl4 : ∀ W, (Instr.slice 23 (.slice (some ⟨g, 0, none⟩) 41 41) none (some (.int .i64 4)) none).run Tryd.prog W = .ok (.slice (some ⟨g, 0, none⟩) 4 41) W := fun W => sl_h (P := Tryd.prog) Tryd.underlying23 infoU8R (some ⟨g, 0, none⟩) 41 41 4 (by omega) W
  have hsl9 : ∀ W, (Instr.slice 23 (.slice (some ⟨g, 0, none⟩) 41 41) none (some (.int .i64 9)) none).run Tryd.prog W = .ok (.slice (some ⟨g, 0, none⟩) 9 41) W := fun W => sl_h (P := Tryd.prog) Tryd.underlying23 infoU8R (some ⟨g, 0, none⟩) 41 41 9 (by omega) W
  have HD1 := hid (fun W (hf : Frm [] w2 W) => decodeR_any (some ⟨g, 0, none⟩) 4 41 (BS.take 4) S4.z S4.z_Bd W (by rw [List.length_take]; omega) (by omega) (by omega) ((HRD.out W hf).take 4) (fun z hz => hbb z (List.mem_of_mem_take hz)) ((HPR.out.kept HF2.out).kept hf))
  have HD2 := hid (fun W (hf : Frm [] w2 W) => decodeR_any (some ⟨g, 0, none⟩) 41 41 BS S4.z S4.z_Bd W hl41 (by omega) (by omega) (HRD.out W hf) hbb ((HPR.out.kept HF2.out).kept hf))
  have HE1 : Hid (dcE S4.z (BS.take 4) = 10) := hid (by rw [← hBS]; exact dec_cut S4.z S4.z 4 rEnd_may rfl rfl rfl (by rw [hBS]; omega))
  have HE2 : Hid (dcE S4.z BS = 0) := hid (by have h := dec_back S4.z (r := rEnd 5) (P := []) (K := []) (D := []) [] rEnd_may rfl rfl rfl; rw [hBS, List.append_nil] at h; exact h)
  have HOF := hid (dec_of (a := S4.z) (r := rEnd 5) (P := []) (K := []) (D := []) [] rEnd_may rfl rfl rfl)
  rw [hBS, List.append_nil, hSe, hl41] at HOF
  have HN9 : Hid (BS.take 9 = [6, 4, 0, 0, 0, 5, 0, 0, 0]) := hid (by rw [← hBS]; exact rEnd_nine)
  have HW2 := hid hw2
  have HBZ := hid hbz
  clear he hg hn hlo hS hSe hBS hrd1 hbb hrz hf2 hw2 hbz hf1 HE hbr
  go_upto_region 5 with fail
  first | rw [HBZ.out] | skip
  first | rw [HW2.out] | skip
  go_wp2_with fail
  refine (HD1.out _ (Frm.refl _ _)).mono ?_
  rintro e w3 hd1
  obtain ⟨hf3, rfl⟩ := DecP.bad hd1 HE1.out (by decide)
  unfold Rc.z Rc.arr S4.z S4.arr
  simp only
  have HF3 := hid hf3
  clear hd1 hf3
  go_upto_region 6 with fail
  obtain ⟨w4, hw4⟩ : ∃ z, (w3.alloc (.cells #[.int .i64 0, .string ⟨#[]⟩, .int .i64 0, .int .i64 0, .int .i64 0, .int .i64 0, .string ⟨#[]⟩, .slice none 0 0, .int .i64 0, .int .i64 0, .int .i64 0, .slice none 0 0, .slice none 0 0] 30)).alloc (.cells #[.int .u64 0, .int .u64 0, .int .u64 0, .int .u64 0] 39) = z := ⟨_, rfl⟩
  have HF4 : Hid (Frm [] w2 w4) := hid (by rw [← hw4]; exact (HF3.out.alloc _).alloc _)
  rw [hw4]
  clear hw4
  go_wp2_with fail
  refine (HD2.out w4 HF4.out).mono ?_
  rintro e w5 hd2
  obtain ⟨hf5, r, rfl, hcr, _⟩ := DecP.good hd2 HE2.out
  rw [HOF.out.1, HOF.out.2.1]
  have hm : r.many = 5 := congrArg Rc.many (hcr.trans HOF.out.2.2.1)
  have HF5 : Hid (Frm [] w2 w5) := hid (HF4.out.trans hf5 (by simp))
  obtain ⟨kind, name, typ, frm, guid, origin, snap, pp, pn, pc, obj, at_, many, kp, kn, kc, dp, dl, dc⟩ := r
  simp only at hm
  subst hm
  unfold Rc.arr S4.arr
  simp only
  clear hd2 hcr hf5 HD1 HD2 HF3 HF4
  go_upto_region 7 with fail
  have hq6 := heap_alloc_new w5 (.cells #[.int .i64 kind, .string name, .int .i64 typ, .int .i64 frm, .int .i64 guid, .int .i64 origin, .string snap, .slice pp pn pc, .int .i64 obj, .int .i64 at_, .int .i64 5, .slice kp kn kc, .slice dp dl dc] 30)
  have hf6 : Frm [] w5 (w5.alloc (.cells #[.int .i64 kind, .string name, .int .i64 typ, .int .i64 frm, .int .i64 guid, .int .i64 origin, .string snap, .slice pp pn pc, .int .i64 obj, .int .i64 at_, .int .i64 5, .slice kp kn kc, .slice dp dl dc] 30)) := (Frm.refl _ _).alloc _
  obtain ⟨w6, hw6⟩ : ∃ z, w5.alloc (.cells #[.int .i64 kind, .string name, .int .i64 typ, .int .i64 frm, .int .i64 guid, .int .i64 origin, .string snap, .slice pp pn pc, .int .i64 obj, .int .i64 at_, .int .i64 5, .slice kp kn kc, .slice dp dl dc] 30) = z := ⟨_, rfl⟩
  obtain ⟨bx, hbx⟩ : ∃ z, w5.heap.size = z := ⟨_, rfl⟩
  have hb1 : w6.heap.size = bx + 1 := by rw [← hw6, ← hbx]; simp
  rw [hw6, hbx] at hq6
  rw [hw6] at hf6
  have hq7 := heap_alloc_new w6 (.cells #[.int .u64 s0, .int .u64 s1, .int .u64 s2, .int .u64 s3] 39)
  have hf7 : Frm [] w6 (w6.alloc (.cells #[.int .u64 s0, .int .u64 s1, .int .u64 s2, .int .u64 s3] 39)) := (Frm.refl _ _).alloc _
  obtain ⟨w7, hw7⟩ : ∃ z, w6.alloc (.cells #[.int .u64 s0, .int .u64 s1, .int .u64 s2, .int .u64 s3] 39) = z := ⟨_, rfl⟩
  rw [hw7, hb1] at hq7
  rw [hw7] at hf7
  rw [hbx, hw6, hw7]
  have HF7 : Hid (Frm [] w2 w7) := hid ((HF5.out.trans hf6 (by simp)).trans hf7 (by simp))
  have HQ6 : Hid (w7.heap[bx]? = some (.cells #[.int .i64 kind, .string name, .int .i64 typ, .int .i64 frm, .int .i64 guid, .int .i64 origin, .string snap, .slice pp pn pc, .int .i64 obj, .int .i64 at_, .int .i64 5, .slice kp kn kc, .slice dp dl dc] 30 (0, 0))) := hid (hf7.heap hq6 (by simp))
  have HQ7 := hid hq7
  have HRZ7 := hid (HF7.out.heap HRZ.out (by simp))
  clear hq6 hf6 hq7 hf7 hw6 hw7 hbx hb1
  go_wp2_with fail
  refine (HC.out w7).mono ?_
  rintro e w8 ⟨rfl, hf8⟩
  have HF8 : Hid (Frm [] w2 w8) := hid (HF7.out.trans hf8 (by simp))
  have z10 : w8.cell? ⟨bx, 10, none⟩ = some (.int .i64 5) := by rw [cell_of_row _ _ _ _ _ _ (hf8.heap HQ6.out (by simp))]; rfl
  have p0 : w8.cell? ⟨bz, 0, none⟩ = some (.int .u64 s0) := by rw [cell_of_row _ _ _ _ _ _ (hf8.heap HRZ7.out (by simp))]; rfl
  have p1 : w8.cell? ⟨bz, 1, none⟩ = some (.int .u64 s1) := by rw [cell_of_row _ _ _ _ _ _ (hf8.heap HRZ7.out (by simp))]; rfl
  have p2 : w8.cell? ⟨bz, 2, none⟩ = some (.int .u64 s2) := by rw [cell_of_row _ _ _ _ _ _ (hf8.heap HRZ7.out (by simp))]; rfl
  have p3 : w8.cell? ⟨bz, 3, none⟩ = some (.int .u64 s3) := by rw [cell_of_row _ _ _ _ _ _ (hf8.heap HRZ7.out (by simp))]; rfl
  have q0 : w8.cell? ⟨bx + 1, 0, none⟩ = some (.int .u64 s0) := by rw [cell_of_row _ _ _ _ _ _ (hf8.heap HQ7.out (by simp))]; rfl
  have q1 : w8.cell? ⟨bx + 1, 1, none⟩ = some (.int .u64 s1) := by rw [cell_of_row _ _ _ _ _ _ (hf8.heap HQ7.out (by simp))]; rfl
  have q2 : w8.cell? ⟨bx + 1, 2, none⟩ = some (.int .u64 s2) := by rw [cell_of_row _ _ _ _ _ _ (hf8.heap HQ7.out (by simp))]; rfl
  have q3 : w8.cell? ⟨bx + 1, 3, none⟩ = some (.int .u64 s3) := by rw [cell_of_row _ _ _ _ _ _ (hf8.heap HQ7.out (by simp))]; rfl
  have hcv := cv_any (P := Tryd.prog) (w := w8) 23 5 9 Tryd.underlying23 Tryd.underlying5 Tryd.underlying9 (n := 9) ((HRD.out w8 HF8.out).take 9) 41 (by rw [List.length_take]; omega)
  rw [HN9.out, show strOfNums [6, 4, 0, 0, 0, 5, 0, 0, 0] = ⟨#[6, 4, 0, 0, 0, 5, 0, 0, 0]⟩ from rfl] at hcv
  have heq := fun W => eqlS ⟨s0, s1, s2, s3⟩ ⟨s0, s1, s2, s3⟩ W
  rw [decide_eq_true rfl] at heq
  have heq2 : ∀ W, (binOp .eql 39 (.agg #[.int .u64 s0, .int .u64 s1, .int .u64 s2, .int .u64 s3]) (.agg #[.int .u64 s0, .int .u64 s1, .int .u64 s2, .int .u64 s3])).run Tryd.prog W = .ok (.bool true) W := heq
  clear hf8 heq HC
  go_wp2_with fail
  first | go_returns | skip
  exact ⟨rfl, HF2.out.trans HF8.out (by simp)⟩
end
section
open Go.RowKit Go.Lib
set_option maxRecDepth 100000

set_option maxHeartbeats 12800000 in
theorem sameTrue_any (r s : Rc) (P : List Pr) (K D : List Int) (w : World) (hr : RcOk w r P K D) (hs : RcOk w s P K D) (hc : r.core = s.core) :
    Calls Tryd.prog 12 #[.agg r.arr, .agg s.arr] w fun e w' => e = .returned (.bool true) ∧ Frm [] w w' := by
  have hp := hr.pl.symm.trans hs.pl
  have hk := hr.kl.symm.trans hs.kl
  have hd := hr.dn.symm.trans hs.dn
  obtain ⟨kind, name, typ, frm, guid, origin, snap, pp, pn, pc, obj, at_, many, kp, kn, kc, dp, dl, dc⟩ := r
  obtain ⟨kind', name', typ', frm', guid', origin', snap', pp', pn', pc', obj', at', many', kp', kn', kc', dp', dl', dc'⟩ := s
  unfold Rc.core at hc
  simp only [Rc.mk.injEq] at hc hp hk hd
  obtain ⟨rfl, rfl, rfl, rfl, rfl, rfl, rfl, _, _, _, rfl, rfl, rfl, _⟩ := hc
  subst hp hk hd
  have hrow := heap_alloc_new w (.cells (Rc.mk kind name typ frm guid origin snap pp pn pc obj at_ many kp kn kc dp dl dc).arr 30)
  have hfa : Frm [] w (w.alloc (.cells (Rc.mk kind name typ frm guid origin snap pp pn pc obj at_ many kp kn kc dp dl dc).arr 30)) := (Frm.refl _ _).alloc _
  obtain ⟨wa, hwa⟩ : ∃ z, w.alloc (.cells (Rc.mk kind name typ frm guid origin snap pp pn pc obj at_ many kp kn kc dp dl dc).arr 30) = z := ⟨_, rfl⟩
  obtain ⟨ba, hba⟩ : ∃ z, w.heap.size = z := ⟨_, rfl⟩
  rw [hwa, hba] at hrow
  rw [hwa] at hfa
  have hrow2 := heap_alloc_new wa (.cells (Rc.mk kind name typ frm guid origin snap pp' pn pc' obj at_ many kp' kn kc' dp' dl dc').arr 30)
  have hfb : Frm [] wa (wa.alloc (.cells (Rc.mk kind name typ frm guid origin snap pp' pn pc' obj at_ many kp' kn kc' dp' dl dc').arr 30)) := (Frm.refl _ _).alloc _
  obtain ⟨wb, hwb⟩ : ∃ z, wa.alloc (.cells (Rc.mk kind name typ frm guid origin snap pp' pn pc' obj at_ many kp' kn kc' dp' dl dc').arr 30) = z := ⟨_, rfl⟩
  obtain ⟨bb, hbb⟩ : ∃ z, wa.heap.size = z := ⟨_, rfl⟩
  rw [hwb, hbb] at hrow2
  rw [hwb] at hfb
  have hb1 : ba + 1 = bb := by rw [← hbb, ← hwa, ← hba]; simp
  have HB1 := hid hb1
  have HFB : Hid (Frm [] w wb) := hid (hfa.trans hfb (by simp))
  have HX := hid (fun V (hf : Frm [] wb V) => rc_cells (hf.heap (hfb.heap hrow (by simp)) (by simp)))
  have HY := hid (fun V (hf : Frm [] wb V) => rc_cells (hf.heap hrow2 (by simp)))
  have HR := hid (fun V (hf : Frm [] wb V) => hr.k0 (HFB.out.trans hf (by simp)))
  have HS := hid (fun V (hf : Frm [] wb V) => hs.k0 (HFB.out.trans hf (by simp)))
  have HWA := hid hwa
  have HWB := hid hwb
  have HBA := hid hba
  have HBB := hid hbb
  have HPL : Hid (P.length = pn) := hid hr.pl
  have HKL : Hid (K.length = kn) := hid hr.kl
  have hmx := hr.mx
  simp only at hmx
  clear hrow hfa hwa hba hrow2 hfb hwb hbb hb1 hr hs
  unfold Rc.arr at HWA HWB ⊢
  simp only at HX HY HR HS HWA HWB ⊢
  obtain ⟨x0, x1, x2, x3, x4, x5, x6, x7, x8, x9, x10, x11, x12⟩ := HX.out wb (Frm.refl _ _)
  obtain ⟨y0, y1, y2, y3, y4, y5, y6, y7, y8, y9, y10, y11, y12⟩ := HY.out wb (Frm.refl _ _)
  have hcv1 := cv_any (P := Tryd.prog) (w := wb) 23 5 9 Tryd.underlying23 Tryd.underlying5 Tryd.underlying9 (n := dl) (HR.out wb (Frm.refl _ _)).dr dc (HR.out wb (Frm.refl _ _)).dn
  have hcv2 := cv_any (P := Tryd.prog) (w := wb) 23 5 9 Tryd.underlying23 Tryd.underlying5 Tryd.underlying9 (n := dl) (HS.out wb (Frm.refl _ _)).dr dc' (HS.out wb (Frm.refl _ _)).dn
  go_enter Tryd.func12, Tryd.ntmps12
  go_upto_region 1 with fail
  first | rw [HWA.out] | skip
  first | rw [HBA.out] | skip
  first | rw [HBB.out] | skip
  first | rw [HB1.out] | skip
  first | rw [HWB.out] | skip
  go_wp2_with fail
  clear x0 x1 x2 x3 x4 x5 x6 x7 x8 x9 x10 x11 x12 y0 y1 y2 y3 y4 y5 y6 y7 y8 y9 y10 y11 y12 hcv1 hcv2
  go_loopw [5] (fun i wr => ∃ t : Nat, t ≤ pn ∧ i = .int .i64 (t : Int) ∧ Hid (Frm [] wb wr)) (fun i _ => pn - (intOf i).toNat)
  case atStart => exact ⟨0, Nat.zero_le _, rfl, hid (Frm.refl _ _)⟩
  case round =>
    obtain ⟨t, ht, rfl, hf⟩ := hrel
    have HF := hid hf.out
    clear hf
    obtain ⟨x0, x1, x2, x3, x4, x5, x6, x7, x8, x9, x10, x11, x12⟩ := HX.out wr HF.out
    obtain ⟨y0, y1, y2, y3, y4, y5, y6, y7, y8, y9, y10, y11, y12⟩ := HY.out wr HF.out
    clear x0 x1 x2 x3 x4 x5 x6 x8 x9 x10 x12 y0 y1 y2 y3 y4 y5 y6 y8 y9 y10 y12
    by_cases hlt : t < pn
    case pos =>
      have t1 : (t : Int) < (pn : Int) := by omega
      obtain ⟨g1, o1, rfl, k1⟩ := (HR.out wr HF.out).pr.at (i := t) (by rw [HPL.out]; exact hlt)
      obtain ⟨g2, o2, rfl, k2⟩ := (HS.out wr HF.out).pr.at (i := t) (by rw [HPL.out]; exact hlt)
      obtain ⟨z1, z3⟩ := k1 t (by rw [HPL.out]; exact hlt)
      obtain ⟨z2, z4⟩ := k2 t (by rw [HPL.out]; exact hlt)
      obtain ⟨pa, hpa⟩ : ∃ z, P[t]'(by rw [HPL.out]; exact hlt) = z := ⟨_, rfl⟩
      rw [hpa] at z1 z2 z3 z4
      obtain ⟨a0, a1⟩ := pa
      have hne := fun W => neqPr a0 a1 a0 a1 W
      rw [decide_eq_true rfl] at hne
      have hne2 : ∀ W, (binOp .neq 69 (.agg #[.string a0, .string a1]) (.agg #[.string a0, .string a1])).run Tryd.prog W = .ok (.bool false) W := hne
      have HF2 : Hid (∀ k, Frm [] wb (wr.drewN k)) := hid (fun k => HF.out.drewN k)
      clear k1 k2 hpa hne
      go_wp2_with fail
      go_quiet (fail)
      go_wp2_with fail
      go_roundw
      case rel => exact ⟨t + 1, by omega, by go_num, hid (HF2.out _)⟩
      case measure => first | (simp [intOf]; done) | (simp [intOf]; omega)
    obtain rfl : t = pn := by omega
    clear hlt
    obtain ⟨wc, hwc⟩ : ∃ z, wr = z := ⟨_, rfl⟩
    subst hwc
    go_wp2_with fail
    clear x7 x11 y7 y11
    go_loopw [6] (fun i wr2 => ∃ u : Nat, u ≤ kn ∧ i = .int .i64 (u : Int) ∧ Hid (Frm [] wb wr2)) (fun i _ => kn - (intOf i).toNat)
    case atStart => exact ⟨0, Nat.zero_le _, rfl, HF⟩
    case round =>
      clear HF
      obtain ⟨u, hu, rfl, hf⟩ := hrel
      have HF := hid hf.out
      clear hf
      obtain ⟨x0, x1, x2, x3, x4, x5, x6, x7, x8, x9, x10, x11, x12⟩ := HX.out _ HF.out
      obtain ⟨y0, y1, y2, y3, y4, y5, y6, y7, y8, y9, y10, y11, y12⟩ := HY.out _ HF.out
      clear x0 x1 x2 x3 x4 x5 x6 x7 x8 x9 x10 x12 y0 y1 y2 y3 y4 y5 y6 y7 y8 y9 y10 y12
      by_cases hlt : u < kn
      case pos =>
        have t1 : (u : Int) < (kn : Int) := by omega
        obtain ⟨g1, o1, rfl, k1⟩ := (HR.out _ HF.out).kr.at (i := u) (by rw [HKL.out]; exact hlt)
        obtain ⟨g2, o2, rfl, k2⟩ := (HS.out _ HF.out).kr.at (i := u) (by rw [HKL.out]; exact hlt)
        have z1 := k1 u (by rw [HKL.out]; exact hlt)
        have z2 := k2 u (by rw [HKL.out]; exact hlt)
        have HF2 := hid (fun k => HF.out.drewN k)
        obtain ⟨x, hx⟩ : ∃ x, zA K u = x := ⟨_, rfl⟩
        rw [hx] at z1 z2
        clear k1 k2 hx
        go_wp2_with fail
        go_quiet (fail)
        go_wp2_with fail
        go_roundw
        case rel => exact ⟨u + 1, by omega, by go_num, hid (HF2.out _)⟩
        case measure => first | (simp [intOf]; done) | (simp [intOf]; omega)
      obtain rfl : u = kn := by omega
      clear hlt
      go_wp2_with fail
      first | go_returns | skip
      exact ⟨rfl, HFB.out.trans HF.out (by simp)⟩
end
section
section
variable {P : Program} {ops : Array Oper} {Q : Exit → Act → World → Prop} {md : Region.Mode} {S : World → Prop}
theorem wpAnyHT_three {n i j k : Nat} {L : Array Bool → Act → World → Prop} {oi oj ok : Oper} {fuel : Nat} {listed : Array Bool} {a : Act} {w : World} (hi : ops[i]? = some oi) (hj : ops[j]? = some oj) (hk : ops[k]? = some ok) (hr : Region.ready md ops listed = [i, j, k]) (hin : decide (i < n) = true) (hjn : decide (j < n) = true) (hkn : decide (k < n) = true)
    (h1 : ∀ K' : Act → World → Prop, (∀ a w, S w → wpAnyHT P md ops Q S n L fuel (listed.setIfInBounds i true) a w → K' a w) → if Region.wanted oi (yielded ops a.tmps) = true then Oper.wp P oi a w K' Q else K' (a.put oi.dst undef) w)
    (h2 : ∀ K' : Act → World → Prop, (∀ a w, S w → wpAnyHT P md ops Q S n L fuel (listed.setIfInBounds j true) a w → K' a w) → if Region.wanted oj (yielded ops a.tmps) = true then Oper.wp P oj a w K' Q else K' (a.put oj.dst undef) w)
    (h3 : ∀ K' : Act → World → Prop, (∀ a w, S w → wpAnyHT P md ops Q S n L fuel (listed.setIfInBounds k true) a w → K' a w) → if Region.wanted ok (yielded ops a.tmps) = true then Oper.wp P ok a w K' Q else K' (a.put ok.dst undef) w) :
    wpAnyHT P md ops Q S n L (fuel + 1) listed a w := by
  refine ⟨by rw [hr]; simp, fun l hl => ?_⟩
  rw [hr, List.mem_cons, List.mem_cons, List.mem_singleton] at hl
  rcases hl with rfl | rfl | rfl
  · exact ⟨of_decide_eq_true hin, wpOp_step hi (fun K' hK => h1 K' (fun a w hS hW => hK a w ⟨hS, hW⟩))⟩
  · exact ⟨of_decide_eq_true hjn, wpOp_step hj (fun K' hK => h2 K' (fun a w hS hW => hK a w ⟨hS, hW⟩))⟩
  · exact ⟨of_decide_eq_true hkn, wpOp_step hk (fun K' hK => h3 K' (fun a w hS hW => hK a w ⟨hS, hW⟩))⟩
end
end
end Go.Proofs.YtajfjkfnmmfhmaaDoor
