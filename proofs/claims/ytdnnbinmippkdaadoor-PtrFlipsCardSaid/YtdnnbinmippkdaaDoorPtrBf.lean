/- Plain facts: pointers, labels and uberblocks there and back. -/
import Derived.Test.YtdnnbinmippkdaaDoorPtrW
import Derived.Test.YtdnnbinmippkdaaDoorPtrK
namespace Go.Proofs.YtdnnbinmippkdaaDoor
open Go.RowKit
set_option maxRecDepth 100000

theorem vA_left {a b : List Int} {pos k : Nat} (h : pos + k ≤ a.length) : valAt (a ++ b) pos k = valAt a pos k := by
  unfold valAt
  rw [List.drop_append_of_le_length (by omega), List.take_append_of_le_length (by rw [List.length_drop]; omega)]
theorem vA_right {a b : List Int} {pos q k : Nat} (h : pos = a.length + q) : valAt (a ++ b) pos k = valAt b q k := by
  unfold valAt
  rw [h, List.drop_append]
  congr 2
  rw [List.drop_eq_nil_of_le (by omega), List.nil_append]
  congr 1
  omega
theorem vA_le {v : Int} {k : Nat} (h : 0 ≤ v ∧ v < 2 ^ (8 * k)) : valAt (le v k) 0 k = v := by
  unfold valAt
  rw [List.drop_zero, List.take_of_length_le (by rw [le_length]; omega)]
  exact leV_fit v k h.1 (Int.ediv_eq_zero_of_lt h.1 h.2)
theorem vA_end {a : List Int} {v : Int} {pos k : Nat} (hp : pos = a.length) (h : 0 ≤ v ∧ v < 2 ^ (8 * k)) : valAt (a ++ le v k) pos k = v := by
  rw [vA_right (q := 0) (by omega), vA_le h]
theorem sumL_at {s0 s1 s2 s3 : Int} (h0 : 0 ≤ s0 ∧ s0 < 18446744073709551616) (h1 : 0 ≤ s1 ∧ s1 < 18446744073709551616) (h2 : 0 ≤ s2 ∧ s2 < 18446744073709551616) (h3 : 0 ≤ s3 ∧ s3 < 18446744073709551616) :
    valAt (sumL s0 s1 s2 s3) 0 8 = s0 ∧ valAt (sumL s0 s1 s2 s3) 8 8 = s1 ∧ valAt (sumL s0 s1 s2 s3) 16 8 = s2 ∧ valAt (sumL s0 s1 s2 s3) 24 8 = s3 := by
  unfold sumL
  refine ⟨?_, ?_, ?_, ?_⟩
  · rw [vA_left (by simp [le_length]), vA_left (by simp [le_length]), vA_left (by simp [le_length]), vA_le h0]
  · rw [vA_left (by simp [le_length]), vA_left (by simp [le_length]), vA_end (by simp [le_length]) h1]
  · rw [vA_left (by simp [le_length]), vA_end (by simp [le_length]) h2]
  · rw [vA_end (by simp [le_length]) h3]
theorem rdP_body (a b : List Int) (p : P9) (h : p.fits) (pos : Nat) (hp : pos = a.length) : rdP (a ++ (bodyP p ++ b)) pos = p := by
  obtain ⟨t0, t1, t2, t3, t4, t5, t6, t7, t8⟩ := h
  have hb := bodyP_length p
  obtain ⟨s0, s1, s2, s3⟩ := sumL_at t5 t6 t7 t8
  have key : ∀ q k, q + k ≤ 48 → valAt (a ++ (bodyP p ++ b)) (pos + q) k = valAt (bodyP p) q k := fun q k hq => by
    rw [vA_right (q := q) (by omega), vA_left (by omega)]
  have k0 := key 0 1 (by omega)
  rw [Nat.add_zero] at k0
  have hl : (le p.top 1 ++ le p.kind 1 ++ le p.bytes 2 ++ le p.at_ 4 ++ le p.birth 8).length = 16 := by simp [le_length]
  have f0 : valAt (bodyP p) 0 1 = p.top := by
    unfold bodyP
    rw [vA_left (by rw [hl]; omega), vA_left (by simp [le_length]), vA_left (by simp [le_length]), vA_left (by simp [le_length]), vA_left (by simp [le_length]), vA_le (by simpa using t0)]
  have f1 : valAt (bodyP p) 1 1 = p.kind := by
    unfold bodyP
    rw [vA_left (by rw [hl]; omega), vA_left (by simp [le_length]), vA_left (by simp [le_length]), vA_left (by simp [le_length]), vA_end (by simp [le_length]) (by simpa using t4)]
  have f2 : valAt (bodyP p) 2 2 = p.bytes := by
    unfold bodyP
    rw [vA_left (by rw [hl]; omega), vA_left (by simp [le_length]), vA_left (by simp [le_length]), vA_end (by simp [le_length]) (by simpa using t2)]
  have f4 : valAt (bodyP p) 4 4 = p.at_ := by
    unfold bodyP
    rw [vA_left (by rw [hl]; omega), vA_left (by simp [le_length]), vA_end (by simp [le_length]) (by simpa using t1)]
  have f8 : valAt (bodyP p) 8 8 = p.birth := by
    unfold bodyP
    rw [vA_left (by rw [hl]; omega), vA_end (by simp [le_length]) (by simpa using t3)]
  have g0 : valAt (bodyP p) 16 8 = p.sa := by unfold bodyP; rw [vA_right (q := 0) (by rw [hl]), s0]
  have g1 : valAt (bodyP p) 24 8 = p.sb := by unfold bodyP; rw [vA_right (q := 8) (by rw [hl]), s1]
  have g2 : valAt (bodyP p) 32 8 = p.sc := by unfold bodyP; rw [vA_right (q := 16) (by rw [hl]), s2]
  have g3 : valAt (bodyP p) 40 8 = p.sd := by unfold bodyP; rw [vA_right (q := 24) (by rw [hl]), s3]
  unfold rdP
  rw [k0, key 4 4 (by omega), key 2 2 (by omega), key 8 8 (by omega), key 1 1 (by omega), key 16 8 (by omega), key 24 8 (by omega), key 32 8 (by omega), key 40 8 (by omega), f0, f1, f2, f4, f8, g0, g1, g2, g3]
theorem all_rep (n : Nat) : (List.replicate n (0 : Int)).all (· == 0) = true := by
  rw [List.all_eq_true]
  intro x hx
  rw [List.eq_of_mem_replicate hx]
  rfl
theorem rep_of_all {l : List Int} {n : Nat} (h : l.all (· == 0) = true) (hl : l.length = n) : l = List.replicate n 0 := by
  rw [List.eq_replicate_iff]
  refine ⟨hl, fun b hb => ?_⟩
  rw [List.all_eq_true] at h
  simpa using h b hb
theorem decP_ptrB (p : P9) (hp : p.ok) (h : checkP p = 0) : decP (ptrB p) = (p, 0) := by
  have hr : rdP (ptrB p) 0 = p := rdP_body [] (List.replicate 16 0) p (fits_of_check hp h) 0 rfl
  have hd : (ptrB p).drop 48 = List.replicate 16 0 := by
    unfold ptrB
    rw [List.drop_append, List.drop_eq_nil_of_le (by rw [bodyP_length]; omega), List.nil_append, bodyP_length]
    rfl
  unfold decP
  rw [if_neg (by rw [ptrB_length]; simp), if_neg (by rw [hd, all_rep]; simp), hr, if_pos h]
theorem rdU_uberB (u : U12) (hu : u.ok) (hf : u.root.fits) : rdU (uberB u) = u := by
  have hl : ([85, 67, 85, 66] ++ le u.pool 8 ++ le u.txg 8 ++ le u.note 8 : List Int).length = 28 := by simp [le_length]
  have e : uberB u = ([85, 67, 85, 66] ++ le u.pool 8 ++ le u.txg 8 ++ le u.note 8) ++ (bodyP u.root ++ List.replicate 20 0) := by
    unfold uberB bodyU
    simp only [List.append_assoc]
  have f0 : valAt (uberB u) 4 8 = u.pool := by
    rw [e, vA_left (by rw [hl]; omega), vA_left (by simp [le_length]), vA_left (by simp [le_length]), vA_end (by simp) (by simpa using hu.pool)]
  have f1 : valAt (uberB u) 12 8 = u.txg := by
    rw [e, vA_left (by rw [hl]; omega), vA_left (by simp [le_length]), vA_end (by simp [le_length]) (by simpa using hu.txg)]
  have f2 : valAt (uberB u) 20 8 = u.note := by
    rw [e, vA_left (by rw [hl]; omega), vA_end (by simp [le_length]) (by simpa using hu.note)]
  have f3 : rdP (uberB u) 28 = u.root := by rw [e]; exact rdP_body _ _ _ hf 28 hl.symm
  unfold rdU
  rw [f0, f1, f2, f3]
theorem seal_take {zs : List Int} (h : zs.length = 96) : (sealB zs).take 96 = zs := by
  unfold sealB
  rw [List.take_append_of_le_length (by omega), List.take_of_length_le (by omega)]
theorem seal_sum {zs : List Int} (h : zs.length = 96) : sumOk (sealB zs) = true := by
  rw [sumOk_iff, seal_take h]
  obtain ⟨h0, h1, h2, h3⟩ := fletch_ok zs
  obtain ⟨s0, s1, s2, s3⟩ := sumL_at h0 h1 h2 h3
  unfold sumAt sealB
  rw [vA_right (q := 0) (by omega), vA_right (q := 8) (by omega), vA_right (q := 16) (by omega), vA_right (q := 24) (by omega), s0, s1, s2, s3]
theorem decU_sealB (u : U12) (hu : u.ok) (h : checkU u = 0) : decU (sealB (uberB u)) = (u, 0) := by
  have hf : u.root.fits := fits_of_check hu.root (checkU_root h)
  have hd : (uberB u).drop 76 = List.replicate 20 0 := by
    unfold uberB
    rw [List.drop_append, List.drop_eq_nil_of_le (by rw [bodyU_length]; omega), List.nil_append, bodyU_length]
    rfl
  have ht : lettersU (uberB u) = true := by
    unfold lettersU
    rw [show (uberB u).take 4 = [85, 67, 85, 66] from by unfold uberB bodyU; simp]
    rfl
  unfold decU
  rw [if_neg (by rw [sealB_length, uberB_length]; simp), if_neg (by rw [seal_sum (uberB_length u)]; simp), seal_take (uberB_length u)]
  unfold decBU
  rw [if_neg (by rw [ht]; simp), if_neg (by rw [hd, all_rep]; simp), rdU_uberB u hu hf, if_pos h]
/-- Bytes that were taken up, laid down. -/
theorem le_leP (zs : List Int) (h : ∀ z ∈ zs, 0 ≤ z ∧ z < 256) : le (leV zs) zs.length = zs := by
  induction zs with
  | nil => rfl
  | cons z zs ih =>
    have hz := h z (by simp)
    have ih := ih (fun y hy => h y (by simp [hy]))
    have hb := leV_bd zs (fun y hy => h y (by simp [hy]))
    rw [leV, List.length_cons, le, List.range_succ_eq_map, List.map_cons, List.map_map]
    congr 1
    · simp; omega
    · conv => rhs; rw [← ih]
      unfold le
      apply List.map_congr_left
      intro i _
      have e : (2 : Int) ^ (8 * (i + 1)) = 256 * 2 ^ (8 * i) := by rw [Nat.mul_add, Int.pow_add, Int.mul_comm]; rfl
      simp only [Function.comp, Nat.succ_eq_add_one]
      rw [e, ← Int.ediv_ediv_of_nonneg (by decide)]
      congr 2
      omega
theorem le_valAt {bs : List Int} (hb : ∀ z ∈ bs, 0 ≤ z ∧ z < 256) (pos k : Nat) (h : pos + k ≤ bs.length) : le (valAt bs pos k) k = (bs.drop pos).take k := by
  have hl : ((bs.drop pos).take k).length = k := by rw [List.length_take, List.length_drop]; omega
  have h1 := le_leP ((bs.drop pos).take k) (fun z hz => hb z (List.mem_of_mem_drop (List.mem_of_mem_take hz)))
  rw [hl] at h1
  exact h1
theorem tk (bs : List Int) (pos q a b c : Nat) (hq : q = pos + a) (hc : c = a + b) : (bs.drop pos).take a ++ (bs.drop q).take b = (bs.drop pos).take c := by
  subst hq hc
  rw [List.take_add, List.drop_drop]
theorem sumL_rd {bs : List Int} (hb : ∀ z ∈ bs, 0 ≤ z ∧ z < 256) (pos : Nat) (h : pos + 32 ≤ bs.length) : sumL (valAt bs pos 8) (valAt bs (pos + 8) 8) (valAt bs (pos + 16) 8) (valAt bs (pos + 24) 8) = (bs.drop pos).take 32 := by
  unfold sumL
  rw [le_valAt hb pos 8 (by omega), le_valAt hb (pos + 8) 8 (by omega), le_valAt hb (pos + 16) 8 (by omega), le_valAt hb (pos + 24) 8 (by omega), tk bs pos (pos + 8) 8 8 16 rfl rfl, tk bs pos (pos + 16) 16 8 24 rfl rfl, tk bs pos (pos + 24) 24 8 32 rfl rfl]
theorem bodyP_rd {bs : List Int} (hb : ∀ z ∈ bs, 0 ≤ z ∧ z < 256) (pos : Nat) (h : pos + 48 ≤ bs.length) : bodyP (rdP bs pos) = (bs.drop pos).take 48 := by
  have hs := sumL_rd hb (pos + 16) (by omega)
  rw [Nat.add_assoc, Nat.add_assoc, Nat.add_assoc] at hs
  unfold bodyP rdP
  dsimp only
  rw [hs, le_valAt hb pos 1 (by omega), le_valAt hb (pos + 1) 1 (by omega), le_valAt hb (pos + 2) 2 (by omega), le_valAt hb (pos + 4) 4 (by omega), le_valAt hb (pos + 8) 8 (by omega), tk bs pos (pos + 1) 1 1 2 rfl rfl, tk bs pos (pos + 2) 2 2 4 rfl rfl, tk bs pos (pos + 4) 4 4 8 rfl rfl, tk bs pos (pos + 8) 8 8 16 rfl rfl, tk bs pos (pos + 16) 16 32 48 rfl rfl]
theorem rdP_ok {bs : List Int} (hb : ∀ z ∈ bs, 0 ≤ z ∧ z < 256) (pos : Nat) (h : pos + 48 ≤ bs.length) : (rdP bs pos).ok := by
  have hv : ∀ q, q + 8 ≤ bs.length → 0 ≤ valAt bs q 8 ∧ valAt bs q 8 < 18446744073709551616 := fun q hq => by simpa using valAt_bd hb q 8 hq
  exact ⟨hv _ (by omega), hv _ (by omega), hv _ (by omega), hv _ (by omega), hv _ (by omega)⟩
theorem ptrB_decP {bs : List Int} (hb : ∀ z ∈ bs, 0 ≤ z ∧ z < 256) (h : (decP bs).2 = 0) : (decP bs).1.ok ∧ checkP (decP bs).1 = 0 ∧ ptrB (decP bs).1 = bs := by
  unfold decP at h ⊢
  split at h
  · cases h
  rename_i h1
  rw [if_neg h1]
  split at h
  · cases h
  rename_i h2
  rw [if_neg h2]
  split at h
  · rename_i h3
    rw [if_pos h3]
    have hl : bs.length = 64 := by omega
    refine ⟨rdP_ok hb 0 (by omega), h3, ?_⟩
    unfold ptrB
    rw [bodyP_rd hb 0 (by omega), List.drop_zero]
    have h4 : bs.drop 48 = List.replicate 16 0 := rep_of_all (by simpa using h2) (by rw [List.length_drop]; omega)
    rw [← h4, List.take_append_drop]
  · rename_i h3
    exact absurd h h3
theorem sealB_decU {bs : List Int} (hb : ∀ z ∈ bs, 0 ≤ z ∧ z < 256) (h : (decU bs).2 = 0) : (decU bs).1.ok ∧ checkU (decU bs).1 = 0 ∧ sealB (uberB (decU bs).1) = bs := by
  unfold decU at h ⊢
  split at h
  · cases h
  rename_i h1
  rw [if_neg h1]
  split at h
  · cases h
  rename_i h2
  rw [if_neg h2]
  have hl : bs.length = 128 := by omega
  have hs : fletch (bs.take 96) = sumAt bs 96 := (sumOk_iff bs).1 (by simpa using h2)
  have hcb : ∀ z ∈ bs.take 96, 0 ≤ z ∧ z < 256 := fun z hz => hb z (List.mem_of_mem_take hz)
  have hcl : (bs.take 96).length = 96 := by rw [List.length_take]; omega
  have hsm : sumL (fletch (bs.take 96)).a (fletch (bs.take 96)).b (fletch (bs.take 96)).c (fletch (bs.take 96)).d = bs.drop 96 := by
    rw [hs]
    unfold sumAt
    dsimp only
    rw [sumL_rd hb 96 (by omega), List.take_of_length_le (by rw [List.length_drop]; omega)]
  obtain ⟨cs, hcs⟩ : ∃ cs, bs.take 96 = cs := ⟨_, rfl⟩
  have hbs : cs ++ bs.drop 96 = bs := by rw [← hcs, List.take_append_drop]
  rw [hcs] at h hcb hcl hsm ⊢
  unfold decBU at h ⊢
  split at h
  · cases h
  rename_i h3
  rw [if_neg h3]
  split at h
  · cases h
  rename_i h4
  rw [if_neg h4]
  split at h
  · rename_i h5
    rw [if_pos h5]
    have hv : ∀ q, q + 8 ≤ cs.length → 0 ≤ valAt cs q 8 ∧ valAt cs q 8 < 18446744073709551616 := fun q hq => by simpa using valAt_bd hcb q 8 hq
    refine ⟨⟨hv _ (by omega), hv _ (by omega), hv _ (by omega), rdP_ok hcb 28 (by omega)⟩, h5, ?_⟩
    have h6 : cs.drop 76 = List.replicate 20 0 := rep_of_all (by simpa using h4) (by rw [List.length_drop]; omega)
    have h7 : cs.take 4 = [85, 67, 85, 66] := by
      have h8 : lettersU cs = true := by simpa using h3
      exact of_decide_eq_true h8
    have he : uberB (rdU cs) = cs := by
      unfold uberB bodyU rdU
      dsimp only
      have t0 := tk cs 0 4 4 8 12 rfl rfl
      rw [List.drop_zero] at t0
      rw [bodyP_rd hcb 28 (by omega), le_valAt hcb 4 8 (by omega), le_valAt hcb 12 8 (by omega), le_valAt hcb 20 8 (by omega), ← h7, ← h6, t0]
      have t1 := tk cs 0 12 12 8 20 rfl rfl
      have t2 := tk cs 0 20 20 8 28 rfl rfl
      have t3 := tk cs 0 28 28 48 76 rfl rfl
      rw [List.drop_zero] at t1 t2 t3
      rw [t1, t2, t3, List.take_append_drop]
    unfold sealB
    rw [he, hsm, hbs]
  · rename_i h5
    exact absurd h h5
/-- A label's tops, read again. -/
theorem rdTop_tops (hd : List Int) (ts : List T3) (hh : hd.length = 15) : ∀ (j : Nat) (b : List Int), (∀ i, i < j → (0 ≤ (ts.getD i default).kind ∧ (ts.getD i default).kind < 256) ∧ (0 ≤ (ts.getD i default).leaves ∧ (ts.getD i default).leaves < 256) ∧ (0 ≤ (ts.getD i default).sectors ∧ (ts.getD i default).sectors < 4294967296)) → ∀ i, i < j → rdTop (hd ++ (topsT ts j ++ b)) i = ts.getD i default := by
  intro j
  induction j with
  | zero => intro b _ i hi; omega
  | succ j ih =>
    intro b hw i hi
    by_cases hij : i < j
    · have h := ih ((le (ts.getD j default).kind 1 ++ le (ts.getD j default).leaves 1 ++ le (ts.getD j default).sectors 4) ++ b) (fun k hk => hw k (by omega)) i hij
      rw [topsT, List.append_assoc (topsT ts j)]
      exact h
    · obtain rfl : i = j := by omega
      obtain ⟨w0, w1, w2⟩ := hw i (by omega)
      obtain ⟨t, ht⟩ : ∃ t, ts.getD i default = t := ⟨_, rfl⟩
      rw [ht] at w0 w1 w2
      have e : hd ++ (topsT ts (i + 1) ++ b) = (hd ++ topsT ts i) ++ ((le t.kind 1 ++ le t.leaves 1 ++ le t.sectors 4) ++ b) := by
        rw [topsT, ht]
        simp only [List.append_assoc]
      have hl : (hd ++ topsT ts i).length = 15 + 6 * i := by rw [List.length_append, hh, topsT_length]
      obtain ⟨B, hB⟩ : ∃ B, le t.kind 1 ++ le t.leaves 1 ++ le t.sectors 4 = B := ⟨_, rfl⟩
      have hBl : B.length = 6 := by rw [← hB]; simp [le_length]
      have k0 : valAt B 0 1 = t.kind := by rw [← hB, vA_left (by simp [le_length]), vA_left (by simp [le_length]), vA_le (by simpa using w0)]
      have k1 : valAt B 1 1 = t.leaves := by rw [← hB, vA_left (by simp [le_length]), vA_end (by simp [le_length]) (by simpa using w1)]
      have k2 : valAt B 2 4 = t.sectors := by rw [← hB, vA_end (by simp [le_length]) (by simpa using w2)]
      rw [e, ht, hB]
      unfold rdTop
      have e0 : valAt (hd ++ topsT ts i ++ (B ++ b)) (15 + 6 * i) 1 = t.kind := by rw [vA_right (q := 0) (by omega), vA_left (by omega), k0]
      have e1 : valAt (hd ++ topsT ts i ++ (B ++ b)) (15 + 6 * i + 1) 1 = t.leaves := by rw [vA_right (q := 1) (by omega), vA_left (by omega), k1]
      have e2 : valAt (hd ++ topsT ts i ++ (B ++ b)) (15 + 6 * i + 2) 4 = t.sectors := by rw [vA_right (q := 2) (by omega), vA_left (by omega), k2]
      rw [e0, e1, e2]
theorem checkL_same {a b : LabV} (h : a.same b) : checkL a = checkL b := by
  obtain ⟨_, h1, h2, h3, h4⟩ := h
  unfold checkL
  rw [h1, h2, h3, h4]
theorem decL_sealB (l : LabV) (w : World) (hl : l.ok w) (h : checkL l = 0) : (decL (sealB (labB l))).2 = 0 ∧ (decL (sealB (labB l))).1.same l := by
  have hf := checkL_ok hl h
  have hlen := labB_length hf.n
  have hn := hf.n
  have hhl := headL_length l
  have e : labB l = headL l ++ (topsT l.ts l.n ++ List.replicate (81 - 6 * l.n) 0) := by unfold labB bodyL; rw [List.append_assoc]
  have f0 : valAt (labB l) 4 8 = l.pool := by
    rw [e, vA_left (by omega)]
    unfold headL
    rw [vA_left (by simp [le_length]), vA_left (by simp [le_length]), vA_left (by simp [le_length]), vA_end (by simp) (by simpa using hl.pool)]
  have f1 : valAt (labB l) 12 1 = l.top := by
    rw [e, vA_left (by omega)]
    unfold headL
    rw [vA_left (by simp [le_length]), vA_left (by simp [le_length]), vA_end (by simp [le_length]) (by simpa using hf.top)]
  have f2 : valAt (labB l) 13 1 = l.place := by
    rw [e, vA_left (by omega)]
    unfold headL
    rw [vA_left (by simp [le_length]), vA_end (by simp [le_length]) (by simpa using hf.place)]
  have f3 : valAt (labB l) 14 1 = (l.n : Int) := by
    rw [e, vA_left (by omega)]
    unfold headL
    rw [vA_end (by simp [le_length]) (by simp; omega)]
  have hmany : manyL (labB l) = l.n := by unfold manyL; rw [f3]; omega
  have hok : okL (labB l) = true := by
    unfold okL lettersL
    rw [hmany, show (labB l).take 4 = [85, 67, 76, 66] from by unfold labB bodyL headL; simp]
    simp
    omega
  have hts : topsAt (labB l) l.n = l.ts := by
    apply List.ext_getElem?
    intro i
    unfold topsAt
    by_cases hi : i < l.n
    · rw [List.getElem?_map, List.getElem?_range hi]
      rw [List.getElem?_eq_getElem (by rw [hl.len]; exact hi)]
      have h1 := rdTop_tops (headL l) l.ts hhl l.n (List.replicate (81 - 6 * l.n) 0) (fun k hk => hf.each k hk) i hi
      rw [← e, List.getD_eq_getElem?_getD, List.getElem?_eq_getElem (by rw [hl.len]; exact hi)] at h1
      simpa using h1
    · rw [List.getElem?_eq_none (by simp; omega), List.getElem?_eq_none (by rw [hl.len]; omega)]
  have hdr : (labB l).drop (15 + 6 * manyL (labB l)) = List.replicate (81 - 6 * l.n) 0 := by
    rw [hmany]
    unfold labB
    rw [List.drop_append, List.drop_eq_nil_of_le (by rw [bodyL_length]; omega), List.nil_append, bodyL_length, Nat.sub_self, List.drop_zero]
  have hsame : (labAt (labB l) none 0).same l := ⟨f0, hmany, f1, f2, by show topsAt (labB l) (manyL (labB l)) = l.ts; rw [hmany, hts]⟩
  unfold decL
  rw [if_neg (by rw [sealB_length, hlen]; simp), if_neg (by rw [seal_sum hlen]; simp), seal_take hlen]
  unfold decBL
  rw [if_neg (by rw [hok]; simp), if_neg (by rw [hdr, all_rep]; simp), if_pos (by rw [checkL_same hsame]; exact h)]
  exact ⟨rfl, hsame⟩
end Go.Proofs.YtdnnbinmippkdaaDoor
