/- Plain facts: pointers, labels and uberblocks there and back. Contracts of the document's writer (layer 1). The document's forms: numbers, sums and noughts behind bytes. Contracts of the document's ptr: Encode of a pointer. Contracts of the law's own. Contracts of the document's ptr: SameLabel of two labels that are the same. -/
import Derived.Test.YtkolbijhekbelaaQag
import Derived.Test.YtkolbijhekbelaaQac
import Derived.Test.YtkolbijhekbelaaQae
import Derived.BigQuiet
namespace Go.Proofs.Ytkolbijhekbelaa
section
open Go.RowKit
set_option maxRecDepth 100000

theorem vA_left {a b : List Int} {pos k : Nat} (h : pos + k ≤ a.length) : valAt (a ++ b) pos k = valAt a pos k := by
  unfold valAt
  rw [List.drop_append_of_le_length (by omega), List.take_append_of_le_length (by rw [List.length_drop]; omega)]
theorem vA_right {a b : List Int} {pos q k : Nat} (h : pos = a.length + q) : valAt (a ++ b) pos k = valAt b q k := by
  unfold valAt
  rw [h, List.drop_append]
  congr 2
  rw [List.drop_eq_nil_of_le (by omega), List.nil_append]
  congr 1
  omega
theorem vA_le {v : Int} {k : Nat} (h : 0 ≤ v ∧ v < 2 ^ (8 * k)) : valAt (le v k) 0 k = v := by
  unfold valAt
  rw [List.drop_zero, List.take_of_length_le (by rw [le_length]; omega)]
  exact leV_fit v k h.1 (Int.ediv_eq_zero_of_lt h.1 h.2)
theorem vA_end {a : List Int} {v : Int} {pos k : Nat} (hp : pos = a.length) (h : 0 ≤ v ∧ v < 2 ^ (8 * k)) : valAt (a ++ le v k) pos k = v := by
  rw [vA_right (q := 0) (by omega), vA_le h]
theorem sumL_at {s0 s1 s2 s3 : Int} (h0 : 0 ≤ s0 ∧ s0 < 18446744073709551616) (h1 : 0 ≤ s1 ∧ s1 < 18446744073709551616) (h2 : 0 ≤ s2 ∧ s2 < 18446744073709551616) (h3 : 0 ≤ s3 ∧ s3 < 18446744073709551616) :
    valAt (sumL s0 s1 s2 s3) 0 8 = s0 ∧ valAt (sumL s0 s1 s2 s3) 8 8 = s1 ∧ valAt (sumL s0 s1 s2 s3) 16 8 = s2 ∧ valAt (sumL s0 s1 s2 s3) 24 8 = s3 := by
  unfold sumL
  refine ⟨?_, ?_, ?_, ?_⟩
  · rw [vA_left (by simp [le_length]), vA_left (by simp [le_length]), vA_left (by simp [le_length]), vA_le h0]
  · rw [vA_left (by simp [le_length]), vA_left (by simp [le_length]), vA_end (by simp [le_length]) h1]
  · rw [vA_left (by simp [le_length]), vA_end (by simp [le_length]) h2]
  · rw [vA_end (by simp [le_length]) h3]
theorem rdP_body (a b : List Int) (p : P9) (h : p.fits) (pos : Nat) (hp : pos = a.length) : rdP (a ++ (bodyP p ++ b)) pos = p := by
  obtain ⟨t0, t1, t2, t3, t4, t5, t6, t7, t8⟩ := h
  have hb := bodyP_length p
  obtain ⟨s0, s1, s2, s3⟩ := sumL_at t5 t6 t7 t8
  have key : ∀ q k, q + k ≤ 48 → valAt (a ++ (bodyP p ++ b)) (pos + q) k = valAt (bodyP p) q k := fun q k hq => by
    rw [vA_right (q := q) (by omega), vA_left (by omega)]
  have k0 := key 0 1 (by omega)
  rw [Nat.add_zero] at k0
  have hl : (le p.top 1 ++ le p.kind 1 ++ le p.bytes 2 ++ le p.at_ 4 ++ le p.birth 8).length = 16 := by simp [le_length]
  have f0 : valAt (bodyP p) 0 1 = p.top := by
    unfold bodyP
    rw [vA_left (by rw [hl]; omega), vA_left (by simp [le_length]), vA_left (by simp [le_length]), vA_left (by simp [le_length]), vA_left (by simp [le_length]), vA_le (by simpa using t0)]
  have f1 : valAt (bodyP p) 1 1 = p.kind := by
    unfold bodyP
    rw [vA_left (by rw [hl]; omega), vA_left (by simp [le_length]), vA_left (by simp [le_length]), vA_left (by simp [le_length]), vA_end (by simp [le_length]) (by simpa using t4)]
  have f2 : valAt (bodyP p) 2 2 = p.bytes := by
    unfold bodyP
    rw [vA_left (by rw [hl]; omega), vA_left (by simp [le_length]), vA_left (by simp [le_length]), vA_end (by simp [le_length]) (by simpa using t2)]
  have f4 : valAt (bodyP p) 4 4 = p.at_ := by
    unfold bodyP
    rw [vA_left (by rw [hl]; omega), vA_left (by simp [le_length]), vA_end (by simp [le_length]) (by simpa using t1)]
  have f8 : valAt (bodyP p) 8 8 = p.birth := by
    unfold bodyP
    rw [vA_left (by rw [hl]; omega), vA_end (by simp [le_length]) (by simpa using t3)]
  have g0 : valAt (bodyP p) 16 8 = p.sa := by unfold bodyP; rw [vA_right (q := 0) (by rw [hl]), s0]
  have g1 : valAt (bodyP p) 24 8 = p.sb := by unfold bodyP; rw [vA_right (q := 8) (by rw [hl]), s1]
  have g2 : valAt (bodyP p) 32 8 = p.sc := by unfold bodyP; rw [vA_right (q := 16) (by rw [hl]), s2]
  have g3 : valAt (bodyP p) 40 8 = p.sd := by unfold bodyP; rw [vA_right (q := 24) (by rw [hl]), s3]
  unfold rdP
  rw [k0, key 4 4 (by omega), key 2 2 (by omega), key 8 8 (by omega), key 1 1 (by omega), key 16 8 (by omega), key 24 8 (by omega), key 32 8 (by omega), key 40 8 (by omega), f0, f1, f2, f4, f8, g0, g1, g2, g3]
theorem all_rep (n : Nat) : (List.replicate n (0 : Int)).all (· == 0) = true := by
  rw [List.all_eq_true]
  intro x hx
  rw [List.eq_of_mem_replicate hx]
  rfl
theorem rep_of_all {l : List Int} {n : Nat} (h : l.all (· == 0) = true) (hl : l.length = n) : l = List.replicate n 0 := by
  rw [List.eq_replicate_iff]
  refine ⟨hl, fun b hb => ?_⟩
  rw [List.all_eq_true] at h
  simpa using h b hb
theorem decP_ptrB (p : P9) (hp : p.ok) (h : checkP p = 0) : decP (ptrB p) = (p, 0) := by
  have hr : rdP (ptrB p) 0 = p := rdP_body [] (List.replicate 16 0) p (fits_of_check hp h) 0 rfl
  have hd : (ptrB p).drop 48 = List.replicate 16 0 := by
    unfold ptrB
    rw [List.drop_append, List.drop_eq_nil_of_le (by rw [bodyP_length]; omega), List.nil_append, bodyP_length]
    rfl
  unfold decP
  rw [if_neg (by rw [ptrB_length]; simp), if_neg (by rw [hd, all_rep]; simp), hr, if_pos h]
theorem rdU_uberB (u : U12) (hu : u.ok) (hf : u.root.fits) : rdU (uberB u) = u := by
  have hl : ([85, 67, 85, 66] ++ le u.pool 8 ++ le u.txg 8 ++ le u.note 8 : List Int).length = 28 := by simp [le_length]
  have e : uberB u = ([85, 67, 85, 66] ++ le u.pool 8 ++ le u.txg 8 ++ le u.note 8) ++ (bodyP u.root ++ List.replicate 20 0) := by
    unfold uberB bodyU
    simp only [List.append_assoc]
  have f0 : valAt (uberB u) 4 8 = u.pool := by
    rw [e, vA_left (by rw [hl]; omega), vA_left (by simp [le_length]), vA_left (by simp [le_length]), vA_end (by simp) (by simpa using hu.pool)]
  have f1 : valAt (uberB u) 12 8 = u.txg := by
    rw [e, vA_left (by rw [hl]; omega), vA_left (by simp [le_length]), vA_end (by simp [le_length]) (by simpa using hu.txg)]
  have f2 : valAt (uberB u) 20 8 = u.note := by
    rw [e, vA_left (by rw [hl]; omega), vA_end (by simp [le_length]) (by simpa using hu.note)]
  have f3 : rdP (uberB u) 28 = u.root := by rw [e]; exact rdP_body _ _ _ hf 28 hl.symm
  unfold rdU
  rw [f0, f1, f2, f3]
theorem seal_take {zs : List Int} (h : zs.length = 96) : (sealB zs).take 96 = zs := by
  unfold sealB
  rw [List.take_append_of_le_length (by omega), List.take_of_length_le (by omega)]
theorem seal_sum {zs : List Int} (h : zs.length = 96) : sumOk (sealB zs) = true := by
  rw [sumOk_iff, seal_take h]
  obtain ⟨h0, h1, h2, h3⟩ := fletch_ok zs
  obtain ⟨s0, s1, s2, s3⟩ := sumL_at h0 h1 h2 h3
  unfold sumAt sealB
  rw [vA_right (q := 0) (by omega), vA_right (q := 8) (by omega), vA_right (q := 16) (by omega), vA_right (q := 24) (by omega), s0, s1, s2, s3]
theorem decU_sealB (u : U12) (hu : u.ok) (h : checkU u = 0) : decU (sealB (uberB u)) = (u, 0) := by
  have hf : u.root.fits := fits_of_check hu.root (checkU_root h)
  have hd : (uberB u).drop 76 = List.replicate 20 0 := by
    unfold uberB
    rw [List.drop_append, List.drop_eq_nil_of_le (by rw [bodyU_length]; omega), List.nil_append, bodyU_length]
    rfl
  have ht : lettersU (uberB u) = true := by
    unfold lettersU
    rw [show (uberB u).take 4 = [85, 67, 85, 66] from by unfold uberB bodyU; simp]
    rfl
  unfold decU
  rw [if_neg (by rw [sealB_length, uberB_length]; simp), if_neg (by rw [seal_sum (uberB_length u)]; simp), seal_take (uberB_length u)]
  unfold decBU
  rw [if_neg (by rw [ht]; simp), if_neg (by rw [hd, all_rep]; simp), rdU_uberB u hu hf, if_pos h]
/-- Bytes that were taken up, laid down. -/
theorem le_leP (zs : List Int) (h : ∀ z ∈ zs, 0 ≤ z ∧ z < 256) : le (leV zs) zs.length = zs := by
  induction zs with
  | nil => rfl
  | cons z zs ih =>
    have hz := h z (by simp)
    have ih := ih (fun y hy => h y (by simp [hy]))
    have hb := leV_bd zs (fun y hy => h y (by simp [hy]))
    rw [leV, List.length_cons, le, List.range_succ_eq_map, List.map_cons, List.map_map]
    congr 1
    · simp; omega
    · conv => rhs; rw [← ih]
      unfold le
      apply List.map_congr_left
      intro i _
      have e : (2 : Int) ^ (8 * (i + 1)) = 256 * 2 ^ (8 * i) := by rw [Nat.mul_add, Int.pow_add, Int.mul_comm]; rfl
      simp only [Function.comp, Nat.succ_eq_add_one]
      rw [e, ← Int.ediv_ediv_of_nonneg (by decide)]
      congr 2
      omega
theorem le_valAt {bs : List Int} (hb : ∀ z ∈ bs, 0 ≤ z ∧ z < 256) (pos k : Nat) (h : pos + k ≤ bs.length) : le (valAt bs pos k) k = (bs.drop pos).take k := by
  have hl : ((bs.drop pos).take k).length = k := by rw [List.length_take, List.length_drop]; omega
  have h1 := le_leP ((bs.drop pos).take k) (fun z hz => hb z (List.mem_of_mem_drop (List.mem_of_mem_take hz)))
  rw [hl] at h1
  exact h1
theorem tk (bs : List Int) (pos q a b c : Nat) (hq : q = pos + a) (hc : c = a + b) : (bs.drop pos).take a ++ (bs.drop q).take b = (bs.drop pos).take c := by
  subst hq hc
  rw [List.take_add, List.drop_drop]
theorem sumL_rd {bs : List Int} (hb : ∀ z ∈ bs, 0 ≤ z ∧ z < 256) (pos : Nat) (h : pos + 32 ≤ bs.length) : sumL (valAt bs pos 8) (valAt bs (pos + 8) 8) (valAt bs (pos + 16) 8) (valAt bs (pos + 24) 8) = (bs.drop pos).take 32 := by
  unfold sumL
  rw [le_valAt hb pos 8 (by omega), le_valAt hb (pos + 8) 8 (by omega), le_valAt hb (pos + 16) 8 (by omega), le_valAt hb (pos + 24) 8 (by omega), tk bs pos (pos + 8) 8 8 16 rfl rfl, tk bs pos (pos + 16) 16 8 24 rfl rfl, tk bs pos (pos + 24) 24 8 32 rfl rfl]
theorem bodyP_rd {bs : List Int} (hb : ∀ z ∈ bs, 0 ≤ z ∧ z < 256) (pos : Nat) (h : pos + 48 ≤ bs.length) : bodyP (rdP bs pos) = (bs.drop pos).take 48 := by
  have hs := sumL_rd hb (pos + 16) (by omega)
  rw [Nat.add_assoc, Nat.add_assoc, Nat.add_assoc] at hs
  unfold bodyP rdP
  dsimp only
  rw [hs, le_valAt hb pos 1 (by omega), le_valAt hb (pos + 1) 1 (by omega), le_valAt hb (pos + 2) 2 (by omega), le_valAt hb (pos + 4) 4 (by omega), le_valAt hb (pos + 8) 8 (by omega), tk bs pos (pos + 1) 1 1 2 rfl rfl, tk bs pos (pos + 2) 2 2 4 rfl rfl, tk bs pos (pos + 4) 4 4 8 rfl rfl, tk bs pos (pos + 8) 8 8 16 rfl rfl, tk bs pos (pos + 16) 16 32 48 rfl rfl]
theorem rdP_ok {bs : List Int} (hb : ∀ z ∈ bs, 0 ≤ z ∧ z < 256) (pos : Nat) (h : pos + 48 ≤ bs.length) : (rdP bs pos).ok := by
  have hv : ∀ q, q + 8 ≤ bs.length → 0 ≤ valAt bs q 8 ∧ valAt bs q 8 < 18446744073709551616 := fun q hq => by simpa using valAt_bd hb q 8 hq
  exact ⟨hv _ (by omega), hv _ (by omega), hv _ (by omega), hv _ (by omega), hv _ (by omega)⟩
theorem ptrB_decP {bs : List Int} (hb : ∀ z ∈ bs, 0 ≤ z ∧ z < 256) (h : (decP bs).2 = 0) : (decP bs).1.ok ∧ checkP (decP bs).1 = 0 ∧ ptrB (decP bs).1 = bs := by
  unfold decP at h ⊢
  split at h
  · cases h
  rename_i h1
  rw [if_neg h1]
  split at h
  · cases h
  rename_i h2
  rw [if_neg h2]
  split at h
  · rename_i h3
    rw [if_pos h3]
    have hl : bs.length = 64 := by omega
    refine ⟨rdP_ok hb 0 (by omega), h3, ?_⟩
    unfold ptrB
    rw [bodyP_rd hb 0 (by omega), List.drop_zero]
    have h4 : bs.drop 48 = List.replicate 16 0 := rep_of_all (by simpa using h2) (by rw [List.length_drop]; omega)
    rw [← h4, List.take_append_drop]
  · rename_i h3
    exact absurd h h3
theorem sealB_decU {bs : List Int} (hb : ∀ z ∈ bs, 0 ≤ z ∧ z < 256) (h : (decU bs).2 = 0) : (decU bs).1.ok ∧ checkU (decU bs).1 = 0 ∧ sealB (uberB (decU bs).1) = bs := by
  unfold decU at h ⊢
  split at h
  · cases h
  rename_i h1
  rw [if_neg h1]
  split at h
  · cases h
  rename_i h2
  rw [if_neg h2]
  have hl : bs.length = 128 := by omega
  have hs : fletch (bs.take 96) = sumAt bs 96 := (sumOk_iff bs).1 (by simpa using h2)
  have hcb : ∀ z ∈ bs.take 96, 0 ≤ z ∧ z < 256 := fun z hz => hb z (List.mem_of_mem_take hz)
  have hcl : (bs.take 96).length = 96 := by rw [List.length_take]; omega
  have hsm : sumL (fletch (bs.take 96)).a (fletch (bs.take 96)).b (fletch (bs.take 96)).c (fletch (bs.take 96)).d = bs.drop 96 := by
    rw [hs]
    unfold sumAt
    dsimp only
    rw [sumL_rd hb 96 (by omega), List.take_of_length_le (by rw [List.length_drop]; omega)]
  obtain ⟨cs, hcs⟩ : ∃ cs, bs.take 96 = cs := ⟨_, rfl⟩
  have hbs : cs ++ bs.drop 96 = bs := by rw [← hcs, List.take_append_drop]
  rw [hcs] at h hcb hcl hsm ⊢
  unfold decBU at h ⊢
  split at h
  · cases h
  rename_i h3
  rw [if_neg h3]
  split at h
  · cases h
  rename_i h4
  rw [if_neg h4]
  split at h
  · rename_i h5
    rw [if_pos h5]
    have hv : ∀ q, q + 8 ≤ cs.length → 0 ≤ valAt cs q 8 ∧ valAt cs q 8 < 18446744073709551616 := fun q hq => by simpa using valAt_bd hcb q 8 hq
    refine ⟨⟨hv _ (by omega), hv _ (by omega), hv _ (by omega), rdP_ok hcb 28 (by omega)⟩, h5, ?_⟩
    have h6 : cs.drop 76 = List.replicate 20 0 := rep_of_all (by simpa using h4) (by rw [List.length_drop]; omega)
    have h7 : cs.take 4 = [85, 67, 85, 66] := by
      have h8 : lettersU cs = true := by simpa using h3
      exact of_decide_eq_true h8
    have he : uberB (rdU cs) = cs := by
      unfold uberB bodyU rdU
      dsimp only
      have t0 := tk cs 0 4 4 8 12 rfl rfl
      rw [List.drop_zero] at t0
      rw [bodyP_rd hcb 28 (by omega), le_valAt hcb 4 8 (by omega), le_valAt hcb 12 8 (by omega), le_valAt hcb 20 8 (by omega), ← h7, ← h6, t0]
      have t1 := tk cs 0 12 12 8 20 rfl rfl
      have t2 := tk cs 0 20 20 8 28 rfl rfl
      have t3 := tk cs 0 28 28 48 76 rfl rfl
      rw [List.drop_zero] at t1 t2 t3
      rw [t1, t2, t3, List.take_append_drop]
    unfold sealB
    rw [he, hsm, hbs]
  · rename_i h5
    exact absurd h h5
/-- A label's tops, read again. -/
theorem rdTop_tops (hd : List Int) (ts : List T3) (hh : hd.length = 15) : ∀ (j : Nat) (b : List Int), (∀ i, i < j → (0 ≤ (ts.getD i default).kind ∧ (ts.getD i default).kind < 256) ∧ (0 ≤ (ts.getD i default).leaves ∧ (ts.getD i default).leaves < 256) ∧ (0 ≤ (ts.getD i default).sectors ∧ (ts.getD i default).sectors < 4294967296)) → ∀ i, i < j → rdTop (hd ++ (topsT ts j ++ b)) i = ts.getD i default := by
  intro j
  induction j with
  | zero => intro b _ i hi; omega
  | succ j ih =>
    intro b hw i hi
    by_cases hij : i < j
    · have h := ih ((le (ts.getD j default).kind 1 ++ le (ts.getD j default).leaves 1 ++ le (ts.getD j default).sectors 4) ++ b) (fun k hk => hw k (by omega)) i hij
      rw [topsT, List.append_assoc (topsT ts j)]
      exact h
    · obtain rfl : i = j := by omega
      obtain ⟨w0, w1, w2⟩ := hw i (by omega)
      obtain ⟨t, ht⟩ : ∃ t, ts.getD i default = t := ⟨_, rfl⟩
      rw [ht] at w0 w1 w2
      have e : hd ++ (topsT ts (i + 1) ++ b) = (hd ++ topsT ts i) ++ ((le t.kind 1 ++ le t.leaves 1 ++ le t.sectors 4) ++ b) := by
        rw [topsT, ht]
        simp only [List.append_assoc]
      have hl : (hd ++ topsT ts i).length = 15 + 6 * i := by rw [List.length_append, hh, topsT_length]
      obtain ⟨B, hB⟩ : ∃ B, le t.kind 1 ++ le t.leaves 1 ++ le t.sectors 4 = B := ⟨_, rfl⟩
      have hBl : B.length = 6 := by rw [← hB]; simp [le_length]
      have k0 : valAt B 0 1 = t.kind := by rw [← hB, vA_left (by simp [le_length]), vA_left (by simp [le_length]), vA_le (by simpa using w0)]
      have k1 : valAt B 1 1 = t.leaves := by rw [← hB, vA_left (by simp [le_length]), vA_end (by simp [le_length]) (by simpa using w1)]
      have k2 : valAt B 2 4 = t.sectors := by rw [← hB, vA_end (by simp [le_length]) (by simpa using w2)]
      rw [e, ht, hB]
      unfold rdTop
      have e0 : valAt (hd ++ topsT ts i ++ (B ++ b)) (15 + 6 * i) 1 = t.kind := by rw [vA_right (q := 0) (by omega), vA_left (by omega), k0]
      have e1 : valAt (hd ++ topsT ts i ++ (B ++ b)) (15 + 6 * i + 1) 1 = t.leaves := by rw [vA_right (q := 1) (by omega), vA_left (by omega), k1]
      have e2 : valAt (hd ++ topsT ts i ++ (B ++ b)) (15 + 6 * i + 2) 4 = t.sectors := by rw [vA_right (q := 2) (by omega), vA_left (by omega), k2]
      rw [e0, e1, e2]
theorem checkL_same {a b : LabV} (h : a.same b) : checkL a = checkL b := by
  obtain ⟨_, h1, h2, h3, h4⟩ := h
  unfold checkL
  rw [h1, h2, h3, h4]
theorem decL_sealB (l : LabV) (w : World) (hl : l.ok w) (h : checkL l = 0) : (decL (sealB (labB l))).2 = 0 ∧ (decL (sealB (labB l))).1.same l := by
  have hf := checkL_ok hl h
  have hlen := labB_length hf.n
  have hn := hf.n
  have hhl := headL_length l
  have e : labB l = headL l ++ (topsT l.ts l.n ++ List.replicate (81 - 6 * l.n) 0) := by unfold labB bodyL; rw [List.append_assoc]
  have f0 : valAt (labB l) 4 8 = l.pool := by
    rw [e, vA_left (by omega)]
    unfold headL
    rw [vA_left (by simp [le_length]), vA_left (by simp [le_length]), vA_left (by simp [le_length]), vA_end (by simp) (by simpa using hl.pool)]
  have f1 : valAt (labB l) 12 1 = l.top := by
    rw [e, vA_left (by omega)]
    unfold headL
    rw [vA_left (by simp [le_length]), vA_left (by simp [le_length]), vA_end (by simp [le_length]) (by simpa using hf.top)]
  have f2 : valAt (labB l) 13 1 = l.place := by
    rw [e, vA_left (by omega)]
    unfold headL
    rw [vA_left (by simp [le_length]), vA_end (by simp [le_length]) (by simpa using hf.place)]
  have f3 : valAt (labB l) 14 1 = (l.n : Int) := by
    rw [e, vA_left (by omega)]
    unfold headL
    rw [vA_end (by simp [le_length]) (by simp; omega)]
  have hmany : manyL (labB l) = l.n := by unfold manyL; rw [f3]; omega
  have hok : okL (labB l) = true := by
    unfold okL lettersL
    rw [hmany, show (labB l).take 4 = [85, 67, 76, 66] from by unfold labB bodyL headL; simp]
    simp
    omega
  have hts : topsAt (labB l) l.n = l.ts := by
    apply List.ext_getElem?
    intro i
    unfold topsAt
    by_cases hi : i < l.n
    · rw [List.getElem?_map, List.getElem?_range hi]
      rw [List.getElem?_eq_getElem (by rw [hl.len]; exact hi)]
      have h1 := rdTop_tops (headL l) l.ts hhl l.n (List.replicate (81 - 6 * l.n) 0) (fun k hk => hf.each k hk) i hi
      rw [← e, List.getD_eq_getElem?_getD, List.getElem?_eq_getElem (by rw [hl.len]; exact hi)] at h1
      simpa using h1
    · rw [List.getElem?_eq_none (by simp; omega), List.getElem?_eq_none (by rw [hl.len]; omega)]
  have hdr : (labB l).drop (15 + 6 * manyL (labB l)) = List.replicate (81 - 6 * l.n) 0 := by
    rw [hmany]
    unfold labB
    rw [List.drop_append, List.drop_eq_nil_of_le (by rw [bodyL_length]; omega), List.nil_append, bodyL_length, Nat.sub_self, List.drop_zero]
  have hsame : (labAt (labB l) none 0).same l := ⟨f0, hmany, f1, f2, by show topsAt (labB l) (manyL (labB l)) = l.ts; rw [hmany, hts]⟩
  unfold decL
  rw [if_neg (by rw [sealB_length, hlen]; simp), if_neg (by rw [seal_sum hlen]; simp), seal_take hlen]
  unfold decBL
  rw [if_neg (by rw [hok]; simp), if_neg (by rw [hdr, all_rep]; simp), if_pos (by rw [checkL_same hsame]; exact h)]
  exact ⟨rfl, hsame⟩
end
section
open Go.RowKit
set_option maxRecDepth 100000

set_option maxHeartbeats 400000 in
theorem form_any (n : Int) (k : Nat) (hn : 0 ≤ n) (hn2 : n < 18446744073709551616) (hk : k ≤ 8) (w : World) :
    Calls Try.prog 41 #[.int .u64 n, .int .i64 k] w fun e w' => ∃ p c ok, e = .returned (.tuple #[.slice p k c, .bool ok]) ∧ Own w' 5 (.slice p k c) (le n k) ∧ (ok = true ↔ n / 2 ^ (8 * k) = 0) ∧ Frm [] w w' ∧ ∀ i ∈ blk p, w.heap.size ≤ i := by
  go_enter Try.func41, Try.ntmps41
  go_wp2_with fail
  go_loopw [0, 6, 7] (fun v b i wr => ∃ (j : Nat) (p : Option Addr) (c : Nat), j ≤ k ∧ i = .int .i64 j ∧ v = .int .u64 (n / 2 ^ (8 * j)) ∧ b = .slice p j c ∧ Hid (Own wr 5 (.slice p j c) (le n j)) ∧ Hid (Frm [] w wr) ∧ Hid (∀ i ∈ blk p, w.heap.size ≤ i)) (fun _ _ i _ => k - (intOf i).toNat)
  case atStart => exact ⟨0, none, 0, Nat.zero_le _, rfl, by simp, rfl, Own.nil _ _, Frm.refl _ _, by simp [Hid, blk]⟩
  case round =>
    obtain ⟨j, p, c, hj, rfl, rfl, rfl, ho, hf, hfr⟩ := hrel
    have hq : 0 ≤ n / 2 ^ (8 * j) ∧ n / 2 ^ (8 * j) < 18446744073709551616 := by
      refine ⟨Int.ediv_nonneg hn (Int.pow_nonneg (by decide)), ?_⟩
      exact Int.lt_of_le_of_lt (Int.ediv_le_self _ hn) hn2
    have hsucc : n / 2 ^ (8 * (j + 1)) = n / 2 ^ (8 * j) / 256 := by
      rw [Int.ediv_ediv_of_nonneg (Int.pow_nonneg (by decide)), Nat.mul_add, Int.pow_add]; rfl
    have HS := hid hsucc
    have hle := le_succ n j
    have HLE := hid hle
    have HL := hid (le_length n j)
    clear hsucc hle
    obtain ⟨q, hqq⟩ : ∃ q, n / 2 ^ (8 * j) = q := ⟨_, rfl⟩
    rw [hqq] at hq HS HLE ⊢
    have HQ := hid hqq
    clear hqq
    obtain ⟨hq0, hq1⟩ := hq
    by_cases hlt : j < k
    · have hrd : Rd (wr.alloc (.cells #[.int .u8 (q % 256)] 5)) (some ⟨wr.heap.size, 0, none⟩) [q % 256] :=
        (own_of_block (E := 5) (zs := [q % 256]) (heap_alloc_new wr _) (by simp [maxLen])).rd
      have HRD := hid hrd
      have HO := hid (ho.out.kept ((Frm.refl [] wr).alloc (.cells #[.int .u8 (q % 256)] 5)) (by simp))
      clear hrd
      go_wp2_with (at_builtin; refine wpList_appB rfl _ _ 22 rfl 5 Try.underlying22 infoE p _ c (le n j) rfl HL.out.symm (by rw [HL.out]; exact HO.out) (some ⟨wr.heap.size, 0, none⟩) 1 1 [q % 256] rfl rfl (by simp) HRD.out (by rw [HL.out]; simp; omega) ?_)
      intro xs p2 c2 w2 hxs ho2 hf2 hfr2
      have hxl : xs.length = j + 1 := by rw [hxs.out, ← HLE.out, le_length]
      rw [hxl]
      have HXL := hid hxl
      clear hxl
      go_wp2_with fail
      go_roundw
      case rel =>
        refine ⟨j + 1, p2, c2, by omega, by go_num, by rw [HS.out], rfl, ?_, ?_, ?_⟩
        · have := ho2.out
          rw [HXL.out] at this
          rw [HLE.out, ← hxs.out]
          exact this
        · exact (hf.out.alloc _).trans hf2.out (by intro i hi hlt; have := hfr.out i hi; omega)
        · intro i hi
          rcases hfr2.out i hi with h | h
          · exact hfr.out i h
          · have := hf.out.size; omega
      case measure => simp [intOf]; omega
    · obtain rfl : j = k := by omega
      go_wp2_with fail
      go_returns
      exact ⟨p, c, _, rfl, ho.out, by rw [HQ.out]; simp, hf.out, hfr.out⟩

theorem World.cell_of_heap {w : World} {b : Nat} {cs : Array Value} {T : TypeId} (h : w.heap[b]? = some (.cells cs T (0, 0))) (i : Nat) : w.cell? ⟨b, i, none⟩ = cs[i]? := cell_of_row w b i cs T (0, 0) h
end
section
open Go.RowKit
set_option maxRecDepth 100000

/-- Bytes of one's own at p behind a step that may have written into them, or moved them. -/
structure BufN (w : World) (p : Option Addr) (w' : World) (p' : Option Addr) (n' c' : Nat) (zs : List Int) : Prop where
  own : Own w' 5 (.slice p' n' c') zs
  len : zs.length = n'
  fr : Frm (blk p) w w'
  bk : ∀ i ∈ blk p', i ∈ blk p ∨ w.heap.size ≤ i
theorem BufN.trans {w w1 w2 : World} {p p1 p2 : Option Addr} {n1 c1 n2 c2 : Nat} {zs ys : List Int} (h : BufN w p w1 p1 n1 c1 zs) (k : BufN w1 p1 w2 p2 n2 c2 ys) : BufN w p w2 p2 n2 c2 ys :=
  ⟨k.own, k.len, h.fr.trans k.fr (fun i hi hl => (h.bk i hi).elim id (fun h => absurd hl (Nat.not_lt.2 h))), fun i hi => (k.bk i hi).elim (h.bk i) (fun h2 => Or.inr (Nat.le_trans h.fr.size h2))⟩
theorem BufN.pre {w w0 w1 : World} {p p1 : Option Addr} {n1 c1 : Nat} {zs : List Int} (hf : Frm [] w w0) (h : BufN w0 p w1 p1 n1 c1 zs) : BufN w p w1 p1 n1 c1 zs :=
  ⟨h.own, h.len, (hf.mono (by simp)).trans h.fr (fun i hi _ => hi), fun i hi => (h.bk i hi).imp id (fun h2 => Nat.le_trans hf.size h2)⟩
theorem BufN.post {w w1 w2 : World} {p p1 : Option Addr} {n1 c1 : Nat} {zs : List Int} (h : BufN w p w1 p1 n1 c1 zs) (hf : Frm [] w1 w2) : BufN w p w2 p1 n1 c1 zs :=
  ⟨h.own.kept hf (by simp), h.len, h.fr.trans hf (by simp), h.bk⟩
theorem own_capF {w : World} {E : TypeId} {p : Option Addr} {n c : Nat} {zs : List Int} (h : Own w E (.slice p n c) zs) : zs.length = n ∧ n ≤ c ∧ (p = none → c = 0) := by
  obtain ⟨p', c', he, hle, hn, _⟩ := h.shape
  simp only [Value.slice.injEq] at he
  obtain ⟨rfl, h2, rfl⟩ := he
  exact ⟨h2.symm, by omega, fun hp => (hn hp).2⟩
set_option maxHeartbeats 1600000 in
theorem refNum_any (p : Option Addr) (n c : Nat) (zs : List Int) (v : Int) (k : Nat) (w : World) (ho : Own w 5 (.slice p n c) zs) (hv : 0 ≤ v ∧ v < 18446744073709551616) (hk : k ≤ 8) (hn : n ≤ 1000000) :
    Calls Try.prog 49 #[.slice p n c, .int .u64 v, .int .i64 (k : Int)] w fun e w' => ∃ p' c', e = .returned (.slice p' (n + k) c') ∧ BufN w p w' p' (n + k) c' (zs ++ le v k) := by
  have HO := hid ho
  have hl := (own_capF ho).1
  have HF := hid (form_any v k hv.1 hv.2 hk w)
  clear ho
  go_enter Try.func49, Try.ntmps49
  go_wp2_with fail
  refine HF.out.mono ?_
  rintro e w1 ⟨q, d, ok, rfl, ho1, _, hf1, hb1⟩
  have HO1 := hid (HO.out.kept hf1 (by simp))
  have HQ := hid ho1
  have hq := own_capF ho1
  have HF1 := hid hf1
  clear ho1 hf1 hb1 HF
  go_wp2_with (at_builtin; refine wpList_appB rfl _ _ 22 rfl 5 Try.underlying22 infoB p n c zs rfl hl.symm (by rw [hl]; exact HO1.out) q k d (le v k) rfl (le_length v k).symm (fun _ => hq.2.2) HQ.out.rd (by rw [hl, le_length]; omega) ?_)
  intro xs p2 c2 w2 hxs ho hf hfr
  have hx := hxs.out
  have hxl : xs.length = n + k := by rw [hx, List.length_append, hl, le_length]
  have HB : Hid (BufN w p w2 p2 (n + k) c2 (zs ++ le v k)) := hid (by
    have h1 := ho.out
    rw [hxl, hx] at h1
    refine BufN.pre HF1.out ⟨h1, by rw [← hx]; exact hxl, hf.out, fun i hi => ?_⟩
    exact hfr.out i hi)
  rw [hxl]
  clear hxs ho hf hfr hx hxl hq
  go_wp2_with fail
  go_returns
  exact ⟨p2, c2, rfl, HB.out⟩
set_option maxHeartbeats 1600000 in
theorem refSums_any (p : Option Addr) (n c : Nat) (zs : List Int) (s0 s1 s2 s3 : Int) (w : World) (ho : Own w 5 (.slice p n c) zs) (h0 : 0 ≤ s0 ∧ s0 < 18446744073709551616) (h1 : 0 ≤ s1 ∧ s1 < 18446744073709551616) (h2 : 0 ≤ s2 ∧ s2 < 18446744073709551616) (h3 : 0 ≤ s3 ∧ s3 < 18446744073709551616) (hn : n ≤ 999900) :
    Calls Try.prog 50 #[.slice p n c, .agg #[.int .u64 s0, .int .u64 s1, .int .u64 s2, .int .u64 s3]] w fun e w' => ∃ p' c', e = .returned (.slice p' (n + 32) c') ∧ BufN w p w' p' (n + 32) c' (zs ++ sumL s0 s1 s2 s3) := by
  have hfa : Frm [] w (w.alloc (.cells #[.int .u64 s0, .int .u64 s1, .int .u64 s2, .int .u64 s3] 38)) := (Frm.refl _ _).alloc _
  have HFA := hid hfa
  have HROW := hid (heap_alloc_new w (.cells #[.int .u64 s0, .int .u64 s1, .int .u64 s2, .int .u64 s3] 38))
  have HO0 := hid (ho.kept hfa (by simp))
  have HLW : Hid (∀ k ∈ blk p, k < w.heap.size) := hid (fun k hk => ho.lows k hk)
  have HN := hid (fun q d ys m W (h : Own W 5 (.slice q m d) ys) (hm : m ≤ 1000000) v (hv : 0 ≤ v ∧ v < 18446744073709551616) => refNum_any q m d ys v 8 W h hv (by omega) hm)
  have HB := hid (And.intro h0 (And.intro h1 (And.intro h2 h3)))
  clear hfa ho h0 h1 h2 h3
  go_enter Try.func50, Try.ntmps50
  go_wp2_with fail
  obtain ⟨sb, hsb⟩ : ∃ sb, w.heap.size = sb := ⟨_, rfl⟩
  obtain ⟨wa, hwa⟩ : ∃ wa, w.alloc (.cells #[.int .u64 s0, .int .u64 s1, .int .u64 s2, .int .u64 s3] 38) = wa := ⟨_, rfl⟩
  have HSB := hid hsb
  rw [hwa] at HFA HO0
  rw [hwa, hsb] at HROW
  rw [hwa, hsb]
  clear hwa hsb
  have HSL : Hid (sb < wa.heap.size) := hid (lt_of_heap HROW.out)
  have HNB : Hid (sb ∉ blk p) := hid (fun h => by have := HLW.out sb h; have := HSB.out; omega)
  refine (HN.out p c zs n wa HO0.out (by omega) s0 HB.out.1).mono ?_
  rintro e w1 ⟨p1, c1, rfl, b1⟩
  have B1 := hid b1
  have hr1 := b1.fr.heap HROW.out HNB.out
  have HR1 := hid hr1
  have HN1 : Hid (sb ∉ blk p1) := hid (fun h => (b1.bk sb h).elim HNB.out (fun h => by have := HSL.out; omega))
  have k1 : w1.cell? ⟨sb, 1, none⟩ = some (.int .u64 s1) := by rw [cell_of_row w1 _ _ _ _ _ hr1]; rfl
  clear b1 hr1
  go_wp2_with fail
  refine (HN.out p1 c1 _ (n + 8) w1 B1.out.own (by omega) s1 HB.out.2.1).mono ?_
  rintro e w2 ⟨p2, c2, rfl, b2⟩
  have B2 := hid (B1.out.trans b2)
  have hr2 := b2.fr.heap HR1.out HN1.out
  have HR2 := hid hr2
  have HN2 : Hid (sb ∉ blk p2) := hid (fun h => (b2.bk sb h).elim HN1.out (fun h => by have := lt_of_heap HR1.out; omega))
  have k2 : w2.cell? ⟨sb, 2, none⟩ = some (.int .u64 s2) := by rw [cell_of_row w2 _ _ _ _ _ hr2]; rfl
  clear b2 hr2 k1
  go_wp2_with fail
  refine (HN.out p2 c2 _ (n + 8 + 8) w2 B2.out.own (by omega) s2 HB.out.2.2.1).mono ?_
  rintro e w3 ⟨p3, c3, rfl, b3⟩
  have B3 := hid (B2.out.trans b3)
  have hr3 := b3.fr.heap HR2.out HN2.out
  have k3 : w3.cell? ⟨sb, 3, none⟩ = some (.int .u64 s3) := by rw [cell_of_row w3 _ _ _ _ _ hr3]; rfl
  clear b3 hr3 k2
  go_wp2_with fail
  refine (HN.out p3 c3 _ (n + 8 + 8 + 8) w3 B3.out.own (by omega) s3 HB.out.2.2.2).mono ?_
  rintro e w4 ⟨p4, c4, rfl, b4⟩
  have B4 : Hid (BufN w p w4 p4 (n + 32) c4 (zs ++ sumL s0 s1 s2 s3)) := hid (by
    have h := (B3.out.trans b4).pre HFA.out
    rw [show n + 8 + 8 + 8 + 8 = n + 32 by omega] at h
    unfold sumL
    simpa only [List.append_assoc] using h)
  rw [show n + 8 + 8 + 8 + 8 = n + 32 by omega]
  clear b4 k3
  go_wp2_with fail
  go_returns
  exact ⟨p4, c4, rfl, B4.out⟩
set_option maxHeartbeats 1600000 in
theorem refPad_any (p : Option Addr) (n c : Nat) (zs : List Int) (to : Nat) (w : World) (ho : Own w 5 (.slice p n c) zs) (hn : n ≤ to) (hto : to ≤ 1000000) :
    Calls Try.prog 51 #[.slice p n c, .int .i64 (to : Int)] w fun e w' => ∃ p' c', e = .returned (.slice p' to c') ∧ BufN w p w' p' to c' (zs ++ List.replicate (to - n) 0) := by
  have hl := (own_capF ho).1
  have HB0 : Hid (BufN w p w p n c (zs ++ List.replicate 0 0)) := hid (by simpa using (⟨ho, hl, Frm.refl _ _, fun i hi => Or.inl hi⟩ : BufN w p w p n c zs))
  clear ho
  go_enter Try.func51, Try.ntmps51
  go_wp2_with fail
  go_loopw [0] (fun v wr => ∃ (k m d : Nat) (q : Option Addr), v = .slice q m d ∧ Hid (m = n + k) ∧ Hid (m ≤ to) ∧ Hid (BufN w p wr q m d (zs ++ List.replicate k 0))) (fun v _ => to - lenV v)
  case atStart => exact ⟨0, n, c, p, rfl, hid rfl, hid hn, HB0⟩
  case round =>
    clear HB0
    obtain ⟨k, m, d, q, rfl, hm, hmt, hb⟩ := hrel
    have hm' := hmt.out
    by_cases hlt : m < to
    · have t1 : (m : Int) < (to : Int) := by omega
      have HRZ : Hid (Rd (wr.alloc (.cells #[.int .u8 0] 5)) (some ⟨wr.heap.size, 0, none⟩) [0]) := hid (own_of_block (E := 5) (zs := [0]) (heap_alloc_new wr _) (by simp [maxLen])).rd
      have HBA := hid (hb.out.post ((Frm.refl [] wr).alloc (.cells #[.int .u8 0] 5)))
      have hlen := hb.out.len
      clear hb
      go_wp2_with (at_builtin; refine wpList_appB rfl _ _ 22 rfl 5 Try.underlying22 infoB q m d (zs ++ List.replicate k 0) rfl hlen.symm (by rw [hlen]; exact HBA.out.own) (some ⟨wr.heap.size, 0, none⟩) 1 1 [0] rfl rfl (by simp) HRZ.out (by rw [hlen]; simp; omega) ?_)
      intro xs p2 c2 w2 hxs ho2 hf2 hfr2
      have hx : xs = zs ++ List.replicate (k + 1) 0 := by rw [hxs.out, List.replicate_succ']
      have hxl : xs.length = m + 1 := by
        have h1 := hlen
        rw [hx]
        simp only [List.length_append, List.length_replicate] at h1 ⊢
        omega
      have HB2 : Hid (BufN w p w2 p2 (m + 1) c2 (zs ++ List.replicate (k + 1) 0)) := hid (by
        have h1 := ho2.out
        rw [hxl, hx] at h1
        exact HBA.out.trans ⟨h1, by rw [← hx]; exact hxl, hf2.out, by simpa using hfr2.out⟩)
      rw [hxl]
      clear hxs ho2 hf2 hfr2 hx hxl hlen HBA HRZ
      go_wp2_with fail
      go_roundw
      case rel => exact ⟨k + 1, m + 1, c2, p2, rfl, hid (by have := hm.out; omega), hid (by omega), HB2⟩
      case measure => simp [lenV]; omega
    · obtain rfl : m = to := by omega
      have t1 : ¬ (m : Int) < (m : Int) := by omega
      clear hlt
      go_wp2_with fail
      go_returns
      refine ⟨q, d, rfl, ?_⟩
      have h := hb.out
      rwa [show k = m - n by have := hm.out; omega] at h
end
section
open Go.RowKit
set_option maxRecDepth 100000

theorem le_one' (v : Int) (h0 : 0 ≤ v) (h1 : v < 256) : le v 1 = [v] := by
  simp [le, List.range_succ]
  omega
/-- What the document's encoding answers: the error, or bytes of its own. -/
def EncD (w : World) (zs : List Int) (err : Int) (e : Ending) (w' : World) : Prop :=
  (err ≠ 0 ∧ e = .returned (.tuple #[.slice none 0 0, .int .i64 err]) ∧ Frm [] w w') ∨
  (err = 0 ∧ ∃ q n c, e = .returned (.tuple #[.slice q n c, .int .i64 0]) ∧ n = zs.length ∧ Own w' 5 (.slice q n c) zs ∧ Frm [] w w' ∧ ∀ i ∈ blk q, w.heap.size ≤ i)
set_option maxHeartbeats 3200000 in
theorem refEncode_any (p : P9) (hp : p.ok) (w : World) :
    Calls Try.prog 35 #[.agg p.arr] w (EncD w (ptrB p) (checkP p)) := by
  have HP := hid hp
  have HCK := hid (fun W => refCheck9_any p W)
  obtain ⟨C, hC⟩ : ∃ C, checkP p = C := ⟨_, rfl⟩
  rw [hC] at HCK ⊢
  have HC := hid hC
  obtain ⟨PO, hPO⟩ : ∃ PO, EncD w (ptrB p) C = PO := ⟨_, rfl⟩
  rw [hPO]
  have HPO := hid hPO
  have HROW := hid (heap_alloc_new w (.cells p.arr 40))
  have HFA : Hid (Frm [] w (w.alloc (.cells p.arr 40))) := hid ((Frm.refl _ _).alloc _)
  clear hp hC hPO
  unfold P9.arr at HCK HROW HFA ⊢
  obtain ⟨pb, hpb⟩ : ∃ pb, w.heap.size = pb := ⟨_, rfl⟩
  obtain ⟨wa, hwa⟩ : ∃ wa, w.alloc (.cells #[.int .i64 p.top, .int .i64 p.at_, .int .i64 p.bytes, .int .u64 p.birth, .int .i64 p.kind, .int .u64 p.sa, .int .u64 p.sb, .int .u64 p.sc, .int .u64 p.sd] 40) = wa := ⟨_, rfl⟩
  rw [hwa] at HFA
  rw [hwa, hpb] at HROW
  have HPB := hid hpb
  obtain ⟨q0, q1, q2, q3, q4, q5, q6, q7, q8⟩ := ptr_cells HROW.out
  go_enter Try.func35, Try.ntmps35
  go_wp2_with fail
  refine (HCK.out wa).mono ?_
  rintro e w1 ⟨rfl, hf1⟩
  have HF1 := hid (HFA.out.trans hf1 (by simp))
  have hr1 := hf1.heap HROW.out (by simp)
  have HR1 := hid hr1
  clear hf1 q0 q1 q2 q3 q4 q5 q6 q7 q8
  by_cases hC0 : C = 0
  case neg =>
    have hb : (C != 0) = true := by simpa using hC0
    go_wp2_with fail
    rw [← HPO.out]
    exact Or.inl ⟨hC0, rfl, HF1.out⟩
  subst hC0
  have HFT : Hid p.fits := hid (fits_of_check HP.out HC.out)
  obtain ⟨t0, t1⟩ := HFT.out.top
  obtain ⟨d0, d1⟩ := HFT.out.kind
  have e1 : IntKind.u8.wrap p.top = p.top := IntWalk.u8_in _ (by omega)
  have e2 : IntKind.u8.wrap p.kind = p.kind := IntWalk.u8_in _ (by omega)
  have e3 : IntKind.u64.wrap p.bytes = p.bytes := IntWalk.u64_in _ (by have := HFT.out.bytes; omega)
  obtain ⟨q0, q1, q2, q3, q4, q5, q6, q7, q8⟩ := ptr_cells hr1
  clear hr1
  have hfb : Frm [] w1 (w1.alloc (.cells #[.int .u8 p.top, .int .u8 p.kind] 5)) := (Frm.refl _ _).alloc _
  have ho := own_of_block (E := 5) (zs := [p.top, p.kind]) (heap_alloc_new w1 _) (by simp [maxLen])
  obtain ⟨gb, hgb⟩ : ∃ gb, w1.heap.size = gb := ⟨_, rfl⟩
  obtain ⟨wb, hwb⟩ : ∃ wb, w1.alloc (.cells #[.int .u8 p.top, .int .u8 p.kind] 5) = wb := ⟨_, rfl⟩
  have hwb' : w1.alloc (.cells (bv [p.top, p.kind]).toArray 5) = wb := hwb
  rw [hwb] at hfb
  rw [hwb', hgb] at ho
  have HB0 : Hid (BufN wb (some ⟨gb, 0, none⟩) wb (some ⟨gb, 0, none⟩) 2 2 [p.top, p.kind]) := hid ⟨ho, rfl, Frm.refl _ _, fun i hi => Or.inl hi⟩
  have HFB := hid (HF1.out.trans hfb (by simp))
  have HRB := hid (hfb.heap HR1.out (by simp))
  have HNB0 : Hid (pb ∉ blk (some ⟨gb, 0, none⟩)) := hid (by simp [blk]; have := lt_of_heap HR1.out; omega)
  have HGB : Hid (w.heap.size ≤ gb) := hid (by have := HF1.out.size; omega)
  have HPW : Hid (pb < wb.heap.size) := hid (lt_of_heap HRB.out)
  clear hfb ho hwb' HR1
  obtain ⟨r0, r1, r2, r3, r4, r5, r6, r7, r8⟩ := ptr_cells HRB.out
  go_wp2_with fail
  clear q0 q1 q2 q3 q4 q5 q6 q7 q8 r0 r1 r2 r3 r4 r5 r6 r7 r8 hwb hgb e1 e2 e3
  have h1 := refNum_any (some ⟨gb, 0, none⟩) (2) 2 _ p.bytes 2 wb HB0.out.own (by have := HFT.out.bytes; omega) (by omega) (by omega)
  refine h1.mono ?_
  rintro e x1 ⟨p1, c1, rfl, b1⟩
  have B1 := hid (HB0.out.trans b1)
  have hr1 := b1.fr.heap HRB.out HNB0.out
  have R1 := hid hr1
  have N1 : Hid (pb ∉ blk p1) := hid (fun h => (b1.bk pb h).elim HNB0.out (fun h => by have := lt_of_heap HRB.out; omega))
  clear h1 b1 HB0 HNB0 HRB
  obtain ⟨q0, q1, q2, q3, q4, q5, q6, q7, q8⟩ := ptr_cells hr1
  clear hr1
  have e3 : IntKind.u64.wrap p.at_ = p.at_ := IntWalk.u64_in _ (by have := HFT.out.at_; omega)
  go_wp2_with fail
  have h2 := refNum_any p1 (2 + 2) c1 _ p.at_ 4 x1 B1.out.own (by have := HFT.out.at_; omega) (by omega) (by omega)
  refine h2.mono ?_
  rintro e x2 ⟨p2, c2, rfl, b2⟩
  have B2 := hid (B1.out.trans b2)
  have hr2 := b2.fr.heap R1.out N1.out
  have R2 := hid hr2
  have N2 : Hid (pb ∉ blk p2) := hid (fun h => (b2.bk pb h).elim N1.out (fun h => by have := lt_of_heap R1.out; omega))
  clear h2 b2 q0 q1 q2 q3 q4 q5 q6 q7 q8 e3 B1 N1 R1
  obtain ⟨q0, q1, q2, q3, q4, q5, q6, q7, q8⟩ := ptr_cells hr2
  clear hr2
  go_wp2_with fail
  have h3 := refNum_any p2 (2 + 2 + 4) c2 _ p.birth 8 x2 B2.out.own (by have := HFT.out.birth; omega) (by omega) (by omega)
  refine h3.mono ?_
  rintro e x3 ⟨p3, c3, rfl, b3⟩
  have B3 := hid (B2.out.trans b3)
  have hr3 := b3.fr.heap R2.out N2.out
  have R3 := hid hr3
  have N3 : Hid (pb ∉ blk p3) := hid (fun h => (b3.bk pb h).elim N2.out (fun h => by have := lt_of_heap R2.out; omega))
  clear h3 b3 q0 q1 q2 q3 q4 q5 q6 q7 q8 B2 N2 R2
  obtain ⟨q0, q1, q2, q3, q4, q5, q6, q7, q8⟩ := ptr_cells hr3
  clear hr3
  go_wp2_with fail
  have h4 := refSums_any p3 (2 + 2 + 4 + 8) c3 _ p.sa p.sb p.sc p.sd x3 B3.out.own HFT.out.sa HFT.out.sb HFT.out.sc HFT.out.sd (by omega)
  refine h4.mono ?_
  rintro e x4 ⟨p4, c4, rfl, b4⟩
  have B4 := hid (B3.out.trans b4)
  clear h4 b4 q0 q1 q2 q3 q4 q5 q6 q7 q8 B3 N3 R3
  go_wp2_with fail
  have h5 := refPad_any p4 (2 + 2 + 4 + 8 + 32) c4 _ 64 x4 B4.out.own (by omega) (by omega)
  refine h5.mono ?_
  rintro e x5 ⟨p5, c5, rfl, b5⟩
  have B5 : Hid (BufN wb (some ⟨gb, 0, none⟩) x5 p5 64 c5 (ptrB p)) := hid (by
    have h := B4.out.trans b5
    unfold ptrB bodyP
    rw [le_one' p.top t0 (by omega), le_one' p.kind d0 (by omega)]
    simpa only [List.append_assoc, List.cons_append, List.nil_append] using h)
  clear h5 b5 B4
  go_wp2_with fail
  rw [← HPO.out]
  refine Or.inr ⟨rfl, p5, 64, c5, rfl, (ptrB_length p).symm, B5.out.own, HFB.out.trans B5.out.fr (fun i hi hl => by simp [blk] at hi; have := HGB.out; omega), fun i hi => ?_⟩
  rcases B5.out.bk i hi with h | h
  · simp [blk] at h
    have := HGB.out
    omega
  · have := HFB.out.size
    omega
end
section
section
open Go.RowKit Go.Lib
set_option maxRecDepth 100000

end
section
open Go.RowKit
set_option maxRecDepth 100000

end
end
end Go.Proofs.Ytkolbijhekbelaa
