/- Frames: plain facts: what was laid down is taken up, and the other way. Frames: plain facts: what is read as a request is laid down as the same bytes; frames one behind the other. The document's SameRequest; the law's pick. Inputs as they come in, of a bounded bulk: lists of requests, lists of numbers. -/
import Derived.Test.YtignoocdeghiaaaDoorQap
import Derived.BigQuiet
import Derived.Test.YtignoocdeghiaaaDoorQaw
import Derived.Test.YtignoocdeghiaaaDoorQac
namespace Go.Proofs.YtignoocdeghiaaaDoor
section
open Go.RowKit Go.Lib
set_option maxRecDepth 100000

theorem str_txF (s : ByteArray) : strOfNums (tx s) = s := by
  apply ByteArray.ext
  apply Array.toList_inj.1
  rw [strOfNums_data]
  unfold tx
  rw [List.map_map]
  conv => rhs; rw [← List.map_id s.data.toList]
  apply List.map_congr_left
  intro u _
  simp [Function.comp]
theorem nuS_fit {bs : List Int} {pos : Nat} {n : Int} {k : Nat} {r : List Int} (h : bs.drop pos = le n k ++ r) (hn : 0 ≤ n) (hf : n < 2 ^ (8 * k)) (hk1 : 1 ≤ k) (hk8 : k ≤ 8) : nuS bs (pos, 0) (k : Int) = (n, pos + k, 0) ∧ bs.drop (pos + k) = r := by
  have h0 : n / 2 ^ (8 * k) = 0 := Int.ediv_eq_zero_of_lt hn hf
  have e : numT (bs.drop pos) (k : Int) = (n, k, 0) := by
    rw [h]
    unfold numT
    rw [if_neg (by omega), if_neg (by simp [le_length]; omega), Int.toNat_natCast, List.take_append_of_le_length (by simp [le_length]), List.take_of_length_le (by simp [le_length]), leV_fit _ _ hn h0]
  refine ⟨?_, by rw [← List.drop_drop, h, List.drop_append_of_le_length (by simp [le_length]), List.drop_of_length_le (by simp [le_length])]; rfl⟩
  unfold nuS
  rw [readS_ok, e]
  rfl
theorem txS_fit {bs : List Int} {pos : Nat} {s : ByteArray} {r : List Int} (h : bs.drop pos = txF s ++ r) (hs : s.size ≤ 65535) : txS bs (pos, 0) = (tx s, pos + (2 + s.size), 0) ∧ bs.drop (pos + (2 + s.size)) = r := by
  have h2 : leV (le (s.size : Int) 2) = s.size := leV_fit _ _ (by omega) (by omega)
  have e : textT (bs.drop pos) 65535 = (tx s, 2 + s.size, 0) := by
    rw [h]
    unfold txF
    have e3 : (le (s.size : Int) 2 ++ tx s ++ r).take 2 = le (s.size : Int) 2 := by
      rw [List.append_assoc, List.take_append_of_le_length (by simp [le_length]), List.take_of_length_le (by simp [le_length])]
    unfold textT
    rw [e3, h2, if_neg (by simp [le_length]), if_neg (by omega), Int.toNat_natCast, if_neg (by simp [le_length, tx_length])]
    have e4 : (le (s.size : Int) 2 ++ tx s ++ r).drop 2 = tx s ++ r := by
      rw [List.append_assoc, List.drop_append_of_le_length (by simp [le_length]), List.drop_of_length_le (by simp [le_length])]; rfl
    rw [e4, List.take_append_of_le_length (by simp [tx_length]), List.take_of_length_le (by simp [tx_length])]
  refine ⟨?_, by rw [← List.drop_drop, h, List.drop_append_of_le_length (by simp [txF_len]), List.drop_of_length_le (by simp [txF_len])]; rfl⟩
  unfold txS
  rw [readS_ok, e]
  rfl
theorem byS_fit {bs : List Int} {pos : Nat} {ds : List Int} {k : Nat} {r : List Int} (h : bs.drop pos = ds ++ r) (hl : ds.length = k) : byS bs (pos, 0) (k : Int) = (ds, pos + k, 0) ∧ bs.drop (pos + k) = r := by
  have e : bytesT (bs.drop pos) (k : Int) = (ds, k, 0) := by
    rw [h]
    unfold bytesT
    rw [if_neg (by omega), if_neg (by simp [hl]; omega), Int.toNat_natCast, List.take_append_of_le_length (by omega), List.take_of_length_le (by omega)]
  refine ⟨?_, by rw [← List.drop_drop, h, List.drop_append_of_le_length (by omega), List.drop_of_length_le (by omega)]; rfl⟩
  unfold byS
  rw [readS_ok, e]
  rfl
theorem nuS_inv {bs : List Int} (hb : ∀ z ∈ bs, 0 ≤ z ∧ z < 256) {s : Rst} {k : Nat} (h : (nuS bs s (k : Int)).2.2 = 0) : s.2 = 0 ∧ bs.drop s.1 = le (nuS bs s (k : Int)).1 k ++ bs.drop (nuS bs s (k : Int)).2.1 ∧ 0 ≤ (nuS bs s (k : Int)).1 ∧ (nuS bs s (k : Int)).1 < 2 ^ (8 * k) := by
  by_cases he : s.2 = 0
  case neg =>
    unfold nuS at h
    rw [readS_err _ _ _ _ he] at h
    exact absurd h he
  refine ⟨he, ?_⟩
  unfold nuS at h ⊢
  rw [he, readS_ok] at h ⊢
  by_cases hk : (k : Int) < 1 ∨ 8 < (k : Int)
  · have e : numT (bs.drop s.1) k = (0, 0, 1) := by unfold numT; rw [if_pos hk]
    rw [e] at h; simp at h
  by_cases h2 : ((bs.drop s.1).length : Int) < k
  · have e : numT (bs.drop s.1) k = (0, 0, 10) := by unfold numT; rw [if_neg hk, if_pos h2]
    rw [e] at h; simp at h
  have e : numT (bs.drop s.1) k = (leV ((bs.drop s.1).take k), k, 0) := by unfold numT; rw [if_neg hk, if_neg h2, Int.toNat_natCast]
  rw [e]
  simp only [if_true]
  have hz : ∀ z ∈ (bs.drop s.1).take k, 0 ≤ z ∧ z < 256 := fun z hz => hb z (List.mem_of_mem_drop (List.mem_of_mem_take hz))
  have hl : ((bs.drop s.1).take k).length = k := by rw [List.length_take]; omega
  have h3 := le_leV _ hz
  have h4 := leV_bd _ hz
  rw [hl] at h3 h4
  refine ⟨?_, h4⟩
  rw [h3, ← List.drop_drop, List.take_append_drop]
theorem txS_inv {bs : List Int} (hb : ∀ z ∈ bs, 0 ≤ z ∧ z < 256) {s : Rst} (h : (txS bs s).2.2 = 0) : s.2 = 0 ∧ bs.drop s.1 = txF (strOfNums (txS bs s).1) ++ bs.drop (txS bs s).2.1 := by
  by_cases he : s.2 = 0
  case neg =>
    unfold txS at h
    rw [readS_err _ _ _ _ he] at h
    exact absurd h he
  refine ⟨he, ?_⟩
  unfold txS at h ⊢
  rw [he, readS_ok] at h ⊢
  obtain ⟨ls, hls⟩ : ∃ ls, bs.drop s.1 = ls := ⟨_, rfl⟩
  have hlb : ∀ z ∈ ls, 0 ≤ z ∧ z < 256 := fun z hz => hb z (List.mem_of_mem_drop (by rw [hls]; exact hz))
  by_cases h1 : ls.length < 2
  · have e : textT (bs.drop s.1) 65535 = ([], 0, 10) := by rw [hls]; unfold textT; rw [if_pos h1]
    rw [e] at h; simp at h
  by_cases h2 : 65535 < leV (ls.take 2)
  · have e : textT (bs.drop s.1) 65535 = ([], 0, 11) := by rw [hls]; unfold textT; rw [if_neg h1, if_pos h2]
    rw [e] at h; simp at h
  by_cases h3 : ls.length < 2 + (leV (ls.take 2)).toNat
  · have e : textT (bs.drop s.1) 65535 = ([], 0, 10) := by rw [hls]; unfold textT; rw [if_neg h1, if_neg h2, if_pos h3]
    rw [e] at h; simp at h
  have e : textT (bs.drop s.1) 65535 = ((ls.drop 2).take (leV (ls.take 2)).toNat, 2 + (leV (ls.take 2)).toNat, 0) := by rw [hls]; unfold textT; rw [if_neg h1, if_neg h2, if_neg h3]
  rw [e]
  simp only [if_true]
  have hlen2 : (ls.take 2).length = 2 := by simp; omega
  have hbd := leV_bd (ls.take 2) (fun z hz => hlb z (List.mem_of_mem_take hz))
  have hle := le_leV (ls.take 2) (fun z hz => hlb z (List.mem_of_mem_take hz))
  rw [hlen2] at hbd hle
  obtain ⟨n, hn⟩ := Int.eq_ofNat_of_zero_le hbd.1
  rw [hn] at hle h3 ⊢
  rw [Int.toNat_natCast] at h3 ⊢
  have hlt2 : ((ls.drop 2).take n).length = n := by simp; omega
  have hsz : (strOfNums ((ls.drop 2).take n)).size = n := by rw [strOfNums_size, hlt2]
  unfold txF
  rw [hsz, hle, tx_str _ (fun z hz => hlb z (List.mem_of_mem_drop (List.mem_of_mem_take hz))), ← List.take_add, ← List.drop_drop, hls, List.take_append_drop]
theorem byS_inv {bs : List Int} {s : Rst} {k : Int} (h : (byS bs s k).2.2 = 0) : s.2 = 0 ∧ bs.drop s.1 = (byS bs s k).1 ++ bs.drop (byS bs s k).2.1 ∧ ((byS bs s k).1.length : Int) = k := by
  by_cases he : s.2 = 0
  case neg =>
    unfold byS at h
    rw [readS_err _ _ _ _ he] at h
    exact absurd h he
  refine ⟨he, ?_⟩
  unfold byS at h ⊢
  rw [he, readS_ok] at h ⊢
  by_cases hk : k < 0
  · have e : bytesT (bs.drop s.1) k = ([], 0, 1) := by unfold bytesT; rw [if_pos hk]
    rw [e] at h; simp at h
  by_cases h2 : ((bs.drop s.1).length : Int) < k
  · have e : bytesT (bs.drop s.1) k = ([], 0, 10) := by unfold bytesT; rw [if_neg hk, if_pos h2]
    rw [e] at h; simp at h
  have e : bytesT (bs.drop s.1) k = ((bs.drop s.1).take k.toNat, k.toNat, 0) := by unfold bytesT; rw [if_neg hk, if_neg h2]
  rw [e]
  simp only [if_true]
  refine ⟨by rw [← List.drop_drop, List.take_append_drop], ?_⟩
  rw [List.length_take]
  omega
/-- A frame's parts. -/
theorem frm_parts (b : List Int) : (frm b).take 4 = le (b.length + 8) 4 ∧ midF (frm b) = b ∧ endF (frm b) = le (shaD b).a 8 := by
  have hl := frm_len b
  refine ⟨?_, ?_, ?_⟩
  · unfold frm
    rw [List.append_assoc, List.take_append_of_le_length (by simp [le_length]), List.take_of_length_le (by simp [le_length])]
  · unfold midF
    rw [hl, show b.length + 12 - 12 = b.length by omega]
    unfold frm
    rw [List.append_assoc, List.drop_append_of_le_length (by simp [le_length]), List.drop_of_length_le (by simp [le_length]), List.nil_append, List.take_append_of_le_length (Nat.le_refl _), List.take_of_length_le (Nat.le_refl _)]
  · unfold endF
    rw [hl]
    unfold frm
    rw [List.drop_append_of_le_length (by simp [le_length]; omega), List.drop_of_length_le (by simp [le_length]; omega)]
    rfl
theorem frm_num {b : List Int} (h : b.length ≤ 65524) : leV ((frm b).take 4) = (((frm b).length - 4 : Nat) : Int) := by
  rw [(frm_parts b).1, frm_len, leV_fit _ _ (by omega) (Int.ediv_eq_zero_of_lt (by omega) (by omega))]
  omega
theorem frm_sum (b : List Int) : leV (endF (frm b)) = (shaD b).a := by
  have h := shaD_bd b
  rw [(frm_parts b).2.2, leV_fit _ _ h.1 (Int.ediv_eq_zero_of_lt h.1 (by have h2 := h.2; omega))]
/-- Bytes of which length and sum are right are a frame. -/
theorem frm_of {bs : List Int} (hb : ∀ z ∈ bs, 0 ≤ z ∧ z < 256) (h13 : 13 ≤ bs.length) (hn : leV (bs.take 4) = ((bs.length - 4 : Nat) : Int)) (hs : leV (endF bs) = (shaD (midF bs)).a) : bs = frm (midF bs) := by
  have hl4 : (bs.take 4).length = 4 := by rw [List.length_take]; omega
  have hl8 : (endF bs).length = 8 := by unfold endF; rw [List.length_drop]; omega
  have hlm : (midF bs).length = bs.length - 12 := by unfold midF; rw [List.length_take, List.length_drop]; omega
  have e1 := le_leV (bs.take 4) (fun z hz => hb z (List.mem_of_mem_take hz))
  have e2 := le_leV (endF bs) (fun z hz => hb z (by unfold endF at hz; exact List.mem_of_mem_drop hz))
  rw [hl4, hn] at e1
  rw [hl8, hs] at e2
  unfold frm
  rw [hlm, show ((bs.length - 12 : Nat) : Int) + 8 = ((bs.length - 4 : Nat) : Int) by omega, e1, e2]
  unfold midF endF
  have e3 : bs.drop (bs.length - 8) = (bs.drop 4).drop (bs.length - 12) := by rw [List.drop_drop]; congr 1; omega
  rw [e3, List.append_assoc, List.take_append_drop, List.take_append_drop]
/-- A request that may be is read as it was laid down. -/
theorem back_q {r : Rq} {ds : List Int} (hm : MayQ r) (hl : ds.length = r.dl) : rqE (frm (inQ r ds)) = 0 ∧ rqD (frm (inQ r ds)) = ds ∧ ∀ p n c, rqG (frm (inQ r ds)) p n c = ⟨r.ses, r.id, r.verb, r.name, r.item, r.other, r.path, r.at_, r.many, p, n, c⟩ := by
  obtain ⟨_, hmid, _⟩ := frm_parts (inQ r ds)
  have hsum := frm_sum (inQ r ds)
  have hlen := inQ_len hm hl
  have hnum := frm_num (b := inQ r ds) (by omega)
  have hfl := frm_len (inQ r ds)
  have hd : (inQ r ds).drop 0 = le 1 1 ++ (le r.ses 1 ++ (le r.id 4 ++ (le r.verb 1 ++ (txF r.name ++ (txF r.item ++ (txF r.other ++ (txF r.path ++ (le r.at_ 6 ++ (le r.many 6 ++ (le r.dl 2 ++ (ds ++ []))))))))))) := by
    unfold inQ bodyQ
    simp [txT, show le 1 1 = [1] from rfl]
  have hm' := hm
  obtain ⟨m0, m1, m2, m3, m4, m5, m6, m7, m8, m9⟩ := hm
  obtain ⟨a0, d0⟩ := nuS_fit (k := 1) hd (by omega) (by omega) (by omega) (by omega)
  obtain ⟨a1, d1⟩ := nuS_fit (k := 1) d0 (by omega) (by omega) (by omega) (by omega)
  obtain ⟨a2, d2⟩ := nuS_fit (k := 4) d1 (by omega) (by omega) (by omega) (by omega)
  obtain ⟨a3, d3⟩ := nuS_fit (k := 1) d2 (by omega) (by omega) (by omega) (by omega)
  obtain ⟨a4, d4⟩ := txS_fit d3 (by omega)
  obtain ⟨a5, d5⟩ := txS_fit d4 (by omega)
  obtain ⟨a6, d6⟩ := txS_fit d5 (by omega)
  obtain ⟨a7, d7⟩ := txS_fit d6 (by omega)
  obtain ⟨a8, d8⟩ := nuS_fit (k := 6) d7 (by omega) (by omega) (by omega) (by omega)
  obtain ⟨a9, d9⟩ := nuS_fit (k := 6) d8 (by omega) (by omega) (by omega) (by omega)
  obtain ⟨a10, d10⟩ := nuS_fit (k := 2) d9 (by omega) (by omega) (by omega) (by omega)
  obtain ⟨a11, d11⟩ := byS_fit d10 hl
  have b0 : nuS (midF (frm (inQ r ds))) (0, 0) 1 = (1, 0 + 1, 0) := by rw [hmid]; exact a0
  have bs0 : s0F (frm (inQ r ds)) = (0 + 1, 0) := by unfold s0F; rw [b0]
  obtain ⟨M, hM⟩ : ∃ M, inQ r ds = M := ⟨_, rfl⟩
  obtain ⟨S0, hS0⟩ : ∃ S0 : Rst, (0 + 1, 0) = S0 := ⟨_, rfl⟩
  rw [hM] at hlen a0 a1 a2 a3 a4 a5 a6 a7 a8 a9 a10 a11 d11
  rw [hS0] at a1 bs0
  have c1 : q1 M S0 = nuS M S0 1 := rfl
  have c1 := c1.trans a1
  have c2 : q2 M S0 = nuS M (q1 M S0).2 4 := rfl
  rw [c1] at c2
  have c2 := c2.trans a2
  have c3 : q3 M S0 = nuS M (q2 M S0).2 1 := rfl
  rw [c2] at c3
  have c3 := c3.trans a3
  have c4 : q4 M S0 = txS M (q3 M S0).2 := rfl
  rw [c3] at c4
  have c4 := c4.trans a4
  have c5 : q5 M S0 = txS M (q4 M S0).2 := rfl
  rw [c4] at c5
  have c5 := c5.trans a5
  have c6 : q6 M S0 = txS M (q5 M S0).2 := rfl
  rw [c5] at c6
  have c6 := c6.trans a6
  have c7 : q7 M S0 = txS M (q6 M S0).2 := rfl
  rw [c6] at c7
  have c7 := c7.trans a7
  have c8 : q8 M S0 = nuS M (q7 M S0).2 6 := rfl
  rw [c7] at c8
  have c8 := c8.trans a8
  have c9 : q9 M S0 = nuS M (q8 M S0).2 6 := rfl
  rw [c8] at c9
  have c9 := c9.trans a9
  have c10 : q10 M S0 = nuS M (q9 M S0).2 2 := rfl
  rw [c9] at c10
  have c10 := c10.trans a10
  have c11 : q11 M S0 = byS M (q10 M S0).2 (q10 M S0).1 := rfl
  rw [c10] at c11
  have c11 := c11.trans a11
  have hreq : ∀ p n c, reqT M S0 p n c = ⟨r.ses, r.id, r.verb, r.name, r.item, r.other, r.path, r.at_, r.many, p, n, c⟩ := fun p n c => by
    unfold reqT
    rw [c1, c2, c3, c4, c5, c6, c7, c8, c9]
    simp only [str_txF]
  have hend : M.length ≤ (q11 M S0).2.1 := by
    have h := congrArg List.length d11
    rw [List.length_drop, List.length_nil] at h
    rw [c11]
    dsimp only
    omega
  have herr : (q11 M S0).2.2 = 0 := by rw [c11]
  have hval : (q11 M S0).1 = ds := by rw [c11]
  have hE : rqE (frm (inQ r ds)) = 0 := by
    unfold rqE
    rw [b0, bs0, hmid, hsum, hnum, hfl, hM]
    rw [if_neg (by omega), if_neg (by simp), if_neg (by simp), if_neg (by simp), if_neg, if_neg]
    · rw [hreq, hval]
      intro hx
      exact hx ⟨m0, m1, m2, m3, m4, m5, m6, m7, m8, by show ds.length ≤ 2048; omega⟩
    · unfold doneS
      rw [if_neg (by omega), herr]
      simp
  refine ⟨hE, ?_, fun p n c => ?_⟩
  · unfold rqD
    rw [if_pos hE, hmid, bs0, hM, hval]
  · unfold rqG
    rw [if_pos hE, hmid, bs0, hM, hreq]
end
section
open Go.RowKit Go.Lib
set_option maxRecDepth 100000

theorem midF_bd {bs : List Int} (hb : ∀ z ∈ bs, 0 ≤ z ∧ z < 256) : ∀ z ∈ midF bs, 0 ≤ z ∧ z < 256 := fun z hz => hb z (by unfold midF at hz; exact List.mem_of_mem_drop (List.mem_of_mem_take hz))
theorem rqE_ok {bs : List Int} (h : rqE bs = 0) : 13 ≤ bs.length ∧ bs.length ≤ 65536 ∧ leV (bs.take 4) = ((bs.length - 4 : Nat) : Int) ∧ leV (endF bs) = (shaD (midF bs)).a ∧ (nuS (midF bs) (0, 0) 1).1 = 1 ∧ (q11 (midF bs) (s0F bs)).2.2 = 0 ∧ (midF bs).length ≤ (q11 (midF bs) (s0F bs)).2.1 ∧ MayQ (reqT (midF bs) (s0F bs) none (q11 (midF bs) (s0F bs)).1.length 0) := by
  unfold rqE at h
  by_cases h1 : bs.length < 13 ∨ 65536 < bs.length
  · rw [if_pos h1] at h; omega
  rw [if_neg h1] at h
  by_cases h2 : leV (bs.take 4) ≠ ((bs.length - 4 : Nat) : Int)
  · rw [if_pos h2] at h; omega
  rw [if_neg h2] at h
  by_cases h3 : leV (endF bs) ≠ (shaD (midF bs)).a
  · rw [if_pos h3] at h; omega
  rw [if_neg h3] at h
  by_cases h4 : (nuS (midF bs) (0, 0) 1).1 ≠ 1
  · rw [if_pos h4] at h; omega
  rw [if_neg h4] at h
  by_cases h5 : doneS (midF bs).length (q11 (midF bs) (s0F bs)).2.1 (q11 (midF bs) (s0F bs)).2.2 ≠ 0
  · rw [if_pos h5] at h; omega
  rw [if_neg h5] at h
  by_cases h6 : ¬ MayQ (reqT (midF bs) (s0F bs) none (q11 (midF bs) (s0F bs)).1.length 0)
  · rw [if_pos h6] at h; omega
  have h5' : doneS (midF bs).length (q11 (midF bs) (s0F bs)).2.1 (q11 (midF bs) (s0F bs)).2.2 = 0 := Classical.not_not.1 h5
  unfold doneS at h5'
  refine ⟨by omega, by omega, Classical.not_not.1 h2, Classical.not_not.1 h3, Classical.not_not.1 h4, ?_, ?_, Classical.not_not.1 h6⟩
  · split at h5'
    · omega
    · exact h5'
  · split at h5'
    · omega
    · rename_i hx; omega
theorem back_b {bs : List Int} (hb : ∀ z ∈ bs, 0 ≤ z ∧ z < 256) (h : rqE bs = 0) (p : Option Addr) (c : Nat) : MayQ (rqG bs p (rqD bs).length c) ∧ frm (inQ (rqG bs p (rqD bs).length c) (rqD bs)) = bs := by
  obtain ⟨h13, h65, hn, hs, h1, he, hend, hmay⟩ := rqE_ok h
  have hbM := midF_bd hb
  have hD : rqD bs = (q11 (midF bs) (s0F bs)).1 := by unfold rqD; rw [if_pos h]
  have hG : ∀ n, rqG bs p n c = reqT (midF bs) (s0F bs) p n c := fun n => by unfold rqG; rw [if_pos h]
  have hof := frm_of hb h13 hn hs
  obtain ⟨M, hM⟩ : ∃ M, midF bs = M := ⟨_, rfl⟩
  have hS : s0F bs = (nuS M (0, 0) 1).2 := by unfold s0F; rw [hM]
  rw [hM] at h1 he hend hmay hbM hD hG hof
  obtain ⟨S0, hS0⟩ : ∃ S0, s0F bs = S0 := ⟨_, rfl⟩
  rw [hS0] at hS he hend hmay hD hG
  obtain ⟨e10, d10, l10⟩ := byS_inv (s := (q10 M S0).2) (k := (q10 M S0).1) he
  obtain ⟨e9, d9, b9, _⟩ := nuS_inv hbM (s := (q9 M S0).2) (k := 2) e10
  obtain ⟨e8, d8, b8, _⟩ := nuS_inv hbM (s := (q8 M S0).2) (k := 6) e9
  obtain ⟨e7, d7, b7, _⟩ := nuS_inv hbM (s := (q7 M S0).2) (k := 6) e8
  obtain ⟨e6, d6⟩ := txS_inv hbM (s := (q6 M S0).2) e7
  obtain ⟨e5, d5⟩ := txS_inv hbM (s := (q5 M S0).2) e6
  obtain ⟨e4, d4⟩ := txS_inv hbM (s := (q4 M S0).2) e5
  obtain ⟨e3, d3⟩ := txS_inv hbM (s := (q3 M S0).2) e4
  obtain ⟨e2, d2, b2, _⟩ := nuS_inv hbM (s := (q2 M S0).2) (k := 1) e3
  obtain ⟨e1, d1, b1, _⟩ := nuS_inv hbM (s := (q1 M S0).2) (k := 4) e2
  obtain ⟨e0, d0, b0, _⟩ := nuS_inv hbM (s := S0) (k := 1) e1
  have d0' : M.drop S0.1 = le (q1 M S0).1 1 ++ M.drop (q1 M S0).2.1 := d0
  have d1' : M.drop (q1 M S0).2.1 = le (q2 M S0).1 4 ++ M.drop (q2 M S0).2.1 := d1
  have d2' : M.drop (q2 M S0).2.1 = le (q3 M S0).1 1 ++ M.drop (q3 M S0).2.1 := d2
  have d3' : M.drop (q3 M S0).2.1 = txF (strOfNums (q4 M S0).1) ++ M.drop (q4 M S0).2.1 := d3
  have d4' : M.drop (q4 M S0).2.1 = txF (strOfNums (q5 M S0).1) ++ M.drop (q5 M S0).2.1 := d4
  have d5' : M.drop (q5 M S0).2.1 = txF (strOfNums (q6 M S0).1) ++ M.drop (q6 M S0).2.1 := d5
  have d6' : M.drop (q6 M S0).2.1 = txF (strOfNums (q7 M S0).1) ++ M.drop (q7 M S0).2.1 := d6
  have d7' : M.drop (q7 M S0).2.1 = le (q8 M S0).1 6 ++ M.drop (q8 M S0).2.1 := d7
  have d8' : M.drop (q8 M S0).2.1 = le (q9 M S0).1 6 ++ M.drop (q9 M S0).2.1 := d8
  have d9' : M.drop (q9 M S0).2.1 = le (q10 M S0).1 2 ++ M.drop (q10 M S0).2.1 := d9
  have d10' : M.drop (q10 M S0).2.1 = (q11 M S0).1 ++ M.drop (q11 M S0).2.1 := d10
  have dend : M.drop (q11 M S0).2.1 = [] := List.drop_eq_nil_of_le hend
  have hst : (nuS M (0, 0) 1).2.2 = 0 := by rw [← hS]; exact e0
  obtain ⟨_, dm, _⟩ := nuS_inv hbM (s := ((0, 0) : Rst)) (k := 1) hst
  have dm' : M = le (nuS M (0, 0) 1).1 1 ++ M.drop S0.1 := by rw [hS]; exact dm
  rw [h1] at dm'
  have hin : inQ (reqT M S0 p (q11 M S0).1.length c) (q11 M S0).1 = M := by
    have e : M = [1] ++ (le (q1 M S0).1 1 ++ (le (q2 M S0).1 4 ++ (le (q3 M S0).1 1 ++ (txF (strOfNums (q4 M S0).1) ++ (txF (strOfNums (q5 M S0).1) ++ (txF (strOfNums (q6 M S0).1) ++ (txF (strOfNums (q7 M S0).1) ++ (le (q8 M S0).1 6 ++ (le (q9 M S0).1 6 ++ (le (q10 M S0).1 2 ++ (q11 M S0).1)))))))))) := by
      conv => lhs; rw [dm', d0', d1', d2', d3', d4', d5', d6', d7', d8', d9', d10', dend, List.append_nil]
      rfl
    conv => rhs; rw [e]
    have hlen : (((q11 M S0).1.length : Nat) : Int) = (q10 M S0).1 := l10
    unfold inQ bodyQ reqT
    simp [txT, hlen]
  rw [hG, hD, hin]
  refine ⟨hmay, hof.symm⟩
/-- A frame as Feed tells it. -/
def GoodF (f : List Int) : Prop := 13 ≤ f.length ∧ f.length ≤ 65536 ∧ leV (f.take 4) = ((f.length - 4 : Nat) : Int)
theorem frm_good {b : List Int} (h1 : 1 ≤ b.length) (h : b.length ≤ 65524) : GoodF (frm b) := ⟨by rw [frm_len]; omega, by rw [frm_len]; omega, frm_num h⟩
theorem feedR_goods : ∀ (F : List (List Int)), (∀ f ∈ F, GoodF f) → ∀ n, ∃ k, k ≤ F.length ∧ feedR (F.flatten.take n) = (F.take k, (F.drop k).flatten.take (n - (F.take k).flatten.length), 0) ∧ (F.take k).flatten.length ≤ n ∧ (F.flatten.length ≤ n → k = F.length)
  | [], _, n => ⟨0, Nat.le_refl _, by simp [feedR_short], by simp, fun _ => rfl⟩
  | f :: F, hg, n => by
    obtain ⟨g1, g2, g3⟩ := hg f (by simp)
    have ih := feedR_goods F (fun x hx => hg x (by simp [hx]))
    by_cases hn : n < f.length
    · refine ⟨0, by simp, ?_, by simp, fun h => by rw [List.flatten_cons, List.length_append] at h; omega⟩
      have e : (f :: F).flatten.take n = f.take n := by rw [List.flatten_cons, List.take_append_of_le_length (by omega)]
      have hl : (f.take n).length = n := by rw [List.length_take]; omega
      have e2 : feedR (f.take n) = ([], f.take n, 0) := by
        by_cases h4 : n < 4
        · exact feedR_short (by omega)
        · have e3 : (f.take n).take 4 = f.take 4 := by rw [List.take_take, Nat.min_eq_left (by omega)]
          exact feedR_wait (by omega) (by rw [e3, g3]; omega) (by rw [e3, g3, hl]; omega)
      rw [e, e2]
      simp
      rw [List.take_append_of_le_length (by omega)]
    · obtain ⟨k, hk, hf, hl, hend⟩ := ih (n - f.length)
      refine ⟨k + 1, by simpa using hk, ?_, ?_, fun h => by rw [List.flatten_cons, List.length_append] at h; rw [List.length_cons, hend (by omega)]⟩
      · have e : (f :: F).flatten.take n = f ++ F.flatten.take (n - f.length) := by
          rw [List.flatten_cons, List.take_append, List.take_of_length_le (by omega)]
        have e3 : (f ++ F.flatten.take (n - f.length)).take 4 = f.take 4 := by rw [List.take_append_of_le_length (by omega)]
        have e4 : 4 + ((f.length - 4 : Nat) : Int).toNat = f.length := by omega
        have h := feedR_next (a := f ++ F.flatten.take (n - f.length)) (by rw [List.length_append]; omega) (by rw [e3, g3]; omega) (by rw [e3, g3, List.length_append]; omega)
        rw [e3, g3, e4, List.take_append_of_le_length (Nat.le_refl _), List.take_of_length_le (Nat.le_refl _), List.drop_append_of_le_length (Nat.le_refl _), List.drop_of_length_le (Nat.le_refl _), List.nil_append, hf] at h
        rw [e, h]
        simp [Nat.sub_sub]
      · rw [List.take_succ_cons, List.flatten_cons, List.length_append]; omega
end
section
open Go.RowKit Go.Lib
set_option maxRecDepth 100000

theorem pickF_any (c n : Int) (w : World) (hn : 0 < n) (hn2 : n ≤ 9223372036854775807) (hc1 : -9223372036854775808 ≤ c) (hc2 : c ≤ 9223372036854775807) :
    Calls Tryd.prog 16 #[.int .i64 c, .int .i64 n] w fun e w' => (∃ k : Nat, (k : Int) < n ∧ e = .returned (.int .i64 (k : Int))) ∧ w' = w := by
  obtain ⟨PO, hPO⟩ : ∃ PO : Ending → World → Prop, (fun e w' => (∃ k : Nat, (k : Int) < n ∧ e = .returned (.int .i64 (k : Int))) ∧ w' = w) = PO := ⟨_, rfl⟩
  rw [hPO]
  have HP : Hid (∀ z : Int, 0 ≤ z → z < n → PO (.returned (.int .i64 z)) w) := hid (fun z h1 h2 => by rw [← hPO]; obtain ⟨k, rfl⟩ := Int.eq_ofNat_of_zero_le h1; exact ⟨⟨k, h2, rfl⟩, rfl⟩)
  clear hPO
  have HME : Hid (∀ x : Int, 0 ≤ x → 0 ≤ x % n ∧ x % n < n) := hid (fun x hx => ⟨Int.emod_nonneg _ (by omega), Int.emod_lt_of_pos _ hn⟩)
  have hne : (n == 0) = false := by simp; omega
  have hne2 : n ≠ 0 := by omega
  by_cases h : c < 0
  · obtain ⟨d, hd⟩ : ∃ d : Int, -(c + 1) = d := ⟨_, rfl⟩
    have hd0 : 0 ≤ d := by omega
    have hd1 : d ≤ 9223372036854775807 := by omega
    have hw : wrap64 (c + 1) = c + 1 := by unfold wrap64; omega
    have hw2 : wrap64 (-(c + 1)) = d := by unfold wrap64; omega
    have hw3 : IntKind.i64.wrap (-(c + 1)) = d := by rw [IntKind.wrap_i64]; omega
    go_enter Tryd.func16, Tryd.ntmps16
    go_wp2_with fail
    first | go_returns | skip
    exact HP.out _ (HME.out d hd0).1 (HME.out d hd0).2
  · have h0 : 0 ≤ c := by omega
    go_enter Tryd.func16, Tryd.ntmps16
    go_wp2_with fail
    first | go_returns | skip
    exact HP.out _ (HME.out c h0).1 (HME.out c h0).2
set_option maxHeartbeats 6400000 in
theorem sameQ_any (ses id verb : Int) (name item other path : ByteArray) (at_ many : Int) (p q : Option Addr) (n c m d : Nat) (ds : List Int) (w : World) (h1 : Rd w p ds) (h2 : Rd w q ds) (hn : ds.length = n) (hm : ds.length = m) :
    Calls Tryd.prog 18 #[.agg #[.int .i64 ses, .int .i64 id, .int .i64 verb, .string name, .string item, .string other, .string path, .int .i64 at_, .int .i64 many, .slice p n c], .agg #[.int .i64 ses, .int .i64 id, .int .i64 verb, .string name, .string item, .string other, .string path, .int .i64 at_, .int .i64 many, .slice q m d]] w fun e w' => e = .returned (.bool true) ∧ Frm [] w w' := by
  obtain ⟨PO, hPO⟩ : ∃ PO : Ending → World → Prop, (fun e w' => e = .returned (.bool true) ∧ Frm [] w w') = PO := ⟨_, rfl⟩
  rw [hPO]
  have HP : Hid (∀ w', Frm [] w w' → PO (.returned (.bool true)) w') := hid (fun w' h => by rw [← hPO]; exact ⟨rfl, h⟩)
  clear hPO
  have hra := heap_alloc_new w (.cells #[.int .i64 ses, .int .i64 id, .int .i64 verb, .string name, .string item, .string other, .string path, .int .i64 at_, .int .i64 many, .slice p n c] 24)
  obtain ⟨wa, hwa⟩ : ∃ z, w.alloc (.cells #[.int .i64 ses, .int .i64 id, .int .i64 verb, .string name, .string item, .string other, .string path, .int .i64 at_, .int .i64 many, .slice p n c] 24) = z := ⟨_, rfl⟩
  have hfa : Frm [] w wa := by rw [← hwa]; exact (Frm.refl _ _).alloc _
  obtain ⟨ba, hba⟩ : ∃ z, w.heap.size = z := ⟨_, rfl⟩
  rw [hwa, hba] at hra
  have hrb := heap_alloc_new wa (.cells #[.int .i64 ses, .int .i64 id, .int .i64 verb, .string name, .string item, .string other, .string path, .int .i64 at_, .int .i64 many, .slice q m d] 24)
  obtain ⟨wb, hwb⟩ : ∃ z, wa.alloc (.cells #[.int .i64 ses, .int .i64 id, .int .i64 verb, .string name, .string item, .string other, .string path, .int .i64 at_, .int .i64 many, .slice q m d] 24) = z := ⟨_, rfl⟩
  have hfb : Frm [] wa wb := by rw [← hwb]; exact (Frm.refl _ _).alloc _
  obtain ⟨bb, hbb⟩ : ∃ z, wa.heap.size = z := ⟨_, rfl⟩
  rw [hwb, hbb] at hrb
  have hbs : ba + 1 = bb := by rw [← hbb, ← hwa, ← hba]; simp
  have HBS := hid hbs
  have HBA := hid hba
  have HBB := hid hbb
  have HWA := hid hwa
  have HWB := hid hwb
  have HF : Hid (Frm [] w wb) := hid (hfa.trans hfb (by simp))
  have x0 : wb.cell? ⟨ba, 0, none⟩ = some (.int .i64 ses) := by rw [cell_of_row _ _ _ _ _ _ (hfb.heap hra (by simp))]; rfl
  have x1 : wb.cell? ⟨ba, 1, none⟩ = some (.int .i64 id) := by rw [cell_of_row _ _ _ _ _ _ (hfb.heap hra (by simp))]; rfl
  have x2 : wb.cell? ⟨ba, 2, none⟩ = some (.int .i64 verb) := by rw [cell_of_row _ _ _ _ _ _ (hfb.heap hra (by simp))]; rfl
  have x3 : wb.cell? ⟨ba, 3, none⟩ = some (.string name) := by rw [cell_of_row _ _ _ _ _ _ (hfb.heap hra (by simp))]; rfl
  have x4 : wb.cell? ⟨ba, 4, none⟩ = some (.string item) := by rw [cell_of_row _ _ _ _ _ _ (hfb.heap hra (by simp))]; rfl
  have x5 : wb.cell? ⟨ba, 5, none⟩ = some (.string other) := by rw [cell_of_row _ _ _ _ _ _ (hfb.heap hra (by simp))]; rfl
  have x6 : wb.cell? ⟨ba, 6, none⟩ = some (.string path) := by rw [cell_of_row _ _ _ _ _ _ (hfb.heap hra (by simp))]; rfl
  have x7 : wb.cell? ⟨ba, 7, none⟩ = some (.int .i64 at_) := by rw [cell_of_row _ _ _ _ _ _ (hfb.heap hra (by simp))]; rfl
  have x8 : wb.cell? ⟨ba, 8, none⟩ = some (.int .i64 many) := by rw [cell_of_row _ _ _ _ _ _ (hfb.heap hra (by simp))]; rfl
  have x9 : wb.cell? ⟨ba, 9, none⟩ = some (.slice p n c) := by rw [cell_of_row _ _ _ _ _ _ (hfb.heap hra (by simp))]; rfl
  have y0 : wb.cell? ⟨bb, 0, none⟩ = some (.int .i64 ses) := by rw [cell_of_row _ _ _ _ _ _ hrb]; rfl
  have y1 : wb.cell? ⟨bb, 1, none⟩ = some (.int .i64 id) := by rw [cell_of_row _ _ _ _ _ _ hrb]; rfl
  have y2 : wb.cell? ⟨bb, 2, none⟩ = some (.int .i64 verb) := by rw [cell_of_row _ _ _ _ _ _ hrb]; rfl
  have y3 : wb.cell? ⟨bb, 3, none⟩ = some (.string name) := by rw [cell_of_row _ _ _ _ _ _ hrb]; rfl
  have y4 : wb.cell? ⟨bb, 4, none⟩ = some (.string item) := by rw [cell_of_row _ _ _ _ _ _ hrb]; rfl
  have y5 : wb.cell? ⟨bb, 5, none⟩ = some (.string other) := by rw [cell_of_row _ _ _ _ _ _ hrb]; rfl
  have y6 : wb.cell? ⟨bb, 6, none⟩ = some (.string path) := by rw [cell_of_row _ _ _ _ _ _ hrb]; rfl
  have y7 : wb.cell? ⟨bb, 7, none⟩ = some (.int .i64 at_) := by rw [cell_of_row _ _ _ _ _ _ hrb]; rfl
  have y8 : wb.cell? ⟨bb, 8, none⟩ = some (.int .i64 many) := by rw [cell_of_row _ _ _ _ _ _ hrb]; rfl
  have y9 : wb.cell? ⟨bb, 9, none⟩ = some (.slice q m d) := by rw [cell_of_row _ _ _ _ _ _ hrb]; rfl
  have cv1 := cv_any (P := Tryd.prog) (w := wb) 22 5 9 Tryd.underlying22 Tryd.underlying5 Tryd.underlying9 (h1.kept HF.out (by simp)) c hn
  have cv2 := cv_any (P := Tryd.prog) (w := wb) 22 5 9 Tryd.underlying22 Tryd.underlying5 Tryd.underlying9 (h2.kept HF.out (by simp)) d hm
  clear hwa hwb hfa hfb hra hrb h1 h2 hn hm hba hbb hbs
  go_enter Tryd.func18, Tryd.ntmps18
  go_upto_region 1 with fail
  first | rw [HBB.out] | skip
  first | rw [HWA.out] | skip
  first | rw [HBA.out] | skip
  first | rw [HBB.out] | skip
  first | rw [HBS.out] | skip
  first | rw [HWB.out] | skip
  go_wp2_with fail
  first | go_returns | skip
  exact HP.out _ HF.out
end
section
set_option maxRecDepth 100000
open Go.ChangeShapes Go.WideShapes Go.ChangeAt Go.RowKit Go.Deep

/-- A list of requests that came in. -/
def CameQs (w : World) (p : Option Addr) (len cap : Nat) : Prop :=
  len ≤ cap ∧ cap ≤ 9223372036854775807 ∧ len ≤ 1048576 ∧ (len = 0 ∨ ∃ g o, p = some ⟨g, o, none⟩ ∧ ∀ i, i < len → ∃ r : Rq, (∀ k v, r.arr.toList[k]? = some v → w.cell? ⟨g, o + i * 10 + k, none⟩ = some v) ∧ Came w r.dp r.dl r.dc ∧ r.dl ≤ 1048576)
/-- A list of numbers that came in. -/
def CameIU (w : World) (p : Option Addr) (len cap : Nat) : Prop :=
  len ≤ cap ∧ cap ≤ 9223372036854775807 ∧ len ≤ 1048576 ∧ (len = 0 ∨ ∃ g o, p = some ⟨g, o, none⟩ ∧ ∀ i, i < len → ∃ z, w.cell? ⟨g, o + i, none⟩ = some (.int .i64 z) ∧ -9223372036854775808 ≤ z ∧ z ≤ 9223372036854775807)
section
variable {H : Type} {enc : TypeId × Value → H} {W : World}
theorem cellsRq : Tryd.prog.cellsOf 24 = 10 := by kernel_rfl
theorem req_row {fuel : Nat} {cs : List Value} {x : DataW H × List MemPlace} (h : DataW.trod enc Tryd.prog W 0 (fun _ => true) true fuel 24 cs = some x) (hlen : cs.length = 10) (hb : Rows.uptoBulk x.1 ≤ 1048576) :
    ∃ r : Rq, cs = r.arr.toList ∧ Came W r.dp r.dl r.dc ∧ r.dl ≤ 1048576 := by
  have hs1 : Tryd.prog.cellsOf 22 = 1 := by kernel_rfl
  have hi1 : Tryd.prog.cellsOf 3 = 1 := by kernel_rfl
  have ht1 : Tryd.prog.cellsOf 9 = 1 := by kernel_rfl
  obtain ⟨xs, n, _, hxe, _, hxl, hF⟩ := DataW.trod_struct Tryd.underlying24 h
  match cs, hlen with
  | [c0, c1, c2, c3, c4, c5, c6, c7, c8, c9], _ =>
    have g0 := hF 0 _ rfl
    have g1 := hF 1 _ rfl
    have g2 := hF 2 _ rfl
    have g3 := hF 3 _ rfl
    have g4 := hF 4 _ rfl
    have g5 := hF 5 _ rfl
    have g6 := hF 6 _ rfl
    have g7 := hF 7 _ rfl
    have g8 := hF 8 _ rfl
    have g9 := hF 9 _ rfl
    match xs, hxl with
    | [x0, x1, x2, x3, x4, x5, x6, x7, x8, x9], _ =>
      simp [hs1, hi1, ht1] at g0 g1 g2 g3 g4 g5 g6 g7 g8 g9
      obtain ⟨z0, e0, _, _⟩ := DataW.trod_int Tryd.underlying3 g0
      obtain ⟨z1, e1, _, _⟩ := DataW.trod_int Tryd.underlying3 g1
      obtain ⟨z2, e2, _, _⟩ := DataW.trod_int Tryd.underlying3 g2
      obtain ⟨z3, e3, _, _⟩ := DataW.trod_string Tryd.underlying9 g3
      obtain ⟨z4, e4, _, _⟩ := DataW.trod_string Tryd.underlying9 g4
      obtain ⟨z5, e5, _, _⟩ := DataW.trod_string Tryd.underlying9 g5
      obtain ⟨z6, e6, _, _⟩ := DataW.trod_string Tryd.underlying9 g6
      obtain ⟨z7, e7, _, _⟩ := DataW.trod_int Tryd.underlying3 g7
      obtain ⟨z8, e8, _, _⟩ := DataW.trod_int Tryd.underlying3 g8
      have hb9 : Rows.uptoBulk x9.1 ≤ 1048576 := by
        rw [(Prod.mk.inj hxe).1] at hb
        have := bulk_mem (d := x9.1) (l := [x0, x1, x2, x3, x4, x5, x6, x7, x8, x9].map (fun x => x.fst)) (by simp)
        simp only [Rows.uptoBulk] at hb
        omega
      obtain ⟨p, len, cap, e9, hc, hl⟩ := came_bulk g9 hb9
      simp only [List.cons.injEq, and_true] at e0 e1 e2 e3 e4 e5 e6 e7 e8 e9
      subst e0 e1 e2 e3 e4 e5 e6 e7 e8 e9
      exact ⟨⟨z0, z1, z2, z3, z4, z5, z6, z7, z8, p, len, cap⟩, rfl, hc, hl⟩
theorem cameQs_cells {fuel : Nat} {cs : List Value} {x : DataW H × List MemPlace} (h : DataW.trod enc Tryd.prog W 0 (fun _ => true) true fuel 57 cs = some x) (hw : Rows.uptoBulk x.1 ≤ 1048576) :
    ∃ p len cap, cs = [.slice p len cap] ∧ CameQs W p len cap := by
  rcases open_slice Tryd.underlying57 h with ⟨hcs, _⟩ | ⟨a, len, cap, m, n, D, Pl, rfl, hb, hl, hm, hmm, rfl, hx⟩
  · exact ⟨none, 0, 0, hcs, by omega, by omega, by omega, Or.inl rfl⟩
  · simp only [if_true] at hmm
    subst hmm
    simp only [Rows.uptoBulk] at hw
    have hll := bulk_len ((List.range len).map D)
    rw [List.length_map, List.length_range] at hll
    refine ⟨some a, len, _, rfl, hl, by unfold maxLen at hm; omega, by omega, ?_⟩
    by_cases h0 : len = 0
    · exact Or.inl h0
    · have each : ∀ i, i < len → ∃ r : Rq, (∀ k v, r.arr.toList[k]? = some v → W.cell? ((a.add (i * 10)).add k) = some v) ∧ Came W r.dp r.dl r.dc ∧ r.dl ≤ 1048576 := by
        intro i hi
        obtain ⟨cs', h1, h2⟩ := hx i (by omega)
        have hbi : Rows.uptoBulk (D i) ≤ 1048576 := by
          have := bulk_mem (d := D i) (l := (List.range len).map D) (List.mem_map.2 ⟨i, List.mem_range.2 hi, rfl⟩)
          omega
        rw [cellsRq] at h1
        obtain ⟨_, hlen, hcell⟩ := World.cells?_some h1
        obtain ⟨r, rfl, hc, hn⟩ := req_row h2 hlen hbi
        refine ⟨r, fun k v hv => ?_, hc, hn⟩
        have hk : k < 10 := by have := (List.getElem?_eq_some_iff.1 hv).1; simpa [Rq.arr] using this
        rw [hcell k hk]
        exact hv
      have hs : a.spot = none := by
        obtain ⟨r, h1, _⟩ := each 0 (by omega)
        exact spot_of_cell (by have := h1 0 _ rfl; simpa [Addr.add] using this)
      refine Or.inr ⟨a.block, a.off, by obtain ⟨g, o, sp⟩ := a; simp only at hs; subst hs; rfl, fun i hi => ?_⟩
      obtain ⟨r, h1, h2⟩ := each i hi
      refine ⟨r, fun k v hv => ?_, h2⟩
      have h3 := h1 k v hv
      rw [add_of hs, add_of rfl] at h3
      exact h3
theorem cameIU_cells {fuel : Nat} {cs : List Value} {x : DataW H × List MemPlace} (h : DataW.trod enc Tryd.prog W 0 (fun _ => true) true fuel 58 cs = some x) (hb : Rows.uptoBulk x.1 ≤ 1048576) :
    ∃ p len cap, cs = [.slice p len cap] ∧ CameIU W p len cap := by
  rcases open_ints Tryd.underlying58 Tryd.underlying3 (by kernel_rfl) h with ⟨hcs, _⟩ | ⟨x, l, c, zs, hcs, _, hl, hm, hz, hx, hcell, hwz⟩
  · exact ⟨none, 0, 0, hcs, by omega, by omega, by omega, Or.inl rfl⟩
  · simp only [if_true] at hz
    have hll : l ≤ 1048576 := by
      have e := congrArg Prod.fst hx
      simp only at e
      rw [e, Rows.uptoBulk] at hb
      have := bulk_len (lits .i64 (zs.take l) : List (DataW H))
      rw [lits_length, List.length_take] at this
      omega
    refine ⟨some x, l, c, hcs, hl, by unfold maxLen at hm; omega, hll, ?_⟩
    by_cases h0 : l = 0
    · exact Or.inl h0
    · have hs : x.spot = none := spot_of_cell (by have := hcell 0 (by omega); simpa [Addr.add] using this)
      refine Or.inr ⟨x.block, x.off, by obtain ⟨g, o, sp⟩ := x; simp only at hs; subst hs; rfl, fun i hi => ?_⟩
      have h1 := hcell i (by omega)
      rw [add_of hs] at h1
      exact ⟨zs.getD i 0, h1, i64_bd (hwz _ (by rw [List.getD_eq_getElem?_getD, List.getElem?_eq_getElem (by omega)]; exact List.getElem_mem _))⟩
end
end
end Go.Proofs.YtignoocdeghiaaaDoor
