/- Records: plain facts: what is taken up is laid down as the same bytes. -/
import Derived.Test.YtajfjkfnmmfhmaaDoorQau
import Derived.Test.YtajfjkfnmmfhmaaDoorQav
namespace Go.Proofs.YtajfjkfnmmfhmaaDoor
section
open Go.RowKit Go.Lib
set_option maxRecDepth 100000

theorem le_leV (zs : List Int) (h : ∀ z ∈ zs, 0 ≤ z ∧ z < 256) : le (leV zs) zs.length = zs := by
  induction zs with
  | nil => rfl
  | cons z zs ih =>
    have hz := h z (by simp)
    have ih := ih (fun y hy => h y (by simp [hy]))
    have hb := leV_bd zs (fun y hy => h y (by simp [hy]))
    rw [leV, List.length_cons, le, List.range_succ_eq_map, List.map_cons, List.map_map]
    congr 1
    · simp; omega
    · conv => rhs; rw [← ih]
      unfold le
      apply List.map_congr_left
      intro i _
      have e : (2 : Int) ^ (8 * (i + 1)) = 256 * 2 ^ (8 * i) := by rw [Nat.mul_add, Int.pow_add, Int.mul_comm]; rfl
      simp only [Function.comp, Nat.succ_eq_add_one]
      rw [e, ← Int.ediv_ediv_of_nonneg (by decide)]
      congr 2
      omega
theorem tx_str (zs : List Int) (h : ∀ z ∈ zs, 0 ≤ z ∧ z < 256) : tx (strOfNums zs) = zs := by
  unfold tx
  rw [strOfNums_data, List.map_map]
  conv => rhs; rw [← List.map_id zs]
  apply List.map_congr_left
  intro z hz
  have := h z hz
  simp [Function.comp]
  omega
theorem nuS_inv {bs : List Int} (hb : ∀ z ∈ bs, 0 ≤ z ∧ z < 256) {s : Rst} {k : Nat} (h : (nuS bs s (k : Int)).2.2 = 0) : s.2 = 0 ∧ bs.drop s.1 = le (nuS bs s (k : Int)).1 k ++ bs.drop (nuS bs s (k : Int)).2.1 ∧ 0 ≤ (nuS bs s (k : Int)).1 ∧ (nuS bs s (k : Int)).1 < 2 ^ (8 * k) := by
  by_cases he : s.2 = 0
  case neg =>
    unfold nuS at h
    rw [readS_err _ _ _ _ he] at h
    exact absurd h he
  refine ⟨he, ?_⟩
  unfold nuS at h ⊢
  rw [he, readS_ok] at h ⊢
  by_cases hk : (k : Int) < 1 ∨ 8 < (k : Int)
  · have e : numT (bs.drop s.1) k = (0, 0, 1) := by unfold numT; rw [if_pos hk]
    rw [e] at h; simp at h
  by_cases h2 : ((bs.drop s.1).length : Int) < k
  · have e : numT (bs.drop s.1) k = (0, 0, 10) := by unfold numT; rw [if_neg hk, if_pos h2]
    rw [e] at h; simp at h
  have e : numT (bs.drop s.1) k = (leV ((bs.drop s.1).take k), k, 0) := by unfold numT; rw [if_neg hk, if_neg h2, Int.toNat_natCast]
  rw [e]
  simp only [if_true]
  have hz : ∀ z ∈ (bs.drop s.1).take k, 0 ≤ z ∧ z < 256 := fun z hz => hb z (List.mem_of_mem_drop (List.mem_of_mem_take hz))
  have hl : ((bs.drop s.1).take k).length = k := by rw [List.length_take]; omega
  have h3 := le_leV _ hz
  have h4 := leV_bd _ hz
  rw [hl] at h3 h4
  refine ⟨?_, h4⟩
  rw [h3, ← List.drop_drop, List.take_append_drop]
theorem txS_inv {bs : List Int} (hb : ∀ z ∈ bs, 0 ≤ z ∧ z < 256) {s : Rst} {m : Int} (h : (txS bs s m).2.2 = 0) : s.2 = 0 ∧ bs.drop s.1 = txF (strOfNums (txS bs s m).1) ++ bs.drop (txS bs s m).2.1 := by
  by_cases he : s.2 = 0
  case neg =>
    unfold txS at h
    rw [readS_err _ _ _ _ he] at h
    exact absurd h he
  refine ⟨he, ?_⟩
  unfold txS at h ⊢
  rw [he, readS_ok] at h ⊢
  obtain ⟨ls, hls⟩ : ∃ ls, bs.drop s.1 = ls := ⟨_, rfl⟩
  have hlb : ∀ z ∈ ls, 0 ≤ z ∧ z < 256 := fun z hz => hb z (List.mem_of_mem_drop (by rw [hls]; exact hz))
  by_cases h1 : ls.length < 2
  · have e : textT (bs.drop s.1) m = ([], 0, 10) := by rw [hls]; unfold textT; rw [if_pos h1]
    rw [e] at h; simp at h
  by_cases h2 : m < leV (ls.take 2)
  · have e : textT (bs.drop s.1) m = ([], 0, 11) := by rw [hls]; unfold textT; rw [if_neg h1, if_pos h2]
    rw [e] at h; simp at h
  by_cases h3 : ls.length < 2 + (leV (ls.take 2)).toNat
  · have e : textT (bs.drop s.1) m = ([], 0, 10) := by rw [hls]; unfold textT; rw [if_neg h1, if_neg h2, if_pos h3]
    rw [e] at h; simp at h
  have e : textT (bs.drop s.1) m = ((ls.drop 2).take (leV (ls.take 2)).toNat, 2 + (leV (ls.take 2)).toNat, 0) := by rw [hls]; unfold textT; rw [if_neg h1, if_neg h2, if_neg h3]
  rw [e]
  simp only [if_true]
  have hlen2 : (ls.take 2).length = 2 := by simp; omega
  have hbd := leV_bd (ls.take 2) (fun z hz => hlb z (List.mem_of_mem_take hz))
  have hle := le_leV (ls.take 2) (fun z hz => hlb z (List.mem_of_mem_take hz))
  rw [hlen2] at hbd hle
  obtain ⟨n, hn⟩ := Int.eq_ofNat_of_zero_le hbd.1
  rw [hn] at hle h3 ⊢
  rw [Int.toNat_natCast] at h3 ⊢
  have hlt2 : ((ls.drop 2).take n).length = n := by simp; omega
  have hsz : (strOfNums ((ls.drop 2).take n)).size = n := by rw [strOfNums_size, hlt2]
  unfold txF
  rw [hsz, hle, tx_str _ (fun z hz => hlb z (List.mem_of_mem_drop (List.mem_of_mem_take hz))), ← List.take_add, ← List.drop_drop, hls, List.take_append_drop]
theorem byS_inv {bs : List Int} {s : Rst} {k : Int} (h : (byS bs s k).2.2 = 0) : s.2 = 0 ∧ bs.drop s.1 = (byS bs s k).1 ++ bs.drop (byS bs s k).2.1 ∧ ((byS bs s k).1.length : Int) = k := by
  by_cases he : s.2 = 0
  case neg =>
    unfold byS at h
    rw [readS_err _ _ _ _ he] at h
    exact absurd h he
  refine ⟨he, ?_⟩
  unfold byS at h ⊢
  rw [he, readS_ok] at h ⊢
  by_cases hk : k < 0
  · have e : bytesT (bs.drop s.1) k = ([], 0, 1) := by unfold bytesT; rw [if_pos hk]
    rw [e] at h; simp at h
  by_cases h2 : ((bs.drop s.1).length : Int) < k
  · have e : bytesT (bs.drop s.1) k = ([], 0, 10) := by unfold bytesT; rw [if_neg hk, if_pos h2]
    rw [e] at h; simp at h
  have e : bytesT (bs.drop s.1) k = ((bs.drop s.1).take k.toNat, k.toNat, 0) := by unfold bytesT; rw [if_neg hk, if_neg h2]
  rw [e]
  simp only [if_true]
  refine ⟨by rw [← List.drop_drop, List.take_append_drop], ?_⟩
  rw [List.length_take]
  omega
/-- A list of numbers that is taken up to its end. -/
theorem kpS_inv {bs : List Int} (hb : ∀ z ∈ bs, 0 ≤ z ∧ z < 256) {more : Int} {k : Nat} {s : Rst} : ∀ t, (kpS bs more (k : Int) s t).2.2 = 0 → s.2 = 0 ∧ ∀ K : List Int, (∀ j, j < t → zA K j = zA (kpS bs more (k : Int) s t).1 j) → bs.drop s.1 = kpT K more k t ++ bs.drop (kpS bs more (k : Int) s t).2.1
  | 0, h => ⟨h, fun K _ => by simp [kpT, kpS]⟩
  | t + 1, h => by
    have hl := kpS_len bs more (k : Int) s t
    have h1 : (nuS bs (kpS bs more (k : Int) s t).2 (k : Int)).2.2 = 0 := h
    obtain ⟨h2, h3, _, _⟩ := nuS_inv hb h1
    obtain ⟨h5, h6⟩ := kpS_inv hb t h2
    refine ⟨h5, fun K hK => ?_⟩
    have e : (kpS bs more (k : Int) s (t + 1)).1 = (kpS bs more (k : Int) s t).1 ++ [(nuS bs (kpS bs more (k : Int) s t).2 k).1 - more] := rfl
    have h7 := h6 K (fun j hj => by
      rw [hK j (by omega), e]
      unfold zA
      rw [List.getD_eq_getElem?_getD, List.getD_eq_getElem?_getD, List.getElem?_append_left (by omega)])
    have h8 : zA K t + more = (nuS bs (kpS bs more (k : Int) s t).2 k).1 := by
      rw [hK t (by omega), e]
      unfold zA
      rw [List.getD_eq_getElem?_getD, List.getElem?_append_right (by omega), hl, Nat.sub_self]
      simp
    rw [h7, h3, kpT, h8, List.append_assoc]
    rfl
theorem kpS_pos {bs : List Int} (hb : ∀ z ∈ bs, 0 ≤ z ∧ z < 256) {more : Int} {k : Nat} {s : Rst} : ∀ t, (kpS bs more (k : Int) s t).2.2 = 0 → k * t ≤ bs.length - s.1
  | 0, _ => by simp
  | t + 1, h => by
    have h0 := (kpS_inv hb (t + 1) h).2 (kpS bs more (k : Int) s (t + 1)).1 (fun _ _ => rfl)
    have h1 := congrArg List.length h0
    rw [List.length_drop, List.length_append, kpT_len] at h1
    omega
theorem tkK_inv {bs : List Int} (hb : ∀ z ∈ bs, 0 ≤ z ∧ z < 256) {more : Int} {k : Nat} {s : Rst} (hk : 1 ≤ k) (h : (tkK bs more k s).2.2 = 0) (he : bs.length ≤ (tkK bs more k s).2.1) : s.2 = 0 ∧ bs.drop s.1 = keepB (tkK bs more k s).1 more k := by
  unfold tkK at h he ⊢
  obtain ⟨h1, h2⟩ := kpS_inv hb (kpN bs k s) h
  obtain ⟨h3, h4, h5, _⟩ := nuS_inv (k := 2) hb h1
  have h4' : bs.drop s.1 = le (nuS bs s 2).1 2 ++ bs.drop (nuS bs s 2).2.1 := h4
  have h5' : 0 ≤ (nuS bs s 2).1 := h5
  refine ⟨h3, ?_⟩
  have hp := kpS_pos hb (kpN bs k s) h
  have hN : kpN bs k s = (nuS bs s 2).1.toNat := by
    unfold kpN
    by_cases hlt : (nuS bs s 2).1.toNat ≤ (bs.length - (nuS bs s 2).2.1) / k
    · omega
    · exfalso
      have h6 : kpN bs k s = (bs.length - (nuS bs s 2).2.1) / k + 1 := by unfold kpN; omega
      rw [h6, Nat.mul_add, Nat.mul_one] at hp
      have h7 := Nat.div_add_mod (bs.length - (nuS bs s 2).2.1) k
      have h8 := Nat.mod_lt (bs.length - (nuS bs s 2).2.1) (by omega : 0 < k)
      generalize k * ((bs.length - (nuS bs s 2).2.1) / k) = y at hp h7
      omega
  have hl := kpS_len bs more (k : Int) (nuS bs s 2).2 (kpN bs k s)
  have h9 := h2 (kpS bs more (k : Int) (nuS bs s 2).2 (kpN bs k s)).1 (fun _ _ => rfl)
  rw [List.drop_of_length_le he, List.append_nil] at h9
  unfold keepB
  rw [h4', h9, hl]
  congr 2
  rw [hN]
  omega
theorem prS_inv {bs : List Int} (hb : ∀ z ∈ bs, 0 ≤ z ∧ z < 256) {s : Rst} : ∀ t, (prS bs s t).2.2 = 0 → s.2 = 0 ∧ ∀ P : List Pr, (∀ j, j < t → prA P j = prA (prS bs s t).1 j) → bs.drop s.1 = prT P t ++ bs.drop (prS bs s t).2.1
  | 0, h => ⟨h, fun P _ => by simp [prT, prS]⟩
  | t + 1, h => by
    have hl := prS_len bs s t
    have h1 : (txS bs (txS bs (prS bs s t).2 240).2 240).2.2 = 0 := h
    obtain ⟨h2, h3⟩ := txS_inv hb h1
    obtain ⟨h4, h5⟩ := txS_inv hb h2
    obtain ⟨h6, h7⟩ := prS_inv hb t h4
    refine ⟨h6, fun P hP => ?_⟩
    have e : (prS bs s (t + 1)).1 = (prS bs s t).1 ++ [(strOfNums (txS bs (prS bs s t).2 240).1, strOfNums (txS bs (txS bs (prS bs s t).2 240).2 240).1)] := rfl
    have h8 := h7 P (fun j hj => by
      rw [hP j (by omega), e]
      unfold prA
      rw [List.getD_eq_getElem?_getD, List.getD_eq_getElem?_getD, List.getElem?_append_left (by omega)])
    have h9 : prA P t = (strOfNums (txS bs (prS bs s t).2 240).1, strOfNums (txS bs (txS bs (prS bs s t).2 240).2 240).1) := by
      rw [hP t (by omega), e]
      unfold prA
      rw [List.getD_eq_getElem?_getD, List.getElem?_append_right (by omega), hl, Nat.sub_self]
      rfl
    rw [h8, h5, h3, prT, h9, List.append_assoc, List.append_assoc]
    rfl
theorem done_inv {n p : Nat} {e : Int} (h : doneS n p e = 0) : e = 0 ∧ n ≤ p := by
  unfold doneS at h
  split at h
  · omega
  · rename_i h1
    refine ⟨h, ?_⟩
    by_cases h2 : p < n
    · exact absurd ⟨h, h2⟩ h1
    · omega
/-- What a body says, laid down, is the body. -/
theorem body_inv {k : Int} (hk : 1 ≤ k ∧ k ≤ 7) {b : List Int} (hb : ∀ z ∈ b, 0 ≤ z ∧ z < 256) (hd : doneS b.length (tvK k b).s.1 (tvK k b).s.2 = 0) {r : Rc} (hc : r.core = ((tvK k b).rc k).core) (h1 : r.pn = (tvK k b).p.length) (h3 : r.dl = (tvK k b).d.length) :
    bodyR r (tvK k b).p (tvK k b).k (tvK k b).d = b := by
  have ck : r.core.kind = ((tvK k b).rc k).core.kind := by rw [hc]
  have c1 : r.core.name = ((tvK k b).rc k).core.name := by rw [hc]
  have c2 : r.core.typ = ((tvK k b).rc k).core.typ := by rw [hc]
  have c3 : r.core.frm = ((tvK k b).rc k).core.frm := by rw [hc]
  have c4 : r.core.guid = ((tvK k b).rc k).core.guid := by rw [hc]
  have c5 : r.core.origin = ((tvK k b).rc k).core.origin := by rw [hc]
  have c6 : r.core.snap = ((tvK k b).rc k).core.snap := by rw [hc]
  have c8 : r.core.obj = ((tvK k b).rc k).core.obj := by rw [hc]
  have c9 : r.core.at_ = ((tvK k b).rc k).core.at_ := by rw [hc]
  have c10 : r.core.many = ((tvK k b).rc k).core.many := by rw [hc]
  have ck' : r.kind = k := ck
  clear hc ck
  obtain ⟨d1, d2⟩ := done_inv hd
  have h7 : k = 1 ∨ k = 2 ∨ k = 3 ∨ k = 4 ∨ k = 5 ∨ k = 6 ∨ k = 7 := by omega
  rcases h7 with rfl | rfl | rfl | rfl | rfl | rfl | rfl
  · have d1' : (nuS b (txS b (0, 0) 240).2 ((2 : Nat) : Int)).2.2 = 0 := d1
    have d2' : b.length ≤ (nuS b (txS b (0, 0) 240).2 2).2.1 := d2
    obtain ⟨e1, e2, _, _⟩ := nuS_inv hb d1'
    obtain ⟨_, e4⟩ := txS_inv hb e1
    have n1 : r.name = strOfNums (txS b (0, 0) 240).1 := c1
    have n2 : r.many = (nuS b (txS b (0, 0) 240).2 2).1 := c10
    rw [bodyR_1 _ _ _ ck']
    unfold bodyPk
    rw [n1, n2]
    have e5 : b.drop (txS b (0, 0) 240).2.1 = le (nuS b (txS b (0, 0) 240).2 2).1 2 ++ b.drop (nuS b (txS b (0, 0) 240).2 2).2.1 := e2
    rw [List.drop_of_length_le d2', List.append_nil] at e5
    rw [← e5]
    exact e4.symm
  · have d1' : (prS b (g7 b).2 (g7 b).1.toNat).2.2 = 0 := d1
    have d2' : b.length ≤ (prS b (g7 b).2 (g7 b).1.toNat).2.1 := d2
    obtain ⟨e8, f8⟩ := prS_inv hb _ d1'
    obtain ⟨e7, f7, p7, _⟩ := nuS_inv (k := 1) hb (show (nuS b (g6 b).2 ((1 : Nat) : Int)).2.2 = 0 from e8)
    obtain ⟨e6, f6⟩ := txS_inv hb (show (txS b (g5 b).2 240).2.2 = 0 from e7)
    obtain ⟨e5, f5, _, _⟩ := nuS_inv (k := 1) hb (show (nuS b (g4 b).2 ((1 : Nat) : Int)).2.2 = 0 from e6)
    obtain ⟨e4, f4, _, _⟩ := nuS_inv (k := 6) hb (show (nuS b (g3 b).2 ((6 : Nat) : Int)).2.2 = 0 from e5)
    obtain ⟨e3, f3, _, _⟩ := nuS_inv (k := 6) hb (show (nuS b (g2 b).2 ((6 : Nat) : Int)).2.2 = 0 from e4)
    obtain ⟨e2, f2, _, _⟩ := nuS_inv (k := 1) hb (show (nuS b (g1 b).2 ((1 : Nat) : Int)).2.2 = 0 from e3)
    obtain ⟨_, f1⟩ := txS_inv hb (show (txS b (0, 0) 240).2.2 = 0 from e2)
    have n1 : r.name = strOfNums (g1 b).1 := c1
    have n2 : r.typ = (g2 b).1 := c2
    have n3 : r.frm = (g3 b).1 := c3
    have n4 : r.guid = (g4 b).1 := c4
    have n5 : r.origin = (g5 b).1 := c5
    have n6 : r.snap = strOfNums (g6 b).1 := c6
    have hp : (tvK 2 b).p = (g8 b).1 := rfl
    have hpl : (g8 b).1.length = (g7 b).1.toNat := prS_len _ _ _
    have p7' : 0 ≤ (g7 b).1 := p7
    have n7 : (r.pn : Int) = (g7 b).1 := by rw [h1, hp, hpl]; omega
    have f8' := f8 (g8 b).1 (fun _ _ => rfl)
    rw [List.drop_of_length_le d2', List.append_nil] at f8'
    rw [bodyR_2 _ _ _ ck', hp]
    unfold bodyBg
    rw [n1, n2, n3, n4, n5, n6, n7, hpl]
    have k1 : b.drop 0 = txF (strOfNums (g1 b).1) ++ b.drop (g1 b).2.1 := f1
    have k2 : b.drop (g1 b).2.1 = le (g2 b).1 1 ++ b.drop (g2 b).2.1 := f2
    have k3 : b.drop (g2 b).2.1 = le (g3 b).1 6 ++ b.drop (g3 b).2.1 := f3
    have k4 : b.drop (g3 b).2.1 = le (g4 b).1 6 ++ b.drop (g4 b).2.1 := f4
    have k5 : b.drop (g4 b).2.1 = le (g5 b).1 1 ++ b.drop (g5 b).2.1 := f5
    have k6 : b.drop (g5 b).2.1 = txF (strOfNums (g6 b).1) ++ b.drop (g6 b).2.1 := f6
    have k7 : b.drop (g6 b).2.1 = le (g7 b).1 1 ++ b.drop (g7 b).2.1 := f7
    have k8 : b.drop (g7 b).2.1 = prT (g8 b).1 (g7 b).1.toNat := f8'
    rw [← k8]
    simp only [List.append_assoc]
    rw [← k7, ← k6, ← k5, ← k4, ← k3, ← k2, ← k1]
    rfl
  · obtain ⟨_, e2⟩ := tkK_inv (more := 0) (k := 4) (s := (0, 0)) hb (by omega) d1 d2
    rw [bodyR_3 _ _ _ ck']
    unfold bodyLv
    exact e2.symm
  · obtain ⟨e1, e2⟩ := tkK_inv (more := 1) (k := 2) (s := (nuS b (0, 0) 4).2) hb (by omega) d1 d2
    obtain ⟨_, e4, _, _⟩ := nuS_inv (k := 4) hb (show (nuS b (0, 0) ((4 : Nat) : Int)).2.2 = 0 from e1)
    have n8 : r.obj = (nuS b (0, 0) 4).1 := c8
    rw [bodyR_4 _ _ _ ck']
    unfold bodyNd
    rw [n8]
    have k1 : b.drop 0 = le (nuS b (0, 0) 4).1 4 ++ b.drop (nuS b (0, 0) 4).2.1 := e4
    have k2 : b.drop (nuS b (0, 0) 4).2.1 = keepB (tvK 4 b).k 1 2 := e2
    rw [← k2, ← k1]
    rfl
  · have d2' : b.length ≤ (byS b (nuS b (nuS b (nuS b (0, 0) 4).2 2).2 2).2 (nuS b (nuS b (nuS b (0, 0) 4).2 2).2 2).1).2.1 := d2
    obtain ⟨e1, e2, e3⟩ := byS_inv (show (byS b (nuS b (nuS b (nuS b (0, 0) 4).2 2).2 2).2 (nuS b (nuS b (nuS b (0, 0) 4).2 2).2 2).1).2.2 = 0 from d1)
    obtain ⟨e4, e5, _, _⟩ := nuS_inv (k := 2) hb (show (nuS b (nuS b (nuS b (0, 0) 4).2 2).2 ((2 : Nat) : Int)).2.2 = 0 from e1)
    obtain ⟨e6, e7, _, _⟩ := nuS_inv (k := 2) hb (show (nuS b (nuS b (0, 0) 4).2 ((2 : Nat) : Int)).2.2 = 0 from e4)
    obtain ⟨_, e9, _, _⟩ := nuS_inv (k := 4) hb (show (nuS b (0, 0) ((4 : Nat) : Int)).2.2 = 0 from e6)
    have n8 : r.obj = (nuS b (0, 0) 4).1 := c8
    have n9 : r.at_ = (nuS b (nuS b (0, 0) 4).2 2).1 - 1 := c9
    have hdv : (tvK 5 b).d = (byS b (nuS b (nuS b (nuS b (0, 0) 4).2 2).2 2).2 (nuS b (nuS b (nuS b (0, 0) 4).2 2).2 2).1).1 := rfl
    have n12 : (r.dl : Int) = (nuS b (nuS b (nuS b (0, 0) 4).2 2).2 2).1 := by rw [h3, hdv]; exact e3
    rw [List.drop_of_length_le d2', List.append_nil] at e2
    rw [bodyR_5 _ _ _ ck', hdv]
    unfold bodyWr
    rw [n8, n9, n12, Int.sub_add_cancel]
    have k1 : b.drop 0 = le (nuS b (0, 0) 4).1 4 ++ b.drop (nuS b (0, 0) 4).2.1 := e9
    have k2 : b.drop (nuS b (0, 0) 4).2.1 = le (nuS b (nuS b (0, 0) 4).2 2).1 2 ++ b.drop (nuS b (nuS b (0, 0) 4).2 2).2.1 := e7
    have k3 : b.drop (nuS b (nuS b (0, 0) 4).2 2).2.1 = le (nuS b (nuS b (nuS b (0, 0) 4).2 2).2 2).1 2 ++ b.drop (nuS b (nuS b (nuS b (0, 0) 4).2 2).2 2).2.1 := e5
    simp only [List.append_assoc]
    rw [← e2, ← k3, ← k2, ← k1]
    rfl
  · have d2' : b.length ≤ (nuS b (0, 0) 4).2.1 := d2
    obtain ⟨_, e2, _, _⟩ := nuS_inv (k := 4) hb (show (nuS b (0, 0) ((4 : Nat) : Int)).2.2 = 0 from d1)
    have n10 : r.many = (nuS b (0, 0) 4).1 := c10
    have k1 : b.drop 0 = le (nuS b (0, 0) 4).1 4 ++ b.drop (nuS b (0, 0) 4).2.1 := e2
    rw [List.drop_of_length_le d2', List.append_nil] at k1
    rw [bodyR_6 _ _ _ ck']
    unfold bodyCn
    rw [n10, ← k1]
    rfl
  · have d2' : b.length ≤ (nuS b (0, 0) 4).2.1 := d2
    obtain ⟨_, e2, _, _⟩ := nuS_inv (k := 4) hb (show (nuS b (0, 0) ((4 : Nat) : Int)).2.2 = 0 from d1)
    have n10 : r.many = (nuS b (0, 0) 4).1 := c10
    have k1 : b.drop 0 = le (nuS b (0, 0) 4).1 4 ++ b.drop (nuS b (0, 0) 4).2.1 := e2
    rw [List.drop_of_length_le d2', List.append_nil] at k1
    rw [bodyR_7 _ _ _ ck']
    unfold bodyCn
    rw [n10, ← k1]
    rfl
theorem sp_inv {bs : List Int} (hb : ∀ z ∈ bs, 0 ≤ z ∧ z < 256) (h5 : 5 ≤ bs.length) : bs.take 5 = le (spK bs) 1 ++ le (spM bs) 4 := by
  have hl : (bs.take 5).length = 5 := by rw [List.length_take]; omega
  have hb5 : ∀ z ∈ bs.take 5, 0 ≤ z ∧ z < 256 := fun z hz => hb z (List.mem_of_mem_take hz)
  have n1 : nuS (bs.take 5) (0, 0) 1 = (leV ((bs.take 5).take 1), 1, 0) := by
    unfold nuS
    rw [readS_ok]
    unfold numT
    rw [if_neg (by omega), if_neg (by rw [List.drop_zero, hl]; omega)]
    rfl
  have n2 : nuS (bs.take 5) (1, 0) 4 = (leV (((bs.take 5).drop 1).take 4), 5, 0) := by
    unfold nuS
    rw [readS_ok]
    unfold numT
    rw [if_neg (by omega), if_neg (by rw [List.length_drop, hl]; omega)]
    rfl
  have e1 : spK bs = leV ((bs.take 5).take 1) := by unfold spK; rw [n1]
  have e2 : spM bs = leV (((bs.take 5).drop 1).take 4) := by unfold spM; rw [n1]; simp only; rw [n2]
  have l1 : ((bs.take 5).take 1).length = 1 := by rw [List.length_take, hl]; rfl
  have l2 : (((bs.take 5).drop 1).take 4).length = 4 := by rw [List.length_take, List.length_drop, hl]; rfl
  have q1 := le_leV ((bs.take 5).take 1) (fun z hz => hb5 z (List.mem_of_mem_take hz))
  have q2 := le_leV (((bs.take 5).drop 1).take 4) (fun z hz => hb5 z (List.mem_of_mem_drop (List.mem_of_mem_take hz)))
  rw [l1] at q1
  rw [l2] at q2
  rw [e1, e2, q1, q2, List.take_of_length_le (l := (bs.take 5).drop 1) (by rw [List.length_drop, hl]; omega), List.take_append_drop]
theorem sel_inv {b : List Int} (hb : ∀ z ∈ b, 0 ≤ z ∧ z < 256) (hl : b.length = 32) : selL (⟨(u1 b).1, (u2 b).1, (u3 b).1, (u4 b).1⟩ : S4) = b := by
  have n : ∀ p, p + 8 ≤ 32 → nuS b (p, 0) 8 = (leV ((b.drop p).take 8), p + 8, 0) := fun p hp => by
    unfold nuS
    rw [readS_ok]
    unfold numT
    rw [if_neg (by omega), if_neg (by rw [List.length_drop, hl]; omega)]
    rfl
  have q : ∀ p, p + 8 ≤ 32 → le (leV ((b.drop p).take 8)) 8 = (b.drop p).take 8 := fun p hp => by
    have h := le_leV ((b.drop p).take 8) (fun z hz => hb z (List.mem_of_mem_drop (List.mem_of_mem_take hz)))
    have l : ((b.drop p).take 8).length = 8 := by rw [List.length_take, List.length_drop, hl]; omega
    rwa [l] at h
  have e1 : u1 b = (leV ((b.drop 0).take 8), 8, 0) := n 0 (by omega)
  have e2 : u2 b = (leV ((b.drop 8).take 8), 16, 0) := by unfold u2; rw [e1]; exact n 8 (by omega)
  have e3 : u3 b = (leV ((b.drop 16).take 8), 24, 0) := by unfold u3; rw [e2]; exact n 16 (by omega)
  have e4 : u4 b = (leV ((b.drop 24).take 8), 32, 0) := by unfold u4; rw [e3]; exact n 24 (by omega)
  rw [e1, e2, e3, e4]
  unfold selL sumL
  simp only
  rw [q 0 (by omega), q 8 (by omega), q 16 (by omega), q 24 (by omega), List.drop_zero]
  have t : ∀ p, (b.drop p).take 8 ++ b.drop (p + 8) = b.drop p := fun p => by rw [← List.drop_drop, List.take_append_drop]
  rw [List.take_of_length_le (l := b.drop 24) (by rw [List.length_drop, hl]; omega), List.append_assoc, List.append_assoc, t 16, t 8]
  exact t 0
/-- Bytes that are taken up as a record are just what is laid down of it. -/
theorem dec_inv {a : S4} {RB : List Int} (hb : ∀ z ∈ RB, 0 ≤ z ∧ z < 256) (h0 : dcE a RB = 0) {r : Rc} (hc : r.core = ((tvK (spK RB) (dcB RB)).rc (spK RB)).core) (h1 : r.pn = (tvK (spK RB) (dcB RB)).p.length) (h2 : r.kn = (tvK (spK RB) (dcB RB)).k.length) (h3 : r.dl = (tvK (spK RB) (dcB RB)).d.length) :
    RcMay r (tvK (spK RB) (dcB RB)).p (tvK (spK RB) (dcB RB)).k (tvK (spK RB) (dcB RB)).d ∧ recB a r (tvK (spK RB) (dcB RB)).p (tvK (spK RB) (dcB RB)).k (tvK (spK RB) (dcB RB)).d = RB.take (37 + spM RB).toNat ∧ selR a r (tvK (spK RB) (dcB RB)).p (tvK (spK RB) (dcB RB)).k (tvK (spK RB) (dcB RB)).d = sealR a (dcH RB) := by
  have hE : spE RB = 0 := by
    unfold dcE at h0
    split at h0
    · rename_i h; exact absurd h0 h
    · rename_i h; simpa using h
  have hM0 := spM_bd hb
  have hE2 : 5 ≤ RB.length ∧ (1 ≤ spK RB ∧ spK RB ≤ 7) ∧ spM RB ≤ 2048 ∧ 37 + spM RB ≤ (RB.length : Int) := by
    unfold spE at hE
    split at hE
    · omega
    · split at hE
      · omega
      · split at hE
        · omega
        · omega
  unfold dcE at h0
  rw [if_neg (by rw [hE]; simp)] at h0
  have hseal : sealR a (dcH RB) = dcS RB := by
    by_cases h : sealR a (dcH RB) = dcS RB
    · exact h
    · rw [if_pos h] at h0; exact absurd h0 (by decide)
  rw [if_neg (by rw [hseal]; simp)] at h0
  have hok : okB (spK RB) (dcB RB) := by
    by_cases h : okB (spK RB) (dcB RB)
    · exact h
    · rw [if_pos h] at h0; exact absurd h0 (by decide)
  have hbb : ∀ z ∈ dcB RB, 0 ≤ z ∧ z < 256 := fun z hz => hb z (List.mem_of_mem_take (List.mem_of_mem_drop hz))
  have hbody := body_inv hE2.2.1 hbb hok.1 hc h1 h3
  have hkk : r.core.kind = ((tvK (spK RB) (dcB RB)).rc (spK RB)).core.kind := by rw [hc]
  have hk : r.kind = spK RB := hkk
  obtain ⟨dN, hdN⟩ : ∃ z, dcN RB = z := ⟨_, rfl⟩
  have hdn : dN = 5 + (spM RB).toNat := hdN.symm
  have hbl : ((dcB RB).length : Int) = spM RB := by unfold dcB; rw [hdN, List.length_drop, List.length_take]; omega
  have hH : hbL (spK RB) (dcB RB) = dcH RB := by
    unfold hbL
    rw [hbl, ← sp_inv hb hE2.1]
    have e : dcB RB = (dcH RB).drop 5 := rfl
    have e2 : RB.take 5 = (dcH RB).take 5 := by unfold dcH; rw [hdN, List.take_take, Nat.min_eq_left (by omega)]
    rw [e, e2, List.take_append_drop]
  have hT : selL (dcS RB) = dcT RB := sel_inv (fun z hz => hb z (List.mem_of_mem_drop (List.mem_of_mem_take hz))) (by unfold dcT; rw [hdN, List.length_take, List.length_drop]; omega)
  refine ⟨(rcMay_core hc h1 h2 h3).2 hok.2, ?_, ?_⟩
  · unfold recB recL
    rw [hbody, hk, hH, hseal, hT]
    unfold dcH dcT
    rw [hdN, show (37 + spM RB).toNat = dN + 32 by omega, List.take_add]
  · unfold selR
    rw [hbody, hk, hH]
end
end Go.Proofs.YtajfjkfnmmfhmaaDoor
