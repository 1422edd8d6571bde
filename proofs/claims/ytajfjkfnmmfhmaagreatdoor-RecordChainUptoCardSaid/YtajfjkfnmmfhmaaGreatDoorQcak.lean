/- Records: plain facts: what was laid down is taken up. -/
import Derived.Test.YtajfjkfnmmfhmaaGreatDoorQcaj
import Derived.Test.YtajfjkfnmmfhmaaGreatDoorQcah
import Derived.Test.YtajfjkfnmmfhmaaGreatDoorQcai
import Derived.Test.YtajfjkfnmmfhmaaGreatDoorQcaf
import Derived.Test.YtajfjkfnmmfhmaaGreatDoorQcac
namespace Go.Proofs.YtajfjkfnmmfhmaaGreatDoor
set_option maxRecDepth 100000
set_option maxHeartbeats 25600000
section
open Go.RowKit Go.Lib
theorem nuS_fit {bs : List Int} {pos : Nat} {n : Int} {k : Nat} {r : List Int} (h : bs.drop pos = le n k ++ r) (hn : 0 ≤ n) (hf : n < 2 ^ (8 * k)) (hk1 : 1 ≤ k) (hk8 : k ≤ 8) : nuS bs (pos, 0) (k : Int) = (n, pos + k, 0) ∧ bs.drop (pos + k) = r := by
 have h0 : n / 2 ^ (8 * k) = 0 := Int.ediv_eq_zero_of_lt hn hf
 have e : numT (bs.drop pos) (k : Int) = (n, k, 0) := by
  rw [h]
  unfold numT
  rw [if_neg (by omega), if_neg (by simp [le_length]; omega), Int.toNat_natCast, List.take_append_of_le_length (by simp [le_length]), List.take_of_length_le (by simp [le_length]), leV_fit _ _ hn h0]
 refine ⟨?_, by rw [← List.drop_drop, h, List.drop_append_of_le_length (by simp [le_length]), List.drop_of_length_le (by simp [le_length])]; rfl⟩
 unfold nuS
 rw [readS_ok, e]
 rfl
theorem txS_fit {bs : List Int} {pos : Nat} {s : ByteArray} {r : List Int} (h : bs.drop pos = txF s ++ r) {m : Int} (hs : (s.size : Int) ≤ m) (hm : m ≤ 65535) : txS bs (pos, 0) m = (tx s, pos + (2 + s.size), 0) ∧ bs.drop (pos + (2 + s.size)) = r := by
 have h2 : leV (le (s.size : Int) 2) = s.size := leV_fit _ _ (by omega) (by omega)
 have e : textT (bs.drop pos) m = (tx s, 2 + s.size, 0) := by
  rw [h]
  unfold txF
  have e3 : (le (s.size : Int) 2 ++ tx s ++ r).take 2 = le (s.size : Int) 2 := by
   rw [List.append_assoc, List.take_append_of_le_length (by simp [le_length]), List.take_of_length_le (by simp [le_length])]
  unfold textT
  rw [e3, h2, if_neg (by simp [le_length]), if_neg (by omega), Int.toNat_natCast, if_neg (by simp [le_length, tx_length])]
  have e4 : (le (s.size : Int) 2 ++ tx s ++ r).drop 2 = tx s ++ r := by
   rw [List.append_assoc, List.drop_append_of_le_length (by simp [le_length]), List.drop_of_length_le (by simp [le_length])]; rfl
  rw [e4, List.take_append_of_le_length (by simp [tx_length]), List.take_of_length_le (by simp [tx_length])]
 refine ⟨?_, by rw [← List.drop_drop, h, List.drop_append_of_le_length (by simp [txF_len]), List.drop_of_length_le (by simp [txF_len])]; rfl⟩
 unfold txS
 rw [readS_ok, e]
 rfl
theorem byS_fit {bs : List Int} {pos : Nat} {ds : List Int} {k : Nat} {r : List Int} (h : bs.drop pos = ds ++ r) (hl : ds.length = k) : byS bs (pos, 0) (k : Int) = (ds, pos + k, 0) ∧ bs.drop (pos + k) = r := by
 have e : bytesT (bs.drop pos) (k : Int) = (ds, k, 0) := by
  rw [h]
  unfold bytesT
  rw [if_neg (by omega), if_neg (by simp [hl]; omega), Int.toNat_natCast, List.take_append_of_le_length (by omega), List.take_of_length_le (by omega)]
 refine ⟨?_, by rw [← List.drop_drop, h, List.drop_append_of_le_length (by omega), List.drop_of_length_le (by omega)]; rfl⟩
 unfold byS
 rw [readS_ok, e]
 rfl
theorem app_nil_r {a : List Int} {pos : Nat} (h : pos = 0) : a.drop pos = a ++ [] := by rw [h]; simp
theorem tvCn_fit {n : Int} (h : 1 ≤ n ∧ n ≤ 1048576) : tvCn (le n 4) = ⟨⟨0, ⟨#[]⟩, 0, 0, 0, 0, ⟨#[]⟩, none, 0, 0, 0, 0, n, none, 0, 0, none, 0, 0⟩, [], [], [], (4, 0)⟩ := by
 have h1 := (nuS_fit (bs := le n 4) (pos := 0) (r := []) (app_nil_r rfl) (by omega) (by omega) (by omega) (by omega)).1
 have h2 : nuS (le n 4) (0, 0) 4 = (n, 0 + 4, 0) := h1
 unfold tvCn
 rw [h2]
theorem tvPk_fit {s : ByteArray} {n : Int} (hs : s.size ≤ 24) (h : 1 ≤ n ∧ n ≤ 120) : tvPk (txF s ++ le n 2) = ⟨⟨0, s, 0, 0, 0, 0, ⟨#[]⟩, none, 0, 0, 0, 0, n, none, 0, 0, none, 0, 0⟩, [], [], [], ((txF s ++ le n 2).length, 0)⟩ := by
 obtain ⟨h1, h2⟩ := txS_fit (bs := txF s ++ le n 2) (pos := 0) (s := s) (r := le n 2) rfl (m := 240) (by omega) (by omega)
 have h3 := (nuS_fit (bs := txF s ++ le n 2) (pos := 0 + (2 + s.size)) (n := n) (k := 2) (r := []) (by rw [h2]; simp) (by omega) (by omega) (by omega) (by omega)).1
 have h4 : nuS (txF s ++ le n 2) (0 + (2 + s.size), 0) 2 = (n, 0 + (2 + s.size) + 2, 0) := h3
 unfold tvPk
 rw [h1, h4, str_txB, List.length_append, txF_len, le_length]
 simp
theorem kpT_drop (K : List Int) (more : Int) (k : Nat) : ∀ (N t : Nat), t < N → (kpT K more k N).drop (k * t) = le (zA K t + more) k ++ (kpT K more k N).drop (k * (t + 1))
 | 0, t, h => by omega
 | N + 1, t, h => by
  have hl := kpT_len K more k N
  by_cases ht : t < N
  ·have ih := kpT_drop K more k N t ht
   have h1 : k * t ≤ k * N := Nat.mul_le_mul_left _ (by omega)
   have h2 : k * (t + 1) ≤ k * N := Nat.mul_le_mul_left _ (by omega)
   rw [kpT, List.drop_append_of_le_length (by omega), List.drop_append_of_le_length (by omega), ih, List.append_assoc]
  ·obtain rfl : t = N := by omega
   rw [kpT, List.drop_append_of_le_length (by omega), List.drop_of_length_le (by omega), List.nil_append, List.drop_of_length_le (l := kpT K more k t ++ le (zA K t + more) k) (by rw [List.length_append, hl, le_length, Nat.mul_add, Nat.mul_one]; exact Nat.le_refl _), List.append_nil]
theorem take_zA {K : List Int} {t : Nat} (h : t < K.length) : K.take t ++ [zA K t] = K.take (t + 1) := by
 rw [List.take_succ_eq_append_getElem h]
 congr 2
 unfold zA
 simp [List.getD, h]
theorem kpS_fit {bs : List Int} {pos : Nat} {K : List Int} {more : Int} {k : Nat} {r : List Int} (h : bs.drop pos = kpT K more k K.length ++ r) (hK : ∀ i, i < K.length → 0 ≤ zA K i + more ∧ zA K i + more < 2 ^ (8 * k)) (hk1 : 1 ≤ k) (hk8 : k ≤ 8) :
  ∀ t, t ≤ K.length → kpS bs more (k : Int) (pos, 0) t = (K.take t, (pos + k * t, 0)) ∧ bs.drop (pos + k * t) = (kpT K more k K.length).drop (k * t) ++ r
 | 0, _ => by refine ⟨by simp [kpS], by simpa using h⟩
 | t + 1, ht => by
  obtain ⟨h1, h2⟩ := kpS_fit h hK hk1 hk8 t (by omega)
  rw [kpT_drop K more k K.length t (by omega), List.append_assoc] at h2
  obtain ⟨h3, h4⟩ := nuS_fit h2 (hK t (by omega)).1 (hK t (by omega)).2 hk1 hk8
  have e : pos + k * (t + 1) = pos + k * t + k := by rw [Nat.mul_add, Nat.mul_one]; omega
  refine ⟨?_, by rw [e]; exact h4⟩
  rw [kpS, h1, h3, e]
  simp only [Int.add_sub_cancel]
  rw [take_zA (by omega)]
theorem tkK_fit {bs : List Int} {pos : Nat} {K : List Int} {more : Int} {k : Nat} (h : bs.drop pos = keepB K more k) (hK : ∀ i, i < K.length → 0 ≤ zA K i + more ∧ zA K i + more < 2 ^ (8 * k)) (hk1 : 1 ≤ k) (hk8 : k ≤ 8) (hn : K.length ≤ 240) (hp : pos ≤ bs.length) : tkK bs more k (pos, 0) = (K, (bs.length, 0)) := by
 have hbl : bs.length = pos + (2 + k * K.length) := by
  have h1 := congrArg List.length h
  rw [List.length_drop, keepB_len] at h1
  omega
 unfold keepB at h
 obtain ⟨h1, h2⟩ := nuS_fit h (by omega) (by omega) (by omega) (by omega)
 have h1' : nuS bs (pos, 0) 2 = ((K.length : Int), pos + 2, 0) := h1
 have hN : kpN bs k (pos, 0) = K.length := by
  unfold kpN
  rw [h1', Int.toNat_natCast]
  have e : bs.length - (pos + 2) = k * K.length := by omega
  show min K.length ((bs.length - (pos + 2)) / k + 1) = K.length
  rw [e, Nat.mul_div_cancel_left _ (by omega)]
  omega
 unfold tkK
 rw [hN, h1']
 have h3 := (kpS_fit (r := []) (by rw [h2]; simp) hK hk1 hk8 K.length (Nat.le_refl _)).1
 rw [h3, List.take_length, hbl]
 congr 2
 omega
theorem prT_drop (P : List Pr) : ∀ (N t : Nat), t < N → (prT P N).drop (prT P t).length = txF (prA P t).1 ++ (txF (prA P t).2 ++ (prT P N).drop (prT P (t + 1)).length)
 | 0, t, h => by omega
 | N + 1, t, h => by
  have hmono : ∀ a b : Nat, a ≤ b → (prT P a).length ≤ (prT P b).length := fun a b hab => by
   induction b with
   | zero => rw [show a = 0 by omega]; exact Nat.le_refl _
   | succ b ih =>
    by_cases hb : a = b + 1
    ·rw [hb]; exact Nat.le_refl _
    ·have h1 := ih (by omega)
     rw [prT, List.length_append]
     omega
  by_cases ht : t < N
  ·have ih := prT_drop P N t ht
   have h1 := hmono t N (by omega)
   have h2 := hmono (t + 1) N (by omega)
   rw [show prT P (N + 1) = prT P N ++ (txF (prA P N).1 ++ txF (prA P N).2) from rfl, List.drop_append_of_le_length h1, List.drop_append_of_le_length h2, ih]
   simp only [List.append_assoc]
  ·obtain rfl : t = N := by omega
   have e : prT P (t + 1) = prT P t ++ (txF (prA P t).1 ++ txF (prA P t).2) := rfl
   rw [List.drop_of_length_le (l := prT P (t + 1)) (Nat.le_refl _), e, List.drop_append_of_le_length (Nat.le_refl _), List.drop_of_length_le (Nat.le_refl _), List.nil_append, List.append_nil]
theorem take_prA {P : List Pr} {t : Nat} (h : t < P.length) : P.take t ++ [prA P t] = P.take (t + 1) := by
 rw [List.take_succ_eq_append_getElem h, prA_get h]
theorem prS_fit {bs : List Int} {pos : Nat} {P : List Pr} {r : List Int} (h : bs.drop pos = prT P P.length ++ r) (hP : PropsOk P) :
  ∀ t, t ≤ P.length → prS bs (pos, 0) t = (P.take t, (pos + (prT P t).length, 0)) ∧ bs.drop (pos + (prT P t).length) = (prT P P.length).drop (prT P t).length ++ r
 | 0, _ => by refine ⟨by simp [prS, prT], by simpa [prT] using h⟩
 | t + 1, ht => by
  obtain ⟨h1, h2⟩ := prS_fit h hP t (by omega)
  rw [prT_drop P P.length t (by omega), List.append_assoc, List.append_assoc] at h2
  have m1 := (hP t (by omega)).1.1.2
  have m2 := (hP t (by omega)).2.1.1.2
  rw [tx_length] at m1 m2
  obtain ⟨h3, h4⟩ := txS_fit h2 (m := 240) (by omega) (by omega)
  obtain ⟨h5, h6⟩ := txS_fit h4 (m := 240) (by omega) (by omega)
  have e : pos + (prT P (t + 1)).length = pos + (prT P t).length + (2 + (prA P t).1.size) + (2 + (prA P t).2.size) := by
   rw [prT, List.length_append, List.length_append, txF_len, txF_len]; omega
  refine ⟨?_, by rw [e]; exact h6⟩
  rw [prS, h1, h3]
  simp only
  rw [h5, e, str_txB, str_txB]
  simp only
  rw [show ((prA P t).1, (prA P t).2) = prA P t from rfl, take_prA (by omega)]
theorem tvLv_fit {K : List Int} (hK : ∀ i, i < K.length → 1 ≤ zA K i ∧ zA K i ≤ 1048576) (hn : K.length ≤ 240) : tvLv (keepB K 0 4) = ⟨⟨0, ⟨#[]⟩, 0, 0, 0, 0, ⟨#[]⟩, none, 0, 0, 0, 0, 0, none, 0, 0, none, 0, 0⟩, [], K, [], ((keepB K 0 4).length, 0)⟩ := by
 have h := tkK_fit (bs := keepB K 0 4) (pos := 0) (K := K) (more := 0) (k := 4) rfl (fun i hi => ⟨by have := hK i hi; omega, by have := hK i hi; simp; omega⟩) (by omega) (by omega) hn (Nat.zero_le _)
 unfold tvLv
 rw [h]
theorem tvNd_fit {n : Int} {K : List Int} (h : 1 ≤ n ∧ n ≤ 1048576) (hK : ∀ i, i < K.length → -1 ≤ zA K i ∧ zA K i ≤ 255) (hn : K.length ≤ 240) : tvNd (le n 4 ++ keepB K 1 2) = ⟨⟨0, ⟨#[]⟩, 0, 0, 0, 0, ⟨#[]⟩, none, 0, 0, n, 0, 0, none, 0, 0, none, 0, 0⟩, [], K, [], ((le n 4 ++ keepB K 1 2).length, 0)⟩ := by
 obtain ⟨h1, h2⟩ := nuS_fit (bs := le n 4 ++ keepB K 1 2) (pos := 0) (n := n) (k := 4) (r := keepB K 1 2) rfl (by omega) (by omega) (by omega) (by omega)
 have h1' : nuS (le n 4 ++ keepB K 1 2) (0, 0) 4 = (n, 0 + 4, 0) := h1
 have h3 := tkK_fit (bs := le n 4 ++ keepB K 1 2) (pos := 0 + 4) (K := K) (more := 1) (k := 2) h2 (fun i hi => ⟨by have := hK i hi; omega, by have := hK i hi; simp; omega⟩) (by omega) (by omega) hn (by rw [List.length_append, le_length]; omega)
 unfold tvNd
 rw [h1', h3]
theorem tvWr_fit {n m : Int} {D : List Int} (h : 1 ≤ n ∧ n ≤ 1048576) (hm : -1 ≤ m ∧ m ≤ 255) (hd : D.length ≤ 256) : tvWr (le n 4 ++ le (m + 1) 2 ++ le (D.length : Int) 2 ++ D) = ⟨⟨0, ⟨#[]⟩, 0, 0, 0, 0, ⟨#[]⟩, none, 0, 0, n, m, 0, none, 0, 0, none, 0, 0⟩, [], [], D, ((le n 4 ++ le (m + 1) 2 ++ le (D.length : Int) 2 ++ D).length, 0)⟩ := by
 obtain ⟨B, hB⟩ := eX (le n 4 ++ le (m + 1) 2 ++ le (D.length : Int) 2 ++ D)
 have h0 : B.drop 0 = le n 4 ++ (le (m + 1) 2 ++ (le (D.length : Int) 2 ++ D)) := by rw [← hB]; simp only [List.append_assoc, List.drop_zero]
 have hlen : B.length = 0 + 4 + 2 + 2 + D.length := by rw [← hB]; simp only [List.length_append, le_length]
 rw [hB]
 obtain ⟨h1, h2⟩ := nuS_fit h0 (by omega) (by omega) (by omega) (by omega)
 obtain ⟨h3, h4⟩ := nuS_fit h2 (by omega) (by omega) (by omega) (by omega)
 obtain ⟨h5, h6⟩ := nuS_fit h4 (by omega) (by omega) (by omega) (by omega)
 obtain ⟨h7, _⟩ := byS_fit (ds := D) (k := D.length) (r := []) (by rw [h6]; simp) rfl
 have e1 : nuS B (0, 0) 4 = (n, 0 + 4, 0) := h1
 have e2 : nuS B (0 + 4, 0) 2 = (m + 1, 0 + 4 + 2, 0) := h3
 have e3 : nuS B (0 + 4 + 2, 0) 2 = ((D.length : Int), 0 + 4 + 2 + 2, 0) := h5
 unfold tvWr
 rw [e1]
 simp only
 rw [e2]
 simp only
 rw [e3]
 simp only
 rw [h7, hlen, Int.add_sub_cancel]
theorem tvBg_fit {r : Rc} {P : List Pr} (hm : MayBg r P) (hp : P.length = r.pn) : tvBg (bodyBg r P) = ⟨⟨0, r.name, r.typ, r.frm, r.guid, r.origin, r.snap, none, 0, 0, 0, 0, 0, none, 0, 0, none, 0, 0⟩, P, [], [], ((bodyBg r P).length, 0)⟩ := by
 obtain ⟨hnm, hpo, m1, ⟨m2, m3⟩, ⟨m4, m5⟩, m6, hsn, m8⟩ := hm
 have mn := nm_len hnm
 have hns : r.name.data.toList.length = r.name.size := rfl
 rw [hns] at mn
 have msn := hsn.1.2
 rw [tx_length] at msn
 obtain ⟨B, hB⟩ := eX (bodyBg r P)
 have h0 : B.drop 0 = txF r.name ++ (le r.typ 1 ++ (le r.frm 6 ++ (le r.guid 6 ++ (le r.origin 1 ++ (txF r.snap ++ (le (r.pn : Int) 1 ++ prT P P.length)))))) := by rw [← hB]; unfold bodyBg; simp only [List.append_assoc, List.drop_zero]
 have hlen : B.length = 0 + (2 + r.name.size) + 1 + 6 + 6 + 1 + (2 + r.snap.size) + 1 + (prT P P.length).length := by rw [← hB]; unfold bodyBg; simp only [List.length_append, le_length, txF_len]; omega
 rw [hB]
 obtain ⟨a1, h1⟩ := txS_fit h0 (m := 240) (by omega) (by omega)
 obtain ⟨a2, h2⟩ := nuS_fit h1 (by omega) (by omega) (by omega) (by omega)
 obtain ⟨a3, h3⟩ := nuS_fit h2 (by omega) (by omega) (by omega) (by omega)
 obtain ⟨a4, h4⟩ := nuS_fit h3 (by omega) (by omega) (by omega) (by omega)
 obtain ⟨a5, h5⟩ := nuS_fit h4 (by omega) (by omega) (by omega) (by omega)
 obtain ⟨a6, h6⟩ := txS_fit h5 (m := 240) (by omega) (by omega)
 obtain ⟨a7, h7⟩ := nuS_fit h6 (by omega) (by omega) (by omega) (by omega)
 have a8 := (prS_fit (r := []) (by rw [h7]; simp) hpo P.length (Nat.le_refl _)).1
 have e1 : g1 B = (tx r.name, 0 + (2 + r.name.size), 0) := a1
 have e2 : g2 B = (r.typ, 0 + (2 + r.name.size) + 1, 0) := by unfold g2; rw [e1]; exact a2
 have e3 : g3 B = (r.frm, 0 + (2 + r.name.size) + 1 + 6, 0) := by unfold g3; rw [e2]; exact a3
 have e4 : g4 B = (r.guid, 0 + (2 + r.name.size) + 1 + 6 + 6, 0) := by unfold g4; rw [e3]; exact a4
 have e5 : g5 B = (r.origin, 0 + (2 + r.name.size) + 1 + 6 + 6 + 1, 0) := by unfold g5; rw [e4]; exact a5
 have e6 : g6 B = (tx r.snap, 0 + (2 + r.name.size) + 1 + 6 + 6 + 1 + (2 + r.snap.size), 0) := by unfold g6; rw [e5]; exact a6
 have e7 : g7 B = ((r.pn : Int), 0 + (2 + r.name.size) + 1 + 6 + 6 + 1 + (2 + r.snap.size) + 1, 0) := by unfold g7; rw [e6]; exact a7
 have e8 : g8 B = (P, (B.length, 0)) := by
  unfold g8
  rw [e7, Int.toNat_natCast, ← hp, a8, List.take_length, hlen]
 unfold tvBg
 rw [e1, e2, e3, e4, e5, e6, e8, str_txB, str_txB]
theorem tv_back {r : Rc} {P : List Pr} {K D : List Int} (hm : RcMay r P K D) (hp : P.length = r.pn) (hk : K.length = r.kn) (hd : D.length = r.dl) :
  (tvK r.kind (bodyR r P K D)).p = P ∧ (tvK r.kind (bodyR r P K D)).k = K ∧ (tvK r.kind (bodyR r P K D)).d = D ∧ (tvK r.kind (bodyR r P K D)).s = ((bodyR r P K D).length, 0) ∧ ((tvK r.kind (bodyR r P K D)).rc r.kind).core = r.core := by
 have h := rcMay_kind hm
 have h7 : r.kind = 1 ∨ r.kind = 2 ∨ r.kind = 3 ∨ r.kind = 4 ∨ r.kind = 5 ∨ r.kind = 6 ∨ r.kind = 7 := by omega
 rcases h7 with h | h | h | h | h | h | h
 ·obtain ⟨m, s⟩ := (rcMay_1 P K D h).1 hm
  obtain ⟨_, s1, s2, s3, s4, s5, s6, s7, s8, s9, s10, s11, s12⟩ := s
  have e : tvK r.kind (bodyR r P K D) = ⟨⟨0, r.name, 0, 0, 0, 0, ⟨#[]⟩, none, 0, 0, 0, 0, r.many, none, 0, 0, none, 0, 0⟩, [], [], [], ((bodyPk r).length, 0)⟩ := by
   rw [bodyR_1 P K D h, h]
   exact tvPk_fit (by have := m.1.1.2; rw [tx_length] at this; exact this) m.2
  rw [e]
  refine ⟨s7.symm, s11.symm, s12.symm, by rw [bodyR_1 P K D h], ?_⟩
  unfold TkV.rc Rc.core
  simp only [Rc.mk.injEq]
  and_intros <;> first | exact True.intro | rfl | exact s1.symm | exact s2.symm | exact s3.symm | exact s4.symm | exact s5.symm | exact s6.symm | exact s8.symm | exact s9.symm | exact s10.symm
 ·obtain ⟨m, s⟩ := (rcMay_2 P K D h).1 hm
  obtain ⟨_, s1, s2, s3, s4, s5, s6, s7, s8, s9, s10, s11, s12⟩ := s
  have e : tvK r.kind (bodyR r P K D) = ⟨⟨0, r.name, r.typ, r.frm, r.guid, r.origin, r.snap, none, 0, 0, 0, 0, 0, none, 0, 0, none, 0, 0⟩, P, [], [], ((bodyBg r P).length, 0)⟩ := by
   rw [bodyR_2 P K D h, h]
   exact tvBg_fit m hp
  rw [e]
  refine ⟨rfl, s11.symm, s12.symm, by rw [bodyR_2 P K D h], ?_⟩
  unfold TkV.rc Rc.core
  simp only [Rc.mk.injEq]
  and_intros <;> first | exact True.intro | rfl | exact s1.symm | exact s2.symm | exact s3.symm | exact s4.symm | exact s5.symm | exact s6.symm | exact s8.symm | exact s9.symm | exact s10.symm
 ·obtain ⟨m, s⟩ := (rcMay_3 P K D h).1 hm
  obtain ⟨_, s1, s2, s3, s4, s5, s6, s7, s8, s9, s10, s11, s12⟩ := s
  have e : tvK r.kind (bodyR r P K D) = ⟨⟨0, ⟨#[]⟩, 0, 0, 0, 0, ⟨#[]⟩, none, 0, 0, 0, 0, 0, none, 0, 0, none, 0, 0⟩, [], K, [], ((bodyLv K).length, 0)⟩ := by
   rw [bodyR_3 P K D h, h]
   exact tvLv_fit (rise_bd m.2) (by have := m.1; omega)
  rw [e]
  refine ⟨s7.symm, rfl, s12.symm, by rw [bodyR_3 P K D h], ?_⟩
  unfold TkV.rc Rc.core
  simp only [Rc.mk.injEq]
  and_intros <;> first | exact True.intro | rfl | exact s1.symm | exact s2.symm | exact s3.symm | exact s4.symm | exact s5.symm | exact s6.symm | exact s8.symm | exact s9.symm | exact s10.symm
 ·obtain ⟨m, s⟩ := (rcMay_4 P K D h).1 hm
  obtain ⟨_, s1, s2, s3, s4, s5, s6, s7, s8, s9, s10, s11, s12⟩ := s
  have e : tvK r.kind (bodyR r P K D) = ⟨⟨0, ⟨#[]⟩, 0, 0, 0, 0, ⟨#[]⟩, none, 0, 0, r.obj, 0, 0, none, 0, 0, none, 0, 0⟩, [], K, [], ((bodyNd r K).length, 0)⟩ := by
   rw [bodyR_4 P K D h, h]
   exact tvNd_fit m.1 (rise_bd m.2.2) (by have := m.2.1; omega)
  rw [e]
  refine ⟨s7.symm, rfl, s12.symm, by rw [bodyR_4 P K D h], ?_⟩
  unfold TkV.rc Rc.core
  simp only [Rc.mk.injEq]
  and_intros <;> first | exact True.intro | rfl | exact s1.symm | exact s2.symm | exact s3.symm | exact s4.symm | exact s5.symm | exact s6.symm | exact s8.symm | exact s9.symm | exact s10.symm
 ·obtain ⟨m, s⟩ := (rcMay_5 P K D h).1 hm
  obtain ⟨_, s1, s2, s3, s4, s5, s6, s7, s8, s9, s10, s11, s12⟩ := s
  have e : tvK r.kind (bodyR r P K D) = ⟨⟨0, ⟨#[]⟩, 0, 0, 0, 0, ⟨#[]⟩, none, 0, 0, r.obj, r.at_, 0, none, 0, 0, none, 0, 0⟩, [], [], D, ((bodyWr r D).length, 0)⟩ := by
   rw [bodyR_5 P K D h, h]
   exact by unfold bodyWr; rw [← hd]; exact tvWr_fit m.1 m.2.1 (by have := m.2.2; omega)
  rw [e]
  refine ⟨s7.symm, s11.symm, rfl, by rw [bodyR_5 P K D h], ?_⟩
  unfold TkV.rc Rc.core
  simp only [Rc.mk.injEq]
  and_intros <;> first | exact True.intro | rfl | exact s1.symm | exact s2.symm | exact s3.symm | exact s4.symm | exact s5.symm | exact s6.symm | exact s8.symm | exact s9.symm | exact s10.symm
 ·obtain ⟨m, s⟩ := (rcMay_6 P K D h).1 hm
  obtain ⟨_, s1, s2, s3, s4, s5, s6, s7, s8, s9, s10, s11, s12⟩ := s
  have e : tvK r.kind (bodyR r P K D) = ⟨⟨0, ⟨#[]⟩, 0, 0, 0, 0, ⟨#[]⟩, none, 0, 0, 0, 0, r.many, none, 0, 0, none, 0, 0⟩, [], [], [], ((bodyCn r).length, 0)⟩ := by
   rw [bodyR_6 P K D h, h]
   exact tvCn_fit m
  rw [e]
  refine ⟨s7.symm, s11.symm, s12.symm, by rw [bodyR_6 P K D h], ?_⟩
  unfold TkV.rc Rc.core
  simp only [Rc.mk.injEq]
  and_intros <;> first | exact True.intro | rfl | exact s1.symm | exact s2.symm | exact s3.symm | exact s4.symm | exact s5.symm | exact s6.symm | exact s8.symm | exact s9.symm | exact s10.symm
 ·obtain ⟨m, s⟩ := (rcMay_7 P K D h).1 hm
  obtain ⟨_, s1, s2, s3, s4, s5, s6, s7, s8, s9, s10, s11, s12⟩ := s
  have e : tvK r.kind (bodyR r P K D) = ⟨⟨0, ⟨#[]⟩, 0, 0, 0, 0, ⟨#[]⟩, none, 0, 0, 0, 0, r.many, none, 0, 0, none, 0, 0⟩, [], [], [], ((bodyCn r).length, 0)⟩ := by
   rw [bodyR_7 P K D h, h]
   exact tvCn_fit m
  rw [e]
  refine ⟨s7.symm, s11.symm, s12.symm, by rw [bodyR_7 P K D h], ?_⟩
  unfold TkV.rc Rc.core
  simp only [Rc.mk.injEq]
  and_intros <;> first | exact True.intro | rfl | exact s1.symm | exact s2.symm | exact s3.symm | exact s4.symm | exact s5.symm | exact s6.symm | exact s8.symm | exact s9.symm | exact s10.symm
theorem okB_back {r : Rc} {P : List Pr} {K D : List Int} (hm : RcMay r P K D) (hp : P.length = r.pn) (hk : K.length = r.kn) (hd : D.length = r.dl) : okB r.kind (bodyR r P K D) := by
 obtain ⟨h1, h2, h3, h4, h5⟩ := tv_back hm hp hk hd
 unfold okB
 rw [h1, h2, h3, h4]
 refine ⟨by unfold doneS; rw [if_neg (by omega)], ?_⟩
 refine (rcMay_core h5 ?_ ?_ ?_).2 hm
 ·show (tvK r.kind (bodyR r P K D)).p.length = _; rw [h1, hp]
 ·show (tvK r.kind (bodyR r P K D)).k.length = _; rw [h2, hk]
 ·show (tvK r.kind (bodyR r P K D)).d.length = _; rw [h3, hd]
theorem sp_head {bs : List Int} {k : Int} {m : Nat} (h : bs.take 5 = le k 1 ++ le (m : Int) 4) (hk : 0 ≤ k ∧ k < 256) (hm : m < 4294967296) : spK bs = k ∧ spM bs = m := by
 have h0 : (bs.take 5).drop 0 = le k 1 ++ le (m : Int) 4 := by simpa using h
 obtain ⟨a1, h1⟩ := nuS_fit h0 hk.1 (by omega) (by omega) (by omega)
 obtain ⟨a2, _⟩ := nuS_fit (n := (m : Int)) (k := 4) (r := []) (by rw [h1]; simp) (by omega) (by omega) (by omega) (by omega)
 have e1 : nuS (bs.take 5) (0, 0) 1 = (k, 0 + 1, 0) := a1
 have e2 : nuS (bs.take 5) (0 + 1, 0) 4 = ((m : Int), 0 + 1 + 4, 0) := a2
 unfold spK spM
 rw [e1]
 exact ⟨rfl, by rw [e2]⟩
theorem sel_back (s : S4) (hs : s.Bd) : (⟨(u1 (selL s)).1, (u2 (selL s)).1, (u3 (selL s)).1, (u4 (selL s)).1⟩ : S4) = s := by
 obtain ⟨B, hB⟩ := eX (selL s)
 have h0 : B.drop 0 = le s.a 8 ++ (le s.b 8 ++ (le s.c 8 ++ le s.d 8)) := by rw [← hB]; unfold selL sumL; simp only [List.append_assoc, List.drop_zero]
 rw [hB]
 obtain ⟨a1, h1⟩ := nuS_fit h0 hs.a.1 (by have := hs.a.2; simpa using this) (by omega) (by omega)
 obtain ⟨a2, h2⟩ := nuS_fit h1 hs.b.1 (by have := hs.b.2; simpa using this) (by omega) (by omega)
 obtain ⟨a3, h3⟩ := nuS_fit h2 hs.c.1 (by have := hs.c.2; simpa using this) (by omega) (by omega)
 obtain ⟨a4, _⟩ := nuS_fit (n := s.d) (k := 8) (r := []) (by rw [h3]; simp) hs.d.1 (by have := hs.d.2; simpa using this) (by omega) (by omega)
 have e1 : u1 B = (s.a, 0 + 8, 0) := a1
 have e2 : u2 B = (s.b, 0 + 8 + 8, 0) := by unfold u2; rw [e1]; exact a2
 have e3 : u3 B = (s.c, 0 + 8 + 8 + 8, 0) := by unfold u3; rw [e2]; exact a3
 have e4 : u4 B = (s.d, 0 + 8 + 8 + 8 + 8, 0) := by unfold u4; rw [e3]; exact a4
 rw [e1, e2, e3, e4]
theorem rec_head (a : S4) (k : Int) (B rest : List Int) (hk : 1 ≤ k ∧ k ≤ 7) (hB : B.length ≤ 2000) : spK (recL a k B ++ rest) = k ∧ spM (recL a k B ++ rest) = B.length ∧ spE (recL a k B ++ rest) = 0 ∧ dcH (recL a k B ++ rest) = hbL k B ∧ dcB (recL a k B ++ rest) = B ∧ dcS (recL a k B ++ rest) = sealR a (hbL k B) := by
 have hl := recL_len a k B
 have h5 : (recL a k B ++ rest).take 5 = le k 1 ++ le (B.length : Int) 4 := by
  unfold recL hbL
  simp only [List.append_assoc]
  rw [← List.append_assoc, List.take_append_of_le_length (by simp [le_length]), List.take_of_length_le (by simp [le_length])]
 obtain ⟨e1, e2⟩ := sp_head h5 (by omega) (by omega)
 have eN : dcN (recL a k B ++ rest) = (hbL k B).length := by unfold dcN; rw [e2, hbL_len, Int.toNat_natCast]
 have eH : dcH (recL a k B ++ rest) = hbL k B := by
  unfold dcH
  rw [eN]
  unfold recL
  rw [List.append_assoc, List.take_append_of_le_length (Nat.le_refl _), List.take_length]
 have eB : dcB (recL a k B ++ rest) = B := by
  have h : dcB (recL a k B ++ rest) = (dcH (recL a k B ++ rest)).drop 5 := rfl
  rw [h, eH]
  unfold hbL
  rw [List.drop_append_of_le_length (by simp [le_length]), List.drop_of_length_le (by simp [le_length])]
  rfl
 have eT : dcT (recL a k B ++ rest) = selL (sealR a (hbL k B)) := by
  unfold dcT
  rw [eN]
  unfold recL
  rw [List.append_assoc, List.drop_append_of_le_length (Nat.le_refl _), List.drop_length, List.nil_append, List.take_append_of_le_length (by rw [selL_len]; exact Nat.le_refl _), List.take_of_length_le (by rw [selL_len]; exact Nat.le_refl _)]
 refine ⟨e1, e2, ?_, eH, eB, ?_⟩
 ·unfold spE
  rw [e1, e2, List.length_append, hl, if_neg (by omega), if_neg (by omega), if_neg (by omega)]
 ·unfold dcS
  rw [eT]
  exact sel_back _ (shaD_Bd _)
theorem dec_back (a : S4) {r : Rc} {P : List Pr} {K D : List Int} (rest : List Int) (hm : RcMay r P K D) (hp : P.length = r.pn) (hk : K.length = r.kn) (hd : D.length = r.dl) : dcE a (recB a r P K D ++ rest) = 0 := by
 obtain ⟨h1, h2, h3, h4, h5, h6⟩ := rec_head a r.kind (bodyR r P K D) rest (rcMay_kind hm) (bodyR_len hm hp hk hd)
 unfold recB dcE
 rw [h1, h3, h4, h5, h6, if_neg (by simp), if_neg (by simp), if_neg (fun h => h (okB_back hm hp hk hd))]
theorem dec_cut (a b : S4) {r : Rc} {P : List Pr} {K D : List Int} (m : Nat) (hm : RcMay r P K D) (hp : P.length = r.pn) (hk : K.length = r.kn) (hd : D.length = r.dl) (hl : m < (recB b r P K D).length) : dcE a ((recB b r P K D).take m) = 10 := by
 have hkb := rcMay_kind hm
 have hbl := bodyR_len hm hp hk hd
 have hrl := recL_len b r.kind (bodyR r P K D)
 have hL : ((recB b r P K D).take m).length = m := by rw [List.length_take]; omega
 unfold recB at hl hL ⊢
 by_cases h5 : m < 5
 ·have e : spE ((recL b r.kind (bodyR r P K D)).take m) = 10 := by unfold spE; rw [if_pos (by rw [hL]; exact h5)]
  unfold dcE
  rw [e, if_pos (by decide)]
 ·have h5' : ((recL b r.kind (bodyR r P K D)).take m).take 5 = le r.kind 1 ++ le ((bodyR r P K D).length : Int) 4 := by
   rw [List.take_take, Nat.min_eq_left (by omega)]
   unfold recL hbL
   simp only [List.append_assoc]
   rw [← List.append_assoc, List.take_append_of_le_length (by simp [le_length]), List.take_of_length_le (by simp [le_length])]
  obtain ⟨e1, e2⟩ := sp_head h5' (by omega) (by omega)
  have e : spE ((recL b r.kind (bodyR r P K D)).take m) = 10 := by
   unfold spE
   rw [e1, e2, hL, if_neg h5, if_neg (by omega), if_pos (by omega)]
  unfold dcE
  rw [e, if_pos (by decide)]
end
section
open Go.RowKit Go.Lib
theorem DecP.good {w w' : World} {a : S4} {bs : List Int} {e : Ending} (h : DecP w a bs e w') (h0 : dcE a bs = 0) : Frm [] w w' ∧ ∃ r : Rc, e = .returned (.tuple #[.agg r.arr, .int .i64 (37 + spM bs), .agg (sealR a (dcH bs)).arr, .int .i64 0]) ∧ r.core = ((tvK (spK bs) (dcB bs)).rc (spK bs)).core ∧ RcOwn w' r (tvK (spK bs) (dcB bs)).p (tvK (spK bs) (dcB bs)).k (tvK (spK bs) (dcB bs)).d w.heap.size := by
 rcases h.2 with h1 | h1
 ·exact absurd h0 h1.1
 ·exact ⟨h.1, h1.2⟩
theorem DecP.bad {w w' : World} {a : S4} {bs : List Int} {e : Ending} {E : Int} (h : DecP w a bs e w') (h0 : dcE a bs = E) (h1 : E ≠ 0) : Frm [] w w' ∧ e = .returned (.tuple #[.agg Rc.z.arr, .int .i64 0, .agg S4.z.arr, .int .i64 E]) := by
 rcases h.2 with h2 | h2
 ·exact ⟨h.1, by rw [h2.2, h0]⟩
 ·exact absurd (h0.symm.trans h2.1) h1
theorem EncR.good {w w' : World} {a : S4} {r : Rc} {P : List Pr} {K D : List Int} {e : Ending} (h : EncR w a r P K D e w') (hm : RcMay r P K D) : Frm [] w w' ∧ ∃ g n, e = .returned (.tuple #[.slice (some ⟨g, 0, none⟩) n n, .agg (selR a r P K D).arr, .int .i64 0]) ∧ n = (recB a r P K D).length ∧ w'.heap[g]? = some (.cells (bv (recB a r P K D)).toArray 5 (0, 0)) ∧ w.heap.size ≤ g := by
 rcases h.2 with h2 | h2
 ·exact absurd hm h2.1
 ·exact ⟨h.1, h2.2⟩
theorem recB_bd {a : S4} {r : Rc} {P : List Pr} {K D : List Int} (hd : ∀ z ∈ D, 0 ≤ z ∧ z < 256) : ∀ z ∈ recB a r P K D, 0 ≤ z ∧ z < 256 := recL_bd (bodyR_bd r P K D hd)
theorem dec_of {a : S4} {r : Rc} {P : List Pr} {K D : List Int} (rest : List Int) (hm : RcMay r P K D) (hp : P.length = r.pn) (hk : K.length = r.kn) (hd : D.length = r.dl) :
  37 + spM (recB a r P K D ++ rest) = ((recB a r P K D).length : Int) ∧ sealR a (dcH (recB a r P K D ++ rest)) = selR a r P K D ∧ ((tvK (spK (recB a r P K D ++ rest)) (dcB (recB a r P K D ++ rest))).rc (spK (recB a r P K D ++ rest))).core = r.core ∧ (tvK (spK (recB a r P K D ++ rest)) (dcB (recB a r P K D ++ rest))).p = P ∧ (tvK (spK (recB a r P K D ++ rest)) (dcB (recB a r P K D ++ rest))).k = K ∧ (tvK (spK (recB a r P K D ++ rest)) (dcB (recB a r P K D ++ rest))).d = D := by
 obtain ⟨h1, h2, _, h4, h5, _⟩ := rec_head a r.kind (bodyR r P K D) rest (rcMay_kind hm) (bodyR_len hm hp hk hd)
 obtain ⟨k1, k2, k3, _, k5⟩ := tv_back hm hp hk hd
 unfold recB
 rw [h1, h2, h4, h5, recL_len]
 exact ⟨by omega, rfl, k5, k1, k2, k3⟩
theorem rcOk_nil (w : World) (r : Rc) (h1 : r.pn = 0) (h2 : r.kn = 0) (h3 : r.dl = 0) : RcOk w r [] [] [] := ⟨RdP.none _ _, h1.symm, RdI.none _ _, h2.symm, Rd.nil _ _, h3.symm, by simp, by omega⟩
def rEnd (m : Int) : Rc := ⟨6, ⟨#[]⟩, 0, 0, 0, 0, ⟨#[]⟩, none, 0, 0, 0, 0, m, none, 0, 0, none, 0, 0⟩
theorem rEnd_may : RcMay (rEnd 5) [] [] [] := (rcMay_6 [] [] [] rfl).2 ⟨⟨by decide, by decide⟩, ⟨rfl, rfl, rfl, rfl, rfl, rfl, rfl, rfl, rfl, rfl, rfl, rfl, rfl⟩⟩
theorem rEnd_not : ¬ RcMay (rEnd 0) [] [] [] := fun h => by
 have h1 := ((rcMay_6 [] [] [] rfl).1 h).1.1
 exact absurd h1 (by decide)
theorem rEnd_len : (recB S4.z (rEnd 5) [] [] []).length = 41 := by
 unfold recB
 rw [recL_len, bodyR_6 [] [] [] rfl]
 rfl
theorem rEnd_nine : (recB S4.z (rEnd 5) [] [] []).take 9 = [6, 4, 0, 0, 0, 5, 0, 0, 0] := by
 unfold recB recL hbL
 rw [bodyR_6 [] [] [] rfl]
 rfl
theorem eqlS (s t : S4) (w : World) : (binOp .eql 29 (.agg #[.int .u64 s.a, .int .u64 s.b, .int .u64 s.c, .int .u64 s.d]) (.agg #[.int .u64 t.a, .int .u64 t.b, .int .u64 t.c, .int .u64 t.d])).run Tryz.prog w = .ok (.bool (decide (s = t))) w := by
 rw [run_eql_struct, show (10000 : Nat) = 9997 + 3 from rfl, eqS]
 have e : (s.a = t.a ∧ s.b = t.b ∧ s.c = t.c ∧ s.d = t.d) ↔ s = t := by
  obtain ⟨a0, a1, a2, a3⟩ := s
  obtain ⟨b0, b1, b2, b3⟩ := t
  simp
 simp only [e]
 rfl
theorem awake20_any (w : World) (hpr : Primes w) : Calls Tryz.prog 7 #[] w fun e w' => e = .returned (.bool true) ∧ Frm [] w w' := by
 have hbr : ∀ V, (Instr.build 26 #[(0, .int .i64 6), (10, .int .i64 5)]).run Tryz.prog V = .ok (.agg (rEnd 5).arr) V := fun V => run_build V _ _ _ (by kernel_rfl)
 have hbr2 : ∀ V, (Instr.build 26 #[(0, .int .i64 6)]).run Tryz.prog V = .ok (.agg (rEnd 0).arr) V := fun V => run_build V _ _ _ (by kernel_rfl)
 have hbs : ∀ V, (Instr.build 29 #[]).run Tryz.prog V = .ok (.agg S4.z.arr) V := fun V => run_build V _ _ _ (by kernel_rfl)
 have HPR := hid hpr
 have HE : Hid (Calls Tryz.prog 10 #[.agg #[.int .i64 6, .string ⟨#[]⟩, .int .i64 0, .int .i64 0, .int .i64 0, .int .i64 0, .string ⟨#[]⟩, .slice none 0 0, .int .i64 0, .int .i64 0, .int .i64 5, .slice none 0 0, .slice none 0 0], .agg #[.int .u64 0, .int .u64 0, .int .u64 0, .int .u64 0]] w (EncR w S4.z (rEnd 5) [] [] [])) := hid (encodeR_any (rEnd 5) [] [] [] S4.z S4.z_Bd w (rcOk_nil _ _ rfl rfl rfl) (by decide) hpr)
 have HC := hid (fun W => check_any (rEnd 0) [] [] [] W (rcOk_nil _ _ rfl rfl rfl) (by decide))
 simp only [if_neg rEnd_not] at HC
 unfold rEnd Rc.arr at hbr hbr2 HC
 unfold S4.z S4.arr at hbs
 simp only at hbr hbr2 hbs HC
 clear hpr
 go_enter Tryz.func7, Tryz.ntmps7
 go_wp2_with fail
 refine HE.out.mono ?_
 rintro e w1 he
 obtain ⟨hf1, g, n, rfl, hn, hg, hlo⟩ := EncR.good he rEnd_may
 obtain ⟨S, hS⟩ := eX (selR S4.z (rEnd 5) [] [] [])
 have hSe : selR S4.z (rEnd 5) [] [] [] = S := hS
 obtain ⟨BS, hBS⟩ := eX (recB S4.z (rEnd 5) [] [] [])
 have hl41 : BS.length = 41 := by rw [← hBS]; exact rEnd_len
 have hn41 : n = 41 := by rw [hn]; exact rEnd_len
 subst hn41
 rw [hBS] at hg
 have hrd1 : Rd w1 (some ⟨g, 0, none⟩) BS := (own_of_block (E := 5) hg (by unfold maxLen; omega)).rd
 have hbb : ∀ z ∈ BS, 0 ≤ z ∧ z < 256 := by rw [← hBS]; exact recB_bd (by simp)
 rw [hSe]
 obtain ⟨s0, s1, s2, s3⟩ := S
 simp only [S4.arr]
 have hrz := heap_alloc_new w1 (.cells #[.int .u64 s0, .int .u64 s1, .int .u64 s2, .int .u64 s3] 29)
 have hf2 : Frm [] w1 (w1.alloc (.cells #[.int .u64 s0, .int .u64 s1, .int .u64 s2, .int .u64 s3] 29)) := (Frm.refl _ _).alloc _
 obtain ⟨w2, hw2⟩ := eX (w1.alloc (.cells #[.int .u64 s0, .int .u64 s1, .int .u64 s2, .int .u64 s3] 29))
 obtain ⟨bz, hbz⟩ := eX (w1.heap.size)
 rw [hw2, hbz] at hrz
 rw [hw2] at hf2
 have HF2 : Hid (Frm [] w w2) := hid (hf1.trans hf2 (by simp))
 have HRZ := hid hrz
 have HRD : Hid (∀ W, Frm [] w2 W → Rd W (some ⟨g, 0, none⟩) BS) := hid (fun W hf => (hrd1.kept hf2 (by simp)).kept hf (by simp))
 have hsl4 : ∀ W, (Instr.slice 24 (.slice (some ⟨g, 0, none⟩) 41 41) none (some (.int .i64 4)) none).run Tryz.prog W = .ok (.slice (some ⟨g, 0, none⟩) 4 41) W := fun W => sl_h (P := Tryz.prog) Tryz.underlying24 infoU8R (some ⟨g, 0, none⟩) 41 41 4 (by omega) W
 have hsl9 : ∀ W, (Instr.slice 24 (.slice (some ⟨g, 0, none⟩) 41 41) none (some (.int .i64 9)) none).run Tryz.prog W = .ok (.slice (some ⟨g, 0, none⟩) 9 41) W := fun W => sl_h (P := Tryz.prog) Tryz.underlying24 infoU8R (some ⟨g, 0, none⟩) 41 41 9 (by omega) W
 have HD1 := hid (fun W (hf : Frm [] w2 W) => decodeR_any (some ⟨g, 0, none⟩) 4 41 (BS.take 4) S4.z S4.z_Bd W (by rw [List.length_take]; omega) (by omega) (by omega) ((HRD.out W hf).take 4) (fun z hz => hbb z (List.mem_of_mem_take hz)) ((HPR.out.kept HF2.out).kept hf))
 have HD2 := hid (fun W (hf : Frm [] w2 W) => decodeR_any (some ⟨g, 0, none⟩) 41 41 BS S4.z S4.z_Bd W hl41 (by omega) (by omega) (HRD.out W hf) hbb ((HPR.out.kept HF2.out).kept hf))
 have HE1 : Hid (dcE S4.z (BS.take 4) = 10) := hid (by rw [← hBS]; exact dec_cut S4.z S4.z 4 rEnd_may rfl rfl rfl (by rw [hBS]; omega))
 have HE2 : Hid (dcE S4.z BS = 0) := hid (by have h := dec_back S4.z (r := rEnd 5) (P := []) (K := []) (D := []) [] rEnd_may rfl rfl rfl; rw [hBS, List.append_nil] at h; exact h)
 have HOF := hid (dec_of (a := S4.z) (r := rEnd 5) (P := []) (K := []) (D := []) [] rEnd_may rfl rfl rfl)
 rw [hBS, List.append_nil, hSe, hl41] at HOF
 have HN9 : Hid (BS.take 9 = [6, 4, 0, 0, 0, 5, 0, 0, 0]) := hid (by rw [← hBS]; exact rEnd_nine)
 have HW2 := hid hw2
 have HBZ := hid hbz
 clear he hg hn hlo hS hSe hBS hrd1 hbb hrz hf2 hw2 hbz hf1 HE hbr
 go_upto_region 5 with fail
 try rw [HBZ.out]
 try rw [HW2.out]
 go_wp2_with fail
 refine (HD1.out _ (Frm.refl _ _)).mono ?_
 rintro e w3 hd1
 obtain ⟨hf3, rfl⟩ := DecP.bad hd1 HE1.out (by decide)
 unfold Rc.z Rc.arr S4.z S4.arr
 simp only
 have HF3 := hid hf3
 clear hd1 hf3
 go_upto_region 6 with fail
 obtain ⟨w4, hw4⟩ := eX ((w3.alloc (.cells #[.int .i64 0, .string ⟨#[]⟩, .int .i64 0, .int .i64 0, .int .i64 0, .int .i64 0, .string ⟨#[]⟩, .slice none 0 0, .int .i64 0, .int .i64 0, .int .i64 0, .slice none 0 0, .slice none 0 0] 26)).alloc (.cells #[.int .u64 0, .int .u64 0, .int .u64 0, .int .u64 0] 29))
 have HF4 : Hid (Frm [] w2 w4) := hid (by rw [← hw4]; exact (HF3.out.alloc _).alloc _)
 rw [hw4]
 clear hw4
 go_wp2_with fail
 refine (HD2.out w4 HF4.out).mono ?_
 rintro e w5 hd2
 obtain ⟨hf5, r, rfl, hcr, _⟩ := DecP.good hd2 HE2.out
 rw [HOF.out.1, HOF.out.2.1]
 have hm : r.many = 5 := congrArg Rc.many (hcr.trans HOF.out.2.2.1)
 have HF5 : Hid (Frm [] w2 w5) := hid (HF4.out.trans hf5 (by simp))
 obtain ⟨kind, name, typ, frm, guid, origin, snap, pp, pn, pc, obj, at_, many, kp, kn, kc, dp, dl, dc⟩ := r
 simp only at hm
 subst hm
 unfold Rc.arr S4.arr
 simp only
 clear hd2 hcr hf5 HD1 HD2 HF3 HF4
 go_upto_region 7 with fail
 have hq6 := heap_alloc_new w5 (.cells #[.int .i64 kind, .string name, .int .i64 typ, .int .i64 frm, .int .i64 guid, .int .i64 origin, .string snap, .slice pp pn pc, .int .i64 obj, .int .i64 at_, .int .i64 5, .slice kp kn kc, .slice dp dl dc] 26)
 have hf6 : Frm [] w5 (w5.alloc (.cells #[.int .i64 kind, .string name, .int .i64 typ, .int .i64 frm, .int .i64 guid, .int .i64 origin, .string snap, .slice pp pn pc, .int .i64 obj, .int .i64 at_, .int .i64 5, .slice kp kn kc, .slice dp dl dc] 26)) := (Frm.refl _ _).alloc _
 obtain ⟨w6, hw6⟩ := eX (w5.alloc (.cells #[.int .i64 kind, .string name, .int .i64 typ, .int .i64 frm, .int .i64 guid, .int .i64 origin, .string snap, .slice pp pn pc, .int .i64 obj, .int .i64 at_, .int .i64 5, .slice kp kn kc, .slice dp dl dc] 26))
 obtain ⟨bx, hbx⟩ := eX (w5.heap.size)
 have hb1 : w6.heap.size = bx + 1 := by rw [← hw6, ← hbx]; simp
 rw [hw6, hbx] at hq6
 rw [hw6] at hf6
 have hq7 := heap_alloc_new w6 (.cells #[.int .u64 s0, .int .u64 s1, .int .u64 s2, .int .u64 s3] 29)
 have hf7 : Frm [] w6 (w6.alloc (.cells #[.int .u64 s0, .int .u64 s1, .int .u64 s2, .int .u64 s3] 29)) := (Frm.refl _ _).alloc _
 obtain ⟨w7, hw7⟩ := eX (w6.alloc (.cells #[.int .u64 s0, .int .u64 s1, .int .u64 s2, .int .u64 s3] 29))
 rw [hw7, hb1] at hq7
 rw [hw7] at hf7
 rw [hbx, hw6, hw7]
 have HF7 : Hid (Frm [] w2 w7) := hid ((HF5.out.trans hf6 (by simp)).trans hf7 (by simp))
 have HQ6 : Hid (w7.heap[bx]? = some (.cells #[.int .i64 kind, .string name, .int .i64 typ, .int .i64 frm, .int .i64 guid, .int .i64 origin, .string snap, .slice pp pn pc, .int .i64 obj, .int .i64 at_, .int .i64 5, .slice kp kn kc, .slice dp dl dc] 26 (0, 0))) := hid (hf7.heap hq6 (by simp))
 have HQ7 := hid hq7
 have HRZ7 := hid (HF7.out.heap HRZ.out (by simp))
 clear hq6 hf6 hq7 hf7 hw6 hw7 hbx hb1
 go_wp2_with fail
 refine (HC.out w7).mono ?_
 rintro e w8 ⟨rfl, hf8⟩
 have HF8 : Hid (Frm [] w2 w8) := hid (HF7.out.trans hf8 (by simp))
 have z10 := cR 10 (.int .i64 5) (hf8.heap HQ6.out (by simp))
 have p0 := cR 0 (.int .u64 s0) (hf8.heap HRZ7.out (by simp))
 have p1 := cR 1 (.int .u64 s1) (hf8.heap HRZ7.out (by simp))
 have p2 := cR 2 (.int .u64 s2) (hf8.heap HRZ7.out (by simp))
 have p3 := cR 3 (.int .u64 s3) (hf8.heap HRZ7.out (by simp))
 have q0 := cR 0 (.int .u64 s0) (hf8.heap HQ7.out (by simp))
 have q1 := cR 1 (.int .u64 s1) (hf8.heap HQ7.out (by simp))
 have q2 := cR 2 (.int .u64 s2) (hf8.heap HQ7.out (by simp))
 have q3 := cR 3 (.int .u64 s3) (hf8.heap HQ7.out (by simp))
 have hcv := cv_any (P := Tryz.prog) (w := w8) 24 5 9 Tryz.underlying24 Tryz.underlying5 Tryz.underlying9 (n := 9) ((HRD.out w8 HF8.out).take 9) 41 (by rw [List.length_take]; omega)
 rw [HN9.out, show strOfNums [6, 4, 0, 0, 0, 5, 0, 0, 0] = ⟨#[6, 4, 0, 0, 0, 5, 0, 0, 0]⟩ from rfl] at hcv
 have heq := fun W => eqlS ⟨s0, s1, s2, s3⟩ ⟨s0, s1, s2, s3⟩ W
 rw [decide_eq_true rfl] at heq
 have heq2 : ∀ W, (binOp .eql 29 (.agg #[.int .u64 s0, .int .u64 s1, .int .u64 s2, .int .u64 s3]) (.agg #[.int .u64 s0, .int .u64 s1, .int .u64 s2, .int .u64 s3])).run Tryz.prog W = .ok (.bool true) W := heq
 clear hf8 heq HC
 go_wp2_with fail
 try go_returns
 exact ⟨rfl, HF2.out.trans HF8.out (by simp)⟩
end
section
open Go.RowKit Go.Lib
structure Rk where
 r : Rc
 P : List Pr
 K : List Int
 D : List Int
def Rk.may (x : Rk) : Prop := RcMay x.r x.P x.K x.D
instance (x : Rk) : Decidable x.may := by unfold Rk.may; infer_instance
def RdRk (w : World) (p : Option Addr) (L : List Rk) : Prop := L = [] ∨ ∃ g o, p = some ⟨g, o, none⟩ ∧ ∀ i x, L[i]? = some x → (∀ j u, x.r.arr[j]? = some u → w.cell? ⟨g, o + i * 13 + j, none⟩ = some u) ∧ RcOk w x.r x.P x.K x.D ∧ x.r.name.size ≤ 140737488355328
theorem RdRk.k0 {w w' : World} {p : Option Addr} {L : List Rk} (h : RdRk w p L) (hf : Frm [] w w') : RdRk w' p L := by
 rcases h with h | ⟨g, o, he, hc⟩
 ·exact Or.inl h
 ·refine Or.inr ⟨g, o, he, fun i x hx => ?_⟩
  obtain ⟨h1, h2, h3⟩ := hc i x hx
  exact ⟨fun j u hu => (hf.cell (World.block_lt_of_cell? w _ (h1 j u hu)) (by simp)).trans (h1 j u hu), h2.k0 hf, h3⟩
def rk0 : Rk := ⟨Rc.z, [], [], []⟩
def rkA (L : List Rk) (t : Nat) : Rk := L.getD t rk0
theorem rkA_get {L : List Rk} {t : Nat} (h : t < L.length) : L[t]? = some (rkA L t) := by
 unfold rkA
 rw [List.getD_eq_getElem?_getD, List.getElem?_eq_getElem h]
 rfl
def strS (L : List Rk) : Nat → S4
 | 0 => S4.z
 | t + 1 => selR (strS L t) (rkA L t).r (rkA L t).P (rkA L t).K (rkA L t).D
theorem strS_Bd (L : List Rk) : ∀ t, (strS L t).Bd
 | 0 => S4.z_Bd
 | _ + 1 => shaD_Bd _
theorem infoU8S : (Tryz.prog.info? 5).map (fun i => (i.zero, i.size, i.bytes)) = some (some (.int .u8 0), 1, 1) := by kernel_rfl
end
section
open Go.RowKit Go.Lib
structure BufF (w : World) (p : Option Addr) (w' : World) (p' : Option Addr) (n' c' : Nat) (zs : List Int) : Prop where
 own : Own w' 5 (.slice p' n' c') zs
 len : zs.length = n'
 fr : Frm (blk p) w w'
 bk : ∀ i ∈ blk p', i ∈ blk p ∨ w.heap.size ≤ i
theorem BufF.trans {w w1 w2 : World} {p p1 p2 : Option Addr} {n1 c1 n2 c2 : Nat} {zs ys : List Int} (h : BufF w p w1 p1 n1 c1 zs) (k : BufF w1 p1 w2 p2 n2 c2 ys) : BufF w p w2 p2 n2 c2 ys :=
 ⟨k.own, k.len, h.fr.trans k.fr (fun i hi hl => (h.bk i hi).elim id (fun h => absurd hl (Nat.not_lt.2 h))), fun i hi => (k.bk i hi).elim (h.bk i) (fun h2 => Or.inr (Nat.le_trans h.fr.size h2))⟩
theorem BufF.pre {w w0 w1 : World} {p p1 : Option Addr} {n1 c1 : Nat} {zs : List Int} (hf : Frm [] w w0) (h : BufF w0 p w1 p1 n1 c1 zs) : BufF w p w1 p1 n1 c1 zs :=
 ⟨h.own, h.len, (hf.mono (by simp)).trans h.fr (fun i hi _ => hi), fun i hi => (h.bk i hi).imp id (fun h2 => Nat.le_trans hf.size h2)⟩
theorem BufF.post {w w1 w2 : World} {p p1 : Option Addr} {n1 c1 : Nat} {zs : List Int} (h : BufF w p w1 p1 n1 c1 zs) (hf : Frm [] w1 w2) : BufF w p w2 p1 n1 c1 zs :=
 ⟨h.own.kept hf (by simp), h.len, h.fr.trans hf (by simp), h.bk⟩
theorem BufF.nil {w w1 : World} {p1 : Option Addr} {n1 c1 : Nat} {zs : List Int} (h : BufF w none w1 p1 n1 c1 zs) : Frm [] w w1 ∧ ∀ i ∈ blk p1, w.heap.size ≤ i :=
 ⟨h.fr, fun i hi => (h.bk i hi).elim (fun h => by simp [blk] at h) id⟩
theorem BufF.self {w : World} {p : Option Addr} {n c : Nat} {zs : List Int} (h : Own w 5 (.slice p n c) zs) (hn : zs.length = n) : BufF w p w p n c zs := ⟨h, hn, Frm.refl _ _, fun _ hi => Or.inl hi⟩
theorem refNumF_any (p0 : Option Addr) (m c0 : Nat) (zs : List Int) (n : Int) (k : Nat) (w : World) (ho : Own w 5 (.slice p0 m c0) zs) (hm : zs.length = m) (hm2 : m ≤ 1099511627776) (hn : 0 ≤ n) (hn2 : n < 9223372036854775808) (hk : k ≤ 8) :
  Calls Tryz.prog 37 #[.slice p0 m c0, .int .i64 n, .int .i64 (k : Int)] w fun e w' => ∃ p c, e = .returned (.slice p (m + k) c) ∧ BufF w p0 w' p (m + k) c (zs ++ le n k) := by
 have HO0 := hid ho
 have HM := hid hm
 clear ho hm
 go_enter Tryz.func37, Tryz.ntmps37
 go_wp2_with fail
 go_loopw [0, 1, 7] (fun b v i wr => ∃ (j : Nat) (p : Option Addr) (c : Nat), j ≤ k ∧ i = .int .i64 j ∧ v = .int .i64 (n / 2 ^ (8 * j)) ∧ b = .slice p (m + j) c ∧ Hid (BufF w p0 wr p (m + j) c (zs ++ le n j))) (fun _ _ i _ => k - (intOf i).toNat)
 case atStart => exact ⟨0, p0, c0, Nat.zero_le _, rfl, by simp, rfl, hid (by rw [show zs ++ le n 0 = zs by simp [le]]; exact BufF.self HO0.out HM.out)⟩
 case round =>
  obtain ⟨j, p, c, hj, rfl, rfl, rfl, hb⟩ := hrel
  have hq : 0 ≤ n / 2 ^ (8 * j) ∧ n / 2 ^ (8 * j) < 9223372036854775808 := by
   refine ⟨Int.ediv_nonneg hn (Int.pow_nonneg (by decide)), ?_⟩
   exact Int.lt_of_le_of_lt (Int.ediv_le_self _ hn) hn2
  have hsucc : n / 2 ^ (8 * (j + 1)) = n / 2 ^ (8 * j) / 256 := by
   rw [Int.ediv_ediv_of_nonneg (Int.pow_nonneg (by decide)), Nat.mul_add, Int.pow_add]; rfl
  have HS := hid hsucc
  have hle := le_succ n j
  have HLE := hid hle
  have HL := hid (le_length n j)
  clear hsucc hle
  obtain ⟨q, hqq⟩ := eX (n / 2 ^ (8 * j))
  rw [hqq] at hq HS HLE ⊢
  clear hqq
  obtain ⟨hq0, hq1⟩ := hq
  by_cases hlt : j < k
  ·have hrd : Rd (wr.alloc (.cells #[.int .u8 (q % 256)] 5)) (some ⟨wr.heap.size, 0, none⟩) [q % 256] :=
    (own_of_block (E := 5) (zs := [q % 256]) (heap_alloc_new wr _) (by simp [maxLen])).rd
   have HRD := hid hrd
   have HFA := hid ((Frm.refl [] wr).alloc (.cells #[.int .u8 (q % 256)] 5))
   have HO := hid (hb.out.own.kept HFA.out (by simp))
   have htm : Int.tmod q 256 = q % 256 := Int.tmod_eq_emod_of_nonneg hq0
   have htd : Int.tdiv q 256 = q / 256 := Int.tdiv_eq_ediv_of_nonneg hq0
   clear hrd
   go_wp2_with (at_builtin; refine wpList_appB rfl _ _ 24 rfl 5 Tryz.underlying24 infoE p _ c (zs ++ le n j) rfl hb.out.len.symm (by rw [hb.out.len]; exact HO.out) (some ⟨wr.heap.size, 0, none⟩) 1 1 [q % 256] rfl rfl (by simp) HRD.out (by rw [hb.out.len]; simp; omega) ?_)
   intro xs p2 c2 w2 hxs ho2 hf2 hfr2
   have hxe : xs = zs ++ le n (j + 1) := by rw [hxs.out, HLE.out]
   have hxl : xs.length = m + (j + 1) := by rw [hxe, List.length_append, HM.out, le_length]
   rw [hxl]
   have HXL := hid hxl
   have HXE := hid hxe
   clear hxl hxe
   go_wp2_with fail
   go_roundw
   case rel =>
    refine ⟨j + 1, p2, c2, by omega, by go_num, by rw [HS.out], rfl, hid ?_⟩
    have h := ho2.out
    rw [HXL.out, HXE.out] at h
    exact hb.out.trans (BufF.pre HFA.out ⟨h, by rw [← HXE.out, HXL.out], hf2.out, fun i hi => (hfr2.out i hi).imp id (fun h => by simpa using h)⟩)
   case measure => simp [intOf]; omega
  ·obtain rfl : j = k := by omega
   go_wp2_with fail
   go_returns
   exact ⟨p, c, rfl, hb.out⟩
theorem wpList_appSF {P : Program} {w : World} {ops : Array Oper} {rest : List Oper} {o : Oper} {a : Act} {Q : Exit → Act → World → Prop} (hgd : o.guard = none) (sl x : Operand) (t u : TypeId)
  (ho : o.op = .call { callee := .builtin .append, args := #[sl, x], argTypes := #[t, u] })
  (E : TypeId) (ht : P.underlying t = some (.slice E)) (hu : P.underlying u = some .string) (hI : (P.info? E).map (fun i => (i.zero, i.size, i.bytes)) = some (some (.int .u8 0), 1, 1))
  (p0 : Option Addr) (n0 c0 : Nat) (zs : List Int) (hs : a.eval sl = .slice p0 n0 c0) (hn0 : n0 = zs.length) (hown : Own w E (.slice p0 zs.length c0) zs)
  (s : ByteArray) (hx : a.eval x = .string s) (hsz : zs.length + s.size ≤ 140737488355328)
  (h : ∀ xs p2 c2 w', Hid (xs = zs ++ tx s) → Hid (Own w' E (.slice p2 xs.length c2) xs) → Hid (Frm (blk p0) w w') → Hid (∀ k ∈ blk p2, k ∈ blk p0 ∨ w.heap.size ≤ k) → wpList P ops Q rest (a.put o.dst (.slice p2 xs.length c2)) w') :
  wpList P ops Q (o :: rest) a w := by
 refine wpList_plain hgd fun K hK => ?_
 subst hn0
 obtain ⟨v', w', hrun, h1, h2, h3⟩ := run_appS (P := P) (w := w) t u o.type E ht hu hI _ zs hown s hsz
 obtain ⟨xs, hxs⟩ : ∃ xs, xs = zs ++ tx s := ⟨_, rfl⟩
 rw [← hxs] at h1
 obtain ⟨p2, c2, rfl, _, _, _, hb⟩ := h1.shape
 rw [hb, own_blk] at h3
 rw [own_blk] at h2
 unfold Oper.wp
 simp [execOp, ho, resolve, invoke, builtin, hs, hx, hrun, Result.andThen]
 exact hK _ _ (h xs p2 c2 w' hxs h1 h2 h3)
theorem refTextF_any (p0 : Option Addr) (m c0 : Nat) (zs : List Int) (t : ByteArray) (w : World) (ho : Own w 5 (.slice p0 m c0) zs) (hm : zs.length = m) (hm2 : m ≤ 1000000) (ht : t.size ≤ 1000000) :
  Calls Tryz.prog 80 #[.slice p0 m c0, .string t] w fun e w' => ∃ p n c, e = .returned (.slice p n c) ∧ BufF w p0 w' p n c (zs ++ txF t) := by
 have HN := hid (refNumF_any p0 m c0 zs (t.size : Int) 2 w ho hm (by omega) (by omega) (by omega) (by omega))
 have HM := hid hm
 clear ho hm
 go_enter Tryz.func80, Tryz.ntmps80
 go_wp2_with fail
 refine HN.out.mono ?_
 rintro e w1 ⟨p, c, rfl, hb⟩
 have HB := hid hb
 obtain ⟨n, hn⟩ := eX (m + 2)
 rw [hn] at HB ⊢
 clear hb HN
 go_wp2_with (at_builtin; refine wpList_appSF rfl _ _ 24 9 rfl 5 Tryz.underlying24 Tryz.underlying9 infoE p n c (zs ++ le t.size 2) rfl HB.out.len.symm (by rw [HB.out.len]; exact HB.out.own) t rfl (by rw [HB.out.len]; omega) ?_)
 intro xs p2 c2 w2 hxs ho2 hf2 hfr2
 go_wp2_with fail
 try go_returns
 refine ⟨p2, xs.length, c2, rfl, ?_⟩
 have he : xs = zs ++ txF t := by rw [hxs.out]; unfold txF; rfl
 have h := HB.out.trans (⟨ho2.out, rfl, hf2.out, hfr2.out⟩ : BufF w1 p w2 p2 xs.length c2 xs)
 rw [← he]
 exact h
end
section
open Go.RowKit Go.Lib
theorem refValue_any (B : ByteArray) (hB : B.size ≤ 9223372036854775807) (w : World) :
  Calls Tryz.prog 79 #[.string B] w fun e w' => e = .returned (.bool (decide (ValL (tx B)))) ∧ w' = w := by
 obtain ⟨PO, hPO⟩ : ∃ PO : Ending → World → Prop, (fun e w' => e = .returned (.bool (decide (ValL (tx B)))) ∧ w' = w) = PO := ⟨_, rfl⟩
 rw [hPO]
 have HP : Hid (∀ x, (x = true ↔ ValL (tx B)) → PO (.returned (.bool x)) w) := hid (fun x h => by rw [← hPO]; exact ⟨by rw [bool_decR h], rfl⟩)
 have HL : Hid ((tx B).length = B.size) := hid (tx_length B)
 have HG : Hid (∀ t (h : t < B.size), zA (tx B) t = (B[t].toNat : Int)) := hid (fun t h => tx_getR B t h)
 clear hPO
 go_enter Tryz.func79, Tryz.ntmps79
 go_wp2_with fail
 go_loop [2, 3] (fun r i => ∃ t : Nat, t ≤ B.size ∧ r = .bool false ∧ i = .int .i64 (t : Int) ∧ Hid (∀ j, j < t → 32 ≤ zA (tx B) j ∧ zA (tx B) j ≤ 126)) (fun _ i => B.size - (intOf i).toNat)
 case atStart => exact ⟨0, Nat.zero_le _, rfl, rfl, hid (fun j hj => by omega)⟩
 case round =>
  obtain ⟨t, ht, rfl, rfl, hok⟩ := hrel
  have HOK := hid hok.out
  clear hok
  by_cases hlt : t < B.size
  case neg =>
   obtain rfl : t = B.size := by omega
   have HPN : Hid (PrnL (tx B)) := hid (fun i hi => HOK.out i (by rw [← HL.out]; exact hi))
   by_cases h1 : 1 ≤ B.size
   case neg =>
    have i1 : ¬ (1 : Int) ≤ (B.size : Int) := by omega
    go_wp2_with fail
    try go_returns
    exact HP.out _ (by simp; intro h; have := h.1.1; have := HL.out; omega)
   have i1 : (1 : Int) ≤ (B.size : Int) := by omega
   by_cases h2 : B.size ≤ 64
   case neg =>
    have i2 : ¬ (B.size : Int) ≤ 64 := by omega
    go_wp2_with fail
    try go_returns
    exact HP.out _ (by simp; intro h; have := h.1.2; have := HL.out; omega)
   have i2 : (B.size : Int) ≤ 64 := by omega
   go_wp2_with fail
   try go_returns
   exact HP.out _ (by simp only [true_iff]; exact ⟨by rw [HL.out]; omega, HPN.out⟩)
  have t1 : (t : Int) < (B.size : Int) := by omega
  have hb := B[t].toNat_lt
  have HNX : Hid (32 ≤ (B[t].toNat : Int) ∧ (B[t].toNat : Int) ≤ 126 → ∀ j, j < t + 1 → 32 ≤ zA (tx B) j ∧ zA (tx B) j ≤ 126) := hid (fun h j hj => by
   by_cases hj2 : j < t
   ·exact HOK.out j hj2
   ·obtain rfl : j = t := by omega
    rw [HG.out j hlt]; exact h)
  have HBD : Hid (ValL (tx B) → 32 ≤ (B[t].toNat : Int) ∧ (B[t].toNat : Int) ≤ 126) := hid (fun h => by rw [← HG.out t hlt]; exact h.2 t (by rw [HL.out]; exact hlt))
  clear HG HOK
  by_cases a1 : B[t].toNat < 32
  case pos =>
   have i1 : (B[t].toNat : Int) < 32 := by omega
   have HK : Hid (¬ (32 ≤ (B[t].toNat : Int) ∧ (B[t].toNat : Int) ≤ 126)) := hid (by omega)
   go_wp2_with fail
   try go_returns
   exact HP.out _ (by simp; exact fun h => HK.out (HBD.out h))
  by_cases a2 : 126 < B[t].toNat
  case pos =>
   have i1 : ¬ (B[t].toNat : Int) < 32 := by omega
   have i2 : (126 : Int) < (B[t].toNat : Int) := by omega
   have HK : Hid (¬ (32 ≤ (B[t].toNat : Int) ∧ (B[t].toNat : Int) ≤ 126)) := hid (by omega)
   go_wp2_with fail
   try go_returns
   exact HP.out _ (by simp; exact fun h => HK.out (HBD.out h))
  have i1 : ¬ (B[t].toNat : Int) < 32 := by omega
  have i2 : ¬ (126 : Int) < (B[t].toNat : Int) := by omega
  have HK : Hid (32 ≤ (B[t].toNat : Int) ∧ (B[t].toNat : Int) ≤ 126) := hid (by omega)
  go_wp2_with fail
  go_round
  case rel => exact ⟨t + 1, by omega, rfl, by go_num, hid (HNX.out HK.out)⟩
  case measure => simp [intOf] <;> omega
end
end Go.Proofs.YtajfjkfnmmfhmaaGreatDoor
