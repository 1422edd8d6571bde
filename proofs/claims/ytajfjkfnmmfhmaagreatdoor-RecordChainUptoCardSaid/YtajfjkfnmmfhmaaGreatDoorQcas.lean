/- Records: what the two readers take up of a body is the same, where the body is one. -/
import Derived.Test.YtajfjkfnmmfhmaaGreatDoorQcar
import Derived.Test.YtajfjkfnmmfhmaaGreatDoorQcaq
import Derived.Deep.Cut
import Derived.Deep.DeepCutAuto
import Derived.Test.YtajfjkfnmmfhmaaGreatDoorQcao
import Derived.Test.YtajfjkfnmmfhmaaGreatDoorQcai
import Derived.Test.YtajfjkfnmmfhmaaGreatDoorQcak
import Derived.Test.YtajfjkfnmmfhmaaGreatDoorQcam
import Derived.Test.YtajfjkfnmmfhmaaGreatDoorQcad
namespace Go.Proofs.YtajfjkfnmmfhmaaGreatDoor
set_option maxRecDepth 100000
set_option maxHeartbeats 25600000
section
open Go.RowKit Go.Lib
theorem text_up (ls : List Int) {m M : Int} (hm : m ≤ M) (h : (textT ls m).2.2 = 0) : textT ls M = textT ls m := by
 unfold textT at h ⊢
 by_cases h1 : ls.length < 2
 ·rw [if_pos h1, if_pos h1]
 ·rw [if_neg h1] at h ⊢
  rw [if_neg h1]
  by_cases h2 : m < leV (ls.take 2)
  ·rw [if_pos h2] at h; simp at h
  ·rw [if_neg h2, if_neg (by omega)]
theorem text_dn (ls : List Int) {m M : Int} (_hm : m ≤ M) (hb : ∀ z ∈ ls, 0 ≤ z ∧ z < 256) (h : (textT ls M).2.2 = 0) (hl : ((textT ls M).1.length : Int) ≤ m) : textT ls m = textT ls M := by
 unfold textT at h hl ⊢
 by_cases h1 : ls.length < 2
 ·rw [if_pos h1, if_pos h1]
 ·rw [if_neg h1] at h hl ⊢
  rw [if_neg h1]
  by_cases h2 : M < leV (ls.take 2)
  ·rw [if_pos h2] at h; simp at h
  ·rw [if_neg h2] at h hl ⊢
   by_cases h3 : ls.length < 2 + (leV (ls.take 2)).toNat
   ·rw [if_pos h3] at h; simp at h
   ·rw [if_neg h3] at hl
    simp only [List.length_take, List.length_drop] at hl
    have h4 := (leV_bd (ls.take 2) (fun z hz => hb z (List.mem_of_mem_take hz))).1
    rw [if_neg (by omega)]
theorem txS_up {bs : List Int} {s : Rst} {m M : Int} (hm : m ≤ M) (h : (txS bs s m).2.2 = 0) : txS bs s M = txS bs s m := by
 unfold txS at h ⊢
 by_cases he : s.2 = 0
 ·rw [he] at h ⊢
  have h2 : (textT (bs.drop s.1) m).2.2 = 0 := by
   rw [readS_ok] at h
   exact h
  rw [text_up _ hm h2]
 ·rw [readS_err _ _ _ _ he] at h
  exact absurd h he
theorem txS_dn {bs : List Int} (hb : ∀ z ∈ bs, 0 ≤ z ∧ z < 256) {s : Rst} {m M : Int} (hm : m ≤ M) (h : (txS bs s M).2.2 = 0) (hl : ((txS bs s M).1.length : Int) ≤ m) : txS bs s m = txS bs s M := by
 unfold txS at h hl ⊢
 by_cases he : s.2 = 0
 ·rw [he] at h hl ⊢
  rw [readS_ok] at h hl
  rw [text_dn _ hm (fun z hz => hb z (List.mem_of_mem_drop hz)) h hl]
 ·rw [readS_err _ _ _ _ he] at h
  exact absurd h he
theorem str_part {zs : List Int} (h : PartL (tx (strOfNums zs))) : (zs.length : Int) ≤ 24 := by
 have h1 := h.1.2
 rw [tx_length, strOfNums_size] at h1
 omega
theorem str_val {zs : List Int} (h : ValL (tx (strOfNums zs))) : (zs.length : Int) ≤ 64 := by
 have h1 := h.1.2
 rw [tx_length, strOfNums_size] at h1
 omega
theorem prD_up {bs : List Int} (hb : ∀ z ∈ bs, 0 ≤ z ∧ z < 256) {s : Rst} : ∀ t, (prD bs s t).2.2 = 0 → s.2 = 0 ∧ prS bs s t = prD bs s t
 | 0, h => ⟨h, rfl⟩
 | t + 1, h => by
  have h1 : (txS bs (txS bs (prD bs s t).2 24).2 64).2.2 = 0 := h
  have h2 := (txS_inv hb h1).1
  have h4 := (txS_inv hb h2).1
  obtain ⟨h5, h6⟩ := prD_up hb t h4
  refine ⟨h5, ?_⟩
  rw [prS, prD, h6, txS_up (m := 24) (M := 240) (by omega) h2, txS_up (m := 64) (M := 240) (by omega) h1]
theorem prD_dn {bs : List Int} (hb : ∀ z ∈ bs, 0 ≤ z ∧ z < 256) {s : Rst} : ∀ t, (prS bs s t).2.2 = 0 → (∀ i, i < t → PartL (tx (prA (prS bs s t).1 i).1) ∧ ValL (tx (prA (prS bs s t).1 i).2)) → prD bs s t = prS bs s t
 | 0, _, _ => rfl
 | t + 1, h, hp => by
  have hl := prS_len bs s t
  have h1 : (txS bs (txS bs (prS bs s t).2 240).2 240).2.2 = 0 := h
  have h2 := (txS_inv hb h1).1
  have h4 := (txS_inv hb h2).1
  have e : (prS bs s (t + 1)).1 = (prS bs s t).1 ++ [(strOfNums (txS bs (prS bs s t).2 240).1, strOfNums (txS bs (txS bs (prS bs s t).2 240).2 240).1)] := rfl
  have ih := prD_dn hb t h4 (fun i hi => by
   have h5 := hp i (by omega)
   rw [e] at h5
   unfold prA at h5 ⊢
   rw [List.getD_eq_getElem?_getD, List.getElem?_append_left (by omega), ← List.getD_eq_getElem?_getD] at h5
   exact h5)
  have h6 := hp t (by omega)
  rw [e] at h6
  unfold prA at h6
  rw [List.getD_eq_getElem?_getD, List.getElem?_append_right (by omega), hl, Nat.sub_self] at h6
  have h7 : txS bs (prS bs s t).2 24 = txS bs (prS bs s t).2 240 := txS_dn hb (by omega) h2 (str_part h6.1)
  have h8 : txS bs (txS bs (prS bs s t).2 240).2 64 = txS bs (txS bs (prS bs s t).2 240).2 240 := txS_dn hb (by omega) h1 (str_val h6.2)
  rw [prD, prS, ih, h7, h8]
theorem keep_up {bs : List Int} (hb : ∀ z ∈ bs, 0 ≤ z ∧ z < 256) {more : Int} {k : Nat} (hk : 1 ≤ k) {s : Rst} (h : (tkD bs more (k : Int) s).2.2 = 0) (hl : (tkD bs more (k : Int) s).1.length ≤ 240) : tkK bs more k s = tkD bs more (k : Int) s := by
 unfold tkD at h hl
 rw [kpS_len] at hl
 have h1 := kpS_pos hb _ h
 unfold tkK tkD
 have h2 : kpM bs s = (nuS bs s 2).1.toNat := by unfold kpM at hl ⊢; omega
 have h3 : kpN bs k s = kpM bs s := by
  unfold kpN
  rw [h2] at h1 ⊢
  have h4 : (nuS bs s 2).1.toNat ≤ (bs.length - (nuS bs s 2).2.1) / k := by
   rw [Nat.le_div_iff_mul_le (by omega), Nat.mul_comm]
   exact h1
  omega
 rw [h3]
theorem keep_dn {bs : List Int} (hb : ∀ z ∈ bs, 0 ≤ z ∧ z < 256) {more : Int} {k : Nat} (hk : 1 ≤ k) {s : Rst} (h : (tkK bs more k s).2.2 = 0) (hl : (tkK bs more k s).1.length ≤ 240) : tkD bs more (k : Int) s = tkK bs more k s := by
 unfold tkK at h hl
 rw [kpS_len] at hl
 have h1 := kpS_pos hb _ h
 unfold tkK tkD
 have h3 : kpM bs s = kpN bs k s := by
  have h4 : kpN bs k s ≤ (bs.length - (nuS bs s 2).2.1) / k := by
   rw [Nat.le_div_iff_mul_le (by omega), Nat.mul_comm]
   exact h1
  unfold kpM
  unfold kpN at h4 hl ⊢
  omega
 rw [h3]
def okD (k : Int) (b : List Int) : Prop := doneS b.length (tdK k b).s.1 (tdK k b).s.2 = 0 ∧ RcMay ((tdK k b).rc k) (tdK k b).p (tdK k b).k (tdK k b).d
instance (k : Int) (b : List Int) : Decidable (okD k b) := by unfold okD; infer_instance
theorem okD_eq {k : Int} (hk : 1 ≤ k ∧ k ≤ 7) {b : List Int} (hb : ∀ z ∈ b, 0 ≤ z ∧ z < 256) (h : okD k b) : tvK k b = tdK k b := by
 obtain ⟨hd, hm⟩ := h
 obtain ⟨he, _⟩ := done_inv hd
 clear hd
 have h7 : k = 1 ∨ k = 2 ∨ k = 3 ∨ k = 4 ∨ k = 5 ∨ k = 6 ∨ k = 7 := by omega
 rcases h7 with rfl | rfl | rfl | rfl | rfl | rfl | rfl
 ·have e1 : tdK 1 b = tdPk b := rfl
  have e2 : tvK 1 b = tvPk b := rfl
  rw [e1] at he
  have h1 : (nuS b (txS b (0, 0) 24).2 ((2 : Nat) : Int)).2.2 = 0 := he
  have h2 := (nuS_inv hb h1).1
  rw [e1, e2]
  unfold tvPk tdPk
  rw [txS_up (m := 24) (M := 240) (by omega) h2]
 ·have e1 : tdK 2 b = tdBg b := rfl
  have e2 : tvK 2 b = tvBg b := rfl
  rw [e1] at he
  have h1 : (prD b (e7 b).2 (e7 b).1.toNat).2.2 = 0 := he
  obtain ⟨h2, h3⟩ := prD_up hb _ h1
  have h4 : (nuS b (e6 b).2 ((1 : Nat) : Int)).2.2 = 0 := h2
  have h5 := (nuS_inv hb h4).1
  have h6 : g6 b = e6 b := txS_up (m := 24) (M := 240) (by omega) h5
  have h7 : g7 b = e7 b := by unfold g7 e7; rw [h6]
  have h8 : g8 b = e8 b := by unfold g8 e8; rw [h7]; exact h3
  rw [e1, e2]
  unfold tvBg tdBg
  rw [h6, h8]
 ·have e1 : tdK 3 b = tdLv b := rfl
  have e2 : tvK 3 b = tvLv b := rfl
  rw [e1] at he
  rw [rcMay_3 _ _ _ rfl] at hm
  have h1 : (tkD b 0 ((4 : Nat) : Int) (0, 0)).2.2 = 0 := he
  have h2 : (tkD b 0 ((4 : Nat) : Int) (0, 0)).1.length ≤ 240 := hm.1.1
  have h3 : tkK b 0 4 (0, 0) = tkD b 0 4 (0, 0) := keep_up hb (by omega) h1 h2
  rw [e1, e2]
  unfold tvLv tdLv
  rw [h3]
 ·have e1 : tdK 4 b = tdNd b := rfl
  have e2 : tvK 4 b = tvNd b := rfl
  rw [e1] at he
  rw [rcMay_4 _ _ _ rfl] at hm
  have h1 : (tkD b 1 ((2 : Nat) : Int) (nuS b (0, 0) 4).2).2.2 = 0 := he
  have h2 : (tkD b 1 ((2 : Nat) : Int) (nuS b (0, 0) 4).2).1.length ≤ 240 := Int.ofNat_le.1 hm.1.2.1.2
  have h3 : tkK b 1 2 (nuS b (0, 0) 4).2 = tkD b 1 2 (nuS b (0, 0) 4).2 := keep_up hb (by omega) h1 h2
  rw [e1, e2]
  unfold tvNd tdNd
  rw [h3]
 ·rfl
 ·rfl
 ·rfl
theorem okB_eq {k : Int} (hk : 1 ≤ k ∧ k ≤ 7) {b : List Int} (hb : ∀ z ∈ b, 0 ≤ z ∧ z < 256) (h : okB k b) : tdK k b = tvK k b := by
 obtain ⟨hd, hm⟩ := h
 obtain ⟨he, _⟩ := done_inv hd
 clear hd
 have h7 : k = 1 ∨ k = 2 ∨ k = 3 ∨ k = 4 ∨ k = 5 ∨ k = 6 ∨ k = 7 := by omega
 rcases h7 with rfl | rfl | rfl | rfl | rfl | rfl | rfl
 ·have e1 : tdK 1 b = tdPk b := rfl
  have e2 : tvK 1 b = tvPk b := rfl
  rw [e2] at he
  rw [rcMay_1 _ _ _ rfl] at hm
  have h1 : (nuS b (txS b (0, 0) 240).2 ((2 : Nat) : Int)).2.2 = 0 := he
  have h2 := (nuS_inv hb h1).1
  have h3 : PartL (tx (strOfNums (txS b (0, 0) 240).1)) := hm.1.1
  rw [e1, e2]
  unfold tvPk tdPk
  rw [txS_dn (m := 24) (M := 240) hb (by omega) h2 (str_part h3)]
 ·have e1 : tdK 2 b = tdBg b := rfl
  have e2 : tvK 2 b = tvBg b := rfl
  rw [e2] at he
  rw [rcMay_2 _ _ _ rfl] at hm
  have h1 : (prS b (g7 b).2 (g7 b).1.toNat).2.2 = 0 := he
  have h2 := (prS_inv hb _ h1).1
  have h4 : (nuS b (g6 b).2 ((1 : Nat) : Int)).2.2 = 0 := h2
  have h5 := (nuS_inv hb h4).1
  obtain ⟨_, hpo, _, _, _, _, hsn, _⟩ := hm.1
  have h6 : e6 b = g6 b := txS_dn (m := 24) (M := 240) hb (by omega) h5 (str_part hsn)
  have h7 : e7 b = g7 b := by unfold g7 e7; rw [h6]
  have hpo2 : ∀ i, i < (g7 b).1.toNat → PartL (tx (prA (prS b (g7 b).2 (g7 b).1.toNat).1 i).1) ∧ ValL (tx (prA (prS b (g7 b).2 (g7 b).1.toNat).1 i).2) := fun i hi => by
   have h9 := hpo i (by show i < (prS b (g7 b).2 (g7 b).1.toNat).1.length; rw [prS_len]; exact hi)
   exact ⟨h9.1, h9.2.1⟩
  have h8 : e8 b = g8 b := by unfold g8 e8; rw [h7]; exact prD_dn hb _ h1 hpo2
  rw [e1, e2]
  unfold tvBg tdBg
  rw [h6, h8]
 ·have e1 : tdK 3 b = tdLv b := rfl
  have e2 : tvK 3 b = tvLv b := rfl
  rw [e2] at he
  rw [rcMay_3 _ _ _ rfl] at hm
  have h1 : (tkK b 0 4 (0, 0)).2.2 = 0 := he
  have h2 : (tkK b 0 4 (0, 0)).1.length ≤ 240 := hm.1.1
  have h3 : tkD b 0 4 (0, 0) = tkK b 0 4 (0, 0) := keep_dn (k := 4) hb (by omega) h1 h2
  rw [e1, e2]
  unfold tvLv tdLv
  rw [h3]
 ·have e1 : tdK 4 b = tdNd b := rfl
  have e2 : tvK 4 b = tvNd b := rfl
  rw [e2] at he
  rw [rcMay_4 _ _ _ rfl] at hm
  have h1 : (tkK b 1 2 (nuS b (0, 0) 4).2).2.2 = 0 := he
  have h2 : (tkK b 1 2 (nuS b (0, 0) 4).2).1.length ≤ 240 := Int.ofNat_le.1 hm.1.2.1.2
  have h3 : tkD b 1 2 (nuS b (0, 0) 4).2 = tkK b 1 2 (nuS b (0, 0) 4).2 := keep_dn (k := 2) hb (by omega) h1 h2
  rw [e1, e2]
  unfold tvNd tdNd
  rw [h3]
 ·rfl
 ·rfl
 ·rfl
theorem okD_iff {k : Int} (hk : 1 ≤ k ∧ k ≤ 7) {b : List Int} (hb : ∀ z ∈ b, 0 ≤ z ∧ z < 256) : okD k b ↔ okB k b := by
 constructor
 ·intro h
  have e := okD_eq hk hb h
  unfold okB
  rw [e]
  exact h
 ·intro h
  have e := okB_eq hk hb h
  unfold okD
  rw [e]
  exact h
end
section
open Go.RowKit Go.Lib
theorem tdK_name (k : Int) (b : List Int) : (tdK k b).c.name.size ≤ b.length := by
 have ht : ∀ s m, (strOfNums (txS b s m).1).size ≤ b.length := fun s m => by rw [strOfNums_size]; exact txS_le b s m
 unfold tdK
 split
 ·exact ht _ _
 ·split
  ·exact ht _ _
  ·split
   ·exact Nat.zero_le _
   ·split
    ·exact Nat.zero_le _
    ·split <;> exact Nat.zero_le _
theorem prD_val (b : List Int) (s : Rst) : ∀ t i, i < t → (prA (prD b s t).1 i).2.size ≤ b.length
 | 0, i, h => by omega
 | t + 1, i, h => by
  have hl := prD_len b s t
  rw [prD]
  by_cases hi : i < t
  ·have ih := prD_val b s t i hi
   unfold prA at ih ⊢
   rw [List.getD_eq_getElem?_getD, List.getElem?_append_left (by omega), ← List.getD_eq_getElem?_getD]
   exact ih
  ·obtain rfl : i = t := by omega
   unfold prA
   rw [List.getD_eq_getElem?_getD, List.getElem?_append_right (by omega), hl, Nat.sub_self]
   show (strOfNums _).size ≤ _
   rw [strOfNums_size]
   exact txS_le _ _ _
theorem tdK_pv (k : Int) (b : List Int) (hb : b.length ≤ 2048) : PvOk (tdK k b).p := by
 unfold tdK
 split
 ·intro i hi; exact absurd hi (by show ¬ i < 0; omega)
 ·split
  ·intro i hi
   have h1 : i < (prD b (e7 b).2 (e7 b).1.toNat).1.length := hi
   rw [prD_len] at h1
   have h2 := prD_val b (e7 b).2 _ i h1
   show (prA (prD b (e7 b).2 (e7 b).1.toNat).1 i).2.size ≤ _
   omega
  ·split
   ·intro i hi; exact absurd hi (by show ¬ i < 0; omega)
   ·split
    ·intro i hi; exact absurd hi (by show ¬ i < 0; omega)
    ·split <;> (intro i hi; exact absurd hi (by show ¬ i < 0; omega))
theorem sp_ok {bs : List Int} (h : spE bs = 0) : 5 ≤ bs.length ∧ (1 ≤ spK bs ∧ spK bs ≤ 7) ∧ spM bs ≤ 2048 ∧ 37 + spM bs ≤ (bs.length : Int) := by
 unfold spE at h
 split at h
 ·omega
 ·split at h
  ·omega
  ·split at h
   ·omega
   ·omega
theorem dcE_sp {a : S4} {bs : List Int} {E : Int} (h : spE bs = E) (h0 : E ≠ 0) : dcE a bs = E := by
 unfold dcE
 rw [if_pos (by rw [h]; exact h0), h]
theorem sp_val {bs : List Int} (h5 : 5 ≤ bs.length) : spK bs = zA bs 0 ∧ spM bs = zA bs 1 + 256 * (zA bs 2 + 256 * (zA bs 3 + 256 * zA bs 4)) := by
 match bs, h5 with
 | b0 :: b1 :: b2 :: b3 :: b4 :: rest, _ =>
  have e1 : nuS [b0, b1, b2, b3, b4] (0, 0) 1 = (leV [b0], 1, 0) := rfl
  have e2 : nuS [b0, b1, b2, b3, b4] (1, 0) 4 = (leV [b1, b2, b3, b4], 5, 0) := rfl
  have k1 : spK (b0 :: b1 :: b2 :: b3 :: b4 :: rest) = leV [b0] := by
   unfold spK
   show (nuS [b0, b1, b2, b3, b4] (0, 0) 1).1 = _
   rw [e1]
  have k2 : spM (b0 :: b1 :: b2 :: b3 :: b4 :: rest) = leV [b1, b2, b3, b4] := by
   unfold spM
   show (nuS [b0, b1, b2, b3, b4] (nuS [b0, b1, b2, b3, b4] (0, 0) 1).2 4).1 = _
   rw [e1]
   show (nuS [b0, b1, b2, b3, b4] (1, 0) 4).1 = _
   rw [e2]
  rw [k1, k2]
  constructor
  ·simp [leV, zA]
  ·simp [leV, zA]
theorem bufD_set {w w1 w2 : World} {q : Option Addr} {n d bz : Nat} {zs : List Int} (h : BufF w Option.none w1 q n d zs) (hf : Frm [bz] w1 w2) (hn : ∀ i ∈ blk q, ¬ i = bz) (hz : w.heap.size ≤ bz) : BufF w Option.none w2 q n d zs :=
 ⟨h.own.kept hf (fun i hi he => by rw [own_blk] at hi; rw [List.mem_singleton] at he; exact hn i hi he), h.len, (h.nil.1.trans hf (fun i hi hl => by rw [List.mem_singleton] at hi; omega)).mono (by simp), h.bk⟩
theorem refDecode_short (p : Option Addr) (n c : Nat) (bs : List Int) (a : S4) (w : World) (hn : bs.length = n) (_hnc : n ≤ c) (hnb : n ≤ 140737488355328) (hrd : Rd w p bs) (hb : ∀ z ∈ bs, 0 ≤ z ∧ z < 256) (hvs : Vars w) (ha : a.Bd) (hE : spE bs ≠ 0) :
  Calls Tryz.prog 36 #[.slice p n c, .agg a.arr] w (DecP w a bs) := by
 obtain ⟨PO, hPO⟩ : ∃ PO : Ending → World → Prop, DecP w a bs = PO := ⟨_, rfl⟩
 rw [hPO]
 have HPB : Hid (∀ E w', dcE a bs = E ∧ E ≠ 0 → Frm [] w w' → PO (.returned (.tuple #[.agg #[.int .i64 0, .string ⟨#[]⟩, .int .i64 0, .int .i64 0, .int .i64 0, .int .i64 0, .string ⟨#[]⟩, .slice none 0 0, .int .i64 0, .int .i64 0, .int .i64 0, .slice none 0 0, .slice none 0 0], .int .i64 0, .agg #[.int .u64 0, .int .u64 0, .int .u64 0, .int .u64 0], .int .i64 E])) w') := hid (fun E w' h1 h3 => by rw [← hPO]; exact ⟨h3, Or.inl ⟨by rw [h1.1]; exact h1.2, by rw [h1.1]; rfl⟩⟩)
 have HPG : Hid (∀ (r : Rc) w', dcE a bs = 0 → r.core = ((tvK (spK bs) (dcB bs)).rc (spK bs)).core → RcOwn w' r (tvK (spK bs) (dcB bs)).p (tvK (spK bs) (dcB bs)).k (tvK (spK bs) (dcB bs)).d w.heap.size → Frm [] w w' → PO (.returned (.tuple #[.agg r.arr, .int .i64 (37 + spM bs), .agg (sealR a (dcH bs)).arr, .int .i64 0])) w') := hid (fun r w' h1 h2 h3 h4 => by rw [← hPO]; exact ⟨h4, Or.inr ⟨h1, r, rfl, h2, h3⟩⟩)
 have HRD := hid hrd
 have HB := hid hb
 have HLN := hid hn
 have HVS := hid hvs
 have hrow := heap_alloc_new w (.cells a.arr 29)
 have hfa : Frm [] w (w.alloc (.cells a.arr 29)) := (Frm.refl _ _).alloc _
 obtain ⟨wa, hwa⟩ := eX (w.alloc (.cells a.arr 29))
 obtain ⟨ba, hba⟩ := eX (w.heap.size)
 rw [hwa, hba] at hrow
 rw [hwa] at hfa
 have hrowr := heap_alloc_new wa (.cells #[.int .i64 0, .string ⟨#[]⟩, .int .i64 0, .int .i64 0, .int .i64 0, .int .i64 0, .string ⟨#[]⟩, .slice none 0 0, .int .i64 0, .int .i64 0, .int .i64 0, .slice none 0 0, .slice none 0 0] 26)
 have hfr : Frm [] wa (wa.alloc (.cells #[.int .i64 0, .string ⟨#[]⟩, .int .i64 0, .int .i64 0, .int .i64 0, .int .i64 0, .string ⟨#[]⟩, .slice none 0 0, .int .i64 0, .int .i64 0, .int .i64 0, .slice none 0 0, .slice none 0 0] 26)) := (Frm.refl _ _).alloc _
 obtain ⟨wr, hwr⟩ := eX (wa.alloc (.cells #[.int .i64 0, .string ⟨#[]⟩, .int .i64 0, .int .i64 0, .int .i64 0, .int .i64 0, .string ⟨#[]⟩, .slice none 0 0, .int .i64 0, .int .i64 0, .int .i64 0, .slice none 0 0, .slice none 0 0] 26))
 obtain ⟨br, hbr⟩ := eX (wa.heap.size)
 rw [hwr, hbr] at hrowr
 rw [hwr] at hfr
 have hrows := heap_alloc_new wr (.cells #[.int .u64 0, .int .u64 0, .int .u64 0, .int .u64 0] 29)
 have hfs : Frm [] wr (wr.alloc (.cells #[.int .u64 0, .int .u64 0, .int .u64 0, .int .u64 0] 29)) := (Frm.refl _ _).alloc _
 have hbs : wr.heap.size = br + 1 := by rw [← hwr, ← hbr]; simp
 obtain ⟨ws, hws⟩ := eX (wr.alloc (.cells #[.int .u64 0, .int .u64 0, .int .u64 0, .int .u64 0] 29))
 rw [hws, hbs] at hrows
 rw [hws] at hfs
 have hb1 : ba + 1 = br := by rw [← hbr, ← hwa, ← hba]; simp
 have HBL : Hid (w.heap.size < br) := hid (by omega)
 have HB1 := hid hb1
 have HFR : Hid (Frm [] w ws) := hid ((hfa.trans hfr (by simp)).trans hfs (by simp))
 have HRA : Hid (∀ W, Frm [] ws W → W.heap[ba]? = some (.cells a.arr 29 (0, 0))) := hid (fun W hf => hf.heap (hfs.heap (hfr.heap hrow (by simp)) (by simp)) (by simp))
 have HRR : Hid (∀ W, Frm [] ws W → W.heap[br]? = some (.cells #[.int .i64 0, .string ⟨#[]⟩, .int .i64 0, .int .i64 0, .int .i64 0, .int .i64 0, .string ⟨#[]⟩, .slice none 0 0, .int .i64 0, .int .i64 0, .int .i64 0, .slice none 0 0, .slice none 0 0] 26 (0, 0))) := hid (fun W hf => hf.heap (hfs.heap hrowr (by simp)) (by simp))
 have HRS : Hid (∀ W, Frm [] ws W → W.heap[br + 1]? = some (.cells #[.int .u64 0, .int .u64 0, .int .u64 0, .int .u64 0] 29 (0, 0))) := hid (fun W hf => hf.heap hrows (by simp))
 have HSZ : Hid (br + 1 < ws.heap.size) := hid (lt_of_heap hrows)
 have HWA := hid hwa
 have HWR := hid hwr
 have HWS := hid hws
 have HBA := hid hba
 have HBR := hid hbr
 have HBS := hid hbs
 have hbr13 : ∀ V, (Instr.build 26 #[]).run Tryz.prog V = .ok (.agg #[.int .i64 0, .string ⟨#[]⟩, .int .i64 0, .int .i64 0, .int .i64 0, .int .i64 0, .string ⟨#[]⟩, .slice none 0 0, .int .i64 0, .int .i64 0, .int .i64 0, .slice none 0 0, .slice none 0 0]) V := fun V => run_build V _ _ _ (by kernel_rfl)
 have hbr4 : ∀ V, (Instr.build 29 #[]).run Tryz.prog V = .ok (.agg #[.int .u64 0, .int .u64 0, .int .u64 0, .int .u64 0]) V := fun V => run_build V _ _ _ (by kernel_rfl)
 have HBA4 := hid ha
 have HRX : Hid (∀ W, Frm [] ws W → Rd W p bs) := hid (fun W hf => (hrd.kept HFR.out (by simp)).kept hf (by simp))
 have HVX : Hid (∀ W, Frm [] ws W → Vars W) := hid (fun W hf => hvs.kept (HFR.out.trans hf (by simp)))
 clear hrow hfa hwa hba hrowr hfr hwr hbr hrows hfs hws hbs hb1 hPO hn hrd hb hvs ha
 obtain ⟨s0, s1, s2, s3⟩ := a
 unfold S4.arr at HWA HRA HPG
 simp only at HWA HRA
 unfold S4.arr
 simp only
 go_enter Tryz.func36, Tryz.ntmps36
 go_upto_region 1 with fail
 try rw [HWA.out]
 try rw [HBA.out]
 try rw [HBR.out]
 try rw [HB1.out]
 try rw [HWR.out]
 try rw [HBS.out]
 try rw [HWS.out]
 by_cases h5 : n < 5
 case pos =>
  have i5 : (n : Int) < 5 := by omega
  have HEE : Hid (dcE ⟨s0, s1, s2, s3⟩ bs = 10) := hid (by exact dcE_sp (by unfold spE; rw [if_pos (by rw [HLN.out]; omega)]) (by decide))
  clear h5
  have hrr := HRR.out ws (Frm.refl [] ws)
  have hrs := HRS.out ws (Frm.refl [] ws)
  have z0 := cR 0 (.int .i64 0) hrr
  have y0 := fZ 0 hrr
  have z1 := cR 1 (.string ⟨#[]⟩) hrr
  have y1 := fZ 1 hrr
  have z2 := cR 2 (.int .i64 0) hrr
  have y2 := fZ 2 hrr
  have z3 := cR 3 (.int .i64 0) hrr
  have y3 := fZ 3 hrr
  have z4 := cR 4 (.int .i64 0) hrr
  have y4 := fZ 4 hrr
  have z5 := cR 5 (.int .i64 0) hrr
  have y5 := fZ 5 hrr
  have z6 := cR 6 (.string ⟨#[]⟩) hrr
  have y6 := fZ 6 hrr
  have z7 := cR 7 (.slice none 0 0) hrr
  have y7 := fZ 7 hrr
  have z8 := cR 8 (.int .i64 0) hrr
  have y8 := fZ 8 hrr
  have z9 := cR 9 (.int .i64 0) hrr
  have y9 := fZ 9 hrr
  have z10 := cR 10 (.int .i64 0) hrr
  have y10 := fZ 10 hrr
  have z11 := cR 11 (.slice none 0 0) hrr
  have y11 := fZ 11 hrr
  have z12 := cR 12 (.slice none 0 0) hrr
  have y12 := fZ 12 hrr
  have n0 := cR 0 (.int .u64 0) hrs
  have m0 := fZ 0 hrs
  have n1 := cR 1 (.int .u64 0) hrs
  have m1 := fZ 1 hrs
  have n2 := cR 2 (.int .u64 0) hrs
  have m2 := fZ 2 hrs
  have n3 := cR 3 (.int .u64 0) hrs
  have m3 := fZ 3 hrs
  go_wp2_with fail
  obtain ⟨Wz, hwz, h5, f5⟩ := sE br 26 [(0, .int .i64 0), (1, .string ⟨#[]⟩), (2, .int .i64 0), (3, .int .i64 0), (4, .int .i64 0), (5, .int .i64 0), (6, .string ⟨#[]⟩), (7, .slice none 0 0), (8, .int .i64 0), (9, .int .i64 0), (10, .int .i64 0), (11, .slice none 0 0), (12, .slice none 0 0)] ws _ hrr
  simp only [List.foldl, List.setIfInBounds_toArray, List.set_cons_zero, List.set_cons_succ] at h5
  simp only [setsF] at hwz
  have hWz := hwz
  rw [hwz]
  have hrs2 := f5.heap hrs (by simp)
  obtain ⟨Wy, hwy, h6, f6⟩ := sE (br + 1) 29 [(0, .int .u64 0), (1, .int .u64 0), (2, .int .u64 0), (3, .int .u64 0)] Wz _ hrs2
  simp only [List.foldl, List.setIfInBounds_toArray, List.set_cons_zero, List.set_cons_succ] at h6
  simp only [setsF] at hwy
  have hWy := hwy
  rw [hwy]
  have h7 := f6.heap h5 (by simp)
  have u0 := cR 0 (.int .i64 0) h7
  have u1 := cR 1 (.string ⟨#[]⟩) h7
  have u2 := cR 2 (.int .i64 0) h7
  have u3 := cR 3 (.int .i64 0) h7
  have u4 := cR 4 (.int .i64 0) h7
  have u5 := cR 5 (.int .i64 0) h7
  have u6 := cR 6 (.string ⟨#[]⟩) h7
  have u7 := cR 7 (.slice none 0 0) h7
  have u8 := cR 8 (.int .i64 0) h7
  have u9 := cR 9 (.int .i64 0) h7
  have u10 := cR 10 (.int .i64 0) h7
  have u11 := cR 11 (.slice none 0 0) h7
  have u12 := cR 12 (.slice none 0 0) h7
  have k0 := cR 0 (.int .u64 0) h6
  have k1 := cR 1 (.int .u64 0) h6
  have k2 := cR 2 (.int .u64 0) h6
  have k3 := cR 3 (.int .u64 0) h6
  refine bodyPost_ret (v := .tuple #[.agg #[.int .i64 0, .string ⟨#[]⟩, .int .i64 0, .int .i64 0, .int .i64 0, .int .i64 0, .string ⟨#[]⟩, .slice none 0 0, .int .i64 0, .int .i64 0, .int .i64 0, .slice none 0 0, .slice none 0 0], .int .i64 0, .agg #[.int .u64 0, .int .u64 0, .int .u64 0, .int .u64 0], .int .i64 10]) (by simp [results, Tryz.results36, go_sem, u0, u1, u2, u3, u4, u5, u6, u7, u8, u9, u10, u11, u12, k0, k1, k2, k3]) rfl ?_
  exact HPB.out _ _ ⟨HEE.out, by decide⟩ (((HFR.out.trans (Frm.refl [] ws) (by simp)).trans f5 (fun i hi hl => by rw [List.mem_singleton] at hi; have := HBL.out; omega)).trans f6 (fun i hi hl => by rw [List.mem_singleton] at hi; have := HBL.out; omega))
 have i5 : ¬ (n : Int) < 5 := by omega
 obtain ⟨g0, o0, rfl⟩ : ∃ g0 o0, p = some ⟨g0, o0, none⟩ := by
  rcases HRD.out with h | ⟨g, o, h, _⟩
  ·have := HLN.out; rw [h] at this; simp at this; omega
  ·exact ⟨g, o, h⟩
 obtain ⟨hK0, hM0⟩ := sp_val (bs := bs) (by rw [HLN.out]; omega)
 have hm0 := spM_bd HB.out
 have HCB : Hid (∀ W, Frm [] ws W → W.cell? ⟨g0, o0, none⟩ = some (.int .u8 (zA bs 0)) ∧ W.cell? ⟨g0, o0 + 1, none⟩ = some (.int .u8 (zA bs 1)) ∧ W.cell? ⟨g0, o0 + 2, none⟩ = some (.int .u8 (zA bs 2)) ∧ W.cell? ⟨g0, o0 + 3, none⟩ = some (.int .u8 (zA bs 3)) ∧ W.cell? ⟨g0, o0 + 4, none⟩ = some (.int .u8 (zA bs 4))) := hid (fun W hf => by
  have h : ∀ i, i < bs.length → W.cell? ⟨g0, o0 + i, none⟩ = some (.int .u8 (zA bs i)) := fun i hi => by
   obtain ⟨g, o, e, hc⟩ := rd_byte (i := i) (HRX.out W hf) hi
   simp only [Option.some.injEq, Addr.mk.injEq, and_true] at e
   obtain ⟨rfl, rfl⟩ := e
   exact hc
  have hl := HLN.out
  refine ⟨?_, h 1 (by omega), h 2 (by omega), h 3 (by omega), h 4 (by omega)⟩
  have h0 := h 0 (by omega)
  rw [Nat.add_zero] at h0
  exact h0)
 have hzb : ∀ i, i < 5 → 0 ≤ zA bs i ∧ zA bs i < 256 := fun i hi => by
  have hl := HLN.out
  unfold zA
  rw [List.getD_eq_getElem?_getD, List.getElem?_eq_getElem (by omega)]
  exact HB.out _ (List.getElem_mem _)
 obtain ⟨b0, hb0⟩ := eX (zA bs 0)
 obtain ⟨b1, hb1⟩ := eX (zA bs 1)
 obtain ⟨b2, hb2⟩ := eX (zA bs 2)
 obtain ⟨b3, hb3⟩ := eX (zA bs 3)
 obtain ⟨b4, hb4⟩ := eX (zA bs 4)
 have hz0 := hzb 0 (by omega)
 rw [hb0] at hz0 HCB
 have hz1 := hzb 1 (by omega)
 rw [hb1] at hz1 HCB
 have hz2 := hzb 2 (by omega)
 rw [hb2] at hz2 HCB
 have hz3 := hzb 3 (by omega)
 rw [hb3] at hz3 HCB
 have hz4 := hzb 4 (by omega)
 rw [hb4] at hz4 HCB
 rw [hb0] at hK0
 rw [hb1, hb2, hb3, hb4] at hM0
 rw [hM0] at hm0
 obtain ⟨m4, hm4⟩ := eX (256 * b4)
 obtain ⟨m3, hm3⟩ := eX (b3 + m4)
 obtain ⟨m3q, hm3q⟩ := eX (256 * m3)
 obtain ⟨m2, hm2⟩ := eX (b2 + m3q)
 obtain ⟨m2q, hm2q⟩ := eX (256 * m2)
 obtain ⟨M, hM⟩ := eX (b1 + m2q)
 have hMM : spM bs = M := by rw [hM0]; omega
 have wb0 : IntKind.i64.wrap b0 = b0 := by rw [IntKind.wrap_i64]; omega
 have wb1 : IntKind.i64.wrap b1 = b1 := by rw [IntKind.wrap_i64]; omega
 have wb2 : IntKind.i64.wrap b2 = b2 := by rw [IntKind.wrap_i64]; omega
 have wb3 : IntKind.i64.wrap b3 = b3 := by rw [IntKind.wrap_i64]; omega
 have wb4 : IntKind.i64.wrap b4 = b4 := by rw [IntKind.wrap_i64]; omega
 have wm4 : IntKind.i64.wrap (256 * b4) = m4 := by rw [IntKind.wrap_i64]; omega
 have wm3 : IntKind.i64.wrap (b3 + m4) = m3 := by rw [IntKind.wrap_i64]; omega
 have wm3q : IntKind.i64.wrap (256 * m3) = m3q := by rw [IntKind.wrap_i64]; omega
 have wm2 : IntKind.i64.wrap (b2 + m3q) = m2 := by rw [IntKind.wrap_i64]; omega
 have wm2q : IntKind.i64.wrap (256 * m2) = m2q := by rw [IntKind.wrap_i64]; omega
 have wM : IntKind.i64.wrap (b1 + m2q) = M := by rw [IntKind.wrap_i64]; omega
 have hMb : 0 ≤ M ∧ M < 4294967296 := by omega
 have HSPK := hid hK0
 have HSPM := hid hMM
 have HB0B := hid hz0
 obtain ⟨hMb0, hMb1⟩ := hMb
 have i05 : (0 : Int) < (n : Int) := by omega
 have n05 : 0 < n := by omega
 have i15 : (1 : Int) < (n : Int) := by omega
 have i25 : (2 : Int) < (n : Int) := by omega
 have i35 : (3 : Int) < (n : Int) := by omega
 have i45 : (4 : Int) < (n : Int) := by omega
 have h5N : 5 ≤ n := by omega
 clear hm4 hm3 hm3q hm2 hm2q hM hM0 hm0 hK0 hMM hb0 hb1 hb2 hb3 hb4 hzb h5
 go_upto_region 3 with fail
 refine wp_region_tail (S := fun W => (W.cell? ⟨g0, o0, none⟩ = some (.int .u8 b0) ∧ W.cell? ⟨g0, o0 + 1, none⟩ = some (.int .u8 b1) ∧ W.cell? ⟨g0, o0 + 2, none⟩ = some (.int .u8 b2) ∧ W.cell? ⟨g0, o0 + 3, none⟩ = some (.int .u8 b3) ∧ W.cell? ⟨g0, o0 + 4, none⟩ = some (.int .u8 b4))) 22 23 rfl (by kernel_rfl) (by kernel_rfl) ?_
 obtain ⟨wd, hwd⟩ := eX (ws.drew)
 rw [hwd]
 have HFD : Hid (Frm [] ws wd) := hid (by rw [← hwd]; exact (Frm.refl [] ws).drew)
 clear hwd
 refine hI (i := 0) (v := ?_) rfl ?_ (HCB.out _ HFD.out) ?_
 rotate_left 1
 ·rintro W ⟨e0, e1, e2, e3, e4⟩; (try simp only [lA, lZ]); go_simp; try with_reducible rfl
 try simp only [lA, lZ, Act.put, lI, lW, lX]
 refine hI (i := 1) (v := ?_) rfl ?_ (HCB.out _ HFD.out) ?_
 rotate_left 1
 ·rintro W ⟨e0, e1, e2, e3, e4⟩; (try simp only [lA, lS, lZ]); go_simp; try with_reducible rfl
 try simp only [lA, lS, lZ, Act.put, lI, lW, lX]
 refine hI (i := 2) (v := ?_) rfl ?_ (HCB.out _ HFD.out) ?_
 rotate_left 1
 ·rintro W ⟨e0, e1, e2, e3, e4⟩; (try simp only [lA, lS, lZ]); go_simp; try with_reducible rfl
 try simp only [lA, lS, lZ, Act.put, lI, lW, lX]
 refine hI (i := 3) (v := ?_) rfl ?_ (HCB.out _ HFD.out) ?_
 rotate_left 1
 ·rintro W ⟨e0, e1, e2, e3, e4⟩; (try simp only [lA, lS, lZ]); go_simp; try with_reducible rfl
 try simp only [lA, lS, lZ, Act.put, lI, lW, lX]
 refine hI (i := 4) (v := ?_) rfl ?_ (HCB.out _ HFD.out) ?_
 rotate_left 1
 ·rintro W ⟨e0, e1, e2, e3, e4⟩; (try simp only [lA, lS, lZ]); go_simp; try with_reducible rfl
 try simp only [lA, lS, lZ, Act.put, lI, lW, lX]
 refine hI (i := 5) (v := ?_) rfl ?_ (HCB.out _ HFD.out) ?_
 rotate_left 1
 ·rintro W ⟨e0, e1, e2, e3, e4⟩; (try simp only [lA, lS, lZ]); go_simp; try with_reducible rfl
 try simp only [lA, lS, lZ, Act.put, lI, lW, lX]
 refine hI (i := 6) (v := ?_) rfl ?_ (HCB.out _ HFD.out) ?_
 rotate_left 1
 ·rintro W ⟨e0, e1, e2, e3, e4⟩; (try simp only [lA, lS, lZ]); go_simp; try with_reducible rfl
 try simp only [lA, lS, lZ, Act.put, lI, lW, lX]
 refine hI (i := 7) (v := ?_) rfl ?_ (HCB.out _ HFD.out) ?_
 rotate_left 1
 ·rintro W ⟨e0, e1, e2, e3, e4⟩; (try simp only [lA, lS, lZ]); go_simp; try with_reducible rfl
 try simp only [lA, lS, lZ, Act.put, lI, lW, lX]
 refine hI (i := 8) (v := ?_) rfl ?_ (HCB.out _ HFD.out) ?_
 rotate_left 1
 ·rintro W ⟨e0, e1, e2, e3, e4⟩; (try simp only [lA, lS, lZ]); go_simp; try with_reducible rfl
 try simp only [lA, lS, lZ, Act.put, lI, lW, lX]
 refine hI (i := 9) (v := ?_) rfl ?_ (HCB.out _ HFD.out) ?_
 rotate_left 1
 ·rintro W ⟨e0, e1, e2, e3, e4⟩; (try simp only [lA, lS, lZ]); go_simp; try with_reducible rfl
 try simp only [lA, lS, lZ, Act.put, lI, lW, lX]
 refine hI (i := 10) (v := ?_) rfl ?_ (HCB.out _ HFD.out) ?_
 rotate_left 1
 ·rintro W ⟨e0, e1, e2, e3, e4⟩; (try simp only [lA, lS, lZ]); go_simp; try with_reducible rfl
 try simp only [lA, lS, lZ, Act.put, lI, lW, lX]
 refine hI (i := 11) (v := ?_) rfl ?_ (HCB.out _ HFD.out) ?_
 rotate_left 1
 ·rintro W ⟨e0, e1, e2, e3, e4⟩; (try simp only [lA, lS, lZ]); go_simp; try with_reducible rfl
 try simp only [lA, lS, lZ, Act.put, lI, lW, lX]
 refine hI (i := 12) (v := ?_) rfl ?_ (HCB.out _ HFD.out) ?_
 rotate_left 1
 ·rintro W ⟨e0, e1, e2, e3, e4⟩; (try simp only [lA, lS, lZ]); go_simp; try with_reducible rfl
 try simp only [lA, lS, lZ, Act.put, lI, lW, lX]
 refine hI (i := 13) (v := ?_) rfl ?_ (HCB.out _ HFD.out) ?_
 rotate_left 1
 ·rintro W ⟨e0, e1, e2, e3, e4⟩; (try simp only [lA, lS, lZ]); go_simp; try with_reducible rfl
 try simp only [lA, lS, lZ, Act.put, lI, lW, lX]
 refine hI (i := 14) (v := ?_) rfl ?_ (HCB.out _ HFD.out) ?_
 rotate_left 1
 ·rintro W ⟨e0, e1, e2, e3, e4⟩; (try simp only [lA, lS, lZ]); go_simp; try with_reducible rfl
 try simp only [lA, lS, lZ, Act.put, lI, lW, lX]
 refine hI (i := 15) (v := ?_) rfl ?_ (HCB.out _ HFD.out) ?_
 rotate_left 1
 ·rintro W ⟨e0, e1, e2, e3, e4⟩; (try simp only [lA, lS, lZ]); go_simp; try with_reducible rfl
 try simp only [lA, lS, lZ, Act.put, lI, lW, lX]
 refine hI (i := 16) (v := ?_) rfl ?_ (HCB.out _ HFD.out) ?_
 rotate_left 1
 ·rintro W ⟨e0, e1, e2, e3, e4⟩; (try simp only [lA, lS, lZ]); go_simp; try with_reducible rfl
 try simp only [lA, lS, lZ, Act.put, lI, lW, lX]
 refine hI (i := 17) (v := ?_) rfl ?_ (HCB.out _ HFD.out) ?_
 rotate_left 1
 ·rintro W ⟨e0, e1, e2, e3, e4⟩; (try simp only [lA, lS, lZ]); go_simp; try with_reducible rfl
 try simp only [lA, lS, lZ, Act.put, lI, lW, lX]
 refine hI (i := 18) (v := ?_) rfl ?_ (HCB.out _ HFD.out) ?_
 rotate_left 1
 ·rintro W ⟨e0, e1, e2, e3, e4⟩; (try simp only [lA, lS, lZ]); go_simp; try with_reducible rfl
 try simp only [lA, lS, lZ, Act.put, lI, lW, lX]
 refine hI (i := 19) (v := ?_) rfl ?_ (HCB.out _ HFD.out) ?_
 rotate_left 1
 ·rintro W ⟨e0, e1, e2, e3, e4⟩; (try simp only [lA, lS, lZ]); go_simp; try with_reducible rfl
 try simp only [lA, lS, lZ, Act.put, lI, lW, lX]
 refine hI (i := 20) (v := ?_) rfl ?_ (HCB.out _ HFD.out) ?_
 rotate_left 1
 ·rintro W ⟨e0, e1, e2, e3, e4⟩; (try simp only [lA, lS, lZ]); go_simp; try with_reducible rfl
 try simp only [lA, lS, lZ, Act.put, lI, lW, lX]
 refine hI (i := 21) (v := ?_) rfl ?_ (HCB.out _ HFD.out) ?_
 rotate_left 1
 ·rintro W ⟨e0, e1, e2, e3, e4⟩; (try simp only [lA, lS, lZ]); go_simp; try with_reducible rfl
 try simp only [lA, lS, lZ, Act.put, lI, lW, lX]
 refine wpAnyHT_end (by kernel_rfl) ?_
 simp only [List.drop_succ_cons, List.drop_zero]
 clear wb1 wb2 wb3 wb4 wm4 wm3 wm3q wm2 wm2q wM
 go_upto_region 4 with fail
 obtain ⟨c0, _, _, _, _⟩ := HCB.out wd HFD.out
 by_cases hk1 : b0 < 1
 case pos =>
  have HEE : Hid (dcE ⟨s0, s1, s2, s3⟩ bs = 200) := hid (by exact dcE_sp (by unfold spE; rw [if_neg (by rw [HLN.out]; omega), if_pos (by rw [HSPK.out, HSPM.out]; omega)]) (by decide))
  have hrr := HRR.out wd HFD.out
  have hrs := HRS.out wd HFD.out
  have z0 := cR 0 (.int .i64 0) hrr
  have y0 := fZ 0 hrr
  have z1 := cR 1 (.string ⟨#[]⟩) hrr
  have y1 := fZ 1 hrr
  have z2 := cR 2 (.int .i64 0) hrr
  have y2 := fZ 2 hrr
  have z3 := cR 3 (.int .i64 0) hrr
  have y3 := fZ 3 hrr
  have z4 := cR 4 (.int .i64 0) hrr
  have y4 := fZ 4 hrr
  have z5 := cR 5 (.int .i64 0) hrr
  have y5 := fZ 5 hrr
  have z6 := cR 6 (.string ⟨#[]⟩) hrr
  have y6 := fZ 6 hrr
  have z7 := cR 7 (.slice none 0 0) hrr
  have y7 := fZ 7 hrr
  have z8 := cR 8 (.int .i64 0) hrr
  have y8 := fZ 8 hrr
  have z9 := cR 9 (.int .i64 0) hrr
  have y9 := fZ 9 hrr
  have z10 := cR 10 (.int .i64 0) hrr
  have y10 := fZ 10 hrr
  have z11 := cR 11 (.slice none 0 0) hrr
  have y11 := fZ 11 hrr
  have z12 := cR 12 (.slice none 0 0) hrr
  have y12 := fZ 12 hrr
  have n0 := cR 0 (.int .u64 0) hrs
  have m0 := fZ 0 hrs
  have n1 := cR 1 (.int .u64 0) hrs
  have m1 := fZ 1 hrs
  have n2 := cR 2 (.int .u64 0) hrs
  have m2 := fZ 2 hrs
  have n3 := cR 3 (.int .u64 0) hrs
  have m3 := fZ 3 hrs
  go_wp2_with fail
  obtain ⟨Wz, hwz, h5, f5⟩ := sE br 26 [(0, .int .i64 0), (1, .string ⟨#[]⟩), (2, .int .i64 0), (3, .int .i64 0), (4, .int .i64 0), (5, .int .i64 0), (6, .string ⟨#[]⟩), (7, .slice none 0 0), (8, .int .i64 0), (9, .int .i64 0), (10, .int .i64 0), (11, .slice none 0 0), (12, .slice none 0 0)] wd _ hrr
  simp only [List.foldl, List.setIfInBounds_toArray, List.set_cons_zero, List.set_cons_succ] at h5
  simp only [setsF] at hwz
  have hWz := hwz
  rw [hwz]
  have hrs2 := f5.heap hrs (by simp)
  obtain ⟨Wy, hwy, h6, f6⟩ := sE (br + 1) 29 [(0, .int .u64 0), (1, .int .u64 0), (2, .int .u64 0), (3, .int .u64 0)] Wz _ hrs2
  simp only [List.foldl, List.setIfInBounds_toArray, List.set_cons_zero, List.set_cons_succ] at h6
  simp only [setsF] at hwy
  have hWy := hwy
  rw [hwy]
  have h7 := f6.heap h5 (by simp)
  have u0 := cR 0 (.int .i64 0) h7
  have u1 := cR 1 (.string ⟨#[]⟩) h7
  have u2 := cR 2 (.int .i64 0) h7
  have u3 := cR 3 (.int .i64 0) h7
  have u4 := cR 4 (.int .i64 0) h7
  have u5 := cR 5 (.int .i64 0) h7
  have u6 := cR 6 (.string ⟨#[]⟩) h7
  have u7 := cR 7 (.slice none 0 0) h7
  have u8 := cR 8 (.int .i64 0) h7
  have u9 := cR 9 (.int .i64 0) h7
  have u10 := cR 10 (.int .i64 0) h7
  have u11 := cR 11 (.slice none 0 0) h7
  have u12 := cR 12 (.slice none 0 0) h7
  have k0 := cR 0 (.int .u64 0) h6
  have k1 := cR 1 (.int .u64 0) h6
  have k2 := cR 2 (.int .u64 0) h6
  have k3 := cR 3 (.int .u64 0) h6
  refine bodyPost_ret (v := .tuple #[.agg #[.int .i64 0, .string ⟨#[]⟩, .int .i64 0, .int .i64 0, .int .i64 0, .int .i64 0, .string ⟨#[]⟩, .slice none 0 0, .int .i64 0, .int .i64 0, .int .i64 0, .slice none 0 0, .slice none 0 0], .int .i64 0, .agg #[.int .u64 0, .int .u64 0, .int .u64 0, .int .u64 0], .int .i64 200]) (by simp [results, Tryz.results36, go_sem, u0, u1, u2, u3, u4, u5, u6, u7, u8, u9, u10, u11, u12, k0, k1, k2, k3]) rfl ?_
  exact HPB.out _ _ ⟨HEE.out, by decide⟩ (((HFR.out.trans HFD.out (by simp)).trans f5 (fun i hi hl => by rw [List.mem_singleton] at hi; have := HBL.out; omega)).trans f6 (fun i hi hl => by rw [List.mem_singleton] at hi; have := HBL.out; omega))
 have dk1 := decide_eq_false hk1
 by_cases hk7 : 7 < b0
 case pos =>
  have HEE : Hid (dcE ⟨s0, s1, s2, s3⟩ bs = 200) := hid (by exact dcE_sp (by unfold spE; rw [if_neg (by rw [HLN.out]; omega), if_pos (by rw [HSPK.out, HSPM.out]; omega)]) (by decide))
  have hrr := HRR.out wd HFD.out
  have hrs := HRS.out wd HFD.out
  have z0 := cR 0 (.int .i64 0) hrr
  have y0 := fZ 0 hrr
  have z1 := cR 1 (.string ⟨#[]⟩) hrr
  have y1 := fZ 1 hrr
  have z2 := cR 2 (.int .i64 0) hrr
  have y2 := fZ 2 hrr
  have z3 := cR 3 (.int .i64 0) hrr
  have y3 := fZ 3 hrr
  have z4 := cR 4 (.int .i64 0) hrr
  have y4 := fZ 4 hrr
  have z5 := cR 5 (.int .i64 0) hrr
  have y5 := fZ 5 hrr
  have z6 := cR 6 (.string ⟨#[]⟩) hrr
  have y6 := fZ 6 hrr
  have z7 := cR 7 (.slice none 0 0) hrr
  have y7 := fZ 7 hrr
  have z8 := cR 8 (.int .i64 0) hrr
  have y8 := fZ 8 hrr
  have z9 := cR 9 (.int .i64 0) hrr
  have y9 := fZ 9 hrr
  have z10 := cR 10 (.int .i64 0) hrr
  have y10 := fZ 10 hrr
  have z11 := cR 11 (.slice none 0 0) hrr
  have y11 := fZ 11 hrr
  have z12 := cR 12 (.slice none 0 0) hrr
  have y12 := fZ 12 hrr
  have n0 := cR 0 (.int .u64 0) hrs
  have m0 := fZ 0 hrs
  have n1 := cR 1 (.int .u64 0) hrs
  have m1 := fZ 1 hrs
  have n2 := cR 2 (.int .u64 0) hrs
  have m2 := fZ 2 hrs
  have n3 := cR 3 (.int .u64 0) hrs
  have m3 := fZ 3 hrs
  go_wp2_with fail
  obtain ⟨Wz, hwz, h5, f5⟩ := sE br 26 [(0, .int .i64 0), (1, .string ⟨#[]⟩), (2, .int .i64 0), (3, .int .i64 0), (4, .int .i64 0), (5, .int .i64 0), (6, .string ⟨#[]⟩), (7, .slice none 0 0), (8, .int .i64 0), (9, .int .i64 0), (10, .int .i64 0), (11, .slice none 0 0), (12, .slice none 0 0)] wd _ hrr
  simp only [List.foldl, List.setIfInBounds_toArray, List.set_cons_zero, List.set_cons_succ] at h5
  simp only [setsF] at hwz
  have hWz := hwz
  rw [hwz]
  have hrs2 := f5.heap hrs (by simp)
  obtain ⟨Wy, hwy, h6, f6⟩ := sE (br + 1) 29 [(0, .int .u64 0), (1, .int .u64 0), (2, .int .u64 0), (3, .int .u64 0)] Wz _ hrs2
  simp only [List.foldl, List.setIfInBounds_toArray, List.set_cons_zero, List.set_cons_succ] at h6
  simp only [setsF] at hwy
  have hWy := hwy
  rw [hwy]
  have h7 := f6.heap h5 (by simp)
  have u0 := cR 0 (.int .i64 0) h7
  have u1 := cR 1 (.string ⟨#[]⟩) h7
  have u2 := cR 2 (.int .i64 0) h7
  have u3 := cR 3 (.int .i64 0) h7
  have u4 := cR 4 (.int .i64 0) h7
  have u5 := cR 5 (.int .i64 0) h7
  have u6 := cR 6 (.string ⟨#[]⟩) h7
  have u7 := cR 7 (.slice none 0 0) h7
  have u8 := cR 8 (.int .i64 0) h7
  have u9 := cR 9 (.int .i64 0) h7
  have u10 := cR 10 (.int .i64 0) h7
  have u11 := cR 11 (.slice none 0 0) h7
  have u12 := cR 12 (.slice none 0 0) h7
  have k0 := cR 0 (.int .u64 0) h6
  have k1 := cR 1 (.int .u64 0) h6
  have k2 := cR 2 (.int .u64 0) h6
  have k3 := cR 3 (.int .u64 0) h6
  refine bodyPost_ret (v := .tuple #[.agg #[.int .i64 0, .string ⟨#[]⟩, .int .i64 0, .int .i64 0, .int .i64 0, .int .i64 0, .string ⟨#[]⟩, .slice none 0 0, .int .i64 0, .int .i64 0, .int .i64 0, .slice none 0 0, .slice none 0 0], .int .i64 0, .agg #[.int .u64 0, .int .u64 0, .int .u64 0, .int .u64 0], .int .i64 200]) (by simp [results, Tryz.results36, go_sem, u0, u1, u2, u3, u4, u5, u6, u7, u8, u9, u10, u11, u12, k0, k1, k2, k3]) rfl ?_
  exact HPB.out _ _ ⟨HEE.out, by decide⟩ (((HFR.out.trans HFD.out (by simp)).trans f5 (fun i hi hl => by rw [List.mem_singleton] at hi; have := HBL.out; omega)).trans f6 (fun i hi hl => by rw [List.mem_singleton] at hi; have := HBL.out; omega))
 have dk7 := decide_eq_false hk7
 by_cases hM2 : 2048 < M
 case pos =>
  have HEE : Hid (dcE ⟨s0, s1, s2, s3⟩ bs = 200) := hid (by exact dcE_sp (by unfold spE; rw [if_neg (by rw [HLN.out]; omega), if_pos (by rw [HSPK.out, HSPM.out]; omega)]) (by decide))
  have hrr := HRR.out wd HFD.out
  have hrs := HRS.out wd HFD.out
  have z0 := cR 0 (.int .i64 0) hrr
  have y0 := fZ 0 hrr
  have z1 := cR 1 (.string ⟨#[]⟩) hrr
  have y1 := fZ 1 hrr
  have z2 := cR 2 (.int .i64 0) hrr
  have y2 := fZ 2 hrr
  have z3 := cR 3 (.int .i64 0) hrr
  have y3 := fZ 3 hrr
  have z4 := cR 4 (.int .i64 0) hrr
  have y4 := fZ 4 hrr
  have z5 := cR 5 (.int .i64 0) hrr
  have y5 := fZ 5 hrr
  have z6 := cR 6 (.string ⟨#[]⟩) hrr
  have y6 := fZ 6 hrr
  have z7 := cR 7 (.slice none 0 0) hrr
  have y7 := fZ 7 hrr
  have z8 := cR 8 (.int .i64 0) hrr
  have y8 := fZ 8 hrr
  have z9 := cR 9 (.int .i64 0) hrr
  have y9 := fZ 9 hrr
  have z10 := cR 10 (.int .i64 0) hrr
  have y10 := fZ 10 hrr
  have z11 := cR 11 (.slice none 0 0) hrr
  have y11 := fZ 11 hrr
  have z12 := cR 12 (.slice none 0 0) hrr
  have y12 := fZ 12 hrr
  have n0 := cR 0 (.int .u64 0) hrs
  have m0 := fZ 0 hrs
  have n1 := cR 1 (.int .u64 0) hrs
  have m1 := fZ 1 hrs
  have n2 := cR 2 (.int .u64 0) hrs
  have m2 := fZ 2 hrs
  have n3 := cR 3 (.int .u64 0) hrs
  have m3 := fZ 3 hrs
  go_wp2_with fail
  obtain ⟨Wz, hwz, h5, f5⟩ := sE br 26 [(0, .int .i64 0), (1, .string ⟨#[]⟩), (2, .int .i64 0), (3, .int .i64 0), (4, .int .i64 0), (5, .int .i64 0), (6, .string ⟨#[]⟩), (7, .slice none 0 0), (8, .int .i64 0), (9, .int .i64 0), (10, .int .i64 0), (11, .slice none 0 0), (12, .slice none 0 0)] wd _ hrr
  simp only [List.foldl, List.setIfInBounds_toArray, List.set_cons_zero, List.set_cons_succ] at h5
  simp only [setsF] at hwz
  have hWz := hwz
  rw [hwz]
  have hrs2 := f5.heap hrs (by simp)
  obtain ⟨Wy, hwy, h6, f6⟩ := sE (br + 1) 29 [(0, .int .u64 0), (1, .int .u64 0), (2, .int .u64 0), (3, .int .u64 0)] Wz _ hrs2
  simp only [List.foldl, List.setIfInBounds_toArray, List.set_cons_zero, List.set_cons_succ] at h6
  simp only [setsF] at hwy
  have hWy := hwy
  rw [hwy]
  have h7 := f6.heap h5 (by simp)
  have u0 := cR 0 (.int .i64 0) h7
  have u1 := cR 1 (.string ⟨#[]⟩) h7
  have u2 := cR 2 (.int .i64 0) h7
  have u3 := cR 3 (.int .i64 0) h7
  have u4 := cR 4 (.int .i64 0) h7
  have u5 := cR 5 (.int .i64 0) h7
  have u6 := cR 6 (.string ⟨#[]⟩) h7
  have u7 := cR 7 (.slice none 0 0) h7
  have u8 := cR 8 (.int .i64 0) h7
  have u9 := cR 9 (.int .i64 0) h7
  have u10 := cR 10 (.int .i64 0) h7
  have u11 := cR 11 (.slice none 0 0) h7
  have u12 := cR 12 (.slice none 0 0) h7
  have k0 := cR 0 (.int .u64 0) h6
  have k1 := cR 1 (.int .u64 0) h6
  have k2 := cR 2 (.int .u64 0) h6
  have k3 := cR 3 (.int .u64 0) h6
  refine bodyPost_ret (v := .tuple #[.agg #[.int .i64 0, .string ⟨#[]⟩, .int .i64 0, .int .i64 0, .int .i64 0, .int .i64 0, .string ⟨#[]⟩, .slice none 0 0, .int .i64 0, .int .i64 0, .int .i64 0, .slice none 0 0, .slice none 0 0], .int .i64 0, .agg #[.int .u64 0, .int .u64 0, .int .u64 0, .int .u64 0], .int .i64 200]) (by simp [results, Tryz.results36, go_sem, u0, u1, u2, u3, u4, u5, u6, u7, u8, u9, u10, u11, u12, k0, k1, k2, k3]) rfl ?_
  exact HPB.out _ _ ⟨HEE.out, by decide⟩ (((HFR.out.trans HFD.out (by simp)).trans f5 (fun i hi hl => by rw [List.mem_singleton] at hi; have := HBL.out; omega)).trans f6 (fun i hi hl => by rw [List.mem_singleton] at hi; have := HBL.out; omega))
 have dM2 := decide_eq_false hM2
 by_cases h37 : (n : Int) < 37 + M
 case pos =>
  have HEE : Hid (dcE ⟨s0, s1, s2, s3⟩ bs = 10) := hid (by exact dcE_sp (by unfold spE; rw [if_neg (by rw [HLN.out]; omega), if_neg (by rw [HSPK.out, HSPM.out]; omega), if_pos (by rw [HSPM.out, HLN.out]; exact h37)]) (by decide))
  have hrr := HRR.out wd HFD.out
  have hrs := HRS.out wd HFD.out
  have z0 := cR 0 (.int .i64 0) hrr
  have y0 := fZ 0 hrr
  have z1 := cR 1 (.string ⟨#[]⟩) hrr
  have y1 := fZ 1 hrr
  have z2 := cR 2 (.int .i64 0) hrr
  have y2 := fZ 2 hrr
  have z3 := cR 3 (.int .i64 0) hrr
  have y3 := fZ 3 hrr
  have z4 := cR 4 (.int .i64 0) hrr
  have y4 := fZ 4 hrr
  have z5 := cR 5 (.int .i64 0) hrr
  have y5 := fZ 5 hrr
  have z6 := cR 6 (.string ⟨#[]⟩) hrr
  have y6 := fZ 6 hrr
  have z7 := cR 7 (.slice none 0 0) hrr
  have y7 := fZ 7 hrr
  have z8 := cR 8 (.int .i64 0) hrr
  have y8 := fZ 8 hrr
  have z9 := cR 9 (.int .i64 0) hrr
  have y9 := fZ 9 hrr
  have z10 := cR 10 (.int .i64 0) hrr
  have y10 := fZ 10 hrr
  have z11 := cR 11 (.slice none 0 0) hrr
  have y11 := fZ 11 hrr
  have z12 := cR 12 (.slice none 0 0) hrr
  have y12 := fZ 12 hrr
  have n0 := cR 0 (.int .u64 0) hrs
  have m0 := fZ 0 hrs
  have n1 := cR 1 (.int .u64 0) hrs
  have m1 := fZ 1 hrs
  have n2 := cR 2 (.int .u64 0) hrs
  have m2 := fZ 2 hrs
  have n3 := cR 3 (.int .u64 0) hrs
  have m3 := fZ 3 hrs
  go_wp2_with fail
  obtain ⟨Wz, hwz, h5, f5⟩ := sE br 26 [(0, .int .i64 0), (1, .string ⟨#[]⟩), (2, .int .i64 0), (3, .int .i64 0), (4, .int .i64 0), (5, .int .i64 0), (6, .string ⟨#[]⟩), (7, .slice none 0 0), (8, .int .i64 0), (9, .int .i64 0), (10, .int .i64 0), (11, .slice none 0 0), (12, .slice none 0 0)] wd _ hrr
  simp only [List.foldl, List.setIfInBounds_toArray, List.set_cons_zero, List.set_cons_succ] at h5
  simp only [setsF] at hwz
  have hWz := hwz
  rw [hwz]
  have hrs2 := f5.heap hrs (by simp)
  obtain ⟨Wy, hwy, h6, f6⟩ := sE (br + 1) 29 [(0, .int .u64 0), (1, .int .u64 0), (2, .int .u64 0), (3, .int .u64 0)] Wz _ hrs2
  simp only [List.foldl, List.setIfInBounds_toArray, List.set_cons_zero, List.set_cons_succ] at h6
  simp only [setsF] at hwy
  have hWy := hwy
  rw [hwy]
  have h7 := f6.heap h5 (by simp)
  have u0 := cR 0 (.int .i64 0) h7
  have u1 := cR 1 (.string ⟨#[]⟩) h7
  have u2 := cR 2 (.int .i64 0) h7
  have u3 := cR 3 (.int .i64 0) h7
  have u4 := cR 4 (.int .i64 0) h7
  have u5 := cR 5 (.int .i64 0) h7
  have u6 := cR 6 (.string ⟨#[]⟩) h7
  have u7 := cR 7 (.slice none 0 0) h7
  have u8 := cR 8 (.int .i64 0) h7
  have u9 := cR 9 (.int .i64 0) h7
  have u10 := cR 10 (.int .i64 0) h7
  have u11 := cR 11 (.slice none 0 0) h7
  have u12 := cR 12 (.slice none 0 0) h7
  have k0 := cR 0 (.int .u64 0) h6
  have k1 := cR 1 (.int .u64 0) h6
  have k2 := cR 2 (.int .u64 0) h6
  have k3 := cR 3 (.int .u64 0) h6
  refine bodyPost_ret (v := .tuple #[.agg #[.int .i64 0, .string ⟨#[]⟩, .int .i64 0, .int .i64 0, .int .i64 0, .int .i64 0, .string ⟨#[]⟩, .slice none 0 0, .int .i64 0, .int .i64 0, .int .i64 0, .slice none 0 0, .slice none 0 0], .int .i64 0, .agg #[.int .u64 0, .int .u64 0, .int .u64 0, .int .u64 0], .int .i64 10]) (by simp [results, Tryz.results36, go_sem, u0, u1, u2, u3, u4, u5, u6, u7, u8, u9, u10, u11, u12, k0, k1, k2, k3]) rfl ?_
  exact HPB.out _ _ ⟨HEE.out, by decide⟩ (((HFR.out.trans HFD.out (by simp)).trans f5 (fun i hi hl => by rw [List.mem_singleton] at hi; have := HBL.out; omega)).trans f6 (fun i hi hl => by rw [List.mem_singleton] at hi; have := HBL.out; omega))
 exact absurd (by unfold spE; rw [if_neg (by rw [HLN.out]; omega), if_neg (by rw [HSPK.out, HSPM.out]; omega), if_neg (by rw [HSPM.out, HLN.out]; exact h37)]) hE
end
end Go.Proofs.YtajfjkfnmmfhmaaGreatDoor
