/- Records: Encode of any record. -/
import Derived.Test.YtajfjkfnmmfhmaaGreatDoorQrah
import Derived.Test.YtajfjkfnmmfhmaaGreatDoorQrak
namespace Go.Proofs.YtajfjkfnmmfhmaaGreatDoor
set_option maxRecDepth 100000
set_option maxHeartbeats 25600000
section
open Go.RowKit Go.Lib
theorem rcMay_1 {r : Rc} (P : List Pr) (K D : List Int) (h : r.kind = 1) : RcMay r P K D ↔ (MayPk r ∧ SameR r r.onlyPackage P [] K [] D []) := by unfold RcMay; rw [if_pos h]
theorem rcMay_2 {r : Rc} (P : List Pr) (K D : List Int) (h : r.kind = 2) : RcMay r P K D ↔ (MayBg r P ∧ SameR r r.onlyBegin P P K [] D []) := by unfold RcMay; rw [if_neg (by omega), if_pos h]
theorem rcMay_3 {r : Rc} (P : List Pr) (K D : List Int) (h : r.kind = 3) : RcMay r P K D ↔ (MayLv r K ∧ SameR r r.onlyLive P [] K K D []) := by unfold RcMay; rw [if_neg (by omega), if_neg (by omega), if_pos h]
theorem rcMay_4 {r : Rc} (P : List Pr) (K D : List Int) (h : r.kind = 4) : RcMay r P K D ↔ (MayNd r K ∧ SameR r r.onlyNode P [] K K D []) := by unfold RcMay; rw [if_neg (by omega), if_neg (by omega), if_neg (by omega), if_pos h]
theorem rcMay_5 {r : Rc} (P : List Pr) (K D : List Int) (h : r.kind = 5) : RcMay r P K D ↔ (MayWr r ∧ SameR r r.onlyWrite P [] K [] D D) := by unfold RcMay; rw [if_neg (by omega), if_neg (by omega), if_neg (by omega), if_neg (by omega), if_pos h]
theorem rcMay_6 {r : Rc} (P : List Pr) (K D : List Int) (h : r.kind = 6) : RcMay r P K D ↔ (MayCn r ∧ SameR r r.onlyCount P [] K [] D []) := by unfold RcMay; rw [if_neg (by omega), if_neg (by omega), if_neg (by omega), if_neg (by omega), if_neg (by omega), if_pos h]
theorem rcMay_7 {r : Rc} (P : List Pr) (K D : List Int) (h : r.kind = 7) : RcMay r P K D ↔ (MayCn r ∧ SameR r r.onlyCount P [] K [] D []) := by unfold RcMay; rw [if_neg (by omega), if_neg (by omega), if_neg (by omega), if_neg (by omega), if_neg (by omega), if_neg (by omega), if_pos h]
theorem rcMay_kind {r : Rc} {P : List Pr} {K D : List Int} (h : RcMay r P K D) : 1 ≤ r.kind ∧ r.kind ≤ 7 := by
 by_cases h1 : r.kind = 1
 ·omega
 by_cases h2 : r.kind = 2
 ·omega
 by_cases h3 : r.kind = 3
 ·omega
 by_cases h4 : r.kind = 4
 ·omega
 by_cases h5 : r.kind = 5
 ·omega
 by_cases h6 : r.kind = 6
 ·omega
 by_cases h7 : r.kind = 7
 ·omega
 unfold RcMay at h
 rw [if_neg h1, if_neg h2, if_neg h3, if_neg h4, if_neg h5, if_neg h6, if_neg h7] at h
 exact h.elim
def bodyR (r : Rc) (P : List Pr) (K D : List Int) : List Int := if r.kind = 1 then bodyPk r else if r.kind = 2 then bodyBg r P else if r.kind = 3 then bodyLv K else if r.kind = 4 then bodyNd r K else if r.kind = 5 then bodyWr r D else bodyCn r
theorem bodyR_1 {r : Rc} (P : List Pr) (K D : List Int) (h : r.kind = 1) : bodyR r P K D = bodyPk r := by unfold bodyR; rw [if_pos h]
theorem bodyR_2 {r : Rc} (P : List Pr) (K D : List Int) (h : r.kind = 2) : bodyR r P K D = bodyBg r P := by unfold bodyR; rw [if_neg (by omega), if_pos h]
theorem bodyR_3 {r : Rc} (P : List Pr) (K D : List Int) (h : r.kind = 3) : bodyR r P K D = bodyLv K := by unfold bodyR; rw [if_neg (by omega), if_neg (by omega), if_pos h]
theorem bodyR_4 {r : Rc} (P : List Pr) (K D : List Int) (h : r.kind = 4) : bodyR r P K D = bodyNd r K := by unfold bodyR; rw [if_neg (by omega), if_neg (by omega), if_neg (by omega), if_pos h]
theorem bodyR_5 {r : Rc} (P : List Pr) (K D : List Int) (h : r.kind = 5) : bodyR r P K D = bodyWr r D := by unfold bodyR; rw [if_neg (by omega), if_neg (by omega), if_neg (by omega), if_neg (by omega), if_pos h]
theorem bodyR_6 {r : Rc} (P : List Pr) (K D : List Int) (h : r.kind = 6) : bodyR r P K D = bodyCn r := by unfold bodyR; rw [if_neg (by omega), if_neg (by omega), if_neg (by omega), if_neg (by omega), if_neg (by omega)]
theorem bodyR_7 {r : Rc} (P : List Pr) (K D : List Int) (h : r.kind = 7) : bodyR r P K D = bodyCn r := by unfold bodyR; rw [if_neg (by omega), if_neg (by omega), if_neg (by omega), if_neg (by omega), if_neg (by omega)]
theorem txF_bd (s : ByteArray) : ∀ z ∈ txF s, 0 ≤ z ∧ z < 256 := by
 intro z hz
 unfold txF at hz
 rcases List.mem_append.1 hz with h | h
 ·exact le_bd _ _ z h
 ·exact tx_bd s z h
theorem kpT_bd (K : List Int) (more : Int) (k : Nat) : ∀ t, ∀ z ∈ kpT K more k t, 0 ≤ z ∧ z < 256
 | 0 => by simp [kpT]
 | t + 1 => by
  intro z hz
  rw [kpT] at hz
  rcases List.mem_append.1 hz with h | h
  ·exact kpT_bd K more k t z h
  ·exact le_bd _ _ z h
theorem prT_bd (P : List Pr) : ∀ t, ∀ z ∈ prT P t, 0 ≤ z ∧ z < 256
 | 0 => by simp [prT]
 | t + 1 => by
  intro z hz
  rw [prT] at hz
  simp only [List.mem_append] at hz
  rcases hz with h | h | h
  ·exact prT_bd P t z h
  ·exact txF_bd _ z h
  ·exact txF_bd _ z h
theorem bodyR_bd (r : Rc) (P : List Pr) (K D : List Int) (hd : ∀ z ∈ D, 0 ≤ z ∧ z < 256) : ∀ z ∈ bodyR r P K D, 0 ≤ z ∧ z < 256 := by
 intro z hz
 unfold bodyR at hz
 split at hz
 ·unfold bodyPk at hz
  simp only [List.mem_append] at hz
  rcases hz with h | h
  ·exact txF_bd _ z h
  ·exact le_bd _ _ z h
 split at hz
 ·unfold bodyBg at hz
  simp only [List.mem_append] at hz
  rcases hz with (((((((h | h) | h) | h) | h) | h) | h) | h)
  ·exact txF_bd _ z h
  ·exact le_bd _ _ z h
  ·exact le_bd _ _ z h
  ·exact le_bd _ _ z h
  ·exact le_bd _ _ z h
  ·exact txF_bd _ z h
  ·exact le_bd _ _ z h
  ·exact prT_bd _ _ z h
 split at hz
 ·unfold bodyLv keepB at hz
  simp only [List.mem_append] at hz
  rcases hz with h | h
  ·exact le_bd _ _ z h
  ·exact kpT_bd _ _ _ _ z h
 split at hz
 ·unfold bodyNd keepB at hz
  simp only [List.mem_append] at hz
  rcases hz with h | h | h
  ·exact le_bd _ _ z h
  ·exact le_bd _ _ z h
  ·exact kpT_bd _ _ _ _ z h
 split at hz
 ·unfold bodyWr at hz
  simp only [List.mem_append] at hz
  rcases hz with (((h | h) | h) | h)
  ·exact le_bd _ _ z h
  ·exact le_bd _ _ z h
  ·exact le_bd _ _ z h
  ·exact hd z h
 ·unfold bodyCn at hz
  exact le_bd _ _ z hz
theorem bodyR_len {r : Rc} {P : List Pr} {K D : List Int} (hm : RcMay r P K D) (hp : P.length = r.pn) (hk : K.length = r.kn) (hd : D.length = r.dl) : (bodyR r P K D).length ≤ 2000 := by
 have h := rcMay_kind hm
 have h7 : r.kind = 1 ∨ r.kind = 2 ∨ r.kind = 3 ∨ r.kind = 4 ∨ r.kind = 5 ∨ r.kind = 6 ∨ r.kind = 7 := by omega
 rcases h7 with h | h | h | h | h | h | h
 ·have m := ((rcMay_1 P K D h).1 hm).1.1.1.2
  rw [tx_length] at m
  rw [bodyR_1 P K D h]; unfold bodyPk; rw [List.length_append, txF_len, le_length]; omega
 ·have m := ((rcMay_2 P K D h).1 hm).1
  have m1 := nm_len m.1
  have m2 := m.2.2.2.2.2.2.1.1.2
  have m3 := m.2.2.2.2.2.2.2
  have m4 := prT_len m.2.1 P.length (Nat.le_refl _)
  have hns : r.name.data.toList.length = r.name.size := rfl
  rw [tx_length] at m2
  rw [bodyR_2 P K D h]; unfold bodyBg; simp only [List.length_append, txF_len, le_length]; omega
 ·have m := ((rcMay_3 P K D h).1 hm).1.1
  rw [bodyR_3 P K D h]; unfold bodyLv; rw [keepB_len]; omega
 ·have m := ((rcMay_4 P K D h).1 hm).1.2.1
  rw [bodyR_4 P K D h]; unfold bodyNd; rw [List.length_append, keepB_len, le_length]; omega
 ·have m := ((rcMay_5 P K D h).1 hm).1.2.2
  rw [bodyR_5 P K D h]; unfold bodyWr; simp only [List.length_append, le_length]; omega
 ·rw [bodyR_6 P K D h]; unfold bodyCn; rw [le_length]; omega
 ·rw [bodyR_7 P K D h]; unfold bodyCn; rw [le_length]; omega
def recB (a : S4) (r : Rc) (P : List Pr) (K D : List Int) : List Int := recL a r.kind (bodyR r P K D)
def selR (a : S4) (r : Rc) (P : List Pr) (K D : List Int) : S4 := sealR a (hbL r.kind (bodyR r P K D))
def EncR (w : World) (a : S4) (r : Rc) (P : List Pr) (K D : List Int) (e : Ending) (w' : World) : Prop := Frm [] w w' ∧ ((¬ RcMay r P K D ∧ e = .returned (.tuple #[.slice none 0 0, .agg S4.z.arr, .int .i64 200])) ∨ (RcMay r P K D ∧ ∃ g n, e = .returned (.tuple #[.slice (some ⟨g, 0, none⟩) n n, .agg (selR a r P K D).arr, .int .i64 0]) ∧ n = (recB a r P K D).length ∧ w'.heap[g]? = some (.cells (bv (recB a r P K D)).toArray 5 (0, 0)) ∧ w.heap.size ≤ g))
theorem encodeR_any (r : Rc) (P : List Pr) (K D : List Int) (a : S4) (ha : a.Bd) (w : World) (hr : RcOk w r P K D) (hs : r.name.size ≤ 9223372036854775806) (hpr : Primes w) :
  Calls Tryz.prog 10 #[.agg r.arr, .agg a.arr] w (EncR w a r P K D) := by
 by_cases hm : RcMay r P K D
 case neg =>
  refine (encode_bad r P K D a w hr hs hm).mono ?_
  rintro e w' ⟨rfl, hf⟩
  exact ⟨hf, Or.inl ⟨hm, rfl⟩⟩
 have hkb := rcMay_kind hm
 have hbl := bodyR_len hm hr.pl hr.kl hr.dn
 have hbb := bodyR_bd r P K D hr.db
 have h7 : r.kind = 1 ∨ r.kind = 2 ∨ r.kind = 3 ∨ r.kind = 4 ∨ r.kind = 5 ∨ r.kind = 6 ∨ r.kind = 7 := by omega
 rcases h7 with h | h | h | h | h | h | h
 ·have e := rcMay_1 P K D h
  have hp := encode_row r P K D a ha 48 49 50 51 (bodyR r P K D) w hr hs hm hkb hpr (hid (fun _ _ => rfl)) (by unfold lkT; rw [h]; rfl) (hid (fun W0 W b A hw _ _ => by rw [bodyR_1 P K D h]; exact putPackage_any W0 W b A hw r (e.1 hm).1)) hbl hbb
  refine hp.mono ?_
  rintro e w' ⟨g, n, rfl, h1, h2, h3, hf⟩
  exact ⟨hf, Or.inr ⟨hm, g, n, rfl, h1, h2, h3⟩⟩
 ·have e := rcMay_2 P K D h
  have hp := encode_row r P K D a ha 52 53 54 55 (bodyR r P K D) w hr hs hm hkb hpr (hid (fun _ _ => rfl)) (by unfold lkT; rw [h]; rfl) (hid (fun W0 W b A hw hok hA => by rw [bodyR_2 P K D h]; exact putBegin_any W0 W b A hw r P K D hok hA (e.1 hm).1)) hbl hbb
  refine hp.mono ?_
  rintro e w' ⟨g, n, rfl, h1, h2, h3, hf⟩
  exact ⟨hf, Or.inr ⟨hm, g, n, rfl, h1, h2, h3⟩⟩
 ·have e := rcMay_3 P K D h
  have hp := encode_row r P K D a ha 56 57 58 59 (bodyR r P K D) w hr hs hm hkb hpr (hid (fun _ _ => rfl)) (by unfold lkT; rw [h]; rfl) (hid (fun W0 W b A hw hok hA => by rw [bodyR_3 P K D h]; exact putLive_any W0 W b A hw r P K D hok hA (e.1 hm).1)) hbl hbb
  refine hp.mono ?_
  rintro e w' ⟨g, n, rfl, h1, h2, h3, hf⟩
  exact ⟨hf, Or.inr ⟨hm, g, n, rfl, h1, h2, h3⟩⟩
 ·have e := rcMay_4 P K D h
  have hp := encode_row r P K D a ha 60 61 62 63 (bodyR r P K D) w hr hs hm hkb hpr (hid (fun _ _ => rfl)) (by unfold lkT; rw [h]; rfl) (hid (fun W0 W b A hw hok hA => by rw [bodyR_4 P K D h]; exact putNode_any W0 W b A hw r P K D hok hA (e.1 hm).1)) hbl hbb
  refine hp.mono ?_
  rintro e w' ⟨g, n, rfl, h1, h2, h3, hf⟩
  exact ⟨hf, Or.inr ⟨hm, g, n, rfl, h1, h2, h3⟩⟩
 ·have e := rcMay_5 P K D h
  have hp := encode_row r P K D a ha 64 65 66 67 (bodyR r P K D) w hr hs hm hkb hpr (hid (fun _ _ => rfl)) (by unfold lkT; rw [h]; rfl) (hid (fun W0 W b A hw hok hA => by rw [bodyR_5 P K D h]; exact putWrite_any W0 W b A hw r P K D hok hA (e.1 hm).1)) hbl hbb
  refine hp.mono ?_
  rintro e w' ⟨g, n, rfl, h1, h2, h3, hf⟩
  exact ⟨hf, Or.inr ⟨hm, g, n, rfl, h1, h2, h3⟩⟩
 ·have e := rcMay_6 P K D h
  have hp := encode_row r P K D a ha 44 45 46 47 (bodyR r P K D) w hr hs hm hkb hpr (hid (fun _ _ => rfl)) (by unfold lkT; rw [h]; rfl) (hid (fun W0 W b A hw _ _ => by rw [bodyR_6 P K D h]; exact putCount_any W0 W b A hw r (e.1 hm).1)) hbl hbb
  refine hp.mono ?_
  rintro e w' ⟨g, n, rfl, h1, h2, h3, hf⟩
  exact ⟨hf, Or.inr ⟨hm, g, n, rfl, h1, h2, h3⟩⟩
 ·have e := rcMay_7 P K D h
  have hp := encode_row r P K D a ha 44 45 46 47 (bodyR r P K D) w hr hs hm hkb hpr (hid (fun _ _ => rfl)) (by unfold lkT; rw [h]; rfl) (hid (fun W0 W b A hw _ _ => by rw [bodyR_7 P K D h]; exact putCount_any W0 W b A hw r (e.1 hm).1)) hbl hbb
  refine hp.mono ?_
  rintro e w' ⟨g, n, rfl, h1, h2, h3, hf⟩
  exact ⟨hf, Or.inr ⟨hm, g, n, rfl, h1, h2, h3⟩⟩
end
section
open Go.RowKit Go.Lib
theorem nuS_fit {bs : List Int} {pos : Nat} {n : Int} {k : Nat} {r : List Int} (h : bs.drop pos = le n k ++ r) (hn : 0 ≤ n) (hf : n < 2 ^ (8 * k)) (hk1 : 1 ≤ k) (hk8 : k ≤ 8) : nuS bs (pos, 0) (k : Int) = (n, pos + k, 0) ∧ bs.drop (pos + k) = r := by
 have h0 : n / 2 ^ (8 * k) = 0 := Int.ediv_eq_zero_of_lt hn hf
 have e : numT (bs.drop pos) (k : Int) = (n, k, 0) := by
  rw [h]
  unfold numT
  rw [if_neg (by omega), if_neg (by simp [le_length]; omega), Int.toNat_natCast, List.take_append_of_le_length (by simp [le_length]), List.take_of_length_le (by simp [le_length]), leV_fit _ _ hn h0]
 refine ⟨?_, by rw [← List.drop_drop, h, List.drop_append_of_le_length (by simp [le_length]), List.drop_of_length_le (by simp [le_length])]; rfl⟩
 unfold nuS
 rw [readS_ok, e]
 rfl
theorem txS_fit {bs : List Int} {pos : Nat} {s : ByteArray} {r : List Int} (h : bs.drop pos = txF s ++ r) {m : Int} (hs : (s.size : Int) ≤ m) (hm : m ≤ 65535) : txS bs (pos, 0) m = (tx s, pos + (2 + s.size), 0) ∧ bs.drop (pos + (2 + s.size)) = r := by
 have h2 : leV (le (s.size : Int) 2) = s.size := leV_fit _ _ (by omega) (by omega)
 have e : textT (bs.drop pos) m = (tx s, 2 + s.size, 0) := by
  rw [h]
  unfold txF
  have e3 : (le (s.size : Int) 2 ++ tx s ++ r).take 2 = le (s.size : Int) 2 := by
   rw [List.append_assoc, List.take_append_of_le_length (by simp [le_length]), List.take_of_length_le (by simp [le_length])]
  unfold textT
  rw [e3, h2, if_neg (by simp [le_length]), if_neg (by omega), Int.toNat_natCast, if_neg (by simp [le_length, tx_length])]
  have e4 : (le (s.size : Int) 2 ++ tx s ++ r).drop 2 = tx s ++ r := by
   rw [List.append_assoc, List.drop_append_of_le_length (by simp [le_length]), List.drop_of_length_le (by simp [le_length])]; rfl
  rw [e4, List.take_append_of_le_length (by simp [tx_length]), List.take_of_length_le (by simp [tx_length])]
 refine ⟨?_, by rw [← List.drop_drop, h, List.drop_append_of_le_length (by simp [txF_len]), List.drop_of_length_le (by simp [txF_len])]; rfl⟩
 unfold txS
 rw [readS_ok, e]
 rfl
theorem byS_fit {bs : List Int} {pos : Nat} {ds : List Int} {k : Nat} {r : List Int} (h : bs.drop pos = ds ++ r) (hl : ds.length = k) : byS bs (pos, 0) (k : Int) = (ds, pos + k, 0) ∧ bs.drop (pos + k) = r := by
 have e : bytesT (bs.drop pos) (k : Int) = (ds, k, 0) := by
  rw [h]
  unfold bytesT
  rw [if_neg (by omega), if_neg (by simp [hl]; omega), Int.toNat_natCast, List.take_append_of_le_length (by omega), List.take_of_length_le (by omega)]
 refine ⟨?_, by rw [← List.drop_drop, h, List.drop_append_of_le_length (by omega), List.drop_of_length_le (by omega)]; rfl⟩
 unfold byS
 rw [readS_ok, e]
 rfl
theorem app_nil_r {a : List Int} {pos : Nat} (h : pos = 0) : a.drop pos = a ++ [] := by rw [h]; simp
theorem tvCn_fit {n : Int} (h : 1 ≤ n ∧ n ≤ 1048576) : tvCn (le n 4) = ⟨⟨0, ⟨#[]⟩, 0, 0, 0, 0, ⟨#[]⟩, none, 0, 0, 0, 0, n, none, 0, 0, none, 0, 0⟩, [], [], [], (4, 0)⟩ := by
 have h1 := (nuS_fit (bs := le n 4) (pos := 0) (r := []) (app_nil_r rfl) (by omega) (by omega) (by omega) (by omega)).1
 have h2 : nuS (le n 4) (0, 0) 4 = (n, 0 + 4, 0) := h1
 unfold tvCn
 rw [h2]
theorem tvPk_fit {s : ByteArray} {n : Int} (hs : s.size ≤ 24) (h : 1 ≤ n ∧ n ≤ 120) : tvPk (txF s ++ le n 2) = ⟨⟨0, s, 0, 0, 0, 0, ⟨#[]⟩, none, 0, 0, 0, 0, n, none, 0, 0, none, 0, 0⟩, [], [], [], ((txF s ++ le n 2).length, 0)⟩ := by
 obtain ⟨h1, h2⟩ := txS_fit (bs := txF s ++ le n 2) (pos := 0) (s := s) (r := le n 2) rfl (m := 240) (by omega) (by omega)
 have h3 := (nuS_fit (bs := txF s ++ le n 2) (pos := 0 + (2 + s.size)) (n := n) (k := 2) (r := []) (by rw [h2]; simp) (by omega) (by omega) (by omega) (by omega)).1
 have h4 : nuS (txF s ++ le n 2) (0 + (2 + s.size), 0) 2 = (n, 0 + (2 + s.size) + 2, 0) := h3
 unfold tvPk
 rw [h1, h4, str_txB, List.length_append, txF_len, le_length]
 simp
theorem kpT_drop (K : List Int) (more : Int) (k : Nat) : ∀ (N t : Nat), t < N → (kpT K more k N).drop (k * t) = le (zA K t + more) k ++ (kpT K more k N).drop (k * (t + 1))
 | 0, t, h => by omega
 | N + 1, t, h => by
  have hl := kpT_len K more k N
  by_cases ht : t < N
  ·have ih := kpT_drop K more k N t ht
   have h1 : k * t ≤ k * N := Nat.mul_le_mul_left _ (by omega)
   have h2 : k * (t + 1) ≤ k * N := Nat.mul_le_mul_left _ (by omega)
   rw [kpT, List.drop_append_of_le_length (by omega), List.drop_append_of_le_length (by omega), ih, List.append_assoc]
  ·obtain rfl : t = N := by omega
   rw [kpT, List.drop_append_of_le_length (by omega), List.drop_of_length_le (by omega), List.nil_append, List.drop_of_length_le (l := kpT K more k t ++ le (zA K t + more) k) (by rw [List.length_append, hl, le_length, Nat.mul_add, Nat.mul_one]; exact Nat.le_refl _), List.append_nil]
theorem take_zA {K : List Int} {t : Nat} (h : t < K.length) : K.take t ++ [zA K t] = K.take (t + 1) := by
 rw [List.take_succ_eq_append_getElem h]
 congr 2
 unfold zA
 simp [List.getD, h]
theorem kpS_fit {bs : List Int} {pos : Nat} {K : List Int} {more : Int} {k : Nat} {r : List Int} (h : bs.drop pos = kpT K more k K.length ++ r) (hK : ∀ i, i < K.length → 0 ≤ zA K i + more ∧ zA K i + more < 2 ^ (8 * k)) (hk1 : 1 ≤ k) (hk8 : k ≤ 8) :
  ∀ t, t ≤ K.length → kpS bs more (k : Int) (pos, 0) t = (K.take t, (pos + k * t, 0)) ∧ bs.drop (pos + k * t) = (kpT K more k K.length).drop (k * t) ++ r
 | 0, _ => by refine ⟨by simp [kpS], by simpa using h⟩
 | t + 1, ht => by
  obtain ⟨h1, h2⟩ := kpS_fit h hK hk1 hk8 t (by omega)
  rw [kpT_drop K more k K.length t (by omega), List.append_assoc] at h2
  obtain ⟨h3, h4⟩ := nuS_fit h2 (hK t (by omega)).1 (hK t (by omega)).2 hk1 hk8
  have e : pos + k * (t + 1) = pos + k * t + k := by rw [Nat.mul_add, Nat.mul_one]; omega
  refine ⟨?_, by rw [e]; exact h4⟩
  rw [kpS, h1, h3, e]
  simp only [Int.add_sub_cancel]
  rw [take_zA (by omega)]
theorem tkK_fit {bs : List Int} {pos : Nat} {K : List Int} {more : Int} {k : Nat} (h : bs.drop pos = keepB K more k) (hK : ∀ i, i < K.length → 0 ≤ zA K i + more ∧ zA K i + more < 2 ^ (8 * k)) (hk1 : 1 ≤ k) (hk8 : k ≤ 8) (hn : K.length ≤ 240) (hp : pos ≤ bs.length) : tkK bs more k (pos, 0) = (K, (bs.length, 0)) := by
 have hbl : bs.length = pos + (2 + k * K.length) := by
  have h1 := congrArg List.length h
  rw [List.length_drop, keepB_len] at h1
  omega
 unfold keepB at h
 obtain ⟨h1, h2⟩ := nuS_fit h (by omega) (by omega) (by omega) (by omega)
 have h1' : nuS bs (pos, 0) 2 = ((K.length : Int), pos + 2, 0) := h1
 have hN : kpN bs k (pos, 0) = K.length := by
  unfold kpN
  rw [h1', Int.toNat_natCast]
  have e : bs.length - (pos + 2) = k * K.length := by omega
  show min K.length ((bs.length - (pos + 2)) / k + 1) = K.length
  rw [e, Nat.mul_div_cancel_left _ (by omega)]
  omega
 unfold tkK
 rw [hN, h1']
 have h3 := (kpS_fit (r := []) (by rw [h2]; simp) hK hk1 hk8 K.length (Nat.le_refl _)).1
 rw [h3, List.take_length, hbl]
 congr 2
 omega
theorem prT_drop (P : List Pr) : ∀ (N t : Nat), t < N → (prT P N).drop (prT P t).length = txF (prA P t).1 ++ (txF (prA P t).2 ++ (prT P N).drop (prT P (t + 1)).length)
 | 0, t, h => by omega
 | N + 1, t, h => by
  have hmono : ∀ a b : Nat, a ≤ b → (prT P a).length ≤ (prT P b).length := fun a b hab => by
   induction b with
   | zero => rw [show a = 0 by omega]; exact Nat.le_refl _
   | succ b ih =>
    by_cases hb : a = b + 1
    ·rw [hb]; exact Nat.le_refl _
    ·have h1 := ih (by omega)
     rw [prT, List.length_append]
     omega
  by_cases ht : t < N
  ·have ih := prT_drop P N t ht
   have h1 := hmono t N (by omega)
   have h2 := hmono (t + 1) N (by omega)
   rw [show prT P (N + 1) = prT P N ++ (txF (prA P N).1 ++ txF (prA P N).2) from rfl, List.drop_append_of_le_length h1, List.drop_append_of_le_length h2, ih]
   simp only [List.append_assoc]
  ·obtain rfl : t = N := by omega
   have e : prT P (t + 1) = prT P t ++ (txF (prA P t).1 ++ txF (prA P t).2) := rfl
   rw [List.drop_of_length_le (l := prT P (t + 1)) (Nat.le_refl _), e, List.drop_append_of_le_length (Nat.le_refl _), List.drop_of_length_le (Nat.le_refl _), List.nil_append, List.append_nil]
theorem take_prA {P : List Pr} {t : Nat} (h : t < P.length) : P.take t ++ [prA P t] = P.take (t + 1) := by
 rw [List.take_succ_eq_append_getElem h, prA_get h]
theorem prS_fit {bs : List Int} {pos : Nat} {P : List Pr} {r : List Int} (h : bs.drop pos = prT P P.length ++ r) (hP : PropsOk P) :
  ∀ t, t ≤ P.length → prS bs (pos, 0) t = (P.take t, (pos + (prT P t).length, 0)) ∧ bs.drop (pos + (prT P t).length) = (prT P P.length).drop (prT P t).length ++ r
 | 0, _ => by refine ⟨by simp [prS, prT], by simpa [prT] using h⟩
 | t + 1, ht => by
  obtain ⟨h1, h2⟩ := prS_fit h hP t (by omega)
  rw [prT_drop P P.length t (by omega), List.append_assoc, List.append_assoc] at h2
  have m1 := (hP t (by omega)).1.1.2
  have m2 := (hP t (by omega)).2.1.1.2
  rw [tx_length] at m1 m2
  obtain ⟨h3, h4⟩ := txS_fit h2 (m := 240) (by omega) (by omega)
  obtain ⟨h5, h6⟩ := txS_fit h4 (m := 240) (by omega) (by omega)
  have e : pos + (prT P (t + 1)).length = pos + (prT P t).length + (2 + (prA P t).1.size) + (2 + (prA P t).2.size) := by
   rw [prT, List.length_append, List.length_append, txF_len, txF_len]; omega
  refine ⟨?_, by rw [e]; exact h6⟩
  rw [prS, h1, h3]
  simp only
  rw [h5, e, str_txB, str_txB]
  simp only
  rw [show ((prA P t).1, (prA P t).2) = prA P t from rfl, take_prA (by omega)]
theorem tvLv_fit {K : List Int} (hK : ∀ i, i < K.length → 1 ≤ zA K i ∧ zA K i ≤ 1048576) (hn : K.length ≤ 240) : tvLv (keepB K 0 4) = ⟨⟨0, ⟨#[]⟩, 0, 0, 0, 0, ⟨#[]⟩, none, 0, 0, 0, 0, 0, none, 0, 0, none, 0, 0⟩, [], K, [], ((keepB K 0 4).length, 0)⟩ := by
 have h := tkK_fit (bs := keepB K 0 4) (pos := 0) (K := K) (more := 0) (k := 4) rfl (fun i hi => ⟨by have := hK i hi; omega, by have := hK i hi; simp; omega⟩) (by omega) (by omega) hn (Nat.zero_le _)
 unfold tvLv
 rw [h]
theorem tvNd_fit {n : Int} {K : List Int} (h : 1 ≤ n ∧ n ≤ 1048576) (hK : ∀ i, i < K.length → -1 ≤ zA K i ∧ zA K i ≤ 255) (hn : K.length ≤ 240) : tvNd (le n 4 ++ keepB K 1 2) = ⟨⟨0, ⟨#[]⟩, 0, 0, 0, 0, ⟨#[]⟩, none, 0, 0, n, 0, 0, none, 0, 0, none, 0, 0⟩, [], K, [], ((le n 4 ++ keepB K 1 2).length, 0)⟩ := by
 obtain ⟨h1, h2⟩ := nuS_fit (bs := le n 4 ++ keepB K 1 2) (pos := 0) (n := n) (k := 4) (r := keepB K 1 2) rfl (by omega) (by omega) (by omega) (by omega)
 have h1' : nuS (le n 4 ++ keepB K 1 2) (0, 0) 4 = (n, 0 + 4, 0) := h1
 have h3 := tkK_fit (bs := le n 4 ++ keepB K 1 2) (pos := 0 + 4) (K := K) (more := 1) (k := 2) h2 (fun i hi => ⟨by have := hK i hi; omega, by have := hK i hi; simp; omega⟩) (by omega) (by omega) hn (by rw [List.length_append, le_length]; omega)
 unfold tvNd
 rw [h1', h3]
theorem tvWr_fit {n m : Int} {D : List Int} (h : 1 ≤ n ∧ n ≤ 1048576) (hm : -1 ≤ m ∧ m ≤ 255) (hd : D.length ≤ 256) : tvWr (le n 4 ++ le (m + 1) 2 ++ le (D.length : Int) 2 ++ D) = ⟨⟨0, ⟨#[]⟩, 0, 0, 0, 0, ⟨#[]⟩, none, 0, 0, n, m, 0, none, 0, 0, none, 0, 0⟩, [], [], D, ((le n 4 ++ le (m + 1) 2 ++ le (D.length : Int) 2 ++ D).length, 0)⟩ := by
 obtain ⟨B, hB⟩ := eX (le n 4 ++ le (m + 1) 2 ++ le (D.length : Int) 2 ++ D)
 have h0 : B.drop 0 = le n 4 ++ (le (m + 1) 2 ++ (le (D.length : Int) 2 ++ D)) := by rw [← hB]; simp only [List.append_assoc, List.drop_zero]
 have hlen : B.length = 0 + 4 + 2 + 2 + D.length := by rw [← hB]; simp only [List.length_append, le_length]
 rw [hB]
 obtain ⟨h1, h2⟩ := nuS_fit h0 (by omega) (by omega) (by omega) (by omega)
 obtain ⟨h3, h4⟩ := nuS_fit h2 (by omega) (by omega) (by omega) (by omega)
 obtain ⟨h5, h6⟩ := nuS_fit h4 (by omega) (by omega) (by omega) (by omega)
 obtain ⟨h7, _⟩ := byS_fit (ds := D) (k := D.length) (r := []) (by rw [h6]; simp) rfl
 have e1 : nuS B (0, 0) 4 = (n, 0 + 4, 0) := h1
 have e2 : nuS B (0 + 4, 0) 2 = (m + 1, 0 + 4 + 2, 0) := h3
 have e3 : nuS B (0 + 4 + 2, 0) 2 = ((D.length : Int), 0 + 4 + 2 + 2, 0) := h5
 unfold tvWr
 rw [e1]
 simp only
 rw [e2]
 simp only
 rw [e3]
 simp only
 rw [h7, hlen, Int.add_sub_cancel]
theorem tvBg_fit {r : Rc} {P : List Pr} (hm : MayBg r P) (hp : P.length = r.pn) : tvBg (bodyBg r P) = ⟨⟨0, r.name, r.typ, r.frm, r.guid, r.origin, r.snap, none, 0, 0, 0, 0, 0, none, 0, 0, none, 0, 0⟩, P, [], [], ((bodyBg r P).length, 0)⟩ := by
 obtain ⟨hnm, hpo, m1, ⟨m2, m3⟩, ⟨m4, m5⟩, m6, hsn, m8⟩ := hm
 have mn := nm_len hnm
 have hns : r.name.data.toList.length = r.name.size := rfl
 rw [hns] at mn
 have msn := hsn.1.2
 rw [tx_length] at msn
 obtain ⟨B, hB⟩ := eX (bodyBg r P)
 have h0 : B.drop 0 = txF r.name ++ (le r.typ 1 ++ (le r.frm 6 ++ (le r.guid 6 ++ (le r.origin 1 ++ (txF r.snap ++ (le (r.pn : Int) 1 ++ prT P P.length)))))) := by rw [← hB]; unfold bodyBg; simp only [List.append_assoc, List.drop_zero]
 have hlen : B.length = 0 + (2 + r.name.size) + 1 + 6 + 6 + 1 + (2 + r.snap.size) + 1 + (prT P P.length).length := by rw [← hB]; unfold bodyBg; simp only [List.length_append, le_length, txF_len]; omega
 rw [hB]
 obtain ⟨a1, h1⟩ := txS_fit h0 (m := 240) (by omega) (by omega)
 obtain ⟨a2, h2⟩ := nuS_fit h1 (by omega) (by omega) (by omega) (by omega)
 obtain ⟨a3, h3⟩ := nuS_fit h2 (by omega) (by omega) (by omega) (by omega)
 obtain ⟨a4, h4⟩ := nuS_fit h3 (by omega) (by omega) (by omega) (by omega)
 obtain ⟨a5, h5⟩ := nuS_fit h4 (by omega) (by omega) (by omega) (by omega)
 obtain ⟨a6, h6⟩ := txS_fit h5 (m := 240) (by omega) (by omega)
 obtain ⟨a7, h7⟩ := nuS_fit h6 (by omega) (by omega) (by omega) (by omega)
 have a8 := (prS_fit (r := []) (by rw [h7]; simp) hpo P.length (Nat.le_refl _)).1
 have e1 : g1 B = (tx r.name, 0 + (2 + r.name.size), 0) := a1
 have e2 : g2 B = (r.typ, 0 + (2 + r.name.size) + 1, 0) := by unfold g2; rw [e1]; exact a2
 have e3 : g3 B = (r.frm, 0 + (2 + r.name.size) + 1 + 6, 0) := by unfold g3; rw [e2]; exact a3
 have e4 : g4 B = (r.guid, 0 + (2 + r.name.size) + 1 + 6 + 6, 0) := by unfold g4; rw [e3]; exact a4
 have e5 : g5 B = (r.origin, 0 + (2 + r.name.size) + 1 + 6 + 6 + 1, 0) := by unfold g5; rw [e4]; exact a5
 have e6 : g6 B = (tx r.snap, 0 + (2 + r.name.size) + 1 + 6 + 6 + 1 + (2 + r.snap.size), 0) := by unfold g6; rw [e5]; exact a6
 have e7 : g7 B = ((r.pn : Int), 0 + (2 + r.name.size) + 1 + 6 + 6 + 1 + (2 + r.snap.size) + 1, 0) := by unfold g7; rw [e6]; exact a7
 have e8 : g8 B = (P, (B.length, 0)) := by
  unfold g8
  rw [e7, Int.toNat_natCast, ← hp, a8, List.take_length, hlen]
 unfold tvBg
 rw [e1, e2, e3, e4, e5, e6, e8, str_txB, str_txB]
theorem tv_back {r : Rc} {P : List Pr} {K D : List Int} (hm : RcMay r P K D) (hp : P.length = r.pn) (hk : K.length = r.kn) (hd : D.length = r.dl) :
  (tvK r.kind (bodyR r P K D)).p = P ∧ (tvK r.kind (bodyR r P K D)).k = K ∧ (tvK r.kind (bodyR r P K D)).d = D ∧ (tvK r.kind (bodyR r P K D)).s = ((bodyR r P K D).length, 0) ∧ ((tvK r.kind (bodyR r P K D)).rc r.kind).core = r.core := by
 have h := rcMay_kind hm
 have h7 : r.kind = 1 ∨ r.kind = 2 ∨ r.kind = 3 ∨ r.kind = 4 ∨ r.kind = 5 ∨ r.kind = 6 ∨ r.kind = 7 := by omega
 rcases h7 with h | h | h | h | h | h | h
 ·obtain ⟨m, s⟩ := (rcMay_1 P K D h).1 hm
  obtain ⟨_, s1, s2, s3, s4, s5, s6, s7, s8, s9, s10, s11, s12⟩ := s
  have e : tvK r.kind (bodyR r P K D) = ⟨⟨0, r.name, 0, 0, 0, 0, ⟨#[]⟩, none, 0, 0, 0, 0, r.many, none, 0, 0, none, 0, 0⟩, [], [], [], ((bodyPk r).length, 0)⟩ := by
   rw [bodyR_1 P K D h, h]
   exact tvPk_fit (by have := m.1.1.2; rw [tx_length] at this; exact this) m.2
  rw [e]
  refine ⟨s7.symm, s11.symm, s12.symm, by rw [bodyR_1 P K D h], ?_⟩
  unfold TkV.rc Rc.core
  simp only [Rc.mk.injEq]
  and_intros <;> first | exact True.intro | rfl | exact s1.symm | exact s2.symm | exact s3.symm | exact s4.symm | exact s5.symm | exact s6.symm | exact s8.symm | exact s9.symm | exact s10.symm
 ·obtain ⟨m, s⟩ := (rcMay_2 P K D h).1 hm
  obtain ⟨_, s1, s2, s3, s4, s5, s6, s7, s8, s9, s10, s11, s12⟩ := s
  have e : tvK r.kind (bodyR r P K D) = ⟨⟨0, r.name, r.typ, r.frm, r.guid, r.origin, r.snap, none, 0, 0, 0, 0, 0, none, 0, 0, none, 0, 0⟩, P, [], [], ((bodyBg r P).length, 0)⟩ := by
   rw [bodyR_2 P K D h, h]
   exact tvBg_fit m hp
  rw [e]
  refine ⟨rfl, s11.symm, s12.symm, by rw [bodyR_2 P K D h], ?_⟩
  unfold TkV.rc Rc.core
  simp only [Rc.mk.injEq]
  and_intros <;> first | exact True.intro | rfl | exact s1.symm | exact s2.symm | exact s3.symm | exact s4.symm | exact s5.symm | exact s6.symm | exact s8.symm | exact s9.symm | exact s10.symm
 ·obtain ⟨m, s⟩ := (rcMay_3 P K D h).1 hm
  obtain ⟨_, s1, s2, s3, s4, s5, s6, s7, s8, s9, s10, s11, s12⟩ := s
  have e : tvK r.kind (bodyR r P K D) = ⟨⟨0, ⟨#[]⟩, 0, 0, 0, 0, ⟨#[]⟩, none, 0, 0, 0, 0, 0, none, 0, 0, none, 0, 0⟩, [], K, [], ((bodyLv K).length, 0)⟩ := by
   rw [bodyR_3 P K D h, h]
   exact tvLv_fit (rise_bd m.2) (by have := m.1; omega)
  rw [e]
  refine ⟨s7.symm, rfl, s12.symm, by rw [bodyR_3 P K D h], ?_⟩
  unfold TkV.rc Rc.core
  simp only [Rc.mk.injEq]
  and_intros <;> first | exact True.intro | rfl | exact s1.symm | exact s2.symm | exact s3.symm | exact s4.symm | exact s5.symm | exact s6.symm | exact s8.symm | exact s9.symm | exact s10.symm
 ·obtain ⟨m, s⟩ := (rcMay_4 P K D h).1 hm
  obtain ⟨_, s1, s2, s3, s4, s5, s6, s7, s8, s9, s10, s11, s12⟩ := s
  have e : tvK r.kind (bodyR r P K D) = ⟨⟨0, ⟨#[]⟩, 0, 0, 0, 0, ⟨#[]⟩, none, 0, 0, r.obj, 0, 0, none, 0, 0, none, 0, 0⟩, [], K, [], ((bodyNd r K).length, 0)⟩ := by
   rw [bodyR_4 P K D h, h]
   exact tvNd_fit m.1 (rise_bd m.2.2) (by have := m.2.1; omega)
  rw [e]
  refine ⟨s7.symm, rfl, s12.symm, by rw [bodyR_4 P K D h], ?_⟩
  unfold TkV.rc Rc.core
  simp only [Rc.mk.injEq]
  and_intros <;> first | exact True.intro | rfl | exact s1.symm | exact s2.symm | exact s3.symm | exact s4.symm | exact s5.symm | exact s6.symm | exact s8.symm | exact s9.symm | exact s10.symm
 ·obtain ⟨m, s⟩ := (rcMay_5 P K D h).1 hm
  obtain ⟨_, s1, s2, s3, s4, s5, s6, s7, s8, s9, s10, s11, s12⟩ := s
  have e : tvK r.kind (bodyR r P K D) = ⟨⟨0, ⟨#[]⟩, 0, 0, 0, 0, ⟨#[]⟩, none, 0, 0, r.obj, r.at_, 0, none, 0, 0, none, 0, 0⟩, [], [], D, ((bodyWr r D).length, 0)⟩ := by
   rw [bodyR_5 P K D h, h]
   exact by unfold bodyWr; rw [← hd]; exact tvWr_fit m.1 m.2.1 (by have := m.2.2; omega)
  rw [e]
  refine ⟨s7.symm, s11.symm, rfl, by rw [bodyR_5 P K D h], ?_⟩
  unfold TkV.rc Rc.core
  simp only [Rc.mk.injEq]
  and_intros <;> first | exact True.intro | rfl | exact s1.symm | exact s2.symm | exact s3.symm | exact s4.symm | exact s5.symm | exact s6.symm | exact s8.symm | exact s9.symm | exact s10.symm
 ·obtain ⟨m, s⟩ := (rcMay_6 P K D h).1 hm
  obtain ⟨_, s1, s2, s3, s4, s5, s6, s7, s8, s9, s10, s11, s12⟩ := s
  have e : tvK r.kind (bodyR r P K D) = ⟨⟨0, ⟨#[]⟩, 0, 0, 0, 0, ⟨#[]⟩, none, 0, 0, 0, 0, r.many, none, 0, 0, none, 0, 0⟩, [], [], [], ((bodyCn r).length, 0)⟩ := by
   rw [bodyR_6 P K D h, h]
   exact tvCn_fit m
  rw [e]
  refine ⟨s7.symm, s11.symm, s12.symm, by rw [bodyR_6 P K D h], ?_⟩
  unfold TkV.rc Rc.core
  simp only [Rc.mk.injEq]
  and_intros <;> first | exact True.intro | rfl | exact s1.symm | exact s2.symm | exact s3.symm | exact s4.symm | exact s5.symm | exact s6.symm | exact s8.symm | exact s9.symm | exact s10.symm
 ·obtain ⟨m, s⟩ := (rcMay_7 P K D h).1 hm
  obtain ⟨_, s1, s2, s3, s4, s5, s6, s7, s8, s9, s10, s11, s12⟩ := s
  have e : tvK r.kind (bodyR r P K D) = ⟨⟨0, ⟨#[]⟩, 0, 0, 0, 0, ⟨#[]⟩, none, 0, 0, 0, 0, r.many, none, 0, 0, none, 0, 0⟩, [], [], [], ((bodyCn r).length, 0)⟩ := by
   rw [bodyR_7 P K D h, h]
   exact tvCn_fit m
  rw [e]
  refine ⟨s7.symm, s11.symm, s12.symm, by rw [bodyR_7 P K D h], ?_⟩
  unfold TkV.rc Rc.core
  simp only [Rc.mk.injEq]
  and_intros <;> first | exact True.intro | rfl | exact s1.symm | exact s2.symm | exact s3.symm | exact s4.symm | exact s5.symm | exact s6.symm | exact s8.symm | exact s9.symm | exact s10.symm
theorem okB_back {r : Rc} {P : List Pr} {K D : List Int} (hm : RcMay r P K D) (hp : P.length = r.pn) (hk : K.length = r.kn) (hd : D.length = r.dl) : okB r.kind (bodyR r P K D) := by
 obtain ⟨h1, h2, h3, h4, h5⟩ := tv_back hm hp hk hd
 unfold okB
 rw [h1, h2, h3, h4]
 refine ⟨by unfold doneS; rw [if_neg (by omega)], ?_⟩
 refine (rcMay_core h5 ?_ ?_ ?_).2 hm
 ·show (tvK r.kind (bodyR r P K D)).p.length = _; rw [h1, hp]
 ·show (tvK r.kind (bodyR r P K D)).k.length = _; rw [h2, hk]
 ·show (tvK r.kind (bodyR r P K D)).d.length = _; rw [h3, hd]
theorem sp_head {bs : List Int} {k : Int} {m : Nat} (h : bs.take 5 = le k 1 ++ le (m : Int) 4) (hk : 0 ≤ k ∧ k < 256) (hm : m < 4294967296) : spK bs = k ∧ spM bs = m := by
 have h0 : (bs.take 5).drop 0 = le k 1 ++ le (m : Int) 4 := by simpa using h
 obtain ⟨a1, h1⟩ := nuS_fit h0 hk.1 (by omega) (by omega) (by omega)
 obtain ⟨a2, _⟩ := nuS_fit (n := (m : Int)) (k := 4) (r := []) (by rw [h1]; simp) (by omega) (by omega) (by omega) (by omega)
 have e1 : nuS (bs.take 5) (0, 0) 1 = (k, 0 + 1, 0) := a1
 have e2 : nuS (bs.take 5) (0 + 1, 0) 4 = ((m : Int), 0 + 1 + 4, 0) := a2
 unfold spK spM
 rw [e1]
 exact ⟨rfl, by rw [e2]⟩
theorem sel_back (s : S4) (hs : s.Bd) : (⟨(u1 (selL s)).1, (u2 (selL s)).1, (u3 (selL s)).1, (u4 (selL s)).1⟩ : S4) = s := by
 obtain ⟨B, hB⟩ := eX (selL s)
 have h0 : B.drop 0 = le s.a 8 ++ (le s.b 8 ++ (le s.c 8 ++ le s.d 8)) := by rw [← hB]; unfold selL sumL; simp only [List.append_assoc, List.drop_zero]
 rw [hB]
 obtain ⟨a1, h1⟩ := nuS_fit h0 hs.a.1 (by have := hs.a.2; simpa using this) (by omega) (by omega)
 obtain ⟨a2, h2⟩ := nuS_fit h1 hs.b.1 (by have := hs.b.2; simpa using this) (by omega) (by omega)
 obtain ⟨a3, h3⟩ := nuS_fit h2 hs.c.1 (by have := hs.c.2; simpa using this) (by omega) (by omega)
 obtain ⟨a4, _⟩ := nuS_fit (n := s.d) (k := 8) (r := []) (by rw [h3]; simp) hs.d.1 (by have := hs.d.2; simpa using this) (by omega) (by omega)
 have e1 : u1 B = (s.a, 0 + 8, 0) := a1
 have e2 : u2 B = (s.b, 0 + 8 + 8, 0) := by unfold u2; rw [e1]; exact a2
 have e3 : u3 B = (s.c, 0 + 8 + 8 + 8, 0) := by unfold u3; rw [e2]; exact a3
 have e4 : u4 B = (s.d, 0 + 8 + 8 + 8 + 8, 0) := by unfold u4; rw [e3]; exact a4
 rw [e1, e2, e3, e4]
theorem rec_head (a : S4) (k : Int) (B rest : List Int) (hk : 1 ≤ k ∧ k ≤ 7) (hB : B.length ≤ 2000) : spK (recL a k B ++ rest) = k ∧ spM (recL a k B ++ rest) = B.length ∧ spE (recL a k B ++ rest) = 0 ∧ dcH (recL a k B ++ rest) = hbL k B ∧ dcB (recL a k B ++ rest) = B ∧ dcS (recL a k B ++ rest) = sealR a (hbL k B) := by
 have hl := recL_len a k B
 have h5 : (recL a k B ++ rest).take 5 = le k 1 ++ le (B.length : Int) 4 := by
  unfold recL hbL
  simp only [List.append_assoc]
  rw [← List.append_assoc, List.take_append_of_le_length (by simp [le_length]), List.take_of_length_le (by simp [le_length])]
 obtain ⟨e1, e2⟩ := sp_head h5 (by omega) (by omega)
 have eN : dcN (recL a k B ++ rest) = (hbL k B).length := by unfold dcN; rw [e2, hbL_len, Int.toNat_natCast]
 have eH : dcH (recL a k B ++ rest) = hbL k B := by
  unfold dcH
  rw [eN]
  unfold recL
  rw [List.append_assoc, List.take_append_of_le_length (Nat.le_refl _), List.take_length]
 have eB : dcB (recL a k B ++ rest) = B := by
  have h : dcB (recL a k B ++ rest) = (dcH (recL a k B ++ rest)).drop 5 := rfl
  rw [h, eH]
  unfold hbL
  rw [List.drop_append_of_le_length (by simp [le_length]), List.drop_of_length_le (by simp [le_length])]
  rfl
 have eT : dcT (recL a k B ++ rest) = selL (sealR a (hbL k B)) := by
  unfold dcT
  rw [eN]
  unfold recL
  rw [List.append_assoc, List.drop_append_of_le_length (Nat.le_refl _), List.drop_length, List.nil_append, List.take_append_of_le_length (by rw [selL_len]; exact Nat.le_refl _), List.take_of_length_le (by rw [selL_len]; exact Nat.le_refl _)]
 refine ⟨e1, e2, ?_, eH, eB, ?_⟩
 ·unfold spE
  rw [e1, e2, List.length_append, hl, if_neg (by omega), if_neg (by omega), if_neg (by omega)]
 ·unfold dcS
  rw [eT]
  exact sel_back _ (shaD_Bd _)
theorem dec_back (a : S4) {r : Rc} {P : List Pr} {K D : List Int} (rest : List Int) (hm : RcMay r P K D) (hp : P.length = r.pn) (hk : K.length = r.kn) (hd : D.length = r.dl) : dcE a (recB a r P K D ++ rest) = 0 := by
 obtain ⟨h1, h2, h3, h4, h5, h6⟩ := rec_head a r.kind (bodyR r P K D) rest (rcMay_kind hm) (bodyR_len hm hp hk hd)
 unfold recB dcE
 rw [h1, h3, h4, h5, h6, if_neg (by simp), if_neg (by simp), if_neg (fun h => h (okB_back hm hp hk hd))]
theorem dec_cut (a b : S4) {r : Rc} {P : List Pr} {K D : List Int} (m : Nat) (hm : RcMay r P K D) (hp : P.length = r.pn) (hk : K.length = r.kn) (hd : D.length = r.dl) (hl : m < (recB b r P K D).length) : dcE a ((recB b r P K D).take m) = 10 := by
 have hkb := rcMay_kind hm
 have hbl := bodyR_len hm hp hk hd
 have hrl := recL_len b r.kind (bodyR r P K D)
 have hL : ((recB b r P K D).take m).length = m := by rw [List.length_take]; omega
 unfold recB at hl hL ⊢
 by_cases h5 : m < 5
 ·have e : spE ((recL b r.kind (bodyR r P K D)).take m) = 10 := by unfold spE; rw [if_pos (by rw [hL]; exact h5)]
  unfold dcE
  rw [e, if_pos (by decide)]
 ·have h5' : ((recL b r.kind (bodyR r P K D)).take m).take 5 = le r.kind 1 ++ le ((bodyR r P K D).length : Int) 4 := by
   rw [List.take_take, Nat.min_eq_left (by omega)]
   unfold recL hbL
   simp only [List.append_assoc]
   rw [← List.append_assoc, List.take_append_of_le_length (by simp [le_length]), List.take_of_length_le (by simp [le_length])]
  obtain ⟨e1, e2⟩ := sp_head h5' (by omega) (by omega)
  have e : spE ((recL b r.kind (bodyR r P K D)).take m) = 10 := by
   unfold spE
   rw [e1, e2, hL, if_neg h5, if_neg (by omega), if_pos (by omega)]
  unfold dcE
  rw [e, if_pos (by decide)]
end
end Go.Proofs.YtajfjkfnmmfhmaaGreatDoor
