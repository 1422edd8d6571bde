/- Records: parts with 47 between them; numbers that rise. -/
import Derived.Test.YtajfjkfnmmfhmaaGreatDoorQrad
import Derived.DeepKeys
import Derived.Lib.Bytes
import Derived.Deep.QuietTactic
import Derived.BigQuiet
import Derived.Test.YtajfjkfnmmfhmaaGreatDoorQrac
import Derived.Laws.EntriesVeiled
namespace Go.Proofs.YtajfjkfnmmfhmaaGreatDoor
set_option maxRecDepth 100000
set_option maxHeartbeats 25600000
section
open Go.RowKit Go.Lib
def txU (p : List UInt8) : List Int := p.map fun u => (u.toNat : Int)
theorem txU_of (p : List UInt8) : tx ⟨p.toArray⟩ = txU p := by simp [tx, txU]
def PartsU (l : List UInt8) (most : Int) : Prop := (Lib.countByte l 47 : Int) < most ∧ ∀ p ∈ splitU l, PartL (txU p)
instance (l : List UInt8) (most : Int) : Decidable (PartsU l most) := by unfold PartsU; infer_instance
theorem cellsU_at {L : List (List UInt8)} {t : Nat} (h : t < L.length) : (cellsU L 0)[t]? = some (.string ⟨(L[t]).toArray⟩) := by
 unfold cellsU
 simp [h, stU]
theorem parts_any (s : ByteArray) (hs : s.size ≤ 9223372036854775806) (most : Int) (hmo : most ≤ 1000) (w : World) :
  Calls Tryz.prog 95 #[.string s, .int .i64 most] w fun e w' => e = .returned (.bool (decide (PartsU s.data.toList most))) ∧ Frm [] w w' := by
 obtain ⟨PO, hPO⟩ : ∃ PO : Ending → World → Prop, (fun e w' => e = .returned (.bool (decide (PartsU s.data.toList most))) ∧ Frm [] w w') = PO := ⟨_, rfl⟩
 rw [hPO]
 have HP : Hid (∀ x w', (x = true ↔ PartsU s.data.toList most) → Frm [] w w' → PO (.returned (.bool x)) w') := hid (fun x w' h h2 => by rw [← hPO]; exact ⟨by rw [bool_decR h], h2⟩)
 have HC := hid (countC_any s w)
 have HSP := hid (fun hcn => split_anyR s hs hcn w)
 have HLE := hid (splitU_len s.data.toList)
 have hcl : Lib.countByte s.data.toList 47 ≤ s.size := by
  have hsz : s.data.toList.length = s.size := by have h : s.data.size = s.size := rfl; rw [Array.length_toList]; exact h
  rw [← hsz]; exact List.count_le_length
 have HPU : Hid (∀ n, Lib.countByte s.data.toList 47 = n → (PartsU s.data.toList most ↔ (n : Int) < most ∧ ∀ p ∈ splitU s.data.toList, PartL (txU p))) := hid (fun n h => by unfold PartsU; rw [h])
 obtain ⟨n, hn⟩ := eX (Lib.countByte s.data.toList 47)
 have HPN := hid (HPU.out n hn)
 rw [hn] at HC HLE hcl HSP
 obtain ⟨L, hL⟩ := eX (splitU s.data.toList)
 rw [hL] at HSP HLE HPN
 clear hPO hcl hn hL HPU
 go_enter Tryz.func95, Tryz.ntmps95
 go_wp2_with fail
 refine HC.out.mono ?_
 rintro e w1 ⟨rfl, rfl⟩
 by_cases hm : most ≤ (n : Int)
 case pos =>
  go_wp2_with fail
  try go_returns
  exact HP.out _ _ (by rw [HPN.out]; simp; intro h; omega) (Frm.refl _ _)
 have hn9 : n ≤ 1000000000 := by omega
 go_wp2_with fail
 refine (HSP.out hn9).mono ?_
 rintro e w2 ⟨b, k, rfl, hk, hb, hrow, hf⟩
 have HROW := hid hrow
 have HF := hid hf
 have HLK := hid hk
 have hk9 : k ≤ 1000000001 := by rw [hk, HLE.out]; omega
 clear hk hb hrow hf HC HSP
 go_wp2_with fail
 go_loop [4, 14] (fun r i => ∃ t : Nat, t ≤ k ∧ r = .bool false ∧ i = .int .i64 (t : Int) ∧ Hid (∀ j (h : j < L.length), j < t → PartL (txU L[j]))) (fun _ i => k - (intOf i).toNat)
 case atStart => exact ⟨0, Nat.zero_le _, rfl, rfl, hid (fun j h hj => by omega)⟩
 case round =>
  obtain ⟨t, ht, rfl, rfl, hok⟩ := hrel
  have HOK := hid hok.out
  clear hok
  by_cases hlt : t < k
  case neg =>
   obtain rfl : t = k := by omega
   go_wp2_with fail
   try go_returns
   exact HP.out _ _ (by
    rw [HPN.out]; simp only [true_iff]
    refine ⟨by omega, fun p hp => ?_⟩
    obtain ⟨j, hj, rfl⟩ := List.getElem_of_mem hp
    exact HOK.out j hj (by rw [HLK.out]; exact hj)) HF.out
  have t1 : (t : Int) < (k : Int) := by omega
  have hl : t < L.length := by rw [← HLK.out]; exact hlt
  have z : w2.cell? ⟨b, t, none⟩ = some (.string ⟨(L[t]).toArray⟩) := by rw [cell_of_row _ _ _ _ _ _ HROW.out]; exact cellsU_at hl
  have HPA := hid (partW_any ⟨(L[t]).toArray⟩ w2)
  rw [txU_of] at HPA
  have HBD : Hid (PartsU s.data.toList most → PartL (txU L[t])) := hid (fun h => (HPN.out.1 h).2 _ (List.getElem_mem hl))
  have HNX : Hid (PartL (txU L[t]) → ∀ j (h : j < L.length), j < t + 1 → PartL (txU L[j])) := hid (fun h j hj hjt => by
   by_cases hj2 : j < t
   ·exact HOK.out j hj hj2
   ·obtain rfl : j = t := by omega
    exact h)
  obtain ⟨p, hp⟩ := eX (L[t])
  rw [hp] at z HPA HBD HNX
  clear hp hl HOK
  by_cases hpl : PartL (txU p)
  case neg =>
   rw [decide_eq_false hpl] at HPA
   have HNP := hid hpl
   clear hpl
   go_wp2_with fail
   refine HPA.out.mono ?_
   rintro e w3 ⟨rfl, rfl⟩
   go_wp2_with fail
   try go_returns
   exact HP.out _ _ (by simp; exact fun h => HNP.out (HBD.out h)) HF.out
  rw [decide_eq_true hpl] at HPA
  have HNP := hid hpl
  clear hpl
  go_wp2_with fail
  refine HPA.out.mono ?_
  rintro e w3 ⟨rfl, rfl⟩
  go_wp2_with fail
  go_round
  case rel => exact ⟨t + 1, by omega, rfl, by go_num, hid (HNX.out HNP.out)⟩
  case measure => simp [intOf] <;> omega
def RiseL (K : List Int) (lo hi : Int) : Prop := ∀ i, i < K.length → (lo ≤ zA K i ∧ zA K i ≤ hi) ∧ (0 < i → zA K (i - 1) < zA K i)
instance (K : List Int) (lo hi : Int) : Decidable (RiseL K lo hi) := by unfold RiseL; infer_instance
def RdI (w : World) (p : Option Addr) (K : List Int) : Prop := Rv w p (K.map (Value.int .i64))
theorem RdI.at {w : World} {p : Option Addr} {K : List Int} (h : RdI w p K) {i : Nat} (hi : i < K.length) : ∃ g o, p = some ⟨g, o, none⟩ ∧ ∀ j, j < K.length → w.cell? ⟨g, o + j, none⟩ = some (.int .i64 (zA K j)) := by
 rcases h with h0 | ⟨g, o, hp, hc⟩
 ·have : K = [] := List.map_eq_nil_iff.1 h0
  rw [this] at hi; simp at hi
 ·refine ⟨g, o, hp, fun j hj => hc j _ ?_⟩
  rw [List.getElem?_map, List.getElem?_eq_getElem hj]
  unfold zA
  rw [List.getD_eq_getElem?_getD, List.getElem?_eq_getElem hj]
  rfl
theorem RdI.kept {S : List Nat} {w w' : World} {p : Option Addr} {K : List Int} (h : RdI w p K) (hf : Frm S w w') (hn : ∀ k ∈ blk p, k ∉ S) : RdI w' p K := by
 rcases h with h0 | ⟨g, o, hp, hc⟩
 ·exact Or.inl h0
 ·exact Or.inr ⟨g, o, hp, fun i u hu => (hf.cell (p := ⟨g, o + i, none⟩) (World.block_lt_of_cell? _ _ (hc i u hu)) (hn g (by rw [hp]; simp [blk]))).trans (hc i u hu)⟩
theorem rise_any (p : Option Addr) (n c : Nat) (K : List Int) (lo hi : Int) (w : World) (hn : K.length = n) (hn9 : n ≤ 9223372036854775807) (hr : RdI w p K) :
  Calls Tryz.prog 97 #[.slice p n c, .int .i64 lo, .int .i64 hi] w fun e w' => e = .returned (.bool (decide (RiseL K lo hi))) ∧ w' = w := by
 obtain ⟨PO, hPO⟩ : ∃ PO : Ending → World → Prop, (fun e w' => e = .returned (.bool (decide (RiseL K lo hi))) ∧ w' = w) = PO := ⟨_, rfl⟩
 rw [hPO]
 have HP : Hid (∀ x, (x = true ↔ RiseL K lo hi) → PO (.returned (.bool x)) w) := hid (fun x h => by rw [← hPO]; exact ⟨by rw [bool_decR h], rfl⟩)
 have HR := hid hr
 have HN := hid hn
 have HW := hid (fun z W => within_anyR z lo hi W)
 clear hPO hr hn
 go_enter Tryz.func97, Tryz.ntmps97
 go_wp2_with fail
 go_loop [6, 11] (fun r i => ∃ t : Nat, t ≤ n ∧ r = .bool false ∧ i = .int .i64 (t : Int) ∧ Hid (∀ j, j < t → (lo ≤ zA K j ∧ zA K j ≤ hi) ∧ (0 < j → zA K (j - 1) < zA K j))) (fun _ i => n - (intOf i).toNat)
 case atStart => exact ⟨0, Nat.zero_le _, rfl, rfl, hid (fun j hj => by omega)⟩
 case round =>
  obtain ⟨t, ht, rfl, rfl, hok⟩ := hrel
  have HOK := hid hok.out
  clear hok
  by_cases hlt : t < n
  case neg =>
   obtain rfl : t = n := by omega
   go_wp2_with fail
   try go_returns
   exact HP.out _ (by simp only [true_iff]; exact fun i hi => HOK.out i (by rw [← HN.out]; exact hi))
  have t1 : (t : Int) < (n : Int) := by omega
  obtain ⟨g, o, rfl, hc⟩ := HR.out.at (i := t) (by rw [HN.out]; exact hlt)
  have z0 := hc t (by rw [HN.out]; exact hlt)
  have HBD : Hid (RiseL K lo hi → (lo ≤ zA K t ∧ zA K t ≤ hi) ∧ (0 < t → zA K (t - 1) < zA K t)) := hid (fun h => h t (by rw [HN.out]; exact hlt))
  have HNX : Hid ((lo ≤ zA K t ∧ zA K t ≤ hi) ∧ (0 < t → zA K (t - 1) < zA K t) → ∀ j, j < t + 1 → (lo ≤ zA K j ∧ zA K j ≤ hi) ∧ (0 < j → zA K (j - 1) < zA K j)) := hid (fun h j hj => by
   by_cases hj2 : j < t
   ·exact HOK.out j hj2
   ·obtain rfl : j = t := by omega
    exact h)
  have HWC := hid (HW.out (zA K t) w)
  by_cases hw : lo ≤ zA K t ∧ zA K t ≤ hi
  case neg =>
   rw [decide_eq_false hw] at HWC
   have HK : Hid (¬ RiseL K lo hi) := hid (fun h => hw (HBD.out h).1)
   obtain ⟨x, hx⟩ := eX (zA K t)
   rw [hx] at z0 HWC
   clear hw hc HNX HBD hx
   go_wp2_with fail
   refine HWC.out.mono ?_
   rintro e w1 ⟨rfl, rfl⟩
   go_wp2_with fail
   try go_returns
   exact HP.out _ (by simp; exact HK.out)
  rw [decide_eq_true hw] at HWC
  by_cases h0 : t = 0
  case pos =>
   have HK := hid (HNX.out ⟨hw, fun h => by omega⟩)
   have t0 : ¬ (0 : Int) < (t : Int) := by omega
   obtain ⟨x, hx⟩ := eX (zA K t)
   rw [hx] at z0 HWC
   clear hw hc HNX HBD hx h0
   go_wp2_with fail
   refine HWC.out.mono ?_
   rintro e w1 ⟨rfl, rfl⟩
   go_wp2_with fail
   go_round
   case rel => exact ⟨t + 1, by omega, rfl, by go_num, HK⟩
   case measure => simp [intOf] <;> omega
  obtain ⟨u, rfl⟩ : ∃ u, t = u + 1 := ⟨t - 1, by omega⟩
  have z1 := hc u (by rw [HN.out]; omega)
  by_cases hrs : zA K u < zA K (u + 1)
  case neg =>
   have HK : Hid (¬ RiseL K lo hi) := hid (fun h => hrs ((HBD.out h).2 (by omega)))
   obtain ⟨x, hx⟩ := eX (zA K (u + 1))
   obtain ⟨y, hy⟩ := eX (zA K u)
   rw [hx] at z0 HWC hrs
   rw [hy] at z1 hrs
   have hyx : x ≤ y := by omega
   clear hw hc HNX HBD hx hy h0 hrs
   go_wp2_with fail
   refine HWC.out.mono ?_
   rintro e w1 ⟨rfl, rfl⟩
   go_wp2_with fail
   try go_returns
   exact HP.out _ (by simp; exact HK.out)
  have HK := hid (HNX.out ⟨hw, fun h => by simpa using hrs⟩)
  obtain ⟨x, hx⟩ := eX (zA K (u + 1))
  obtain ⟨y, hy⟩ := eX (zA K u)
  rw [hx] at z0 HWC hrs
  rw [hy] at z1 hrs
  have hyx : ¬ x ≤ y := by omega
  clear hw hc HNX HBD hx hy h0 hrs
  go_wp2_with fail
  refine HWC.out.mono ?_
  rintro e w1 ⟨rfl, rfl⟩
  go_wp2_with fail
  go_round
  case rel => exact ⟨u + 1 + 1, by omega, rfl, by go_num, HK⟩
  case measure => simp [intOf] <;> omega
end
section
open Go.RowKit Go.Lib
theorem str_injB {xs ys : List Int} (hx : ∀ z ∈ xs, 0 ≤ z ∧ z < 256) (hy : ∀ z ∈ ys, 0 ≤ z ∧ z < 256) (h : strOfNums xs = strOfNums ys) : xs = ys := by
 have h1 := congrArg (fun s : ByteArray => s.data.toList) h
 simp only [strOfNums_data] at h1
 have key : ∀ zs : List Int, (∀ z ∈ zs, 0 ≤ z ∧ z < 256) → (zs.map fun n => UInt8.ofNat n.toNat).map (fun b => (b.toNat : Int)) = zs := by
  intro zs hz
  rw [List.map_map]
  conv => rhs; rw [← List.map_id zs]
  apply List.map_congr_left
  intro z hm
  have := hz z hm
  simp
  omega
 rw [← key xs hx, ← key ys hy, h1]
theorem toInjB {xs ys : List Int} (h : (strOfNums xs).toList = (strOfNums ys).toList) : strOfNums xs = strOfNums ys := by
 rw [Lib.strOfNums_toList, Lib.strOfNums_toList] at h
 have h2 : (strOfNums xs).data.toList = (strOfNums ys).data.toList := h
 have h3 := Array.toList_inj.1 h2
 cases hs : strOfNums xs
 cases ht : strOfNums ys
 rw [hs, ht] at h3
 simp only at h3
 rw [h3]
theorem str_txB (B : ByteArray) : strOfNums (tx B) = B := by
 cases B with
 | mk d => simp [strOfNums, tx, Function.comp_def]
theorem ba_injB {A B : ByteArray} (h : A.toList = B.toList) : A = B := by
 rw [← str_txB A, ← str_txB B] at h ⊢
 exact toInjB h
theorem str_eqB {xs ys : List Int} (hx : ∀ z ∈ xs, 0 ≤ z ∧ z < 256) (hy : ∀ z ∈ ys, 0 ≤ z ∧ z < 256) : ((strOfNums xs).toList == (strOfNums ys).toList) = decide (xs = ys) := by
 by_cases h : xs = ys
 ·subst h; simp
 ·rw [decide_eq_false h]
  refine beq_eq_false_iff_ne.2 (fun he => h (str_injB hx hy (ba_injB he)))
theorem bytesEq_any (p q : Option Addr) (n c m d : Nat) (a b : List Int) (w : World) (ha : Rd w p a) (hb : Rd w q b) (hn : a.length = n) (hm : b.length = m) (hza : ∀ z ∈ a, 0 ≤ z ∧ z < 256) (hzb : ∀ z ∈ b, 0 ≤ z ∧ z < 256) :
  Calls Tryz.prog 70 #[.slice p n c, .slice q m d] w fun e w' => e = .returned (.bool (decide (a = b))) ∧ w' = w := by
 have h1 := cv_any (P := Tryz.prog) (w := w) 24 5 9 Tryz.underlying24 Tryz.underlying5 Tryz.underlying9 (n := n) ha c hn
 have h2 := cv_any (P := Tryz.prog) (w := w) 24 5 9 Tryz.underlying24 Tryz.underlying5 Tryz.underlying9 (n := m) hb d hm
 have h3 := str_eqB hza hzb
 obtain ⟨B, hB⟩ : ∃ q, decide (a = b) = q := ⟨_, rfl⟩
 rw [hB] at h3 ⊢
 clear hB ha hb hza hzb hn hm
 go_enter Tryz.func70, Tryz.ntmps70
 go_wp2_with fail
 try go_returns
 first | exact ⟨rfl, rfl⟩ | (simp [h3]; done) | (refine ⟨?_, rfl⟩; simp [h3])
abbrev Pr := ByteArray × ByteArray
def RdP (w : World) (p : Option Addr) (P : List Pr) : Prop := P = [] ∨ ∃ g o, p = some ⟨g, o, none⟩ ∧ ∀ i x, P[i]? = some x → w.cell? ⟨g, o + i * 2, none⟩ = some (.string x.1) ∧ w.cell? ⟨g, o + i * 2 + 1, none⟩ = some (.string x.2)
theorem RdP.at {w : World} {p : Option Addr} {P : List Pr} (h : RdP w p P) {i : Nat} (hi : i < P.length) : ∃ g o, p = some ⟨g, o, none⟩ ∧ ∀ j (hj : j < P.length), w.cell? ⟨g, o + j * 2, none⟩ = some (.string P[j].1) ∧ w.cell? ⟨g, o + j * 2 + 1, none⟩ = some (.string P[j].2) := by
 rcases h with h0 | ⟨g, o, hp, hc⟩
 ·rw [h0] at hi; simp at hi
 ·exact ⟨g, o, hp, fun j hj => hc j _ (List.getElem?_eq_getElem hj)⟩
theorem RdP.kept {S : List Nat} {w w' : World} {p : Option Addr} {P : List Pr} (h : RdP w p P) (hf : Frm S w w') (hn : ∀ k ∈ blk p, k ∉ S) : RdP w' p P := by
 rcases h with h0 | ⟨g, o, hp, hc⟩
 ·exact Or.inl h0
 ·refine Or.inr ⟨g, o, hp, fun i x hx => ?_⟩
  obtain ⟨h1, h2⟩ := hc i x hx
  have hg := hn g (by rw [hp]; simp [blk])
  exact ⟨(hf.cell (p := ⟨g, o + i * 2, none⟩) (World.block_lt_of_cell? _ _ h1) hg).trans h1, (hf.cell (p := ⟨g, o + i * 2 + 1, none⟩) (World.block_lt_of_cell? _ _ h2) hg).trans h2⟩
theorem ba_beq (a b : ByteArray) : (a.toList == b.toList) = decide (a = b) := by
 by_cases h : a = b
 ·subst h; simp
 ·rw [decide_eq_false h]
  exact beq_eq_false_iff_ne.2 (fun he => h (ba_injB he))
theorem eqPr (a0 a1 b0 b1 : ByteArray) (d : Nat) (w : World) : (Op.equalIn (d + 3) 70 (.agg #[.string a0, .string a1]) (.agg #[.string b0, .string b1])).run Tryz.prog w = .ok (decide ((a0, a1) = (b0, b1))) w := by
 have hS : Tryz.prog.underlying 70 = some (.struct (Tryz.prog.fieldsOf 70)) := by kernel_rfl
 have hp : Tryz.prog.stoodInHeld 70 = false := by kernel_rfl
 rw [show d + 3 = (d + 2) + 1 from rfl, run_equalIn_agg w (d + 2) _ _ _ hS hp]
 simp only [Program.fieldsOf, Tryz.underlying70]
 go_simp
 have e : ∀ a b : ByteArray, (a.toList = b.toList) = (a = b) := fun a b => propext ⟨ba_injB, fun h => by rw [h]⟩
 simp only [e]
 by_cases h0 : a0 = b0 <;> by_cases h1 : a1 = b1 <;> simp [h0, h1]
theorem neqPr (a0 a1 b0 b1 : ByteArray) (w : World) : (binOp .neq 70 (.agg #[.string a0, .string a1]) (.agg #[.string b0, .string b1])).run Tryz.prog w = .ok (.bool (!decide ((a0, a1) = (b0, b1)))) w := by
 rw [run_neq_struct, show (10000 : Nat) = 9997 + 3 from rfl, eqPr]; rfl
theorem eqI_any (p q : Option Addr) (n c m d : Nat) (K L : List Int) (w : World) (hn : K.length = n) (hm : L.length = m) (hn9 : n ≤ 9223372036854775807) (hr : RdI w p K) (hs : RdI w q L) :
  Calls Tryz.prog 69 #[.slice p n c, .slice q m d] w fun e w' => e = .returned (.bool (decide (K = L))) ∧ Frm [] w w' := by
 obtain ⟨PO, hPO⟩ : ∃ PO : Ending → World → Prop, (fun e w' => e = .returned (.bool (decide (K = L))) ∧ Frm [] w w') = PO := ⟨_, rfl⟩
 rw [hPO]
 have HP : Hid (∀ x w', (x = true ↔ K = L) → Frm [] w w' → PO (.returned (.bool x)) w') := hid (fun x w' h h2 => by rw [← hPO]; exact ⟨by rw [bool_decR h], h2⟩)
 have HR := hid hr
 have HS := hid hs
 have HN := hid hn
 have HM := hid hm
 clear hPO hr hs hn hm
 go_enter Tryz.func69, Tryz.ntmps69
 by_cases hnm : n = m
 case neg =>
  have hb : ((n : Int) != (m : Int)) = true := by rw [bne_iff_ne]; omega
  have HNE : Hid (K ≠ L) := hid (fun h => hnm (by rw [← HN.out, ← HM.out, h]))
  clear hnm
  go_wp2_with fail
  try go_returns
  exact HP.out _ _ (by simp; exact HNE.out) (Frm.refl _ _)
 have hb : ((n : Int) != (m : Int)) = false := by rw [hnm]; simp
 have HNM := hid hnm
 clear hnm
 go_wp2_with fail
 go_loopw [4, 13] (fun r i wr => ∃ t : Nat, t ≤ n ∧ r = .bool false ∧ i = .int .i64 (t : Int) ∧ Hid (∀ j, j < t → zA K j = zA L j) ∧ Hid (Frm [] w wr)) (fun _ i _ => n - (intOf i).toNat)
 case atStart => exact ⟨0, Nat.zero_le _, rfl, rfl, hid (fun j hj => by omega), hid (Frm.refl _ _)⟩
 case round =>
  obtain ⟨t, ht, rfl, rfl, hok, hf⟩ := hrel
  have HOK := hid hok.out
  have HF := hid hf.out
  clear hok hf
  by_cases hlt : t < n
  case neg =>
   obtain rfl : t = n := by omega
   go_wp2_with fail
   try go_returns
   exact HP.out _ _ (by
    simp only [true_iff]
    refine List.ext_getElem (by rw [HN.out, HM.out, HNM.out]) (fun i h1 h2 => ?_)
    have h := HOK.out i (by rw [← HN.out]; exact h1)
    unfold zA at h
    rw [List.getD_eq_getElem?_getD, List.getD_eq_getElem?_getD, List.getElem?_eq_getElem h1, List.getElem?_eq_getElem h2] at h
    exact h) HF.out
  have t1 : (t : Int) < (n : Int) := by omega
  have t2 : (t : Int) < (m : Int) := by have := HNM.out; omega
  obtain ⟨g1, o1, rfl, k1⟩ := (HR.out.kept HF.out (by simp)).at (i := t) (by rw [HN.out]; exact hlt)
  obtain ⟨g2, o2, rfl, k2⟩ := (HS.out.kept HF.out (by simp)).at (i := t) (by rw [HM.out, ← HNM.out]; exact hlt)
  have z1 := k1 t (by rw [HN.out]; exact hlt)
  have z2 := k2 t (by rw [HM.out, ← HNM.out]; exact hlt)
  have HF2 : Hid (∀ k, Frm [] w (wr.drewN k)) := hid (fun k => HF.out.drewN k)
  by_cases he : zA K t = zA L t
  case neg =>
   have HK : Hid (K ≠ L) := hid (fun h => he (by rw [h]))
   have hb2 : (zA K t != zA L t) = true := by rw [bne_iff_ne]; exact he
   obtain ⟨x, hx⟩ := eX (zA K t)
   obtain ⟨y, hy⟩ := eX (zA L t)
   rw [hx] at z1 hb2
   rw [hy] at z2 hb2
   clear he k1 k2 hx hy HOK
   go_wp2_with fail
   go_quiet (fail)
   go_wp2_with fail
   try go_returns
   exact HP.out _ _ (by simp; exact HK.out) (HF2.out _)
  have HNX : Hid (∀ j, j < t + 1 → zA K j = zA L j) := hid (fun j hj => by
   by_cases hj2 : j < t
   ·exact HOK.out j hj2
   ·obtain rfl : j = t := by omega
    exact he)
  obtain ⟨x, hx⟩ := eX (zA K t)
  rw [← he, hx] at z2
  rw [hx] at z1
  clear he k1 k2 hx HOK
  go_wp2_with fail
  go_quiet (fail)
  go_wp2_with fail
  go_roundw
  case rel => exact ⟨t + 1, by omega, rfl, by go_num, HNX, hid (HF2.out _)⟩
  case measure => simp [intOf] <;> omega
theorem eqP_any (p q : Option Addr) (n c m d : Nat) (K L : List Pr) (w : World) (hn : K.length = n) (hm : L.length = m) (hn9 : n ≤ 9223372036854775807) (hr : RdP w p K) (hs : RdP w q L) :
  Calls Tryz.prog 68 #[.slice p n c, .slice q m d] w fun e w' => e = .returned (.bool (decide (K = L))) ∧ Frm [] w w' := by
 obtain ⟨PO, hPO⟩ : ∃ PO : Ending → World → Prop, (fun e w' => e = .returned (.bool (decide (K = L))) ∧ Frm [] w w') = PO := ⟨_, rfl⟩
 rw [hPO]
 have HP : Hid (∀ x w', (x = true ↔ K = L) → Frm [] w w' → PO (.returned (.bool x)) w') := hid (fun x w' h h2 => by rw [← hPO]; exact ⟨by rw [bool_decR h], h2⟩)
 have HR := hid hr
 have HS := hid hs
 have HN := hid hn
 have HM := hid hm
 clear hPO hr hs hn hm
 go_enter Tryz.func68, Tryz.ntmps68
 by_cases hnm : n = m
 case neg =>
  have hb : ((n : Int) != (m : Int)) = true := by rw [bne_iff_ne]; omega
  have HNE : Hid (K ≠ L) := hid (fun h => hnm (by rw [← HN.out, ← HM.out, h]))
  clear hnm
  go_wp2_with fail
  try go_returns
  exact HP.out _ _ (by simp; exact HNE.out) (Frm.refl _ _)
 have hb : ((n : Int) != (m : Int)) = false := by rw [hnm]; simp
 have HNM := hid hnm
 clear hnm
 go_wp2_with fail
 go_loopw [4, 13] (fun r i wr => ∃ t : Nat, t ≤ n ∧ r = .bool false ∧ i = .int .i64 (t : Int) ∧ Hid (∀ j, j < t → K[j]? = L[j]?) ∧ Hid (Frm [] w wr)) (fun _ i _ => n - (intOf i).toNat)
 case atStart => exact ⟨0, Nat.zero_le _, rfl, rfl, hid (fun j hj => by omega), hid (Frm.refl _ _)⟩
 case round =>
  obtain ⟨t, ht, rfl, rfl, hok, hf⟩ := hrel
  have HOK := hid hok.out
  have HF := hid hf.out
  clear hok hf
  by_cases hlt : t < n
  case neg =>
   obtain rfl : t = n := by omega
   go_wp2_with fail
   try go_returns
   exact HP.out _ _ (by
    simp only [true_iff]
    refine List.ext_getElem (by rw [HN.out, HM.out, HNM.out]) (fun i h1 h2 => ?_)
    have h := HOK.out i (by rw [← HN.out]; exact h1)
    rw [List.getElem?_eq_getElem h1, List.getElem?_eq_getElem h2] at h
    exact Option.some.inj h) HF.out
  have t1 : (t : Int) < (n : Int) := by omega
  have t2 : (t : Int) < (m : Int) := by have := HNM.out; omega
  obtain ⟨g1, o1, rfl, k1⟩ := (HR.out.kept HF.out (by simp)).at (i := t) (by rw [HN.out]; exact hlt)
  obtain ⟨g2, o2, rfl, k2⟩ := (HS.out.kept HF.out (by simp)).at (i := t) (by rw [HM.out, ← HNM.out]; exact hlt)
  have l1 : t < K.length := by rw [HN.out]; exact hlt
  have l2 : t < L.length := by rw [HM.out, ← HNM.out]; exact hlt
  obtain ⟨z1, z3⟩ := k1 t l1
  obtain ⟨z2, z4⟩ := k2 t l2
  have HF2 : Hid (∀ k, Frm [] w (wr.drewN k)) := hid (fun k => HF.out.drewN k)
  have HNX : Hid (K[t] = L[t] → ∀ j, j < t + 1 → K[j]? = L[j]?) := hid (fun h j hj => by
   by_cases hj2 : j < t
   ·exact HOK.out j hj2
   ·obtain rfl : j = t := by omega
    rw [List.getElem?_eq_getElem l1, List.getElem?_eq_getElem l2, h])
  have HBD : Hid (K = L → K[t] = L[t]) := hid (fun h => by subst h; rfl)
  obtain ⟨⟨x0, x1⟩, hx⟩ : ∃ x, K[t] = x := ⟨_, rfl⟩
  obtain ⟨⟨y0, y1⟩, hy⟩ : ∃ y, L[t] = y := ⟨_, rfl⟩
  rw [hx] at z1 z3 HNX HBD
  rw [hy] at z2 z4 HNX HBD
  simp only at z1 z2 z3 z4
  have hne := fun W => neqPr x0 x1 y0 y1 W
  by_cases he : ((x0, x1) : Pr) = (y0, y1)
  case neg =>
   have HK : Hid (K ≠ L) := hid (fun h => he (HBD.out h))
   rw [decide_eq_false he] at hne
   clear he k1 k2 hx hy HOK HNX HBD l1 l2
   go_wp2_with fail
   go_quiet (fail)
   go_wp2_with fail
   try go_returns
   exact HP.out _ _ (by simp; exact HK.out) (HF2.out _)
  rw [decide_eq_true he] at hne
  have HN2 := hid (HNX.out he)
  clear he k1 k2 hx hy HOK HNX HBD l1 l2
  go_wp2_with fail
  go_quiet (fail)
  go_wp2_with fail
  go_roundw
  case rel => exact ⟨t + 1, by omega, rfl, by go_num, HN2, hid (HF2.out _)⟩
  case measure => simp [intOf] <;> omega
end
section
open Go.RowKit Go.Lib
structure Rc where
 kind : Int
 name : ByteArray
 typ : Int
 frm : Int
 guid : Int
 origin : Int
 snap : ByteArray
 pp : Option Addr
 pn : Nat
 pc : Nat
 obj : Int
 at_ : Int
 many : Int
 kp : Option Addr
 kn : Nat
 kc : Nat
 dp : Option Addr
 dl : Nat
 dc : Nat
def Rc.arr (r : Rc) : Array Value := #[.int .i64 r.kind, .string r.name, .int .i64 r.typ, .int .i64 r.frm, .int .i64 r.guid, .int .i64 r.origin, .string r.snap, .slice r.pp r.pn r.pc, .int .i64 r.obj, .int .i64 r.at_, .int .i64 r.many, .slice r.kp r.kn r.kc, .slice r.dp r.dl r.dc]
structure RcOk (w : World) (r : Rc) (P : List Pr) (K D : List Int) : Prop where
 pr : RdP w r.pp P
 pl : P.length = r.pn
 kr : RdI w r.kp K
 kl : K.length = r.kn
 dr : Rd w r.dp D
 dn : D.length = r.dl
 db : ∀ z ∈ D, 0 ≤ z ∧ z < 256
 mx : r.pn ≤ 9223372036854775807 ∧ r.kn ≤ 9223372036854775807
theorem RcOk.kept {S : List Nat} {w w' : World} {r : Rc} {P : List Pr} {K D : List Int} (h : RcOk w r P K D) (hf : Frm S w w') (h1 : ∀ k ∈ blk r.pp, k ∉ S) (h2 : ∀ k ∈ blk r.kp, k ∉ S) (h3 : ∀ k ∈ blk r.dp, k ∉ S) : RcOk w' r P K D :=
 ⟨h.pr.kept hf h1, h.pl, h.kr.kept hf h2, h.kl, h.dr.kept hf h3, h.dn, h.db, h.mx⟩
theorem RcOk.k0 {w w' : World} {r : Rc} {P : List Pr} {K D : List Int} (h : RcOk w r P K D) (hf : Frm [] w w') : RcOk w' r P K D := h.kept hf (by simp) (by simp) (by simp)
def SameR (r s : Rc) (P Q : List Pr) (K L D E : List Int) : Prop := r.kind = s.kind ∧ r.name = s.name ∧ r.typ = s.typ ∧ r.frm = s.frm ∧ r.guid = s.guid ∧ r.origin = s.origin ∧ r.snap = s.snap ∧ P = Q ∧ r.obj = s.obj ∧ r.at_ = s.at_ ∧ r.many = s.many ∧ K = L ∧ D = E
instance (r s : Rc) (P Q : List Pr) (K L D E : List Int) : Decidable (SameR r s P Q K L D E) := by unfold SameR; infer_instance
end
section
open Go.RowKit Go.Lib
theorem sameR_any (r s : Rc) (P Q : List Pr) (K L D E : List Int) (w : World) (hr : RcOk w r P K D) (hs : RcOk w s Q L E) :
  Calls Tryz.prog 24 #[.agg r.arr, .agg s.arr] w fun e w' => e = .returned (.bool (decide (SameR r s P Q K L D E))) ∧ Frm [] w w' := by
 obtain ⟨PO, hPO⟩ : ∃ PO : Ending → World → Prop, (fun e w' => e = .returned (.bool (decide (SameR r s P Q K L D E))) ∧ Frm [] w w') = PO := ⟨_, rfl⟩
 rw [hPO]
 have HP : Hid (∀ x w', (x = true ↔ SameR r s P Q K L D E) → Frm [] w w' → PO (.returned (.bool x)) w') := hid (fun x w' h h2 => by rw [← hPO]; exact ⟨by rw [bool_decR h], h2⟩)
 have HEP := hid (fun W (hf : Frm [] w W) => eqP_any r.pp s.pp r.pn r.pc s.pn s.pc P Q W hr.pl hs.pl hr.mx.1 (hr.pr.kept hf (by simp)) (hs.pr.kept hf (by simp)))
 have HEK := hid (fun W (hf : Frm [] w W) => eqI_any r.kp s.kp r.kn r.kc s.kn s.kc K L W hr.kl hs.kl hr.mx.2 (hr.kr.kept hf (by simp)) (hs.kr.kept hf (by simp)))
 have HED := hid (fun W (hf : Frm [] w W) => bytesEq_any r.dp s.dp r.dl r.dc s.dl s.dc D E W (hr.dr.kept hf (by simp)) (hs.dr.kept hf (by simp)) hr.dn hs.dn hr.db hs.db)
 clear hPO hr hs
 obtain ⟨PP, hPP⟩ : ∃ PP, decide (P = Q) = PP := ⟨_, rfl⟩
 obtain ⟨KK, hKK⟩ : ∃ KK, decide (K = L) = KK := ⟨_, rfl⟩
 obtain ⟨DD, hDD⟩ : ∃ DD, decide (D = E) = DD := ⟨_, rfl⟩
 rw [hPP] at HEP
 rw [hKK] at HEK
 rw [hDD] at HED
 have HSR : Hid (SameR r s P Q K L D E ↔ r.kind = s.kind ∧ r.name = s.name ∧ r.typ = s.typ ∧ r.frm = s.frm ∧ r.guid = s.guid ∧ r.origin = s.origin ∧ r.snap = s.snap ∧ PP = true ∧ r.obj = s.obj ∧ r.at_ = s.at_ ∧ r.many = s.many ∧ KK = true ∧ DD = true) := hid (by rw [← hPP, ← hKK, ← hDD]; simp only [decide_eq_true_eq]; exact Iff.rfl)
 obtain ⟨SR, hSR⟩ : ∃ SR : Prop, SameR r s P Q K L D E = SR := ⟨_, rfl⟩
 rw [hSR] at HP HSR
 clear hPP hKK hDD hSR
 obtain ⟨kind, name, typ, frm, guid, origin, snap, pp, pn, pc, obj, at_, many, kp, kn, kc, dp, dl, dc⟩ := r
 obtain ⟨kind', name', typ', frm', guid', origin', snap', pp', pn', pc', obj', at', many', kp', kn', kc', dp', dl', dc'⟩ := s
 unfold Rc.arr
 simp only at HEP HEK HED HSR ⊢
 obtain ⟨wb, hwb⟩ := eX ((w.alloc (.cells #[.int .i64 kind, .string name, .int .i64 typ, .int .i64 frm, .int .i64 guid, .int .i64 origin, .string snap, .slice pp pn pc, .int .i64 obj, .int .i64 at_, .int .i64 many, .slice kp kn kc, .slice dp dl dc] 26)).alloc (.cells #[.int .i64 kind', .string name', .int .i64 typ', .int .i64 frm', .int .i64 guid', .int .i64 origin', .string snap', .slice pp' pn' pc', .int .i64 obj', .int .i64 at', .int .i64 many', .slice kp' kn' kc', .slice dp' dl' dc'] 26))
 have HFB : Hid (Frm [] w ((w.alloc (.cells #[.int .i64 kind, .string name, .int .i64 typ, .int .i64 frm, .int .i64 guid, .int .i64 origin, .string snap, .slice pp pn pc, .int .i64 obj, .int .i64 at_, .int .i64 many, .slice kp kn kc, .slice dp dl dc] 26)).alloc (.cells #[.int .i64 kind', .string name', .int .i64 typ', .int .i64 frm', .int .i64 guid', .int .i64 origin', .string snap', .slice pp' pn' pc', .int .i64 obj', .int .i64 at', .int .i64 many', .slice kp' kn' kc', .slice dp' dl' dc'] 26))) := hid (((Frm.refl _ _).alloc _).alloc _)
 clear hwb
 have HCL : Hid (∀ V, Frm [] ((w.alloc (.cells #[.int .i64 kind, .string name, .int .i64 typ, .int .i64 frm, .int .i64 guid, .int .i64 origin, .string snap, .slice pp pn pc, .int .i64 obj, .int .i64 at_, .int .i64 many, .slice kp kn kc, .slice dp dl dc] 26)).alloc (.cells #[.int .i64 kind', .string name', .int .i64 typ', .int .i64 frm', .int .i64 guid', .int .i64 origin', .string snap', .slice pp' pn' pc', .int .i64 obj', .int .i64 at', .int .i64 many', .slice kp' kn' kc', .slice dp' dl' dc'] 26)) V →
   (V.cell? ⟨w.heap.size, 8, none⟩ = some (.int .i64 obj) ∧ V.cell? ⟨w.heap.size, 9, none⟩ = some (.int .i64 at_) ∧ V.cell? ⟨w.heap.size, 10, none⟩ = some (.int .i64 many) ∧ V.cell? ⟨w.heap.size, 11, none⟩ = some (.slice kp kn kc) ∧ V.cell? ⟨w.heap.size, 12, none⟩ = some (.slice dp dl dc)) ∧
   (V.cell? ⟨w.heap.size + 1, 8, none⟩ = some (.int .i64 obj') ∧ V.cell? ⟨w.heap.size + 1, 9, none⟩ = some (.int .i64 at') ∧ V.cell? ⟨w.heap.size + 1, 10, none⟩ = some (.int .i64 many') ∧ V.cell? ⟨w.heap.size + 1, 11, none⟩ = some (.slice kp' kn' kc') ∧ V.cell? ⟨w.heap.size + 1, 12, none⟩ = some (.slice dp' dl' dc'))) := hid (fun V hf => by
  have h1 := heap_alloc_new w (.cells #[.int .i64 kind, .string name, .int .i64 typ, .int .i64 frm, .int .i64 guid, .int .i64 origin, .string snap, .slice pp pn pc, .int .i64 obj, .int .i64 at_, .int .i64 many, .slice kp kn kc, .slice dp dl dc] 26)
  have h2 := heap_alloc_new (w.alloc (.cells #[.int .i64 kind, .string name, .int .i64 typ, .int .i64 frm, .int .i64 guid, .int .i64 origin, .string snap, .slice pp pn pc, .int .i64 obj, .int .i64 at_, .int .i64 many, .slice kp kn kc, .slice dp dl dc] 26)) (.cells #[.int .i64 kind', .string name', .int .i64 typ', .int .i64 frm', .int .i64 guid', .int .i64 origin', .string snap', .slice pp' pn' pc', .int .i64 obj', .int .i64 at', .int .i64 many', .slice kp' kn' kc', .slice dp' dl' dc'] 26)
  have e1 := hf.heap (((Frm.refl [] _).alloc _).heap h1 (by simp)) (by simp)
  have e2 := hf.heap h2 (by simp)
  have e3 : (w.alloc (.cells #[.int .i64 kind, .string name, .int .i64 typ, .int .i64 frm, .int .i64 guid, .int .i64 origin, .string snap, .slice pp pn pc, .int .i64 obj, .int .i64 at_, .int .i64 many, .slice kp kn kc, .slice dp dl dc] 26)).heap.size = w.heap.size + 1 := by simp
  rw [e3] at e2
  refine ⟨⟨?_, ?_, ?_, ?_, ?_⟩, ⟨?_, ?_, ?_, ?_, ?_⟩⟩ <;> first | (rw [cell_of_row _ _ _ _ _ _ e1]; rfl) | (rw [cell_of_row _ _ _ _ _ _ e2]; rfl))
 go_enter Tryz.func24, Tryz.ntmps24
 by_cases h0 : kind = kind'
 case neg =>
  have hb : (kind == kind') = false := by rw [beq_eq_false_iff_ne]; exact h0
  have HK := hid h0
  clear h0
  go_wp2_with fail
  try go_returns
  exact HP.out _ _ (by rw [HSR.out]; simp [HK.out]) HFB.out
 subst h0
 by_cases h1 : name = name'
 case neg =>
  have hb : (name.toList == name'.toList) = false := by rw [ba_beq]; exact decide_eq_false h1
  have HK := hid h1
  clear h1
  go_wp2_with fail
  try go_returns
  exact HP.out _ _ (by rw [HSR.out]; simp [HK.out]) HFB.out
 subst h1
 by_cases h2 : typ = typ'
 case neg =>
  have hb : (typ == typ') = false := by rw [beq_eq_false_iff_ne]; exact h2
  have HK := hid h2
  clear h2
  go_wp2_with fail
  try go_returns
  exact HP.out _ _ (by rw [HSR.out]; simp [HK.out]) HFB.out
 subst h2
 by_cases h3 : frm = frm'
 case neg =>
  have hb : (frm == frm') = false := by rw [beq_eq_false_iff_ne]; exact h3
  have HK := hid h3
  clear h3
  go_wp2_with fail
  try go_returns
  exact HP.out _ _ (by rw [HSR.out]; simp [HK.out]) HFB.out
 subst h3
 by_cases h4 : guid = guid'
 case neg =>
  have hb : (guid == guid') = false := by rw [beq_eq_false_iff_ne]; exact h4
  have HK := hid h4
  clear h4
  go_wp2_with fail
  try go_returns
  exact HP.out _ _ (by rw [HSR.out]; simp [HK.out]) HFB.out
 subst h4
 by_cases h5 : origin = origin'
 case neg =>
  have hb : (origin == origin') = false := by rw [beq_eq_false_iff_ne]; exact h5
  have HK := hid h5
  clear h5
  go_wp2_with fail
  try go_returns
  exact HP.out _ _ (by rw [HSR.out]; simp [HK.out]) HFB.out
 subst h5
 by_cases h6 : snap = snap'
 case neg =>
  have hb : (snap.toList == snap'.toList) = false := by rw [ba_beq]; exact decide_eq_false h6
  have HK := hid h6
  clear h6
  go_wp2_with fail
  try go_returns
  exact HP.out _ _ (by rw [HSR.out]; simp [HK.out]) HFB.out
 subst h6
 by_cases h7 : PP = true
 case neg =>
  obtain rfl : PP = false := by simpa using h7
  clear h7
  go_wp2_with fail
  refine (HEP.out _ HFB.out).mono ?_
  rintro e w1 ⟨rfl, hf1⟩
  have HF1 : Hid (Frm [] w w1) := hid (HFB.out.trans hf1 (by simp))
  have HW1 := hid hf1
  obtain ⟨⟨x8, x9, x10, x11, x12⟩, ⟨y8, y9, y10, y11, y12⟩⟩ := HCL.out _ hf1
  clear hf1
  go_wp2_with fail
  try go_returns
  exact HP.out _ _ (by rw [HSR.out]; simp) HF1.out
 subst h7
 by_cases h8 : obj = obj'
 case neg =>
  have hb : (obj == obj') = false := by rw [beq_eq_false_iff_ne]; exact h8
  have HK := hid h8
  clear h8
  go_wp2_with fail
  refine (HEP.out _ HFB.out).mono ?_
  rintro e w1 ⟨rfl, hf1⟩
  have HF1 : Hid (Frm [] w w1) := hid (HFB.out.trans hf1 (by simp))
  have HW1 := hid hf1
  obtain ⟨⟨x8, x9, x10, x11, x12⟩, ⟨y8, y9, y10, y11, y12⟩⟩ := HCL.out _ hf1
  clear hf1
  go_wp2_with fail
  try go_returns
  exact HP.out _ _ (by rw [HSR.out]; simp [HK.out]) HF1.out
 subst h8
 by_cases h9 : at_ = at'
 case neg =>
  have hb : (at_ == at') = false := by rw [beq_eq_false_iff_ne]; exact h9
  have HK := hid h9
  clear h9
  go_wp2_with fail
  refine (HEP.out _ HFB.out).mono ?_
  rintro e w1 ⟨rfl, hf1⟩
  have HF1 : Hid (Frm [] w w1) := hid (HFB.out.trans hf1 (by simp))
  have HW1 := hid hf1
  obtain ⟨⟨x8, x9, x10, x11, x12⟩, ⟨y8, y9, y10, y11, y12⟩⟩ := HCL.out _ hf1
  clear hf1
  go_wp2_with fail
  try go_returns
  exact HP.out _ _ (by rw [HSR.out]; simp [HK.out]) HF1.out
 subst h9
 by_cases h10 : many = many'
 case neg =>
  have hb : (many == many') = false := by rw [beq_eq_false_iff_ne]; exact h10
  have HK := hid h10
  clear h10
  go_wp2_with fail
  refine (HEP.out _ HFB.out).mono ?_
  rintro e w1 ⟨rfl, hf1⟩
  have HF1 : Hid (Frm [] w w1) := hid (HFB.out.trans hf1 (by simp))
  have HW1 := hid hf1
  obtain ⟨⟨x8, x9, x10, x11, x12⟩, ⟨y8, y9, y10, y11, y12⟩⟩ := HCL.out _ hf1
  clear hf1
  go_wp2_with fail
  try go_returns
  exact HP.out _ _ (by rw [HSR.out]; simp [HK.out]) HF1.out
 subst h10
 by_cases h11 : KK = true
 case neg =>
  obtain rfl : KK = false := by simpa using h11
  clear h11
  go_wp2_with fail
  refine (HEP.out _ HFB.out).mono ?_
  rintro e w1 ⟨rfl, hf1⟩
  have HF1 : Hid (Frm [] w w1) := hid (HFB.out.trans hf1 (by simp))
  have HW1 := hid hf1
  obtain ⟨⟨x8, x9, x10, x11, x12⟩, ⟨y8, y9, y10, y11, y12⟩⟩ := HCL.out _ hf1
  clear hf1
  go_wp2_with fail
  refine (HEK.out _ HF1.out).mono ?_
  rintro e w2 ⟨rfl, hf2⟩
  have HF2 : Hid (Frm [] w w2) := hid (HF1.out.trans hf2 (by simp))
  obtain ⟨⟨u8, u9, u10, u11, u12⟩, ⟨v8, v9, v10, v11, v12⟩⟩ := HCL.out _ (HW1.out.trans hf2 (by simp))
  clear x8 x9 x10 x11 x12 y8 y9 y10 y11 y12
  clear hf2
  go_wp2_with fail
  try go_returns
  exact HP.out _ _ (by rw [HSR.out]; simp) HF2.out
 subst h11
 by_cases h12 : DD = true
 case neg =>
  obtain rfl : DD = false := by simpa using h12
  clear h12
  go_wp2_with fail
  refine (HEP.out _ HFB.out).mono ?_
  rintro e w1 ⟨rfl, hf1⟩
  have HF1 : Hid (Frm [] w w1) := hid (HFB.out.trans hf1 (by simp))
  have HW1 := hid hf1
  obtain ⟨⟨x8, x9, x10, x11, x12⟩, ⟨y8, y9, y10, y11, y12⟩⟩ := HCL.out _ hf1
  clear hf1
  go_wp2_with fail
  refine (HEK.out _ HF1.out).mono ?_
  rintro e w2 ⟨rfl, hf2⟩
  have HF2 : Hid (Frm [] w w2) := hid (HF1.out.trans hf2 (by simp))
  obtain ⟨⟨u8, u9, u10, u11, u12⟩, ⟨v8, v9, v10, v11, v12⟩⟩ := HCL.out _ (HW1.out.trans hf2 (by simp))
  clear x8 x9 x10 x11 x12 y8 y9 y10 y11 y12
  clear hf2
  go_wp2_with fail
  refine (HED.out _ HF2.out).mono ?_
  rintro e wd ⟨rfl, rfl⟩
  go_wp2_with fail
  try go_returns
  exact HP.out _ _ (by rw [HSR.out]; simp) HF2.out
 subst h12
 go_wp2_with fail
 refine (HEP.out _ HFB.out).mono ?_
 rintro e w1 ⟨rfl, hf1⟩
 have HF1 : Hid (Frm [] w w1) := hid (HFB.out.trans hf1 (by simp))
 have HW1 := hid hf1
 obtain ⟨⟨x8, x9, x10, x11, x12⟩, ⟨y8, y9, y10, y11, y12⟩⟩ := HCL.out _ hf1
 clear hf1
 go_wp2_with fail
 refine (HEK.out _ HF1.out).mono ?_
 rintro e w2 ⟨rfl, hf2⟩
 have HF2 : Hid (Frm [] w w2) := hid (HF1.out.trans hf2 (by simp))
 obtain ⟨⟨u8, u9, u10, u11, u12⟩, ⟨v8, v9, v10, v11, v12⟩⟩ := HCL.out _ (HW1.out.trans hf2 (by simp))
 clear x8 x9 x10 x11 x12 y8 y9 y10 y11 y12
 clear hf2
 go_wp2_with fail
 refine (HED.out _ HF2.out).mono ?_
 rintro e wd ⟨rfl, rfl⟩
 go_wp2_with fail
 try go_returns
 exact HP.out _ _ (by rw [HSR.out]; simp) HF2.out
end
section
open Go.RowKit Go.Lib
def Rc.onlyCount (r : Rc) : Rc := ⟨r.kind, ⟨#[]⟩, 0, 0, 0, 0, ⟨#[]⟩, none, 0, 0, 0, 0, r.many, none, 0, 0, none, 0, 0⟩
theorem onlyCount_any (r : Rc) (w : World) : Calls Tryz.prog 45 #[.agg r.arr] w fun e w' => e = .returned (.agg r.onlyCount.arr) ∧ Frm [] w w' := by
 obtain ⟨PO, hPO⟩ : ∃ PO : Ending → World → Prop, (fun e w' => e = .returned (.agg r.onlyCount.arr) ∧ Frm [] w w') = PO := ⟨_, rfl⟩
 rw [hPO]
 have HP : Hid (∀ w', Frm [] w w' → PO (.returned (.agg r.onlyCount.arr)) w') := hid (fun w' h => by rw [← hPO]; exact ⟨rfl, h⟩)
 clear hPO
 obtain ⟨kind, name, typ, frm, guid, origin, snap, pp, pn, pc, obj, at_, many, kp, kn, kc, dp, dl, dc⟩ := r
 unfold Rc.onlyCount at HP
 unfold Rc.arr at HP ⊢
 simp only at HP ⊢
 have hbld : ∀ V, (Instr.build 26 #[(0, .int .i64 kind), (10, .int .i64 many)]).run Tryz.prog V = .ok (.agg #[.int .i64 kind, .string ⟨#[]⟩, .int .i64 0, .int .i64 0, .int .i64 0, .int .i64 0, .string ⟨#[]⟩, .slice none 0 0, .int .i64 0, .int .i64 0, .int .i64 many, .slice none 0 0, .slice none 0 0]) V := fun V => run_build V _ _ _ (by kernel_rfl)
 go_enter Tryz.func45, Tryz.ntmps45
 go_wp2_with fail
 refine bodyPost_ret (v := .agg #[.int .i64 kind, .string ⟨#[]⟩, .int .i64 0, .int .i64 0, .int .i64 0, .int .i64 0, .string ⟨#[]⟩, .slice none 0 0, .int .i64 0, .int .i64 0, .int .i64 many, .slice none 0 0, .slice none 0 0]) (by simp [results, Tryz.results45, go_sem]) rfl ?_
 exact HP.out _ (((Frm.refl _ _).alloc _).alloc _)
def Rc.onlyPackage (r : Rc) : Rc := ⟨r.kind, r.name, 0, 0, 0, 0, ⟨#[]⟩, none, 0, 0, 0, 0, r.many, none, 0, 0, none, 0, 0⟩
theorem onlyPackage_any (r : Rc) (w : World) : Calls Tryz.prog 49 #[.agg r.arr] w fun e w' => e = .returned (.agg r.onlyPackage.arr) ∧ Frm [] w w' := by
 obtain ⟨PO, hPO⟩ : ∃ PO : Ending → World → Prop, (fun e w' => e = .returned (.agg r.onlyPackage.arr) ∧ Frm [] w w') = PO := ⟨_, rfl⟩
 rw [hPO]
 have HP : Hid (∀ w', Frm [] w w' → PO (.returned (.agg r.onlyPackage.arr)) w') := hid (fun w' h => by rw [← hPO]; exact ⟨rfl, h⟩)
 clear hPO
 obtain ⟨kind, name, typ, frm, guid, origin, snap, pp, pn, pc, obj, at_, many, kp, kn, kc, dp, dl, dc⟩ := r
 unfold Rc.onlyPackage at HP
 unfold Rc.arr at HP ⊢
 simp only at HP ⊢
 have hbld : ∀ V, (Instr.build 26 #[(0, .int .i64 kind), (1, .string name), (10, .int .i64 many)]).run Tryz.prog V = .ok (.agg #[.int .i64 kind, .string name, .int .i64 0, .int .i64 0, .int .i64 0, .int .i64 0, .string ⟨#[]⟩, .slice none 0 0, .int .i64 0, .int .i64 0, .int .i64 many, .slice none 0 0, .slice none 0 0]) V := fun V => run_build V _ _ _ (by kernel_rfl)
 go_enter Tryz.func49, Tryz.ntmps49
 go_wp2_with fail
 refine bodyPost_ret (v := .agg #[.int .i64 kind, .string name, .int .i64 0, .int .i64 0, .int .i64 0, .int .i64 0, .string ⟨#[]⟩, .slice none 0 0, .int .i64 0, .int .i64 0, .int .i64 many, .slice none 0 0, .slice none 0 0]) (by simp [results, Tryz.results49, go_sem]) rfl ?_
 exact HP.out _ (((Frm.refl _ _).alloc _).alloc _)
def Rc.onlyBegin (r : Rc) : Rc := ⟨r.kind, r.name, r.typ, r.frm, r.guid, r.origin, r.snap, r.pp, r.pn, r.pc, 0, 0, 0, none, 0, 0, none, 0, 0⟩
theorem onlyBegin_any (r : Rc) (w : World) : Calls Tryz.prog 53 #[.agg r.arr] w fun e w' => e = .returned (.agg r.onlyBegin.arr) ∧ Frm [] w w' := by
 obtain ⟨PO, hPO⟩ : ∃ PO : Ending → World → Prop, (fun e w' => e = .returned (.agg r.onlyBegin.arr) ∧ Frm [] w w') = PO := ⟨_, rfl⟩
 rw [hPO]
 have HP : Hid (∀ w', Frm [] w w' → PO (.returned (.agg r.onlyBegin.arr)) w') := hid (fun w' h => by rw [← hPO]; exact ⟨rfl, h⟩)
 clear hPO
 obtain ⟨kind, name, typ, frm, guid, origin, snap, pp, pn, pc, obj, at_, many, kp, kn, kc, dp, dl, dc⟩ := r
 unfold Rc.onlyBegin at HP
 unfold Rc.arr at HP ⊢
 simp only at HP ⊢
 have hbld : ∀ V, (Instr.build 26 #[(0, .int .i64 kind), (1, .string name), (2, .int .i64 typ), (3, .int .i64 frm), (4, .int .i64 guid), (5, .int .i64 origin), (6, .string snap), (7, .slice pp pn pc)]).run Tryz.prog V = .ok (.agg #[.int .i64 kind, .string name, .int .i64 typ, .int .i64 frm, .int .i64 guid, .int .i64 origin, .string snap, .slice pp pn pc, .int .i64 0, .int .i64 0, .int .i64 0, .slice none 0 0, .slice none 0 0]) V := fun V => run_build V _ _ _ (by kernel_rfl)
 go_enter Tryz.func53, Tryz.ntmps53
 go_wp2_with fail
 refine bodyPost_ret (v := .agg #[.int .i64 kind, .string name, .int .i64 typ, .int .i64 frm, .int .i64 guid, .int .i64 origin, .string snap, .slice pp pn pc, .int .i64 0, .int .i64 0, .int .i64 0, .slice none 0 0, .slice none 0 0]) (by simp [results, Tryz.results53, go_sem]) rfl ?_
 exact HP.out _ (((Frm.refl _ _).alloc _).alloc _)
def Rc.onlyLive (r : Rc) : Rc := ⟨r.kind, ⟨#[]⟩, 0, 0, 0, 0, ⟨#[]⟩, none, 0, 0, 0, 0, 0, r.kp, r.kn, r.kc, none, 0, 0⟩
theorem onlyLive_any (r : Rc) (w : World) : Calls Tryz.prog 57 #[.agg r.arr] w fun e w' => e = .returned (.agg r.onlyLive.arr) ∧ Frm [] w w' := by
 obtain ⟨PO, hPO⟩ : ∃ PO : Ending → World → Prop, (fun e w' => e = .returned (.agg r.onlyLive.arr) ∧ Frm [] w w') = PO := ⟨_, rfl⟩
 rw [hPO]
 have HP : Hid (∀ w', Frm [] w w' → PO (.returned (.agg r.onlyLive.arr)) w') := hid (fun w' h => by rw [← hPO]; exact ⟨rfl, h⟩)
 clear hPO
 obtain ⟨kind, name, typ, frm, guid, origin, snap, pp, pn, pc, obj, at_, many, kp, kn, kc, dp, dl, dc⟩ := r
 unfold Rc.onlyLive at HP
 unfold Rc.arr at HP ⊢
 simp only at HP ⊢
 have hbld : ∀ V, (Instr.build 26 #[(0, .int .i64 kind), (11, .slice kp kn kc)]).run Tryz.prog V = .ok (.agg #[.int .i64 kind, .string ⟨#[]⟩, .int .i64 0, .int .i64 0, .int .i64 0, .int .i64 0, .string ⟨#[]⟩, .slice none 0 0, .int .i64 0, .int .i64 0, .int .i64 0, .slice kp kn kc, .slice none 0 0]) V := fun V => run_build V _ _ _ (by kernel_rfl)
 go_enter Tryz.func57, Tryz.ntmps57
 go_wp2_with fail
 refine bodyPost_ret (v := .agg #[.int .i64 kind, .string ⟨#[]⟩, .int .i64 0, .int .i64 0, .int .i64 0, .int .i64 0, .string ⟨#[]⟩, .slice none 0 0, .int .i64 0, .int .i64 0, .int .i64 0, .slice kp kn kc, .slice none 0 0]) (by simp [results, Tryz.results57, go_sem]) rfl ?_
 exact HP.out _ (((Frm.refl _ _).alloc _).alloc _)
def Rc.onlyNode (r : Rc) : Rc := ⟨r.kind, ⟨#[]⟩, 0, 0, 0, 0, ⟨#[]⟩, none, 0, 0, r.obj, 0, 0, r.kp, r.kn, r.kc, none, 0, 0⟩
theorem onlyNode_any (r : Rc) (w : World) : Calls Tryz.prog 61 #[.agg r.arr] w fun e w' => e = .returned (.agg r.onlyNode.arr) ∧ Frm [] w w' := by
 obtain ⟨PO, hPO⟩ : ∃ PO : Ending → World → Prop, (fun e w' => e = .returned (.agg r.onlyNode.arr) ∧ Frm [] w w') = PO := ⟨_, rfl⟩
 rw [hPO]
 have HP : Hid (∀ w', Frm [] w w' → PO (.returned (.agg r.onlyNode.arr)) w') := hid (fun w' h => by rw [← hPO]; exact ⟨rfl, h⟩)
 clear hPO
 obtain ⟨kind, name, typ, frm, guid, origin, snap, pp, pn, pc, obj, at_, many, kp, kn, kc, dp, dl, dc⟩ := r
 unfold Rc.onlyNode at HP
 unfold Rc.arr at HP ⊢
 simp only at HP ⊢
 have hbld : ∀ V, (Instr.build 26 #[(0, .int .i64 kind), (8, .int .i64 obj), (11, .slice kp kn kc)]).run Tryz.prog V = .ok (.agg #[.int .i64 kind, .string ⟨#[]⟩, .int .i64 0, .int .i64 0, .int .i64 0, .int .i64 0, .string ⟨#[]⟩, .slice none 0 0, .int .i64 obj, .int .i64 0, .int .i64 0, .slice kp kn kc, .slice none 0 0]) V := fun V => run_build V _ _ _ (by kernel_rfl)
 go_enter Tryz.func61, Tryz.ntmps61
 go_wp2_with fail
 refine bodyPost_ret (v := .agg #[.int .i64 kind, .string ⟨#[]⟩, .int .i64 0, .int .i64 0, .int .i64 0, .int .i64 0, .string ⟨#[]⟩, .slice none 0 0, .int .i64 obj, .int .i64 0, .int .i64 0, .slice kp kn kc, .slice none 0 0]) (by simp [results, Tryz.results61, go_sem]) rfl ?_
 exact HP.out _ (((Frm.refl _ _).alloc _).alloc _)
def Rc.onlyWrite (r : Rc) : Rc := ⟨r.kind, ⟨#[]⟩, 0, 0, 0, 0, ⟨#[]⟩, none, 0, 0, r.obj, r.at_, 0, none, 0, 0, r.dp, r.dl, r.dc⟩
theorem onlyWrite_any (r : Rc) (w : World) : Calls Tryz.prog 65 #[.agg r.arr] w fun e w' => e = .returned (.agg r.onlyWrite.arr) ∧ Frm [] w w' := by
 obtain ⟨PO, hPO⟩ : ∃ PO : Ending → World → Prop, (fun e w' => e = .returned (.agg r.onlyWrite.arr) ∧ Frm [] w w') = PO := ⟨_, rfl⟩
 rw [hPO]
 have HP : Hid (∀ w', Frm [] w w' → PO (.returned (.agg r.onlyWrite.arr)) w') := hid (fun w' h => by rw [← hPO]; exact ⟨rfl, h⟩)
 clear hPO
 obtain ⟨kind, name, typ, frm, guid, origin, snap, pp, pn, pc, obj, at_, many, kp, kn, kc, dp, dl, dc⟩ := r
 unfold Rc.onlyWrite at HP
 unfold Rc.arr at HP ⊢
 simp only at HP ⊢
 have hbld : ∀ V, (Instr.build 26 #[(0, .int .i64 kind), (8, .int .i64 obj), (9, .int .i64 at_), (12, .slice dp dl dc)]).run Tryz.prog V = .ok (.agg #[.int .i64 kind, .string ⟨#[]⟩, .int .i64 0, .int .i64 0, .int .i64 0, .int .i64 0, .string ⟨#[]⟩, .slice none 0 0, .int .i64 obj, .int .i64 at_, .int .i64 0, .slice none 0 0, .slice dp dl dc]) V := fun V => run_build V _ _ _ (by kernel_rfl)
 go_enter Tryz.func65, Tryz.ntmps65
 go_wp2_with fail
 refine bodyPost_ret (v := .agg #[.int .i64 kind, .string ⟨#[]⟩, .int .i64 0, .int .i64 0, .int .i64 0, .int .i64 0, .string ⟨#[]⟩, .slice none 0 0, .int .i64 obj, .int .i64 at_, .int .i64 0, .slice none 0 0, .slice dp dl dc]) (by simp [results, Tryz.results65, go_sem]) rfl ?_
 exact HP.out _ (((Frm.refl _ _).alloc _).alloc _)
end
section
open Go.RowKit Go.Lib
def MayCn (r : Rc) : Prop := 1 ≤ r.many ∧ r.many ≤ 1048576
instance (r : Rc) : Decidable (MayCn r) := by unfold MayCn; infer_instance
theorem mayCount_any (r : Rc) (w : World) : Calls Tryz.prog 44 #[.agg r.arr] w fun e w' => e = .returned (.bool (decide (MayCn r))) ∧ Frm [] w w' := by
 obtain ⟨PO, hPO⟩ : ∃ PO : Ending → World → Prop, (fun e w' => e = .returned (.bool (decide (MayCn r))) ∧ Frm [] w w') = PO := ⟨_, rfl⟩
 rw [hPO]
 have HP : Hid (∀ x w', (x = true ↔ MayCn r) → Frm [] w w' → PO (.returned (.bool x)) w') := hid (fun x w' h h2 => by rw [← hPO]; exact ⟨by rw [bool_decR h], h2⟩)
 clear hPO
 unfold MayCn at HP
 obtain ⟨kind, name, typ, frm, guid, origin, snap, pp, pn, pc, obj, at_, many, kp, kn, kc, dp, dl, dc⟩ := r
 unfold Rc.arr
 simp only at HP ⊢
 have HC := hid (fun W => within_anyR many 1 1048576 W)
 obtain ⟨B, hB⟩ := eX (decide (1 ≤ many ∧ many ≤ 1048576))
 rw [hB] at HC
 have HB : Hid (B = true ↔ 1 ≤ many ∧ many ≤ 1048576) := hid (by rw [← hB]; exact decide_eq_true_iff)
 clear hB
 go_enter Tryz.func44, Tryz.ntmps44
 go_wp2_with fail
 refine (HC.out _).mono ?_
 rintro e w1 ⟨rfl, rfl⟩
 go_wp2_with fail
 try go_returns
 exact HP.out _ _ HB.out ((Frm.refl _ _).alloc _)
def MayPk (r : Rc) : Prop := PartL (tx r.name) ∧ (1 ≤ r.many ∧ r.many ≤ 120)
instance (r : Rc) : Decidable (MayPk r) := by unfold MayPk; infer_instance
theorem mayPackage_any (r : Rc) (w : World) : Calls Tryz.prog 48 #[.agg r.arr] w fun e w' => e = .returned (.bool (decide (MayPk r))) ∧ Frm [] w w' := by
 obtain ⟨PO, hPO⟩ : ∃ PO : Ending → World → Prop, (fun e w' => e = .returned (.bool (decide (MayPk r))) ∧ Frm [] w w') = PO := ⟨_, rfl⟩
 rw [hPO]
 have HP : Hid (∀ x w', (x = true ↔ MayPk r) → Frm [] w w' → PO (.returned (.bool x)) w') := hid (fun x w' h h2 => by rw [← hPO]; exact ⟨by rw [bool_decR h], h2⟩)
 clear hPO
 unfold MayPk at HP
 obtain ⟨kind, name, typ, frm, guid, origin, snap, pp, pn, pc, obj, at_, many, kp, kn, kc, dp, dl, dc⟩ := r
 unfold Rc.arr
 simp only at HP ⊢
 have HC0 := hid (fun W => partW_any name W)
 obtain ⟨B0, hB0⟩ := eX (decide (PartL (tx name)))
 rw [hB0] at HC0
 have HB0 : Hid (B0 = true ↔ PartL (tx name)) := hid (by rw [← hB0]; exact decide_eq_true_iff)
 clear hB0
 have HC1 := hid (fun W => within_anyR many 1 120 W)
 obtain ⟨B1, hB1⟩ := eX (decide (1 ≤ many ∧ many ≤ 120))
 rw [hB1] at HC1
 have HB1 : Hid (B1 = true ↔ 1 ≤ many ∧ many ≤ 120) := hid (by rw [← hB1]; exact decide_eq_true_iff)
 clear hB1
 go_enter Tryz.func48, Tryz.ntmps48
 go_wp2_with fail
 refine (HC0.out _).mono ?_
 rintro e w1 ⟨rfl, rfl⟩
 cases B0 with
 | false =>
  go_wp2_with fail
  try go_returns
  exact HP.out _ _ (by simp only [Bool.false_eq_true, false_iff]; exact fun h => absurd (HB0.out.2 h.1) (by simp)) ((Frm.refl _ _).alloc _)
 | true =>
 have HT0 := hid (HB0.out.1 rfl)
 go_wp2_with fail
 refine (HC1.out _).mono ?_
 rintro e w2 ⟨rfl, rfl⟩
 go_wp2_with fail
 try go_returns
 exact HP.out _ _ (by rw [HB1.out]; exact ⟨fun h => ⟨HT0.out, h⟩, fun h => h.2⟩) ((Frm.refl _ _).alloc _)
def MayLv (r : Rc) (K : List Int) : Prop := r.kn ≤ 240 ∧ RiseL K 1 1048576
instance (r : Rc) (K : List Int) : Decidable (MayLv r K) := by unfold MayLv; infer_instance
theorem mayLive_any (r : Rc) (K : List Int) (w : World) (hr : RdI w r.kp K) (hl : K.length = r.kn) (hm : r.kn ≤ 9223372036854775807) : Calls Tryz.prog 56 #[.agg r.arr] w fun e w' => e = .returned (.bool (decide (MayLv r K))) ∧ Frm [] w w' := by
 obtain ⟨PO, hPO⟩ : ∃ PO : Ending → World → Prop, (fun e w' => e = .returned (.bool (decide (MayLv r K))) ∧ Frm [] w w') = PO := ⟨_, rfl⟩
 rw [hPO]
 have HP : Hid (∀ x w', (x = true ↔ MayLv r K) → Frm [] w w' → PO (.returned (.bool x)) w') := hid (fun x w' h h2 => by rw [← hPO]; exact ⟨by rw [bool_decR h], h2⟩)
 have HRK := hid (fun W (hf : Frm [] w W) lo hi => rise_any r.kp r.kn r.kc K lo hi W hl hm (hr.kept hf (by simp)))
 clear hPO
 unfold MayLv at HP
 obtain ⟨kind, name, typ, frm, guid, origin, snap, pp, pn, pc, obj, at_, many, kp, kn, kc, dp, dl, dc⟩ := r
 unfold Rc.arr
 simp only at HP ⊢
 have HC1 := hid (fun W (hf : Frm [] w W) => HRK.out W hf 1 1048576)
 obtain ⟨B1, hB1⟩ := eX (decide (RiseL K 1 1048576))
 rw [hB1] at HC1
 have HB1 : Hid (B1 = true ↔ RiseL K 1 1048576) := hid (by rw [← hB1]; exact decide_eq_true_iff)
 clear hB1
 clear hr
 go_enter Tryz.func56, Tryz.ntmps56
 by_cases c0 : kn ≤ 240
 case neg =>
  have HK := hid c0
  have i0 : ¬ (kn : Int) ≤ 240 := by omega
  clear c0
  go_wp2_with fail
  try go_returns
  exact HP.out _ _ (by simp only [Bool.false_eq_true, false_iff]; exact fun h => HK.out h.1) ((Frm.refl _ _).alloc _)
 have i0 : (kn : Int) ≤ 240 := by omega
 go_wp2_with fail
 refine (HC1.out _ ((Frm.refl _ _).alloc _)).mono ?_
 rintro e w2 ⟨rfl, rfl⟩
 go_wp2_with fail
 try go_returns
 exact HP.out _ _ (by rw [HB1.out]; exact ⟨fun h => ⟨c0, h⟩, fun h => h.2⟩) ((Frm.refl _ _).alloc _)
def MayNd (r : Rc) (K : List Int) : Prop := (1 ≤ r.obj ∧ r.obj ≤ 1048576) ∧ (1 ≤ (r.kn : Int) ∧ (r.kn : Int) ≤ 240) ∧ RiseL K (-1) 255
instance (r : Rc) (K : List Int) : Decidable (MayNd r K) := by unfold MayNd; infer_instance
theorem mayNode_any (r : Rc) (K : List Int) (w : World) (hr : RdI w r.kp K) (hl : K.length = r.kn) (hm : r.kn ≤ 9223372036854775807) : Calls Tryz.prog 60 #[.agg r.arr] w fun e w' => e = .returned (.bool (decide (MayNd r K))) ∧ Frm [] w w' := by
 obtain ⟨PO, hPO⟩ : ∃ PO : Ending → World → Prop, (fun e w' => e = .returned (.bool (decide (MayNd r K))) ∧ Frm [] w w') = PO := ⟨_, rfl⟩
 rw [hPO]
 have HP : Hid (∀ x w', (x = true ↔ MayNd r K) → Frm [] w w' → PO (.returned (.bool x)) w') := hid (fun x w' h h2 => by rw [← hPO]; exact ⟨by rw [bool_decR h], h2⟩)
 have HRK := hid (fun W (hf : Frm [] w W) lo hi => rise_any r.kp r.kn r.kc K lo hi W hl hm (hr.kept hf (by simp)))
 clear hPO
 unfold MayNd at HP
 obtain ⟨kind, name, typ, frm, guid, origin, snap, pp, pn, pc, obj, at_, many, kp, kn, kc, dp, dl, dc⟩ := r
 unfold Rc.arr
 simp only at HP ⊢
 have HC0 := hid (fun W => within_anyR obj 1 1048576 W)
 obtain ⟨B0, hB0⟩ := eX (decide (1 ≤ obj ∧ obj ≤ 1048576))
 rw [hB0] at HC0
 have HB0 : Hid (B0 = true ↔ 1 ≤ obj ∧ obj ≤ 1048576) := hid (by rw [← hB0]; exact decide_eq_true_iff)
 clear hB0
 have HC1 := hid (fun W => within_anyR (kn : Int) 1 240 W)
 obtain ⟨B1, hB1⟩ := eX (decide (1 ≤ (kn : Int) ∧ (kn : Int) ≤ 240))
 rw [hB1] at HC1
 have HB1 : Hid (B1 = true ↔ 1 ≤ (kn : Int) ∧ (kn : Int) ≤ 240) := hid (by rw [← hB1]; exact decide_eq_true_iff)
 clear hB1
 have HC2 := hid (fun W (hf : Frm [] w W) => HRK.out W hf (-1) 255)
 obtain ⟨B2, hB2⟩ := eX (decide (RiseL K (-1) 255))
 rw [hB2] at HC2
 have HB2 : Hid (B2 = true ↔ RiseL K (-1) 255) := hid (by rw [← hB2]; exact decide_eq_true_iff)
 clear hB2
 clear hr
 go_enter Tryz.func60, Tryz.ntmps60
 go_wp2_with fail
 refine (HC0.out _).mono ?_
 rintro e w1 ⟨rfl, rfl⟩
 cases B0 with
 | false =>
  go_wp2_with fail
  try go_returns
  exact HP.out _ _ (by simp only [Bool.false_eq_true, false_iff]; exact fun h => absurd (HB0.out.2 h.1) (by simp)) ((Frm.refl _ _).alloc _)
 | true =>
 have HT0 := hid (HB0.out.1 rfl)
 go_wp2_with fail
 refine (HC1.out _).mono ?_
 rintro e w2 ⟨rfl, rfl⟩
 cases B1 with
 | false =>
  go_wp2_with fail
  try go_returns
  exact HP.out _ _ (by simp only [Bool.false_eq_true, false_iff]; exact fun h => absurd (HB1.out.2 h.2.1) (by simp)) ((Frm.refl _ _).alloc _)
 | true =>
 have HT1 := hid (HB1.out.1 rfl)
 go_wp2_with fail
 refine (HC2.out _ ((Frm.refl _ _).alloc _)).mono ?_
 rintro e w3 ⟨rfl, rfl⟩
 go_wp2_with fail
 try go_returns
 exact HP.out _ _ (by rw [HB2.out]; exact ⟨fun h => ⟨HT0.out, HT1.out, h⟩, fun h => h.2.2⟩) ((Frm.refl _ _).alloc _)
def MayWr (r : Rc) : Prop := (1 ≤ r.obj ∧ r.obj ≤ 1048576) ∧ (-1 ≤ r.at_ ∧ r.at_ ≤ 255) ∧ (1 ≤ (r.dl : Int) ∧ (r.dl : Int) ≤ 256)
instance (r : Rc) : Decidable (MayWr r) := by unfold MayWr; infer_instance
theorem mayWrite_any (r : Rc) (w : World) : Calls Tryz.prog 64 #[.agg r.arr] w fun e w' => e = .returned (.bool (decide (MayWr r))) ∧ Frm [] w w' := by
 obtain ⟨PO, hPO⟩ : ∃ PO : Ending → World → Prop, (fun e w' => e = .returned (.bool (decide (MayWr r))) ∧ Frm [] w w') = PO := ⟨_, rfl⟩
 rw [hPO]
 have HP : Hid (∀ x w', (x = true ↔ MayWr r) → Frm [] w w' → PO (.returned (.bool x)) w') := hid (fun x w' h h2 => by rw [← hPO]; exact ⟨by rw [bool_decR h], h2⟩)
 clear hPO
 unfold MayWr at HP
 obtain ⟨kind, name, typ, frm, guid, origin, snap, pp, pn, pc, obj, at_, many, kp, kn, kc, dp, dl, dc⟩ := r
 unfold Rc.arr
 simp only at HP ⊢
 have HC0 := hid (fun W => within_anyR obj 1 1048576 W)
 obtain ⟨B0, hB0⟩ := eX (decide (1 ≤ obj ∧ obj ≤ 1048576))
 rw [hB0] at HC0
 have HB0 : Hid (B0 = true ↔ 1 ≤ obj ∧ obj ≤ 1048576) := hid (by rw [← hB0]; exact decide_eq_true_iff)
 clear hB0
 have HC1 := hid (fun W => within_anyR at_ (-1) 255 W)
 obtain ⟨B1, hB1⟩ := eX (decide (-1 ≤ at_ ∧ at_ ≤ 255))
 rw [hB1] at HC1
 have HB1 : Hid (B1 = true ↔ -1 ≤ at_ ∧ at_ ≤ 255) := hid (by rw [← hB1]; exact decide_eq_true_iff)
 clear hB1
 have HC2 := hid (fun W => within_anyR (dl : Int) 1 256 W)
 obtain ⟨B2, hB2⟩ := eX (decide (1 ≤ (dl : Int) ∧ (dl : Int) ≤ 256))
 rw [hB2] at HC2
 have HB2 : Hid (B2 = true ↔ 1 ≤ (dl : Int) ∧ (dl : Int) ≤ 256) := hid (by rw [← hB2]; exact decide_eq_true_iff)
 clear hB2
 go_enter Tryz.func64, Tryz.ntmps64
 go_wp2_with fail
 refine (HC0.out _).mono ?_
 rintro e w1 ⟨rfl, rfl⟩
 cases B0 with
 | false =>
  go_wp2_with fail
  try go_returns
  exact HP.out _ _ (by simp only [Bool.false_eq_true, false_iff]; exact fun h => absurd (HB0.out.2 h.1) (by simp)) ((Frm.refl _ _).alloc _)
 | true =>
 have HT0 := hid (HB0.out.1 rfl)
 go_wp2_with fail
 refine (HC1.out _).mono ?_
 rintro e w2 ⟨rfl, rfl⟩
 cases B1 with
 | false =>
  go_wp2_with fail
  try go_returns
  exact HP.out _ _ (by simp only [Bool.false_eq_true, false_iff]; exact fun h => absurd (HB1.out.2 h.2.1) (by simp)) ((Frm.refl _ _).alloc _)
 | true =>
 have HT1 := hid (HB1.out.1 rfl)
 go_wp2_with fail
 refine (HC2.out _).mono ?_
 rintro e w3 ⟨rfl, rfl⟩
 go_wp2_with fail
 try go_returns
 exact HP.out _ _ (by rw [HB2.out]; exact ⟨fun h => ⟨HT0.out, HT1.out, h⟩, fun h => h.2.2⟩) ((Frm.refl _ _).alloc _)
end
end Go.Proofs.YtajfjkfnmmfhmaaGreatDoor
