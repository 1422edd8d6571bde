/- Records, the document's side: a part of a name. Records, the document's side: a dataset's name. Records: the rows of the kinds. Records: lists held against one another; bytes.Equal. Records: are two records the same? -/
import Derived.Test.YtajfjkfnmmfhmaaGreatDoorQwag
import Derived.Test.YtajfjkfnmmfhmaaGreatDoorQwah
import Derived.Deep.Cut
import Derived.Laws.EntriesVeiled
import Derived.Test.YtajfjkfnmmfhmaaGreatDoorQwac
import Derived.Test.YtajfjkfnmmfhmaaGreatDoorQwai
import Derived.DeepKeys
import Derived.Lib.Bytes
import Derived.Deep.QuietTactic
import Derived.BigQuiet
namespace Go.Proofs.YtajfjkfnmmfhmaaGreatDoor
section
open Go.RowKit Go.Lib
set_option maxRecDepth 100000
set_option maxHeartbeats 6400000 in
theorem refPart0_any (B : ByteArray) (w : World) :
    Calls Tryz.prog 77 #[.string B] w fun e w' => e = .returned (.bool (decide (PartL (tx B)))) ∧ w' = w := by
  obtain ⟨PO, hPO⟩ : ∃ PO : Ending → World → Prop, (fun e w' => e = .returned (.bool (decide (PartL (tx B)))) ∧ w' = w) = PO := ⟨_, rfl⟩
  rw [hPO]
  have HP : Hid (∀ x, (x = true ↔ PartL (tx B)) → PO (.returned (.bool x)) w) := hid (fun x h => by rw [← hPO]; exact ⟨by rw [bool_decR h], rfl⟩)
  have HL : Hid ((tx B).length = B.size) := hid (tx_length B)
  have HG : Hid (∀ t (h : t < B.size), zA (tx B) t = (B[t].toNat : Int)) := hid (fun t h => tx_getR B t h)
  clear hPO
  go_enter Tryz.func77, Tryz.ntmps77
  by_cases h1 : B.size < 1
  case pos =>
    have i1 : (B.size : Int) < 1 := by omega
    go_wp2_with fail
    first | go_returns | skip
    exact HP.out _ (by simp; intro h; have := h.1.1; have := HL.out; omega)
  by_cases h2 : 24 < B.size
  case pos =>
    have i1 : ¬ (B.size : Int) < 1 := by omega
    have i2 : (24 : Int) < (B.size : Int) := by omega
    go_wp2_with fail
    first | go_returns | skip
    exact HP.out _ (by simp; intro h; have := h.1.2; have := HL.out; omega)
  have i1 : ¬ (B.size : Int) < 1 := by omega
  have i2 : ¬ (24 : Int) < (B.size : Int) := by omega
  go_wp2_with fail
  go_loop [2, 3] (fun r i => ∃ t : Nat, t ≤ B.size ∧ r = .bool false ∧ i = .int .i64 (t : Int) ∧ Hid (∀ j, j < t → okC j (zA (tx B) j))) (fun _ i => B.size - (intOf i).toNat)
  case atStart => exact ⟨0, Nat.zero_le _, rfl, rfl, hid (fun j hj => by omega)⟩
  case round =>
    obtain ⟨t, ht, rfl, rfl, hok⟩ := hrel
    have HOK := hid hok.out
    clear hok
    by_cases hlt : t < B.size
    case neg =>
      obtain rfl : t = B.size := by omega
      go_wp2_with fail
      first | go_returns | skip
      exact HP.out _ (by simp; exact ⟨by have := HL.out; omega, fun i hi => HOK.out i (by rw [← HL.out]; exact hi)⟩)
    have t1 : (t : Int) < (B.size : Int) := by omega
    have hb := B[t].toNat_lt
    have HNX : Hid (okC t (B[t].toNat : Int) → ∀ j, j < t + 1 → okC j (zA (tx B) j)) := hid (fun h j hj => by
      by_cases hj2 : j < t
      · exact HOK.out j hj2
      · obtain rfl : j = t := by omega
        rw [HG.out j hlt]; exact h)
    have HBD : Hid (PartL (tx B) → okC t (B[t].toNat : Int)) := hid (fun h => by rw [← HG.out t hlt]; exact h.2 t (by rw [HL.out]; exact hlt))
    clear HG HOK
    by_cases a1 : 97 ≤ B[t].toNat ∧ B[t].toNat ≤ 122
    case pos =>
      have i0 : (97 : Int) ≤ (B[t].toNat : Int) := by omega
      have i1 : (B[t].toNat : Int) ≤ 122 := by omega
      have HK : Hid (okC t (B[t].toNat : Int)) := hid (by unfold okC; omega)
      first | clear a0 | skip
      first | clear a5 | skip
      first | clear a6 | skip
      go_wp2_with fail
      go_round
      case rel => exact ⟨t + 1, by omega, rfl, by go_num, hid (HNX.out HK.out)⟩
      case measure => first | (simp [intOf]; done) | (simp [intOf]; omega)
    by_cases a2 : 48 ≤ B[t].toNat ∧ B[t].toNat ≤ 57
    case pos =>
      have i0 : ¬ (97 : Int) ≤ (B[t].toNat : Int) := by omega
      have i1 : (48 : Int) ≤ (B[t].toNat : Int) := by omega
      have i2 : (B[t].toNat : Int) ≤ 57 := by omega
      have HK : Hid (okC t (B[t].toNat : Int)) := hid (by unfold okC; omega)
      first | clear a0 | skip
      first | clear a5 | skip
      first | clear a6 | skip
      go_wp2_with fail
      go_round
      case rel => exact ⟨t + 1, by omega, rfl, by go_num, hid (HNX.out HK.out)⟩
      case measure => first | (simp [intOf]; done) | (simp [intOf]; omega)
    by_cases a3 : 122 < B[t].toNat
    case pos =>
      by_cases a0 : t = 0
      case pos =>
        have i0 : (97 : Int) ≤ (B[t].toNat : Int) := by omega
        have i1 : ¬ (B[t].toNat : Int) ≤ 122 := by omega
        have i2 : (48 : Int) ≤ (B[t].toNat : Int) := by omega
        have i3 : ¬ (B[t].toNat : Int) ≤ 57 := by omega
        have i4 : ((t : Int) == 0) = true := by simp; omega
        have HK : Hid (¬ okC t (B[t].toNat : Int)) := hid (by unfold okC; omega)
        first | clear a0 | skip
        first | clear a5 | skip
        first | clear a6 | skip
        go_wp2_with fail
        first | go_returns | skip
        exact HP.out _ (by simp; exact fun h => HK.out (HBD.out h))
      have i0 : (97 : Int) ≤ (B[t].toNat : Int) := by omega
      have i1 : ¬ (B[t].toNat : Int) ≤ 122 := by omega
      have i2 : (48 : Int) ≤ (B[t].toNat : Int) := by omega
      have i3 : ¬ (B[t].toNat : Int) ≤ 57 := by omega
      have i4 : ((t : Int) == 0) = false := by simp; omega
      have i5 : ((B[t].toNat : Int) != 46) = true := by simp; omega
      have i6 : ((B[t].toNat : Int) != 95) = true := by simp; omega
      have i7 : ((B[t].toNat : Int) != 45) = true := by simp; omega
      have HK : Hid (¬ okC t (B[t].toNat : Int)) := hid (by unfold okC; omega)
      first | clear a0 | skip
      first | clear a5 | skip
      first | clear a6 | skip
      go_wp2_with fail
      first | go_returns | skip
      exact HP.out _ (by simp; exact fun h => HK.out (HBD.out h))
    by_cases a4 : B[t].toNat < 48
    case pos =>
      by_cases a0 : t = 0
      case pos =>
        have i0 : ¬ (97 : Int) ≤ (B[t].toNat : Int) := by omega
        have i1 : ¬ (48 : Int) ≤ (B[t].toNat : Int) := by omega
        have i2 : ((t : Int) == 0) = true := by simp; omega
        have HK : Hid (¬ okC t (B[t].toNat : Int)) := hid (by unfold okC; omega)
        first | clear a0 | skip
        first | clear a5 | skip
        first | clear a6 | skip
        go_wp2_with fail
        first | go_returns | skip
        exact HP.out _ (by simp; exact fun h => HK.out (HBD.out h))
      by_cases a5 : B[t].toNat = 46
      case pos =>
        have i0 : ¬ (97 : Int) ≤ (B[t].toNat : Int) := by omega
        have i1 : ¬ (48 : Int) ≤ (B[t].toNat : Int) := by omega
        have i2 : ((t : Int) == 0) = false := by simp; omega
        have i3 : ((B[t].toNat : Int) != 46) = false := by simp; omega
        have HK : Hid (okC t (B[t].toNat : Int)) := hid (by unfold okC; omega)
        first | clear a0 | skip
        first | clear a5 | skip
        first | clear a6 | skip
        go_wp2_with fail
        go_round
        case rel => exact ⟨t + 1, by omega, rfl, by go_num, hid (HNX.out HK.out)⟩
        case measure => first | (simp [intOf]; done) | (simp [intOf]; omega)
      by_cases a6 : B[t].toNat = 45
      case pos =>
        have i0 : ¬ (97 : Int) ≤ (B[t].toNat : Int) := by omega
        have i1 : ¬ (48 : Int) ≤ (B[t].toNat : Int) := by omega
        have i2 : ((t : Int) == 0) = false := by simp; omega
        have i3 : ((B[t].toNat : Int) != 46) = true := by simp; omega
        have i4 : ((B[t].toNat : Int) != 95) = true := by simp; omega
        have i5 : ((B[t].toNat : Int) != 45) = false := by simp; omega
        have HK : Hid (okC t (B[t].toNat : Int)) := hid (by unfold okC; omega)
        first | clear a0 | skip
        first | clear a5 | skip
        first | clear a6 | skip
        go_wp2_with fail
        go_round
        case rel => exact ⟨t + 1, by omega, rfl, by go_num, hid (HNX.out HK.out)⟩
        case measure => first | (simp [intOf]; done) | (simp [intOf]; omega)
      have i0 : ¬ (97 : Int) ≤ (B[t].toNat : Int) := by omega
      have i1 : ¬ (48 : Int) ≤ (B[t].toNat : Int) := by omega
      have i2 : ((t : Int) == 0) = false := by simp; omega
      have i3 : ((B[t].toNat : Int) != 46) = true := by simp; omega
      have i4 : ((B[t].toNat : Int) != 95) = true := by simp; omega
      have i5 : ((B[t].toNat : Int) != 45) = true := by simp; omega
      have HK : Hid (¬ okC t (B[t].toNat : Int)) := hid (by unfold okC; omega)
      first | clear a0 | skip
      first | clear a5 | skip
      first | clear a6 | skip
      go_wp2_with fail
      first | go_returns | skip
      exact HP.out _ (by simp; exact fun h => HK.out (HBD.out h))
    by_cases a0 : t = 0
    case pos =>
      have i0 : ¬ (97 : Int) ≤ (B[t].toNat : Int) := by omega
      have i1 : (48 : Int) ≤ (B[t].toNat : Int) := by omega
      have i2 : ¬ (B[t].toNat : Int) ≤ 57 := by omega
      have i3 : ((t : Int) == 0) = true := by simp; omega
      have HK : Hid (¬ okC t (B[t].toNat : Int)) := hid (by unfold okC; omega)
      first | clear a0 | skip
      first | clear a5 | skip
      first | clear a6 | skip
      go_wp2_with fail
      first | go_returns | skip
      exact HP.out _ (by simp; exact fun h => HK.out (HBD.out h))
    by_cases a6 : B[t].toNat = 95
    case pos =>
      have i0 : ¬ (97 : Int) ≤ (B[t].toNat : Int) := by omega
      have i1 : (48 : Int) ≤ (B[t].toNat : Int) := by omega
      have i2 : ¬ (B[t].toNat : Int) ≤ 57 := by omega
      have i3 : ((t : Int) == 0) = false := by simp; omega
      have i4 : ((B[t].toNat : Int) != 46) = true := by simp; omega
      have i5 : ((B[t].toNat : Int) != 95) = false := by simp; omega
      have HK : Hid (okC t (B[t].toNat : Int)) := hid (by unfold okC; omega)
      first | clear a0 | skip
      first | clear a5 | skip
      first | clear a6 | skip
      go_wp2_with fail
      go_round
      case rel => exact ⟨t + 1, by omega, rfl, by go_num, hid (HNX.out HK.out)⟩
      case measure => first | (simp [intOf]; done) | (simp [intOf]; omega)
    have i0 : ¬ (97 : Int) ≤ (B[t].toNat : Int) := by omega
    have i1 : (48 : Int) ≤ (B[t].toNat : Int) := by omega
    have i2 : ¬ (B[t].toNat : Int) ≤ 57 := by omega
    have i3 : ((t : Int) == 0) = false := by simp; omega
    have i4 : ((B[t].toNat : Int) != 46) = true := by simp; omega
    have i5 : ((B[t].toNat : Int) != 95) = true := by simp; omega
    have i6 : ((B[t].toNat : Int) != 45) = true := by simp; omega
    have HK : Hid (¬ okC t (B[t].toNat : Int)) := hid (by unfold okC; omega)
    first | clear a0 | skip
    first | clear a5 | skip
    first | clear a6 | skip
    go_wp2_with fail
    first | go_returns | skip
    exact HP.out _ (by simp; exact fun h => HK.out (HBD.out h))
theorem refPart_any (B : ByteArray) (w : World) :
    Calls Tryz.prog 32 #[.string B] w fun e w' => e = .returned (.bool (decide (PartL (tx B)))) ∧ w' = w := by
  have HC := hid (refPart0_any B w)
  go_enter Tryz.func32, Tryz.ntmps32
  go_wp2_with fail
  refine HC.out.mono ?_
  rintro e _ ⟨rfl, rfl⟩
  go_wp2_with fail
  first | go_returns | skip
  exact ⟨rfl, rfl⟩
end
section
open Go.RowKit Go.Lib
set_option maxRecDepth 100000
theorem splitU_cut : ∀ (l : List UInt8) (k : Nat), k < l.length → (∀ j, j < k → l[j]? ≠ some 47) → l[k]? = some 47 → splitU l = l.take k :: splitU (l.drop (k + 1))
  | [], k, h, _, _ => by simp at h
  | b :: l, 0, _, _, h => by
    simp at h
    subst h
    simp [splitU]
  | b :: l, k + 1, hk, hn, h => by
    have hb : b ≠ 47 := fun e => hn 0 (by omega) (by simp [e])
    have ih := splitU_cut l k (by simpa using hk) (fun j hj => by have := hn (j + 1) (by omega); simpa using this) (by simpa using h)
    rw [splitU, if_neg hb, ih]
    simp
theorem splitU_end (l : List UInt8) (h : ∀ j, j < l.length → l[j]? ≠ some 47) : splitU l = [l] := by
  apply splitU_none
  unfold Lib.countByte
  exact List.count_eq_zero.2 (fun hm => by
    obtain ⟨j, hj, e⟩ := List.getElem_of_mem hm
    exact h j hj (by rw [List.getElem?_eq_getElem hj, e]))
def NameU (l : List UInt8) : Prop := l.length ≤ 240 ∧ PartsU l 8
instance (l : List UInt8) : Decidable (NameU l) := by unfold NameU; infer_instance
theorem tx_extract (s : ByteArray) (f t : Nat) : tx (s.extract f t) = txU ((s.data.toList.drop f).take (t - f)) := by
  simp [tx, txU, List.take_drop, List.extract]
set_option maxHeartbeats 6400000 in
theorem refName_any (s : ByteArray) (w : World) :
    Calls Tryz.prog 78 #[.string s] w fun e w' => e = .returned (.bool (decide (NameU s.data.toList))) ∧ w' = w := by
  obtain ⟨PO, hPO⟩ : ∃ PO : Ending → World → Prop, (fun e w' => e = .returned (.bool (decide (NameU s.data.toList))) ∧ w' = w) = PO := ⟨_, rfl⟩
  rw [hPO]
  have HP : Hid (∀ x, (x = true ↔ NameU s.data.toList) → PO (.returned (.bool x)) w) := hid (fun x h => by rw [← hPO]; exact ⟨by rw [bool_decR h], rfl⟩)
  have HSZ : Hid (s.data.toList.length = s.size) := hid (by have h : s.data.size = s.size := rfl; rw [Array.length_toList]; exact h)
  have HG : Hid (∀ t (h : t < s.size), s.data.toList[t]? = some s[t]) := hid (fun t h => by
    have h2 : t < s.data.size := h
    rw [Array.getElem?_toList, Array.getElem?_eq_getElem h2]
    rfl)
  have HTX : Hid (∀ f t, tx (s.extract f t) = txU ((s.data.toList.drop f).take (t - f))) := hid (tx_extract s)
  have HCL := hid (fun B => refPart0_any B w)
  have HLE := hid (splitU_len s.data.toList)
  obtain ⟨l, hl⟩ : ∃ l, s.data.toList = l := ⟨_, rfl⟩
  rw [hl] at HP HSZ HG HTX HLE
  clear hPO hl
  go_enter Tryz.func78, Tryz.ntmps78
  by_cases h1 : 240 < s.size
  case pos =>
    have i1 : (240 : Int) < (s.size : Int) := by omega
    go_wp2_with fail
    first | go_returns | skip
    exact HP.out _ (by simp; intro h; have := h.1; have := HSZ.out; omega)
  have i1 : ¬ (240 : Int) < (s.size : Int) := by omega
  go_wp2_with fail
  go_loop [2, 3, 4, 5] (fun r np fv iv => ∃ (f t d : Nat) (done : List (List UInt8)), t ≤ s.size ∧ f ≤ t ∧ d ≤ t ∧ r = .bool false ∧ np = .int .i64 ((d + 1 : Nat) : Int) ∧ fv = .int .i64 (f : Int) ∧ iv = .int .i64 (t : Int) ∧ Hid (done.length = d) ∧ Hid (splitU l = done ++ splitU (l.drop f)) ∧ Hid (∀ p ∈ done, PartL (txU p)) ∧ Hid (∀ j, f ≤ j → j < t → l[j]? ≠ some 47)) (fun _ _ _ i => s.size - (intOf i).toNat)
  case atStart => exact ⟨0, 0, 0, [], Nat.zero_le _, Nat.le_refl _, Nat.le_refl _, rfl, rfl, rfl, rfl, hid rfl, hid (by simp), hid (by simp), hid (fun j _ hj => by omega)⟩
  case round =>
    obtain ⟨f, t, d, done, ht, hft, hdt, rfl, rfl, rfl, rfl, hdl, hsp, hdn, hno⟩ := hrel
    have HDL := hid hdl.out
    have HSP := hid hsp.out
    have HDN := hid hdn.out
    have HNO := hid hno.out
    clear hdl hsp hdn hno
    by_cases hlt : t < s.size
    case neg =>
      obtain rfl : t = s.size := by omega
      have HEN : Hid (splitU l = done ++ [l.drop f]) := hid (by
        rw [HSP.out, splitU_end (l.drop f)]
        intro j hj
        rw [List.length_drop] at hj
        rw [List.getElem?_drop]
        exact HNO.out (f + j) (by omega) (by have := HSZ.out; omega))
      have HPA : Hid (PartsU l 8 ↔ d + 1 ≤ 8 ∧ PartL (txU (l.drop f))) := hid (by
        have hle := HLE.out
        have hdl := HDL.out
        unfold PartsU
        rw [HEN.out] at hle ⊢
        rw [List.length_append, List.length_singleton] at hle
        constructor
        · rintro ⟨k1, k2⟩
          exact ⟨by omega, k2 _ (by simp)⟩
        · rintro ⟨k1, k2⟩
          refine ⟨by omega, fun p hp => ?_⟩
          rcases List.mem_append.1 hp with h | h
          · exact HDN.out p h
          · rw [List.mem_singleton] at h; rw [h]; exact k2)
      have HNM : Hid (NameU l ↔ d + 1 ≤ 8 ∧ PartL (txU (l.drop f))) := hid (by
        unfold NameU
        rw [HPA.out]
        exact ⟨fun h => h.2, fun h => ⟨by have := HSZ.out; omega, h⟩⟩)
      by_cases h8 : d + 1 ≤ 8
      case neg =>
        have i2 : ¬ ((d + 1 : Nat) : Int) ≤ 8 := by omega
        have HX := hid (HP.out false (by rw [HNM.out]; simp; omega))
        clear h8
        go_wp2_with fail
        first | go_returns | skip
        exact HX.out
      have i2 : ((d + 1 : Nat) : Int) ≤ 8 := by omega
      have f0 : (0 : Int) ≤ (f : Int) := by omega
      have f1 : (f : Int) ≤ (s.size : Int) := by omega
      have hc := HCL.out (s.extract f s.size)
      rw [HTX.out, List.take_of_length_le (by rw [List.length_drop]; have := HSZ.out; omega)] at hc
      have HC := hid hc
      have HX := hid (HP.out (decide (PartL (txU (l.drop f)))) (by rw [HNM.out, decide_eq_true_eq]; exact ⟨fun h => ⟨h8, h⟩, fun h => h.2⟩))
      clear hc h8
      go_wp2_with fail
      refine HC.out.mono ?_
      rintro e _ ⟨rfl, rfl⟩
      go_wp2_with fail
      first | go_returns | skip
      exact HX.out
    have t1 : (t : Int) < (s.size : Int) := by omega
    have t0 : (0 : Int) ≤ (t : Int) := by omega
    have f0 : (0 : Int) ≤ (f : Int) := by omega
    have f1 : (f : Int) ≤ (t : Int) := by omega
    have f2 : (t : Int) ≤ (s.size : Int) := by omega
    have hg := HG.out t hlt
    have HG1 := hid hg
    clear hg
    by_cases h47 : s[t] = 47
    case neg =>
      have i2 : ((s[t].toNat : Int) == 47) = false := by
        have : s[t].toNat ≠ 47 := fun e => h47 (UInt8.toNat_inj.1 e)
        simp
        omega
      have HN2 : Hid (∀ j, f ≤ j → j < t + 1 → l[j]? ≠ some 47) := hid (fun j hj1 hj2 => by
        by_cases hj3 : j < t
        · exact HNO.out j hj1 hj3
        · obtain rfl : j = t := by omega
          rw [HG1.out]
          intro e
          exact h47 (Option.some.inj e))
      clear h47
      go_wp2_with fail
      go_round
      case rel => exact ⟨f, t + 1, d, done, by omega, by omega, by omega, rfl, rfl, rfl, by go_num, HDL, HSP, HDN, HN2⟩
      case measure => first | (simp [intOf]; done) | (simp [intOf]; omega)
    have i2 : ((s[t].toNat : Int) == 47) = true := by rw [h47]; rfl
    have HCU : Hid (splitU (l.drop f) = (l.drop f).take (t - f) :: splitU (l.drop (t + 1))) := hid (by
      have h := splitU_cut (l.drop f) (t - f) (by rw [List.length_drop]; have := HSZ.out; omega) (fun j hj => by rw [List.getElem?_drop]; exact HNO.out (f + j) (by omega) (by omega)) (by rw [List.getElem?_drop, show f + (t - f) = t by omega, HG1.out, h47])
      rw [List.drop_drop, show f + (t - f + 1) = t + 1 by omega] at h
      exact h)
    have hc := HCL.out (s.extract f t)
    rw [HTX.out] at hc
    have HMEM : Hid (PartsU l 8 → PartL (txU ((l.drop f).take (t - f)))) := hid (fun h => h.2 _ (by rw [HSP.out, HCU.out]; simp))
    clear h47
    by_cases hp : PartL (txU ((l.drop f).take (t - f)))
    case neg =>
      rw [decide_eq_false hp] at hc
      have HC := hid hc
      have HX := hid (HP.out false (by simp; exact fun h => hp (HMEM.out h.2)))
      clear hc hp
      go_wp2_with fail
      refine HC.out.mono ?_
      rintro e _ ⟨rfl, rfl⟩
      go_wp2_with fail
      first | go_returns | skip
      exact HX.out
    rw [decide_eq_true hp] at hc
    have HC := hid hc
    have HDL2 : Hid ((done ++ [(l.drop f).take (t - f)]).length = d + 1) := hid (by rw [List.length_append, HDL.out]; rfl)
    have HSP2 : Hid (splitU l = (done ++ [(l.drop f).take (t - f)]) ++ splitU (l.drop (t + 1))) := hid (by rw [HSP.out, HCU.out]; simp)
    have HDN2 : Hid (∀ p ∈ done ++ [(l.drop f).take (t - f)], PartL (txU p)) := hid (fun p hm => by
      rcases List.mem_append.1 hm with h | h
      · exact HDN.out p h
      · rw [List.mem_singleton] at h; rw [h]; exact hp)
    clear hc hp
    go_wp2_with fail
    refine HC.out.mono ?_
    rintro e _ ⟨rfl, rfl⟩
    go_wp2_with fail
    go_round
    case rel => exact ⟨t + 1, t + 1, d + 1, _, by omega, by omega, by omega, rfl, by go_num, by go_num, by go_num, HDL2, HSP2, HDN2, hid (fun j h1 h2 => by omega)⟩
    case measure => first | (simp [intOf]; done) | (simp [intOf]; omega)
end
section
open Go.RowKit Go.Lib
set_option maxRecDepth 100000
def rwC : Array Value := #[.func (.func 44) #[] #[], .func (.func 45) #[] #[], .func (.func 46) #[] #[], .func (.func 47) #[] #[]]
def rw1 : Array Value := #[.func (.func 48) #[] #[], .func (.func 49) #[] #[], .func (.func 50) #[] #[], .func (.func 51) #[] #[]]
def rw2 : Array Value := #[.func (.func 52) #[] #[], .func (.func 53) #[] #[], .func (.func 54) #[] #[], .func (.func 55) #[] #[]]
def rw3 : Array Value := #[.func (.func 56) #[] #[], .func (.func 57) #[] #[], .func (.func 58) #[] #[], .func (.func 59) #[] #[]]
def rw4 : Array Value := #[.func (.func 60) #[] #[], .func (.func 61) #[] #[], .func (.func 62) #[] #[], .func (.func 63) #[] #[]]
def rw5 : Array Value := #[.func (.func 64) #[] #[], .func (.func 65) #[] #[], .func (.func 66) #[] #[], .func (.func 67) #[] #[]]
/-- The first entries of the rows. -/
def rowsT : Nat → Array MapEntry
  | 0 => #[]
  | 1 => #[⟨.int .i64 1, .agg rw1, 0⟩]
  | 2 => #[⟨.int .i64 1, .agg rw1, 0⟩, ⟨.int .i64 2, .agg rw2, 1⟩]
  | 3 => #[⟨.int .i64 1, .agg rw1, 0⟩, ⟨.int .i64 2, .agg rw2, 1⟩, ⟨.int .i64 3, .agg rw3, 2⟩]
  | 4 => #[⟨.int .i64 1, .agg rw1, 0⟩, ⟨.int .i64 2, .agg rw2, 1⟩, ⟨.int .i64 3, .agg rw3, 2⟩, ⟨.int .i64 4, .agg rw4, 3⟩]
  | 5 => #[⟨.int .i64 1, .agg rw1, 0⟩, ⟨.int .i64 2, .agg rw2, 1⟩, ⟨.int .i64 3, .agg rw3, 2⟩, ⟨.int .i64 4, .agg rw4, 3⟩, ⟨.int .i64 5, .agg rw5, 4⟩]
  | 6 => #[⟨.int .i64 1, .agg rw1, 0⟩, ⟨.int .i64 2, .agg rw2, 1⟩, ⟨.int .i64 3, .agg rw3, 2⟩, ⟨.int .i64 4, .agg rw4, 3⟩, ⟨.int .i64 5, .agg rw5, 4⟩, ⟨.int .i64 6, .agg rwC, 5⟩]
  | _ => #[⟨.int .i64 1, .agg rw1, 0⟩, ⟨.int .i64 2, .agg rw2, 1⟩, ⟨.int .i64 3, .agg rw3, 2⟩, ⟨.int .i64 4, .agg rw4, 3⟩, ⟨.int .i64 5, .agg rw5, 4⟩, ⟨.int .i64 6, .agg rwC, 5⟩, ⟨.int .i64 7, .agg rwC, 6⟩]
theorem rowsT_int (t : Nat) : IntK (rowsT t).toList := by
  intro e he
  unfold rowsT at he
  split at he <;> simp at he
  all_goals (rcases he with rfl | rfl | rfl | rfl | rfl | rfl | rfl <;> exact ⟨_, rfl⟩)
/-- One more row. -/
theorem put_row {w : World} {r : Nat} (t : Nat) (k : Int) (v : Array Value) (hb : w.heap[r]? = some (.map (rowsT t) t)) (hn : lkR k (rowsT t).toList = none) (hs : (rowsT t).push ⟨.int .i64 k, .agg v, t⟩ = rowsT (t + 1)) :
    ∃ w' : World, (Instr.mapUpdate 60 (.map (some r)) (.int .i64 k) (.agg v)).run Tryz.prog w = .ok () w' ∧ w'.heap[r]? = some (.map (rowsT (t + 1)) (t + 1)) ∧ Frm [r] w w' := by
  have h := run_putR (P := Tryz.prog) (w := w) 60 3 58 r t (rowsT t) k (.agg v) Tryz.underlying60 Tryz.underlying3 hb (rowsT_int t) hn
  rw [hs] at h
  have hlt := (Array.getElem?_eq_some_iff.1 hb).1
  refine ⟨_, h, by simp [hlt], ⟨rfl, rfl, rfl, by simp, fun k _ hn => ?_⟩⟩
  have hne : r ≠ k := fun e => hn (by rw [e]; simp)
  simp [hne]
set_option maxHeartbeats 3200000 in
theorem rows_any (w : World) : Calls Tryz.prog 23 #[] w fun e w' => ∃ b, e = .returned (.map (some b)) ∧ w.heap.size ≤ b ∧ w'.heap[b]? = some (.map (rowsT 7) 7) ∧ Frm [] w w' := by
  obtain ⟨PO, hPO⟩ : ∃ PO : Ending → World → Prop, (fun e w' => ∃ b, e = .returned (.map (some b)) ∧ w.heap.size ≤ b ∧ w'.heap[b]? = some (.map (rowsT 7) 7) ∧ Frm [] w w') = PO := ⟨_, rfl⟩
  rw [hPO]
  have HP : Hid (∀ b w', w.heap.size ≤ b → w'.heap[b]? = some (.map (rowsT 7) 7) → Frm [] w w' → PO (.returned (.map (some b))) w') := hid (fun b w' h1 h2 h3 => by rw [← hPO]; exact ⟨b, rfl, h1, h2, h3⟩)
  have hmm := @run_makeMap Tryz.prog
  have hb0 : ∀ V, (Instr.build 58 #[(0, .func (.func 48) #[] #[]), (1, .func (.func 49) #[] #[]), (2, .func (.func 50) #[] #[]), (3, .func (.func 51) #[] #[])]).run Tryz.prog V = .ok (.agg #[.func (.func 48) #[] #[], .func (.func 49) #[] #[], .func (.func 50) #[] #[], .func (.func 51) #[] #[]]) V := fun V => run_build V _ _ _ (by kernel_rfl)
  have hb1 : ∀ V, (Instr.build 58 #[(0, .func (.func 52) #[] #[]), (1, .func (.func 53) #[] #[]), (2, .func (.func 54) #[] #[]), (3, .func (.func 55) #[] #[])]).run Tryz.prog V = .ok (.agg #[.func (.func 52) #[] #[], .func (.func 53) #[] #[], .func (.func 54) #[] #[], .func (.func 55) #[] #[]]) V := fun V => run_build V _ _ _ (by kernel_rfl)
  have hb2 : ∀ V, (Instr.build 58 #[(0, .func (.func 56) #[] #[]), (1, .func (.func 57) #[] #[]), (2, .func (.func 58) #[] #[]), (3, .func (.func 59) #[] #[])]).run Tryz.prog V = .ok (.agg #[.func (.func 56) #[] #[], .func (.func 57) #[] #[], .func (.func 58) #[] #[], .func (.func 59) #[] #[]]) V := fun V => run_build V _ _ _ (by kernel_rfl)
  have hb3 : ∀ V, (Instr.build 58 #[(0, .func (.func 60) #[] #[]), (1, .func (.func 61) #[] #[]), (2, .func (.func 62) #[] #[]), (3, .func (.func 63) #[] #[])]).run Tryz.prog V = .ok (.agg #[.func (.func 60) #[] #[], .func (.func 61) #[] #[], .func (.func 62) #[] #[], .func (.func 63) #[] #[]]) V := fun V => run_build V _ _ _ (by kernel_rfl)
  have hb4 : ∀ V, (Instr.build 58 #[(0, .func (.func 64) #[] #[]), (1, .func (.func 65) #[] #[]), (2, .func (.func 66) #[] #[]), (3, .func (.func 67) #[] #[])]).run Tryz.prog V = .ok (.agg #[.func (.func 64) #[] #[], .func (.func 65) #[] #[], .func (.func 66) #[] #[], .func (.func 67) #[] #[]]) V := fun V => run_build V _ _ _ (by kernel_rfl)
  have hb5 : ∀ V, (Instr.build 58 #[(0, .func (.func 44) #[] #[]), (1, .func (.func 45) #[] #[]), (2, .func (.func 46) #[] #[]), (3, .func (.func 47) #[] #[])]).run Tryz.prog V = .ok (.agg #[.func (.func 44) #[] #[], .func (.func 45) #[] #[], .func (.func 46) #[] #[], .func (.func 47) #[] #[]]) V := fun V => run_build V _ _ _ (by kernel_rfl)
  obtain ⟨w1, hw1⟩ : ∃ z, w.alloc (.cells #[.func (.func 44) #[] #[], .func (.func 45) #[] #[], .func (.func 46) #[] #[], .func (.func 47) #[] #[]] 58) = z := ⟨_, rfl⟩
  have hrow := heap_alloc_new w (.cells #[.func (.func 44) #[] #[], .func (.func 45) #[] #[], .func (.func 46) #[] #[], .func (.func 47) #[] #[]] 58)
  have hf1 : Frm [] w w1 := by rw [← hw1]; exact (Frm.refl _ _).alloc _
  obtain ⟨cr, hcr⟩ : ∃ z, w.heap.size = z := ⟨_, rfl⟩
  rw [hw1, hcr] at hrow
  have g0 := heap_alloc_new w1 (.map #[] 0)
  have hf2 : Frm [] w1 (w1.alloc (.map #[] 0)) := (Frm.refl _ _).alloc _
  have hlt := lt_of_heap hrow
  obtain ⟨w2, hw2⟩ : ∃ z, w1.alloc (.map #[] 0) = z := ⟨_, rfl⟩
  obtain ⟨mb, hmb⟩ : ∃ z, w1.heap.size = z := ⟨_, rfl⟩
  rw [hmb] at g0 hlt
  rw [hw2] at g0 hf2
  obtain ⟨w3, e1, g1, k1⟩ := put_row (w := w2) 0 1 rw1 g0 rfl rfl
  obtain ⟨w4, e2, g2, k2⟩ := put_row (w := w3) 1 2 rw2 g1 rfl rfl
  obtain ⟨w5, e3, g3, k3⟩ := put_row (w := w4) 2 3 rw3 g2 rfl rfl
  obtain ⟨w6, e4, g4, k4⟩ := put_row (w := w5) 3 4 rw4 g3 rfl rfl
  obtain ⟨w7, e5, g5, k5⟩ := put_row (w := w6) 4 5 rw5 g4 rfl rfl
  obtain ⟨w8, e6, g6, k6⟩ := put_row (w := w7) 5 6 rwC g5 rfl rfl
  obtain ⟨w9, e7, g7, k7⟩ := put_row (w := w8) 6 7 rwC g6 rfl rfl
  unfold rw1 at e1
  unfold rw2 at e2
  unfold rw3 at e3
  unfold rw4 at e4
  unfold rw5 at e5
  unfold rwC at e6 e7
  have hall : Frm [mb] w2 w9 := ((((((k1.trans k2 (fun i hi _ => hi)).trans k3 (fun i hi _ => hi)).trans k4 (fun i hi _ => hi)).trans k5 (fun i hi _ => hi)).trans k6 (fun i hi _ => hi)).trans k7 (fun i hi _ => hi))
  have h7 : w7.heap[cr]? = some (.cells #[.func (.func 44) #[] #[], .func (.func 45) #[] #[], .func (.func 46) #[] #[], .func (.func 47) #[] #[]] 58 (0, 0)) := (((((k1.trans k2 (fun i hi _ => hi)).trans k3 (fun i hi _ => hi)).trans k4 (fun i hi _ => hi)).trans k5 (fun i hi _ => hi))).heap (hf2.heap hrow (by simp)) (by simp; omega)
  have h8 : w8.heap[cr]? = some (.cells #[.func (.func 44) #[] #[], .func (.func 45) #[] #[], .func (.func 46) #[] #[], .func (.func 47) #[] #[]] 58 (0, 0)) := k6.heap h7 (by simp; omega)
  have x0 : w7.cell? ⟨cr, 0, none⟩ = some (.func (.func 44) #[] #[]) := by rw [cell_of_row _ _ _ _ _ _ h7]; rfl
  have y0 : w8.cell? ⟨cr, 0, none⟩ = some (.func (.func 44) #[] #[]) := by rw [cell_of_row _ _ _ _ _ _ h8]; rfl
  have x1 : w7.cell? ⟨cr, 1, none⟩ = some (.func (.func 45) #[] #[]) := by rw [cell_of_row _ _ _ _ _ _ h7]; rfl
  have y1 : w8.cell? ⟨cr, 1, none⟩ = some (.func (.func 45) #[] #[]) := by rw [cell_of_row _ _ _ _ _ _ h8]; rfl
  have x2 : w7.cell? ⟨cr, 2, none⟩ = some (.func (.func 46) #[] #[]) := by rw [cell_of_row _ _ _ _ _ _ h7]; rfl
  have y2 : w8.cell? ⟨cr, 2, none⟩ = some (.func (.func 46) #[] #[]) := by rw [cell_of_row _ _ _ _ _ _ h8]; rfl
  have x3 : w7.cell? ⟨cr, 3, none⟩ = some (.func (.func 47) #[] #[]) := by rw [cell_of_row _ _ _ _ _ _ h7]; rfl
  have y3 : w8.cell? ⟨cr, 3, none⟩ = some (.func (.func 47) #[] #[]) := by rw [cell_of_row _ _ _ _ _ _ h8]; rfl
  have HX : Hid (w.heap.size ≤ mb ∧ w9.heap[mb]? = some (.map (rowsT 7) 7) ∧ Frm [] w w9) := hid ⟨by omega, g7, (hf1.trans hf2 (by simp)).trans hall (fun i hi hl => by rw [List.mem_singleton] at hi; omega)⟩
  have HW1 := hid hw1
  have HCR := hid hcr
  have HW2 := hid hw2
  have HMB := hid hmb
  clear hw1 hcr hw2 hmb hPO hrow hf1 g0 hf2 hlt g1 g2 g3 g4 g5 g6 g7 k1 k2 k3 k4 k5 k6 k7 hall h7 h8
  go_enter Tryz.func23, Tryz.ntmps23
  go_upto_region 2 with fail
  first | rw [HCR.out] | skip
  first | rw [HW1.out] | skip
  rw [← HW2.out] at e1
  rw [← HMB.out] at e1 e2 e3 e4 e5 e6 e7
  go_wp2_with fail
  first | go_returns | skip
  show PO (.returned (.map (some w1.heap.size))) w9
  rw [HMB.out]
  exact HP.out _ _ HX.out.1 HX.out.2.1 HX.out.2.2
end
section
open Go.RowKit Go.Lib
set_option maxRecDepth 100000
theorem str_injB {xs ys : List Int} (hx : ∀ z ∈ xs, 0 ≤ z ∧ z < 256) (hy : ∀ z ∈ ys, 0 ≤ z ∧ z < 256) (h : strOfNums xs = strOfNums ys) : xs = ys := by
  have h1 := congrArg (fun s : ByteArray => s.data.toList) h
  simp only [strOfNums_data] at h1
  have key : ∀ zs : List Int, (∀ z ∈ zs, 0 ≤ z ∧ z < 256) → (zs.map fun n => UInt8.ofNat n.toNat).map (fun b => (b.toNat : Int)) = zs := by
    intro zs hz
    rw [List.map_map]
    conv => rhs; rw [← List.map_id zs]
    apply List.map_congr_left
    intro z hm
    have := hz z hm
    simp
    omega
  rw [← key xs hx, ← key ys hy, h1]
theorem toInjB {xs ys : List Int} (h : (strOfNums xs).toList = (strOfNums ys).toList) : strOfNums xs = strOfNums ys := by
  rw [Lib.strOfNums_toList, Lib.strOfNums_toList] at h
  have h2 : (strOfNums xs).data.toList = (strOfNums ys).data.toList := h
  have h3 := Array.toList_inj.1 h2
  cases hs : strOfNums xs
  cases ht : strOfNums ys
  rw [hs, ht] at h3
  simp only at h3
  rw [h3]
theorem str_txB (B : ByteArray) : strOfNums (tx B) = B := by
  cases B with
  | mk d => simp [strOfNums, tx, Function.comp_def]
theorem ba_injB {A B : ByteArray} (h : A.toList = B.toList) : A = B := by
  rw [← str_txB A, ← str_txB B] at h ⊢
  exact toInjB h
theorem str_eqB {xs ys : List Int} (hx : ∀ z ∈ xs, 0 ≤ z ∧ z < 256) (hy : ∀ z ∈ ys, 0 ≤ z ∧ z < 256) : ((strOfNums xs).toList == (strOfNums ys).toList) = decide (xs = ys) := by
  by_cases h : xs = ys
  · subst h; simp
  · rw [decide_eq_false h]
    refine beq_eq_false_iff_ne.2 (fun he => h (str_injB hx hy (ba_injB he)))
theorem bytesEq_any (p q : Option Addr) (n c m d : Nat) (a b : List Int) (w : World) (ha : Rd w p a) (hb : Rd w q b) (hn : a.length = n) (hm : b.length = m) (hza : ∀ z ∈ a, 0 ≤ z ∧ z < 256) (hzb : ∀ z ∈ b, 0 ≤ z ∧ z < 256) :
    Calls Tryz.prog 70 #[.slice p n c, .slice q m d] w fun e w' => e = .returned (.bool (decide (a = b))) ∧ w' = w := by
  have h1 := cv_any (P := Tryz.prog) (w := w) 24 5 9 Tryz.underlying24 Tryz.underlying5 Tryz.underlying9 (n := n) ha c hn
  have h2 := cv_any (P := Tryz.prog) (w := w) 24 5 9 Tryz.underlying24 Tryz.underlying5 Tryz.underlying9 (n := m) hb d hm
  have h3 := str_eqB hza hzb
  obtain ⟨B, hB⟩ : ∃ q, decide (a = b) = q := ⟨_, rfl⟩
  rw [hB] at h3 ⊢
  clear hB ha hb hza hzb hn hm
  go_enter Tryz.func70, Tryz.ntmps70
  go_wp2_with fail
  first | go_returns | skip
  first | exact ⟨rfl, rfl⟩ | (simp [h3]; done) | (refine ⟨?_, rfl⟩; simp [h3])
/-- Properties: a name and a value each. -/
abbrev Pr := ByteArray × ByteArray
def RdP (w : World) (p : Option Addr) (P : List Pr) : Prop := P = [] ∨ ∃ g o, p = some ⟨g, o, none⟩ ∧ ∀ i x, P[i]? = some x → w.cell? ⟨g, o + i * 2, none⟩ = some (.string x.1) ∧ w.cell? ⟨g, o + i * 2 + 1, none⟩ = some (.string x.2)
theorem RdP.at {w : World} {p : Option Addr} {P : List Pr} (h : RdP w p P) {i : Nat} (hi : i < P.length) : ∃ g o, p = some ⟨g, o, none⟩ ∧ ∀ j (hj : j < P.length), w.cell? ⟨g, o + j * 2, none⟩ = some (.string P[j].1) ∧ w.cell? ⟨g, o + j * 2 + 1, none⟩ = some (.string P[j].2) := by
  rcases h with h0 | ⟨g, o, hp, hc⟩
  · rw [h0] at hi; simp at hi
  · exact ⟨g, o, hp, fun j hj => hc j _ (List.getElem?_eq_getElem hj)⟩
theorem RdP.kept {S : List Nat} {w w' : World} {p : Option Addr} {P : List Pr} (h : RdP w p P) (hf : Frm S w w') (hn : ∀ k ∈ blk p, k ∉ S) : RdP w' p P := by
  rcases h with h0 | ⟨g, o, hp, hc⟩
  · exact Or.inl h0
  · refine Or.inr ⟨g, o, hp, fun i x hx => ?_⟩
    obtain ⟨h1, h2⟩ := hc i x hx
    have hg := hn g (by rw [hp]; simp [blk])
    exact ⟨(hf.cell (p := ⟨g, o + i * 2, none⟩) (World.block_lt_of_cell? _ _ h1) hg).trans h1, (hf.cell (p := ⟨g, o + i * 2 + 1, none⟩) (World.block_lt_of_cell? _ _ h2) hg).trans h2⟩
theorem ba_beq (a b : ByteArray) : (a.toList == b.toList) = decide (a = b) := by
  by_cases h : a = b
  · subst h; simp
  · rw [decide_eq_false h]
    exact beq_eq_false_iff_ne.2 (fun he => h (ba_injB he))
theorem eqPr (a0 a1 b0 b1 : ByteArray) (d : Nat) (w : World) : (Op.equalIn (d + 3) 70 (.agg #[.string a0, .string a1]) (.agg #[.string b0, .string b1])).run Tryz.prog w = .ok (decide ((a0, a1) = (b0, b1))) w := by
  have hS : Tryz.prog.underlying 70 = some (.struct (Tryz.prog.fieldsOf 70)) := by kernel_rfl
  have hp : Tryz.prog.stoodInHeld 70 = false := by kernel_rfl
  rw [show d + 3 = (d + 2) + 1 from rfl, run_equalIn_agg w (d + 2) _ _ _ hS hp]
  simp only [Program.fieldsOf, Tryz.underlying70]
  go_simp
  have e : ∀ a b : ByteArray, (a.toList = b.toList) = (a = b) := fun a b => propext ⟨ba_injB, fun h => by rw [h]⟩
  simp only [e]
  by_cases h0 : a0 = b0 <;> by_cases h1 : a1 = b1 <;> simp [h0, h1]
theorem neqPr (a0 a1 b0 b1 : ByteArray) (w : World) : (binOp .neq 70 (.agg #[.string a0, .string a1]) (.agg #[.string b0, .string b1])).run Tryz.prog w = .ok (.bool (!decide ((a0, a1) = (b0, b1)))) w := by
  rw [run_neq_struct, show (10000 : Nat) = 9997 + 3 from rfl, eqPr]; rfl
set_option maxHeartbeats 6400000 in
theorem eqI_any (p q : Option Addr) (n c m d : Nat) (K L : List Int) (w : World) (hn : K.length = n) (hm : L.length = m) (hn9 : n ≤ 9223372036854775807) (hr : RdI w p K) (hs : RdI w q L) :
    Calls Tryz.prog 69 #[.slice p n c, .slice q m d] w fun e w' => e = .returned (.bool (decide (K = L))) ∧ Frm [] w w' := by
  obtain ⟨PO, hPO⟩ : ∃ PO : Ending → World → Prop, (fun e w' => e = .returned (.bool (decide (K = L))) ∧ Frm [] w w') = PO := ⟨_, rfl⟩
  rw [hPO]
  have HP : Hid (∀ x w', (x = true ↔ K = L) → Frm [] w w' → PO (.returned (.bool x)) w') := hid (fun x w' h h2 => by rw [← hPO]; exact ⟨by rw [bool_decR h], h2⟩)
  have HR := hid hr
  have HS := hid hs
  have HN := hid hn
  have HM := hid hm
  clear hPO hr hs hn hm
  go_enter Tryz.func69, Tryz.ntmps69
  by_cases hnm : n = m
  case neg =>
    have hb : ((n : Int) != (m : Int)) = true := by rw [bne_iff_ne]; omega
    have HNE : Hid (K ≠ L) := hid (fun h => hnm (by rw [← HN.out, ← HM.out, h]))
    clear hnm
    go_wp2_with fail
    first | go_returns | skip
    exact HP.out _ _ (by simp; exact HNE.out) (Frm.refl _ _)
  have hb : ((n : Int) != (m : Int)) = false := by rw [hnm]; simp
  have HNM := hid hnm
  clear hnm
  go_wp2_with fail
  go_loopw [4, 13] (fun r i wr => ∃ t : Nat, t ≤ n ∧ r = .bool false ∧ i = .int .i64 (t : Int) ∧ Hid (∀ j, j < t → zA K j = zA L j) ∧ Hid (Frm [] w wr)) (fun _ i _ => n - (intOf i).toNat)
  case atStart => exact ⟨0, Nat.zero_le _, rfl, rfl, hid (fun j hj => by omega), hid (Frm.refl _ _)⟩
  case round =>
    obtain ⟨t, ht, rfl, rfl, hok, hf⟩ := hrel
    have HOK := hid hok.out
    have HF := hid hf.out
    clear hok hf
    by_cases hlt : t < n
    case neg =>
      obtain rfl : t = n := by omega
      go_wp2_with fail
      first | go_returns | skip
      exact HP.out _ _ (by
        simp only [true_iff]
        refine List.ext_getElem (by rw [HN.out, HM.out, HNM.out]) (fun i h1 h2 => ?_)
        have h := HOK.out i (by rw [← HN.out]; exact h1)
        unfold zA at h
        rw [List.getD_eq_getElem?_getD, List.getD_eq_getElem?_getD, List.getElem?_eq_getElem h1, List.getElem?_eq_getElem h2] at h
        exact h) HF.out
    have t1 : (t : Int) < (n : Int) := by omega
    have t2 : (t : Int) < (m : Int) := by have := HNM.out; omega
    obtain ⟨g1, o1, rfl, k1⟩ := (HR.out.kept HF.out (by simp)).at (i := t) (by rw [HN.out]; exact hlt)
    obtain ⟨g2, o2, rfl, k2⟩ := (HS.out.kept HF.out (by simp)).at (i := t) (by rw [HM.out, ← HNM.out]; exact hlt)
    have z1 := k1 t (by rw [HN.out]; exact hlt)
    have z2 := k2 t (by rw [HM.out, ← HNM.out]; exact hlt)
    have HF2 : Hid (∀ k, Frm [] w (wr.drewN k)) := hid (fun k => HF.out.drewN k)
    by_cases he : zA K t = zA L t
    case neg =>
      have HK : Hid (K ≠ L) := hid (fun h => he (by rw [h]))
      have hb2 : (zA K t != zA L t) = true := by rw [bne_iff_ne]; exact he
      obtain ⟨x, hx⟩ : ∃ x, zA K t = x := ⟨_, rfl⟩
      obtain ⟨y, hy⟩ : ∃ y, zA L t = y := ⟨_, rfl⟩
      rw [hx] at z1 hb2
      rw [hy] at z2 hb2
      clear he k1 k2 hx hy HOK
      go_wp2_with fail
      go_quiet (fail)
      go_wp2_with fail
      first | go_returns | skip
      exact HP.out _ _ (by simp; exact HK.out) (HF2.out _)
    have HNX : Hid (∀ j, j < t + 1 → zA K j = zA L j) := hid (fun j hj => by
      by_cases hj2 : j < t
      · exact HOK.out j hj2
      · obtain rfl : j = t := by omega
        exact he)
    obtain ⟨x, hx⟩ : ∃ x, zA K t = x := ⟨_, rfl⟩
    rw [← he, hx] at z2
    rw [hx] at z1
    clear he k1 k2 hx HOK
    go_wp2_with fail
    go_quiet (fail)
    go_wp2_with fail
    go_roundw
    case rel => exact ⟨t + 1, by omega, rfl, by go_num, HNX, hid (HF2.out _)⟩
    case measure => first | (simp [intOf]; done) | (simp [intOf]; omega)
set_option maxHeartbeats 6400000 in
theorem eqP_any (p q : Option Addr) (n c m d : Nat) (K L : List Pr) (w : World) (hn : K.length = n) (hm : L.length = m) (hn9 : n ≤ 9223372036854775807) (hr : RdP w p K) (hs : RdP w q L) :
    Calls Tryz.prog 68 #[.slice p n c, .slice q m d] w fun e w' => e = .returned (.bool (decide (K = L))) ∧ Frm [] w w' := by
  obtain ⟨PO, hPO⟩ : ∃ PO : Ending → World → Prop, (fun e w' => e = .returned (.bool (decide (K = L))) ∧ Frm [] w w') = PO := ⟨_, rfl⟩
  rw [hPO]
  have HP : Hid (∀ x w', (x = true ↔ K = L) → Frm [] w w' → PO (.returned (.bool x)) w') := hid (fun x w' h h2 => by rw [← hPO]; exact ⟨by rw [bool_decR h], h2⟩)
  have HR := hid hr
  have HS := hid hs
  have HN := hid hn
  have HM := hid hm
  clear hPO hr hs hn hm
  go_enter Tryz.func68, Tryz.ntmps68
  by_cases hnm : n = m
  case neg =>
    have hb : ((n : Int) != (m : Int)) = true := by rw [bne_iff_ne]; omega
    have HNE : Hid (K ≠ L) := hid (fun h => hnm (by rw [← HN.out, ← HM.out, h]))
    clear hnm
    go_wp2_with fail
    first | go_returns | skip
    exact HP.out _ _ (by simp; exact HNE.out) (Frm.refl _ _)
  have hb : ((n : Int) != (m : Int)) = false := by rw [hnm]; simp
  have HNM := hid hnm
  clear hnm
  go_wp2_with fail
  go_loopw [4, 13] (fun r i wr => ∃ t : Nat, t ≤ n ∧ r = .bool false ∧ i = .int .i64 (t : Int) ∧ Hid (∀ j, j < t → K[j]? = L[j]?) ∧ Hid (Frm [] w wr)) (fun _ i _ => n - (intOf i).toNat)
  case atStart => exact ⟨0, Nat.zero_le _, rfl, rfl, hid (fun j hj => by omega), hid (Frm.refl _ _)⟩
  case round =>
    obtain ⟨t, ht, rfl, rfl, hok, hf⟩ := hrel
    have HOK := hid hok.out
    have HF := hid hf.out
    clear hok hf
    by_cases hlt : t < n
    case neg =>
      obtain rfl : t = n := by omega
      go_wp2_with fail
      first | go_returns | skip
      exact HP.out _ _ (by
        simp only [true_iff]
        refine List.ext_getElem (by rw [HN.out, HM.out, HNM.out]) (fun i h1 h2 => ?_)
        have h := HOK.out i (by rw [← HN.out]; exact h1)
        rw [List.getElem?_eq_getElem h1, List.getElem?_eq_getElem h2] at h
        exact Option.some.inj h) HF.out
    have t1 : (t : Int) < (n : Int) := by omega
    have t2 : (t : Int) < (m : Int) := by have := HNM.out; omega
    obtain ⟨g1, o1, rfl, k1⟩ := (HR.out.kept HF.out (by simp)).at (i := t) (by rw [HN.out]; exact hlt)
    obtain ⟨g2, o2, rfl, k2⟩ := (HS.out.kept HF.out (by simp)).at (i := t) (by rw [HM.out, ← HNM.out]; exact hlt)
    have l1 : t < K.length := by rw [HN.out]; exact hlt
    have l2 : t < L.length := by rw [HM.out, ← HNM.out]; exact hlt
    obtain ⟨z1, z3⟩ := k1 t l1
    obtain ⟨z2, z4⟩ := k2 t l2
    have HF2 : Hid (∀ k, Frm [] w (wr.drewN k)) := hid (fun k => HF.out.drewN k)
    have HNX : Hid (K[t] = L[t] → ∀ j, j < t + 1 → K[j]? = L[j]?) := hid (fun h j hj => by
      by_cases hj2 : j < t
      · exact HOK.out j hj2
      · obtain rfl : j = t := by omega
        rw [List.getElem?_eq_getElem l1, List.getElem?_eq_getElem l2, h])
    have HBD : Hid (K = L → K[t] = L[t]) := hid (fun h => by subst h; rfl)
    obtain ⟨⟨x0, x1⟩, hx⟩ : ∃ x, K[t] = x := ⟨_, rfl⟩
    obtain ⟨⟨y0, y1⟩, hy⟩ : ∃ y, L[t] = y := ⟨_, rfl⟩
    rw [hx] at z1 z3 HNX HBD
    rw [hy] at z2 z4 HNX HBD
    simp only at z1 z2 z3 z4
    have hne := fun W => neqPr x0 x1 y0 y1 W
    by_cases he : ((x0, x1) : Pr) = (y0, y1)
    case neg =>
      have HK : Hid (K ≠ L) := hid (fun h => he (HBD.out h))
      rw [decide_eq_false he] at hne
      clear he k1 k2 hx hy HOK HNX HBD l1 l2
      go_wp2_with fail
      go_quiet (fail)
      go_wp2_with fail
      first | go_returns | skip
      exact HP.out _ _ (by simp; exact HK.out) (HF2.out _)
    rw [decide_eq_true he] at hne
    have HN2 := hid (HNX.out he)
    clear he k1 k2 hx hy HOK HNX HBD l1 l2
    go_wp2_with fail
    go_quiet (fail)
    go_wp2_with fail
    go_roundw
    case rel => exact ⟨t + 1, by omega, rfl, by go_num, HN2, hid (HF2.out _)⟩
    case measure => first | (simp [intOf]; done) | (simp [intOf]; omega)
end
section
open Go.RowKit Go.Lib
set_option maxRecDepth 100000
/-- A record as it lies in memory. -/
structure Rc where
  kind : Int
  name : ByteArray
  typ : Int
  frm : Int
  guid : Int
  origin : Int
  snap : ByteArray
  pp : Option Addr
  pn : Nat
  pc : Nat
  obj : Int
  at_ : Int
  many : Int
  kp : Option Addr
  kn : Nat
  kc : Nat
  dp : Option Addr
  dl : Nat
  dc : Nat
def Rc.arr (r : Rc) : Array Value := #[.int .i64 r.kind, .string r.name, .int .i64 r.typ, .int .i64 r.frm, .int .i64 r.guid, .int .i64 r.origin, .string r.snap, .slice r.pp r.pn r.pc, .int .i64 r.obj, .int .i64 r.at_, .int .i64 r.many, .slice r.kp r.kn r.kc, .slice r.dp r.dl r.dc]
/-- What a record's lists hold. -/
structure RcOk (w : World) (r : Rc) (P : List Pr) (K D : List Int) : Prop where
  pr : RdP w r.pp P
  pl : P.length = r.pn
  kr : RdI w r.kp K
  kl : K.length = r.kn
  dr : Rd w r.dp D
  dn : D.length = r.dl
  db : ∀ z ∈ D, 0 ≤ z ∧ z < 256
  mx : r.pn ≤ 9223372036854775807 ∧ r.kn ≤ 9223372036854775807
theorem RcOk.kept {S : List Nat} {w w' : World} {r : Rc} {P : List Pr} {K D : List Int} (h : RcOk w r P K D) (hf : Frm S w w') (h1 : ∀ k ∈ blk r.pp, k ∉ S) (h2 : ∀ k ∈ blk r.kp, k ∉ S) (h3 : ∀ k ∈ blk r.dp, k ∉ S) : RcOk w' r P K D :=
  ⟨h.pr.kept hf h1, h.pl, h.kr.kept hf h2, h.kl, h.dr.kept hf h3, h.dn, h.db, h.mx⟩
theorem RcOk.k0 {w w' : World} {r : Rc} {P : List Pr} {K D : List Int} (h : RcOk w r P K D) (hf : Frm [] w w') : RcOk w' r P K D := h.kept hf (by simp) (by simp) (by simp)
def SameR (r s : Rc) (P Q : List Pr) (K L D E : List Int) : Prop := r.kind = s.kind ∧ r.name = s.name ∧ r.typ = s.typ ∧ r.frm = s.frm ∧ r.guid = s.guid ∧ r.origin = s.origin ∧ r.snap = s.snap ∧ P = Q ∧ r.obj = s.obj ∧ r.at_ = s.at_ ∧ r.many = s.many ∧ K = L ∧ D = E
instance (r s : Rc) (P Q : List Pr) (K L D E : List Int) : Decidable (SameR r s P Q K L D E) := by unfold SameR; infer_instance
end
end Go.Proofs.YtajfjkfnmmfhmaaGreatDoor
