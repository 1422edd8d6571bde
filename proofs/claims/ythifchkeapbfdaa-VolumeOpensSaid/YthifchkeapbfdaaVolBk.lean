/- The document's helper Alike, of any cells that can be read. -/
import Derived.Test.YthifchkeapbfdaaVolBj
import Derived.Lib.Bytes
namespace Go.Proofs.Ythifchkeapbfdaa
open Go.RowKit
set_option maxRecDepth 100000

theorem strOfNums_inj {xs ys : List Int} (hx : ∀ z ∈ xs, 0 ≤ z ∧ z < 256) (hy : ∀ z ∈ ys, 0 ≤ z ∧ z < 256) (h : strOfNums xs = strOfNums ys) : xs = ys := by
  have h1 : (strOfNums xs).data.toList = (strOfNums ys).data.toList := by rw [h]
  rw [strOfNums_data, strOfNums_data] at h1
  clear h
  induction xs generalizing ys with
  | nil => cases ys with
    | nil => rfl
    | cons y ys => simp at h1
  | cons x xs ih => cases ys with
    | nil => simp at h1
    | cons y ys =>
      simp only [List.map_cons, List.cons.injEq] at h1
      obtain ⟨e1, e2⟩ := h1
      have q1 := hx x (by simp)
      have q2 := hy y (by simp)
      have e3 : x.toNat = y.toNat := by
        have := congrArg UInt8.toNat e1
        simp only [UInt8.toNat_ofNat'] at this
        omega
      rw [ih (fun z hz => hx z (by simp [hz])) (fun z hz => hy z (by simp [hz])) e2, show x = y by omega]
theorem strOfNums_toInj {xs ys : List Int} (h : (strOfNums xs).toList = (strOfNums ys).toList) : strOfNums xs = strOfNums ys := by
  rw [Lib.strOfNums_toList, Lib.strOfNums_toList] at h
  have h2 : (strOfNums xs).data.toList = (strOfNums ys).data.toList := h
  have h3 := Array.toList_inj.1 h2
  cases hs : strOfNums xs
  cases ht : strOfNums ys
  rw [hs, ht] at h3
  simp only at h3
  rw [h3]
/-- What Alike looks at. -/
def gkey (x : GCell) : Int × Int × List Int := (x.a, x.k, x.zs)
/-- What Alike answers. -/
def PostAl (xs ys : List GCell) (w : World) (e : Ending) (w' : World) : Prop :=
  Frm [] w w' ∧ ((e = .returned (.bool true) ∧ xs.map gkey = ys.map gkey) ∨ (e = .returned (.bool false) ∧ xs.map gkey ≠ ys.map gkey))
set_option maxHeartbeats 6400000 in
theorem alikeG_any (pp pp2 : Option Addr) (pc pc2 n m : Nat) (xs ys : List GCell) (w : World) (hn : xs.length = n) (hm : ys.length = m) (h1 : GRd w pp xs) (h2 : GRd w pp2 ys) (hl : n ≤ 2932031007317)
    (hbx : ∀ x ∈ xs, ∀ z ∈ x.zs, 0 ≤ z ∧ z < 256) (hby : ∀ x ∈ ys, ∀ z ∈ x.zs, 0 ≤ z ∧ z < 256) :
    Calls Try.prog 23 #[.slice pp n pc, .slice pp2 m pc2] w (PostAl xs ys w) := by
  have HF0 : Hid (∀ w', Frm [] w w' → xs.map gkey ≠ ys.map gkey → PostAl xs ys w (.returned (.bool false)) w') := hid (fun w' q1 q2 => ⟨q1, Or.inr ⟨rfl, q2⟩⟩)
  have HN := hid hn
  have HM := hid hm
  have HBX := hid hbx
  have HBY := hid hby
  have G1 := hid h1
  have G2 := hid h2
  clear hn hm hbx hby h1 h2
  by_cases hnm : n = m
  case neg =>
    have hb : ¬ (n : Int) = (m : Int) := by omega
    have hb2 : ((n : Int) != (m : Int)) = true := bne_iff_ne.2 hb
    have HP := hid (HF0.out w (Frm.refl _ _) (fun h => hnm (by have := congrArg List.length h; rw [List.length_map, List.length_map, HN.out, HM.out] at this; exact this)))
    clear hnm
    go_enter Try.func23, Try.ntmps23
    go_wp2_with fail
    go_returns
    exact HP.out
  subst hnm
  go_enter Try.func23, Try.ntmps23
  go_wp2_with fail
  go_loopw [5] (fun i wr => ∃ t : Nat, t ≤ n ∧ i = .int .i64 t ∧ Hid ((xs.take t).map gkey = (ys.take t).map gkey) ∧ Hid (Frm [] w wr)) (fun i _ => n - (intOf i).toNat)
  case atStart => exact ⟨0, Nat.zero_le _, rfl, hid (by simp), hid (Frm.refl _ _)⟩
  case round =>
    obtain ⟨t, ht, rfl, hso, hf⟩ := hrel
    by_cases hlt : t < n
    · have hxt : t < xs.length := by rw [HN.out]; exact hlt
      have hyt : t < ys.length := by rw [HM.out]; exact hlt
      obtain ⟨g, o, rfl, lg, a0, r1⟩ := G1.out t hxt
      obtain ⟨g2, o2, rfl, lg2, c0, r2⟩ := G2.out t hyt
      have HREJ : Hid (∀ w', Frm [] w w' → gkey xs[t] ≠ gkey ys[t] → PostAl xs ys w (.returned (.bool false)) w') := hid (fun w' q1 q2 => HF0.out w' q1 (fun h => q2 (by
        have h3 : (xs.map gkey)[t]? = (ys.map gkey)[t]? := by rw [h]
        simpa [hxt, hyt] using h3)))
      have HSTEP : Hid (gkey xs[t] = gkey ys[t] → (xs.take (t + 1)).map gkey = (ys.take (t + 1)).map gkey) := hid (fun h => by
        rw [List.take_succ_eq_append_getElem hxt, List.take_succ_eq_append_getElem hyt, List.map_append, List.map_append, hso.out]
        simp [h])
      have hin : strOfNums xs[t].zs = strOfNums ys[t].zs → xs[t].zs = ys[t].zs := strOfNums_inj (HBX.out _ (List.getElem_mem hxt)) (HBY.out _ (List.getElem_mem hyt))
      have HIN := hid hin
      have HTO := hid (strOfNums_toInj (xs := xs[t].zs) (ys := ys[t].zs))
      obtain ⟨a0, a1, a2, a3⟩ := a0.kept hf.out
      obtain ⟨c0, c1, c2, c3⟩ := c0.kept hf.out
      have R1 := hid (r1.kept hf.out (by simp))
      have R2 := hid (r2.kept hf.out (by simp))
      clear r1 r2 hin
      generalize xs[t] = x at a0 a1 a2 a3 HREJ HSTEP R1 HIN HTO
      generalize ys[t] = y at c0 c1 c2 c3 HREJ HSTEP R2 HIN HTO
      have hcv1 := fun n => cv_any (P := Try.prog) (w := wr.drewN n) 44 5 9 Try.underlying44 Try.underlying5 Try.underlying9 (R1.out.drewN n) x.c rfl
      have hcv2 := fun n => cv_any (P := Try.prog) (w := wr.drewN n) 44 5 9 Try.underlying44 Try.underlying5 Try.underlying9 (R2.out.drewN n) y.c rfl
      generalize hS : strOfNums x.zs = S at hcv1 HIN HTO
      generalize hT : strOfNums y.zs = T at hcv2 HIN HTO
      have HST : Hid (S ≠ T → x.zs ≠ y.zs) := hid (fun q h => q (by rw [← hS, ← hT, h]))
      generalize hnx : x.zs.length = nx at a3 hcv1
      generalize hny : y.zs.length = ny at c3 hcv2
      clear hS hT hnx hny R1 R2
      have t0 : (0 : Int) ≤ (t : Int) := by omega
      have t1 : (t : Int) < (n : Int) := by omega
      by_cases d1 : x.a = y.a
      case neg =>
        have HP := hid (fun w' q => HREJ.out w' q (fun h => d1 (by simpa [gkey] using congrArg Prod.fst h)))
        have q1 : (x.a != y.a) = true := by simpa using d1
        have q2 : decide (x.a = y.a) = false := decide_eq_false d1
        have q3 : (x.a == y.a) = false := by simpa using d1
        clear HREJ HSTEP hcv1 hcv2 HIN HST HTO
        go_wp2_with fail
        go_quiet (fail)
        go_wp2_with fail
        go_returns
        exact HP.out _ (hf.out.drewN _)
      have q1 : (x.a != y.a) = false := by simpa using d1
      have q2 : decide (x.a = y.a) = true := decide_eq_true d1
      have q3 : (x.a == y.a) = true := by simpa using d1
      by_cases d2 : x.k = y.k
      case neg =>
        have HP := hid (fun w' q => HREJ.out w' q (fun h => d2 (by simp only [gkey, Prod.mk.injEq] at h; exact h.2.1)))
        have p1 : (x.k != y.k) = true := by simpa using d2
        have p2 : decide (x.k = y.k) = false := decide_eq_false d2
        have p3 : (x.k == y.k) = false := by simpa using d2
        clear HREJ HSTEP hcv1 hcv2 HIN HST HTO
        go_wp2_with fail
        go_quiet (fail)
        go_wp2_with fail
        go_returns
        exact HP.out _ (hf.out.drewN _)
      have p1 : (x.k != y.k) = false := by simpa using d2
      have p2 : decide (x.k = y.k) = true := decide_eq_true d2
      have p3 : (x.k == y.k) = true := by simpa using d2
      by_cases d3 : S = T
      case neg =>
        have HP := hid (fun w' q => HREJ.out w' q (fun h => HST.out d3 (by simp only [gkey, Prod.mk.injEq] at h; exact h.2.2)))
        have s3 : (S.toList == T.toList) = false := beq_eq_false_iff_ne.2 (fun h => d3 (HTO.out h))
        have s1 : (!S.toList == T.toList) = true := by rw [s3]; rfl
        clear HREJ HSTEP HIN HST HTO
        go_wp2_with fail
        go_quiet (fail)
        clear hcv1 hcv2
        go_wp2_with fail
        go_returns
        exact HP.out _ (hf.out.drewN _)
      have HS2 := hid (HSTEP.out (by simp only [gkey, Prod.mk.injEq]; exact ⟨d1, d2, HIN.out d3⟩))
      clear HREJ HSTEP HIN HST HTO
      go_wp2_with fail
      go_quiet (fail)
      clear hcv1 hcv2
      go_wp2_with fail
      go_roundw
      case rel => exact ⟨t + 1, by omega, by go_num, HS2, hid (hf.out.drewN _)⟩
      case measure => simp [intOf]; omega
    · obtain rfl : t = n := by omega
      have HP : Hid (PostAl xs ys w (.returned (.bool true)) wr) := hid ⟨hf.out, Or.inl ⟨rfl, by have h := hso.out; rwa [List.take_of_length_le (by rw [HN.out]; omega), List.take_of_length_le (by rw [HM.out]; omega)] at h⟩⟩
      clear hlt
      go_wp2_with fail
      go_returns
      exact HP.out
end Go.Proofs.Ythifchkeapbfdaa
