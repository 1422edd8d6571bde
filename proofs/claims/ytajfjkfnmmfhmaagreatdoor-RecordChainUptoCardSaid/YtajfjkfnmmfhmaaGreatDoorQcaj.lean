/- Records: numbers, and a part's beginning, laid down. -/
import Derived.Deep.Cut
import Derived.Test.YtajfjkfnmmfhmaaGreatDoorQcai
import Derived.Test.YtajfjkfnmmfhmaaGreatDoorQcae
import Derived.Test.YtajfjkfnmmfhmaaGreatDoorQcag
namespace Go.Proofs.YtajfjkfnmmfhmaaGreatDoor
set_option maxRecDepth 100000
set_option maxHeartbeats 25600000
section
open Go.RowKit Go.Lib
def kpT (K : List Int) (more : Int) (k : Nat) : Nat → List Int
 | 0 => []
 | t + 1 => kpT K more k t ++ le (zA K t + more) k
theorem kpT_len (K : List Int) (more : Int) (k : Nat) : ∀ t, (kpT K more k t).length = k * t
 | 0 => rfl
 | t + 1 => by rw [kpT, List.length_append, le_length, kpT_len K more k t, Nat.mul_add, Nat.mul_one]
def keepB (K : List Int) (more : Int) (k : Nat) : List Int := le K.length 2 ++ kpT K more k K.length
theorem keepB_len (K : List Int) (more : Int) (k : Nat) : (keepB K more k).length = 2 + k * K.length := by unfold keepB; rw [List.length_append, le_length, kpT_len]
theorem putKeep_any (w0 w : World) (b : Nat) (A : List Nat) (zs : List Int) (hw : FreshW w0 w b 2048 (zs, 0) A) (p : Option Addr) (n c : Nat) (K : List Int) (hr : RdI w p K) (hn : K.length = n) (hA : K ≠ [] → ∀ k ∈ blk p, k ∈ A) (more : Int) (k : Nat) (hm : 0 ≤ more ∧ more ≤ 1) (hk1 : 1 ≤ k) (hk : k ≤ 4)
  (hK : ∀ i, i < n → (0 ≤ zA K i + more ∧ zA K i + more < 2 ^ (8 * k)) ∧ zA K i ≤ 1048576) (hn2 : n ≤ 240) (hz : zs.length + 2 + k * n ≤ 2048) :
  Calls Tryz.prog 98 #[.pointer (some ⟨b, 0, none⟩), .slice p n c, .int .i64 more, .int .i64 (k : Int)] w fun e w' => e = .returned (.tuple #[]) ∧ FreshW w0 w' b 2048 (zs ++ keepB K more k, 0) A := by
 have HNF := hid (num_fit w0 w b 2048 zs A hw (by omega) (n : Int) 2 (by omega) (by omega) (by omega) (by omega) (by omega))
 have HR := hid hr
 have HN := hid hn
 have HA := hid hA
 have HK := hid hK
 have HLEN : Hid (∀ t, t < n → (((zs ++ le (n : Int) 2) ++ kpT K more k t).length : Int) + k ≤ 2048) := hid (fun t ht => by
  have h1 : k * (t + 1) ≤ k * n := Nat.mul_le_mul_left _ ht
  rw [Nat.mul_add, Nat.mul_one] at h1
  rw [List.length_append, List.length_append, le_length, kpT_len]
  generalize k * t = x at h1 ⊢
  generalize k * n = y at h1 hz
  omega)
 have un := wrapU (n := (n : Int)) (by omega) (by omega)
 clear hw hr hn hA hK hz
 go_enter Tryz.func98, Tryz.ntmps98
 go_wp2_with fail
 refine HNF.out.mono ?_
 rintro e w1 ⟨rfl, hw1, hk1⟩
 obtain ⟨Z, hZ⟩ := eX (zs ++ le (n : Int) 2)
 rw [hZ] at hw1 HLEN
 have HZ := hid hZ
 have HW1 := hid hw1
 have HK1 := hid hk1
 clear hw1 hk1 hZ HNF un
 go_wp2_with fail
 go_loopw [17] (fun i wr => ∃ t : Nat, t ≤ n ∧ i = .int .i64 t ∧ Hid (FreshW w0 wr b 2048 (Z ++ kpT K more k t, 0) A) ∧ Hid (Keeps A w wr)) (fun i _ => n - (intOf i).toNat)
 case atStart => exact ⟨0, by omega, rfl, hid (by simpa [kpT] using HW1.out), HK1⟩
 case round =>
  obtain ⟨t, ht, rfl, hw, hk⟩ := hrel
  have HWr := hid hw.out
  have HKr := hid hk.out
  clear hw hk HW1 HK1
  by_cases hlt : t < n
  case neg =>
   obtain rfl : t = n := by omega
   have HF : Hid (FreshW w0 wr b 2048 (zs ++ keepB K more k, 0) A) := hid (by
    have h := HWr.out
    unfold keepB
    rw [HN.out, ← List.append_assoc, HZ.out]
    exact h)
   clear hlt HWr
   go_wp2_with fail
   try go_returns
   exact ⟨rfl, HF.out⟩
  have t1 : (t : Int) < (n : Int) := by omega
  obtain ⟨g, o, rfl, hc⟩ := (RdI.keeps HR.out HKr.out HA.out).at (i := t) (by rw [HN.out]; exact hlt)
  have z0 := hc t (by rw [HN.out]; exact hlt)
  have hkt := HK.out t hlt
  have HLT := hid (HLEN.out t hlt)
  have hsu : kpT K more k (t + 1) = kpT K more k t ++ le (zA K t + more) k := rfl
  have HSU := hid hsu
  obtain ⟨x, hx⟩ := eX (zA K t)
  rw [hx] at z0 hkt HSU
  have HNF := hid (num_fit w0 wr b 2048 _ A HWr.out (by omega) (x + more) k hkt.1.1 hk1 (by omega) hkt.1.2 HLT.out)
  have hx0 := hkt.1.1
  have hx1 := hkt.2
  have u1 := wrapU (n := x + more) (by omega) (by omega)
  have u4 : wrap64 (x + more) = x + more := by unfold wrap64; omega
  clear hkt hx hsu hc
  go_wp2_with fail
  refine HNF.out.mono ?_
  rintro e w2 ⟨rfl, hw2, hk2⟩
  have HW2 := hid hw2
  have HK2 := hid (HKr.out.trans hk2)
  clear hw2 hk2 HNF u1 u4 hx0 hx1
  go_wp2_with fail
  go_roundw
  case rel => exact ⟨t + 1, by omega, by go_num, hid (by have h := HW2.out; rw [List.append_assoc] at h; rw [HSU.out]; exact h), HK2⟩
  case measure => simp [intOf] <;> omega
theorem rise_bd {K : List Int} {lo hi : Int} (h : RiseL K lo hi) : ∀ i, i < K.length → lo ≤ zA K i ∧ zA K i ≤ hi := fun i hi => (h i hi).1
def bodyLv (K : List Int) : List Int := keepB K 0 4
theorem putLive_any (w0 w : World) (b : Nat) (A : List Nat) (hw : FreshW w0 w b 2048 ([], 0) A) (r : Rc) (P : List Pr) (K D : List Int) (hr : RcOk w r P K D) (ha : RcA A r P K D) (hm : MayLv r K) :
  Calls Tryz.prog 58 #[.pointer (some ⟨b, 0, none⟩), .agg r.arr] w fun e w' => e = .returned (.tuple #[]) ∧ FreshW w0 w' b 2048 (bodyLv K, 0) A := by
 obtain ⟨m0, m1⟩ := hm
 have hkl := hr.kl
 unfold bodyLv
 have hal := hw.alloc (.cells r.arr 26)
 have hrow := heap_alloc_new w (.cells r.arr 26)
 have HFA := hid ((Frm.refl [] w).alloc (.cells r.arr 26))
 obtain ⟨bx, hbx⟩ := eX (w.heap.size)
 obtain ⟨wa, hwa⟩ := eX (w.alloc (.cells r.arr 26))
 rw [hbx, hwa] at hal hrow
 rw [hwa] at HFA
 have HW0 := hid hal.1
 have HRC : Hid (∀ W : World, Keeps (bx :: A) wa W → W.heap[bx]? = some (.cells r.arr 26 (0, 0))) := hid (fun W h => (h bx (by simp)).trans hrow)
 obtain ⟨q0, q1, q2, q3, q4, q5, q6, q7, q8, q9, q10, q11, q12⟩ := rc_cells hrow
 have HPK : Hid (Calls Tryz.prog 98 #[.pointer (some ⟨b, 0, none⟩), .slice r.kp r.kn r.kc, .int .i64 0, .int .i64 ((4 : Nat) : Int)] wa fun e w' => e = .returned (.tuple #[]) ∧ FreshW w0 w' b 2048 ([] ++ keepB K 0 4, 0) (bx :: A)) := hid (putKeep_any w0 wa b (bx :: A) [] HW0.out r.kp r.kn r.kc K (hr.kr.kept HFA.out (by simp)) hkl (fun h0 k hk => List.mem_cons_of_mem _ (ha.k h0 k hk)) 0 4 (by omega) (by omega) (by omega) (fun i hi => by have h := rise_bd m1 i (by rw [hkl]; exact hi); exact ⟨⟨by omega, by simp; omega⟩, by omega⟩) m0 (by simp; omega))
 simp only [Int.cast_ofNat_Int, List.nil_append] at HPK
 clear hr ha m1
 clear hal hrow hw
 obtain ⟨kind, name, typ, frm, guid, origin, snap, pp, pn, pc, obj, at_, many, kp, kn, kc, dp, dl, dc⟩ := r
 unfold Rc.arr at hwa ⊢
 simp only at hwa HRC HPK m0 hkl q0 q1 q2 q3 q4 q5 q6 q7 q8 q9 q10 q11 q12 ⊢
 go_enter Tryz.func58, Tryz.ntmps58
 go_wp2_with fail
 refine HPK.out.mono ?_
 rintro e w1 ⟨rfl, hw1⟩
 have HW1 := hid hw1
 clear hw1
 go_wp2_with fail
 try go_returns
 exact ⟨rfl, HW1.out.less (fun k hk => List.mem_cons_of_mem _ hk)⟩
def bodyNd (r : Rc) (K : List Int) : List Int := le r.obj 4 ++ keepB K 1 2
theorem putNode_any (w0 w : World) (b : Nat) (A : List Nat) (hw : FreshW w0 w b 2048 ([], 0) A) (r : Rc) (P : List Pr) (K D : List Int) (hr : RcOk w r P K D) (ha : RcA A r P K D) (hm : MayNd r K) :
  Calls Tryz.prog 62 #[.pointer (some ⟨b, 0, none⟩), .agg r.arr] w fun e w' => e = .returned (.tuple #[]) ∧ FreshW w0 w' b 2048 (bodyNd r K, 0) A := by
 obtain ⟨⟨m0, m1⟩, ⟨m2, m3⟩, m4⟩ := hm
 have hkl := hr.kl
 unfold bodyNd
 have hal := hw.alloc (.cells r.arr 26)
 have hrow := heap_alloc_new w (.cells r.arr 26)
 have HFA := hid ((Frm.refl [] w).alloc (.cells r.arr 26))
 obtain ⟨bx, hbx⟩ := eX (w.heap.size)
 obtain ⟨wa, hwa⟩ := eX (w.alloc (.cells r.arr 26))
 rw [hbx, hwa] at hal hrow
 rw [hwa] at HFA
 have HW0 := hid hal.1
 have HRC : Hid (∀ W : World, Keeps (bx :: A) wa W → W.heap[bx]? = some (.cells r.arr 26 (0, 0))) := hid (fun W h => (h bx (by simp)).trans hrow)
 obtain ⟨q0, q1, q2, q3, q4, q5, q6, q7, q8, q9, q10, q11, q12⟩ := rc_cells hrow
 have HPK : Hid (∀ W, Keeps (bx :: A) wa W → FreshW w0 W b 2048 ([] ++ le r.obj 4, 0) (bx :: A) → Calls Tryz.prog 98 #[.pointer (some ⟨b, 0, none⟩), .slice r.kp r.kn r.kc, .int .i64 1, .int .i64 ((2 : Nat) : Int)] W fun e w' => e = .returned (.tuple #[]) ∧ FreshW w0 w' b 2048 (([] ++ le r.obj 4) ++ keepB K 1 2, 0) (bx :: A)) := hid (fun W hkp hfw => putKeep_any w0 W b (bx :: A) _ hfw r.kp r.kn r.kc K ((hr.kr.kept HFA.out (by simp)).keeps hkp (fun h0 k hk => List.mem_cons_of_mem _ (ha.k h0 k hk))) hkl (fun h0 k hk => List.mem_cons_of_mem _ (ha.k h0 k hk)) 1 2 (by omega) (by omega) (by omega) (fun i hi => by have h := rise_bd m4 i (by rw [hkl]; exact hi); exact ⟨⟨by omega, by simp; omega⟩, by omega⟩) (by omega) (by simp [le_length]; omega))
 simp only [Int.cast_ofNat_Int, List.nil_append] at HPK
 clear hr ha m4
 clear hal hrow hw
 obtain ⟨kind, name, typ, frm, guid, origin, snap, pp, pn, pc, obj, at_, many, kp, kn, kc, dp, dl, dc⟩ := r
 unfold Rc.arr at hwa ⊢
 simp only at hwa HRC HPK m0 m1 m2 m3 hkl q0 q1 q2 q3 q4 q5 q6 q7 q8 q9 q10 q11 q12 ⊢
 have u1 := wrapU (n := obj) (by omega) (by omega)
 go_enter Tryz.func62, Tryz.ntmps62
 go_wp2_with fail
 refine (num_fit w0 wa b 2048 [] _ HW0.out (by omega) obj 4 (by omega) (by omega) (by omega) (by omega) (by simp)).mono ?_
 rintro e w1 ⟨rfl, hw1, hk1⟩
 clear q0 q1 q2 q3 q4 q5 q6 q7 q8 q9 q10 q11 q12
 have HW1 := hid hw1
 have HK1 : Hid (Keeps (bx :: A) wa w1) := hid hk1
 obtain ⟨q0, q1, q2, q3, q4, q5, q6, q7, q8, q9, q10, q11, q12⟩ := rc_cells (HRC.out w1 HK1.out)
 simp only at q0 q1 q2 q3 q4 q5 q6 q7 q8 q9 q10 q11 q12
 clear hw1 hk1
 go_wp2_with fail
 rw [List.nil_append] at HW1
 refine (HPK.out w1 HK1.out HW1.out).mono ?_
 rintro e w2 ⟨rfl, hw2⟩
 clear q0 q1 q2 q3 q4 q5 q6 q7 q8 q9 q10 q11 q12
 have HW2 := hid hw2
 clear hw2
 go_wp2_with fail
 try go_returns
 exact ⟨rfl, HW2.out.less (fun k hk => List.mem_cons_of_mem _ hk)⟩
theorem splitU_sum : ∀ l, ((splitU l).map (fun p => p.length + 1)).sum = l.length + 1
 | [] => rfl
 | b :: l => by
  have ih := splitU_sum l
  unfold splitU
  split
  ·simp only [List.map_cons, List.sum_cons, List.length_nil, List.length_cons]
   omega
  ·cases hs : splitU l with
   | nil =>
    have h := splitU_len l
    rw [hs] at h
    simp at h
   | cons p ps =>
    rw [hs] at ih
    simp only [List.map_cons, List.sum_cons, List.length_cons] at ih ⊢
    omega
theorem sum_le (L : List (List UInt8)) (h : ∀ p ∈ L, p.length ≤ 24) : (L.map (fun p => p.length + 1)).sum ≤ 25 * L.length := by
 induction L with
 | nil => simp
 | cons p ps ih =>
  have h1 := ih (fun q hq => h q (List.mem_cons_of_mem _ hq))
  have h2 := h p (List.mem_cons_self ..)
  simp only [List.map_cons, List.sum_cons, List.length_cons]
  omega
theorem nm_len {l : List UInt8} (h : NmOk l) : l.length ≤ 175 := by
 rcases h with rfl | ⟨_, h1, h2⟩
 ·simp
 ·have h3 := splitU_sum (l.drop 1)
  have h4 := sum_le (splitU (l.drop 1)) (fun p hp => by have h := (h2 p hp).1.2; unfold txU at h; rw [List.length_map] at h; exact h)
  have h5 := splitU_len (l.drop 1)
  rw [List.length_drop] at h3
  omega
def prT (P : List Pr) : Nat → List Int
 | 0 => []
 | t + 1 => prT P t ++ (txF (prA P t).1 ++ txF (prA P t).2)
theorem prT_len {P : List Pr} (h : PropsOk P) : ∀ t, t ≤ P.length → (prT P t).length ≤ 92 * t
 | 0, _ => by simp [prT]
 | t + 1, ht => by
  have h1 := prT_len h t (by omega)
  have h2 := (h t (by omega)).1.1.2
  have h3 := (h t (by omega)).2.1.1.2
  rw [tx_length] at h2 h3
  rw [prT, List.length_append, List.length_append, txF_len, txF_len]
  omega
def bodyBg (r : Rc) (P : List Pr) : List Int := txF r.name ++ le r.typ 1 ++ le r.frm 6 ++ le r.guid 6 ++ le r.origin 1 ++ txF r.snap ++ le r.pn 1 ++ prT P P.length
theorem putBegin_any (w0 w : World) (b : Nat) (A : List Nat) (hw : FreshW w0 w b 2048 ([], 0) A) (r : Rc) (P : List Pr) (K D : List Int) (hr : RcOk w r P K D) (ha : RcA A r P K D) (hm : MayBg r P) :
  Calls Tryz.prog 54 #[.pointer (some ⟨b, 0, none⟩), .agg r.arr] w fun e w' => e = .returned (.tuple #[]) ∧ FreshW w0 w' b 2048 (bodyBg r P, 0) A := by
 obtain ⟨hnm, hpo, m1, ⟨m2, m3⟩, ⟨m4, m5⟩, m6, hsn, m8⟩ := hm
 have mn := nm_len hnm
 have hns : r.name.data.toList.length = r.name.size := rfl
 rw [hns] at mn
 have msn := hsn.1.2
 rw [tx_length] at msn
 have HPO := hid hpo
 have hpl := hr.pl
 have HPL := hid hpl
 unfold bodyBg
 have hal := hw.alloc (.cells r.arr 26)
 have hrow := heap_alloc_new w (.cells r.arr 26)
 have HFA := hid ((Frm.refl [] w).alloc (.cells r.arr 26))
 obtain ⟨bx, hbx⟩ := eX (w.heap.size)
 obtain ⟨wa, hwa⟩ := eX (w.alloc (.cells r.arr 26))
 rw [hbx, hwa] at hal hrow
 rw [hwa] at HFA
 have HW0 := hid hal.1
 have HRC : Hid (∀ W : World, Keeps (bx :: A) wa W → W.heap[bx]? = some (.cells r.arr 26 (0, 0))) := hid (fun W h => (h bx (by simp)).trans hrow)
 obtain ⟨q0, q1, q2, q3, q4, q5, q6, q7, q8, q9, q10, q11, q12⟩ := rc_cells hrow
 have HDK : Hid (∀ W : World, Keeps (bx :: A) wa W → RdP W r.pp P) := hid (fun W h => (hr.pr.kept HFA.out (by simp)).keeps h (fun h0 k hk => List.mem_cons_of_mem _ (ha.p h0 k hk)))
 clear hr ha hnm hns hsn hpo
 clear hal hrow hw
 obtain ⟨kind, name, typ, frm, guid, origin, snap, pp, pn, pc, obj, at_, many, kp, kn, kc, dp, dl, dc⟩ := r
 unfold Rc.arr at hwa ⊢
 simp only at hwa HRC HDK HPL hpl m1 m2 m3 m4 m5 m6 m8 mn msn q0 q1 q2 q3 q4 q5 q6 q7 q8 q9 q10 q11 q12 ⊢
 have u2 := wrapU (n := typ) (by omega) (by omega)
 have u3 := wrapU (n := frm) (by omega) (by omega)
 have u4 := wrapU (n := guid) (by omega) (by omega)
 have u5 := wrapU (n := origin) (by omega) (by omega)
 have u6 := wrapU (n := (pn : Int)) (by omega) (by omega)
 go_enter Tryz.func54, Tryz.ntmps54
 go_wp2_with fail
 refine (text_fit w0 wa b 2048 [] _ HW0.out (by omega) name (by omega) (by simp; omega)).mono ?_
 rintro e w1 ⟨rfl, hw1, hk1⟩
 clear q0 q1 q2 q3 q4 q5 q6 q7 q8 q9 q10 q11 q12
 have HW1 := hid hw1
 have HK1 : Hid (Keeps (bx :: A) wa w1) := hid hk1
 obtain ⟨Z1, hZ1⟩ := eX ([] ++ txF name)
 rw [hZ1] at HW1
 have HL1 : Hid (Z1.length ≤ 177) := hid (by rw [← hZ1, List.length_append, txF_len]; simp; omega)
 have HZ1 := hid hZ1
 obtain ⟨q0, q1, q2, q3, q4, q5, q6, q7, q8, q9, q10, q11, q12⟩ := rc_cells (HRC.out w1 HK1.out)
 simp only at q0 q1 q2 q3 q4 q5 q6 q7 q8 q9 q10 q11 q12
 clear hw1 hk1 hZ1
 go_wp2_with fail
 refine (num_fit w0 w1 b 2048 Z1 _ HW1.out (by omega) typ 1 (by omega) (by omega) (by omega) (by omega) (by have := HL1.out; omega)).mono ?_
 rintro e w2 ⟨rfl, hw2, hk2⟩
 clear q0 q1 q2 q3 q4 q5 q6 q7 q8 q9 q10 q11 q12
 have HW2 := hid hw2
 have HK2 : Hid (Keeps (bx :: A) wa w2) := hid (HK1.out.trans hk2)
 obtain ⟨Z2, hZ2⟩ := eX (Z1 ++ le typ 1)
 rw [hZ2] at HW2
 have HL2 : Hid (Z2.length ≤ 178) := hid (by have := HL1.out; rw [← hZ2, List.length_append, le_length]; omega)
 have HZ2 := hid hZ2
 obtain ⟨q0, q1, q2, q3, q4, q5, q6, q7, q8, q9, q10, q11, q12⟩ := rc_cells (HRC.out w2 HK2.out)
 simp only at q0 q1 q2 q3 q4 q5 q6 q7 q8 q9 q10 q11 q12
 clear hw2 hk2 hZ2
 go_wp2_with fail
 refine (num_fit w0 w2 b 2048 Z2 _ HW2.out (by omega) frm 6 (by omega) (by omega) (by omega) (by omega) (by have := HL2.out; omega)).mono ?_
 rintro e w3 ⟨rfl, hw3, hk3⟩
 clear q0 q1 q2 q3 q4 q5 q6 q7 q8 q9 q10 q11 q12
 have HW3 := hid hw3
 have HK3 : Hid (Keeps (bx :: A) wa w3) := hid (HK2.out.trans hk3)
 obtain ⟨Z3, hZ3⟩ := eX (Z2 ++ le frm 6)
 rw [hZ3] at HW3
 have HL3 : Hid (Z3.length ≤ 184) := hid (by have := HL2.out; rw [← hZ3, List.length_append, le_length]; omega)
 have HZ3 := hid hZ3
 obtain ⟨q0, q1, q2, q3, q4, q5, q6, q7, q8, q9, q10, q11, q12⟩ := rc_cells (HRC.out w3 HK3.out)
 simp only at q0 q1 q2 q3 q4 q5 q6 q7 q8 q9 q10 q11 q12
 clear hw3 hk3 hZ3
 go_wp2_with fail
 refine (num_fit w0 w3 b 2048 Z3 _ HW3.out (by omega) guid 6 (by omega) (by omega) (by omega) (by omega) (by have := HL3.out; omega)).mono ?_
 rintro e w4 ⟨rfl, hw4, hk4⟩
 clear q0 q1 q2 q3 q4 q5 q6 q7 q8 q9 q10 q11 q12
 have HW4 := hid hw4
 have HK4 : Hid (Keeps (bx :: A) wa w4) := hid (HK3.out.trans hk4)
 obtain ⟨Z4, hZ4⟩ := eX (Z3 ++ le guid 6)
 rw [hZ4] at HW4
 have HL4 : Hid (Z4.length ≤ 190) := hid (by have := HL3.out; rw [← hZ4, List.length_append, le_length]; omega)
 have HZ4 := hid hZ4
 obtain ⟨q0, q1, q2, q3, q4, q5, q6, q7, q8, q9, q10, q11, q12⟩ := rc_cells (HRC.out w4 HK4.out)
 simp only at q0 q1 q2 q3 q4 q5 q6 q7 q8 q9 q10 q11 q12
 clear hw4 hk4 hZ4
 go_wp2_with fail
 refine (num_fit w0 w4 b 2048 Z4 _ HW4.out (by omega) origin 1 (by omega) (by omega) (by omega) (by omega) (by have := HL4.out; omega)).mono ?_
 rintro e w5 ⟨rfl, hw5, hk5⟩
 clear q0 q1 q2 q3 q4 q5 q6 q7 q8 q9 q10 q11 q12
 have HW5 := hid hw5
 have HK5 : Hid (Keeps (bx :: A) wa w5) := hid (HK4.out.trans hk5)
 obtain ⟨Z5, hZ5⟩ := eX (Z4 ++ le origin 1)
 rw [hZ5] at HW5
 have HL5 : Hid (Z5.length ≤ 191) := hid (by have := HL4.out; rw [← hZ5, List.length_append, le_length]; omega)
 have HZ5 := hid hZ5
 obtain ⟨q0, q1, q2, q3, q4, q5, q6, q7, q8, q9, q10, q11, q12⟩ := rc_cells (HRC.out w5 HK5.out)
 simp only at q0 q1 q2 q3 q4 q5 q6 q7 q8 q9 q10 q11 q12
 clear hw5 hk5 hZ5
 go_wp2_with fail
 refine (text_fit w0 w5 b 2048 Z5 _ HW5.out (by omega) snap (by omega) (by have := HL5.out; omega)).mono ?_
 rintro e w6 ⟨rfl, hw6, hk6⟩
 clear q0 q1 q2 q3 q4 q5 q6 q7 q8 q9 q10 q11 q12
 have HW6 := hid hw6
 have HK6 : Hid (Keeps (bx :: A) wa w6) := hid (HK5.out.trans hk6)
 obtain ⟨Z6, hZ6⟩ := eX (Z5 ++ txF snap)
 rw [hZ6] at HW6
 have HL6 : Hid (Z6.length ≤ 217) := hid (by have := HL5.out; rw [← hZ6, List.length_append, txF_len]; omega)
 have HZ6 := hid hZ6
 obtain ⟨q0, q1, q2, q3, q4, q5, q6, q7, q8, q9, q10, q11, q12⟩ := rc_cells (HRC.out w6 HK6.out)
 simp only at q0 q1 q2 q3 q4 q5 q6 q7 q8 q9 q10 q11 q12
 clear hw6 hk6 hZ6
 go_wp2_with fail
 refine (num_fit w0 w6 b 2048 Z6 _ HW6.out (by omega) (pn : Int) 1 (by omega) (by omega) (by omega) (by omega) (by have := HL6.out; omega)).mono ?_
 rintro e w7 ⟨rfl, hw7, hk7⟩
 clear q0 q1 q2 q3 q4 q5 q6 q7 q8 q9 q10 q11 q12
 have HW7 := hid hw7
 have HK7 : Hid (Keeps (bx :: A) wa w7) := hid (HK6.out.trans hk7)
 obtain ⟨Z7, hZ7⟩ := eX (Z6 ++ le (pn : Int) 1)
 rw [hZ7] at HW7
 have HL7 : Hid (Z7.length ≤ 218) := hid (by have := HL6.out; rw [← hZ7, List.length_append, le_length]; omega)
 have HZ7 := hid hZ7
 obtain ⟨q0, q1, q2, q3, q4, q5, q6, q7, q8, q9, q10, q11, q12⟩ := rc_cells (HRC.out w7 HK7.out)
 simp only at q0 q1 q2 q3 q4 q5 q6 q7 q8 q9 q10 q11 q12
 clear hw7 hk7 hZ7
 go_wp2_with fail
 clear q0 q1 q2 q3 q4 q5 q6 q7 q8 q9 q10 q11 q12 u2 u3 u4 u5 u6
 go_loopw [43] (fun i wr => ∃ t : Nat, t ≤ pn ∧ i = .int .i64 t ∧ Hid (FreshW w0 wr b 2048 (Z7 ++ prT P t, 0) (bx :: A)) ∧ Hid (Keeps (bx :: A) wa wr)) (fun i _ => pn - (intOf i).toNat)
 case atStart => exact ⟨0, by omega, rfl, hid (by simpa [prT] using HW7.out), HK7⟩
 case round =>
  obtain ⟨t, ht, rfl, hw, hk⟩ := hrel
  have HWr := hid hw.out
  have HKr := hid hk.out
  clear hw hk HW7 HK7
  by_cases hlt : t < pn
  case neg =>
   obtain rfl : t = pn := by omega
   have HF : Hid (FreshW w0 wr b 2048 (txF name ++ le typ 1 ++ le frm 6 ++ le guid 6 ++ le origin 1 ++ txF snap ++ le (t : Int) 1 ++ prT P P.length, 0) A) := hid (by
    have h := HWr.out.less (B := A) (fun k hk => List.mem_cons_of_mem _ hk)
    rw [← HZ7.out, ← HZ6.out, ← HZ5.out, ← HZ4.out, ← HZ3.out, ← HZ2.out, ← HZ1.out, List.nil_append] at h
    rw [HPL.out]
    exact h)
   clear hlt HWr
   go_wp2_with fail
   try go_returns
   exact ⟨rfl, HF.out⟩
  have t1 : (t : Int) < (pn : Int) := by omega
  obtain ⟨g, o, rfl, hc⟩ := (HDK.out wr HKr.out).at (i := t) (by rw [HPL.out]; exact hlt)
  obtain ⟨z0, z1⟩ := hc t (by rw [HPL.out]; exact hlt)
  rw [prA_get] at z0 z1
  have hp := HPO.out t (by rw [HPL.out]; exact hlt)
  have hl := prT_len HPO.out t (by rw [HPL.out]; omega)
  have hsu : prT P (t + 1) = prT P t ++ (txF (prA P t).1 ++ txF (prA P t).2) := rfl
  have HSU := hid hsu
  have hp1 := hp.1.1.2
  have hp2 := hp.2.1.1.2
  rw [tx_length] at hp1 hp2
  obtain ⟨nm, hnm⟩ := eX ((prA P t).1)
  obtain ⟨vl, hvl⟩ := eX ((prA P t).2)
  rw [hnm] at z0 hp1 HSU
  rw [hvl] at z1 hp2 HSU
  have hlz : (Z7 ++ prT P t).length ≤ 218 + 92 * 11 := by have := HL7.out; rw [List.length_append]; omega
  obtain ⟨Y, hY⟩ := eX (Z7 ++ prT P t)
  rw [hY] at hlz HWr
  have HY := hid hY
  have HLZ := hid hlz
  have hal := HWr.out.alloc (.cells #[.string nm, .string vl] 70)
  have hpr := heap_alloc_new wr (.cells #[.string nm, .string vl] 70)
  obtain ⟨bp, hbp⟩ := eX (wr.heap.size)
  obtain ⟨wp, hwp⟩ := eX (wr.alloc (.cells #[.string nm, .string vl] 70))
  rw [hbp, hwp] at hal hpr
  have HWP := hid hal.1
  have HKP : Hid (Keeps (bx :: A) wa wp) := hid (HKr.out.trans hal.2)
  have x0 := cR 0 (.string nm) hpr
  have HPR := hid hpr
  have HN1 := hid (text_fit w0 wp b 2048 Y _ HWP.out (by omega) nm (by omega) (by omega))
  have HBP := hid hbp
  have HWPE := hid hwp
  clear hal hpr hp hl hsu hnm hvl hY hc hbp hwp
  go_upto_region 11 with fail
  try rw [HBP.out]
  try rw [HWPE.out]
  go_wp2_with fail
  refine HN1.out.mono ?_
  rintro e w8 ⟨rfl, hw8, hk8⟩
  have HW8 := hid hw8
  have HK8 : Hid (Keeps (bx :: A) wa w8) := hid (HKP.out.trans (hk8.less (fun k hk => List.mem_cons_of_mem _ hk)))
  have x1 := cR 1 (.string vl) ((hk8 bp (by simp)).trans HPR.out)
  have HN2 := hid (text_fit w0 w8 b 2048 _ _ HW8.out (by omega) vl (by omega) (by rw [List.length_append, txF_len]; omega))
  clear hw8 hk8 HN1 x0 z0 z1
  go_wp2_with fail
  refine HN2.out.mono ?_
  rintro e w9 ⟨rfl, hw9, hk9⟩
  have HW9 := hid hw9
  have HK9 : Hid (Keeps (bx :: A) wa w9) := hid (HK8.out.trans (hk9.less (fun k hk => List.mem_cons_of_mem _ hk)))
  clear hw9 hk9 HN2 x1 hlz hp1 hp2
  go_wp2_with fail
  go_roundw
  case rel => exact ⟨t + 1, by omega, by go_num, hid (by
   have h := HW9.out.less (B := bx :: A) (fun k hk => List.mem_cons_of_mem _ hk)
   rw [← HY.out, List.append_assoc, List.append_assoc] at h
   rw [HSU.out]
   exact h), HK9⟩
  case measure => simp [intOf] <;> omega
end
section
open Go.RowKit Go.Lib
theorem FreshW.k0 {w0 w w' : World} {b : Nat} {room : Int} {s : List Int × Int} {A : List Nat} (h : FreshW w0 w b room s A) (hf : Frm [] w w') : FreshW w0 w' b room s A := by
 obtain ⟨fp, g1, g2, g3, g4⟩ := h
 exact ⟨fp, g1.kept hf (by simp), g2.trans hf (by simp), g3, fun k hk => ⟨(g4 k hk).1, Nat.lt_of_lt_of_le (g4 k hk).2 hf.size⟩⟩
def hbL (k : Int) (BODY : List Int) : List Int := le k 1 ++ le (BODY.length : Int) 4 ++ BODY
theorem hbL_len (k : Int) (BODY : List Int) : (hbL k BODY).length = 5 + BODY.length := by unfold hbL; simp only [List.length_append, le_length]
theorem hbL_bd {k : Int} {BODY : List Int} (hb : ∀ z ∈ BODY, 0 ≤ z ∧ z < 256) : ∀ z ∈ hbL k BODY, 0 ≤ z ∧ z < 256 := by
 intro z hz
 unfold hbL at hz
 simp only [List.mem_append] at hz
 rcases hz with (h | h) | h
 ·exact le_bd _ _ z h
 ·exact le_bd _ _ z h
 ·exact hb z h
def recL (a : S4) (k : Int) (BODY : List Int) : List Int := hbL k BODY ++ selL (sealR a (hbL k BODY))
theorem recL_len (a : S4) (k : Int) (BODY : List Int) : (recL a k BODY).length = 37 + BODY.length := by unfold recL; rw [List.length_append, hbL_len, selL_len]; omega
theorem recL_bd {a : S4} {k : Int} {BODY : List Int} (hb : ∀ z ∈ BODY, 0 ≤ z ∧ z < 256) : ∀ z ∈ recL a k BODY, 0 ≤ z ∧ z < 256 := by
 intro z hz
 unfold recL at hz
 rcases List.mem_append.1 hz with h | h
 ·exact hbL_bd hb z h
 ·exact selL_bd _ z h
theorem encode_bad (r : Rc) (P : List Pr) (K D : List Int) (a : S4) (w : World) (hr : RcOk w r P K D) (hs : r.name.size ≤ 9223372036854775806) (hm : ¬ RcMay r P K D) :
  Calls Tryz.prog 10 #[.agg r.arr, .agg a.arr] w fun e w' => e = .returned (.tuple #[.slice none 0 0, .agg S4.z.arr, .int .i64 200]) ∧ Frm [] w w' := by
 have hrow := heap_alloc_new w (.cells r.arr 26)
 have hfa : Frm [] w (w.alloc (.cells r.arr 26)) := (Frm.refl _ _).alloc _
 obtain ⟨wa, hwa⟩ := eX (w.alloc (.cells r.arr 26))
 obtain ⟨ba, hba⟩ := eX (w.heap.size)
 rw [hwa, hba] at hrow
 rw [hwa] at hfa
 have hrows := heap_alloc_new wa (.cells a.arr 29)
 have hfs : Frm [] wa (wa.alloc (.cells a.arr 29)) := (Frm.refl _ _).alloc _
 obtain ⟨ws, hws⟩ := eX (wa.alloc (.cells a.arr 29))
 obtain ⟨bs, hbs⟩ := eX (wa.heap.size)
 rw [hws, hbs] at hrows
 rw [hws] at hfs
 have hrowr := heap_alloc_new ws (.cells #[.int .u64 0, .int .u64 0, .int .u64 0, .int .u64 0] 29)
 have hfr : Frm [] ws (ws.alloc (.cells #[.int .u64 0, .int .u64 0, .int .u64 0, .int .u64 0] 29)) := (Frm.refl _ _).alloc _
 obtain ⟨wr, hwr⟩ := eX (ws.alloc (.cells #[.int .u64 0, .int .u64 0, .int .u64 0, .int .u64 0] 29))
 obtain ⟨br, hbr⟩ := eX (ws.heap.size)
 rw [hwr, hbr] at hrowr
 rw [hwr] at hfr
 have hb1 : ba + 1 = bs := by rw [← hbs, ← hwa, ← hba]; simp
 have hb2 : bs + 1 = br := by rw [← hbr, ← hws, ← hbs]; simp
 have hb3 : ba + 1 + 1 = br := by omega
 have HB1 := hid hb1
 have HB2 := hid hb2
 have HB3 := hid hb3
 have HFR : Hid (Frm [] w wr) := hid ((hfa.trans hfs (by simp)).trans hfr (by simp))
 have HRA : Hid (∀ W, Frm [] wr W → W.heap[ba]? = some (.cells r.arr 26 (0, 0))) := hid (fun W hf => hf.heap (hfr.heap (hfs.heap hrow (by simp)) (by simp)) (by simp))
 have HRS : Hid (∀ W, Frm [] wr W → W.heap[bs]? = some (.cells a.arr 29 (0, 0))) := hid (fun W hf => hf.heap (hfr.heap hrows (by simp)) (by simp))
 have HRB : Hid (∀ W, Frm [] wr W → W.heap[br]? = some (.cells #[.int .u64 0, .int .u64 0, .int .u64 0, .int .u64 0] 29 (0, 0))) := hid (fun W hf => hf.heap hrowr (by simp))
 have HWA := hid hwa
 have HWS := hid hws
 have HWR := hid hwr
 have HBA := hid hba
 have HBS := hid hbs
 have HBR := hid hbr
 have HX := hid (fun V (hf : Frm [] wr V) => rc_cells (HRA.out V hf))
 have HCK := hid (check_any r P K D wr (hr.k0 HFR.out) hs)
 have HOK := hid hr
 clear hrow hfa hwa hba hrows hfs hws hbs hrowr hfr hwr hbr hb1 hb2 hb3 hr hs 
 rw [if_neg hm] at HCK
 clear hm
 have hbld : ∀ V, (Instr.build 29 #[]).run Tryz.prog V = .ok (.agg #[.int .u64 0, .int .u64 0, .int .u64 0, .int .u64 0]) V := fun V => run_build V _ _ _ (by kernel_rfl)
 obtain ⟨kind, name, typ, frm, guid, origin, snap, pp, pn, pc, obj, at_, many, kp, kn, kc, dp, dl, dc⟩ := r
 obtain ⟨s0, s1, s2, s3⟩ := a
 unfold S4.arr at HWS HRS 
 unfold Rc.arr at HWA HRA HCK ⊢
 unfold S4.arr
 simp only at HWA HWS HRA HRS HX HCK ⊢
 obtain ⟨q0, q1, q2, q3, q4, q5, q6, q7, q8, q9, q10, q11, q12⟩ := HX.out wr (Frm.refl _ _)
 go_enter Tryz.func10, Tryz.ntmps10
 go_upto_region 1 with fail
 try rw [HWA.out]
 try rw [HBA.out]
 try rw [HBS.out]
 try rw [HB1.out]
 try rw [HWS.out]
 try rw [HB3.out]
 try rw [HBR.out]
 try rw [HB2.out]
 try rw [HWR.out]
 go_wp2_with fail
 refine HCK.out.mono ?_
 rintro e w1 ⟨rfl, hf1⟩
 have HF1 := hid hf1
 clear hf1 q0 q1 q2 q3 q4 q5 q6 q7 q8 q9 q10 q11 q12 HCK
 have hrz := HRB.out w1 HF1.out
 have y0 := fZ 0 hrz
 have v0 := cR 0 (.int .u64 0) hrz
 have y1 := fZ 1 hrz
 have v1 := cR 1 (.int .u64 0) hrz
 have y2 := fZ 2 hrz
 have v2 := cR 2 (.int .u64 0) hrz
 have y3 := fZ 3 hrz
 have v3 := cR 3 (.int .u64 0) hrz
 go_wp2_with fail
 obtain ⟨h4, f4⟩ := set4 (y0 := .int .u64 0) (y1 := .int .u64 0) (y2 := .int .u64 0) (y3 := .int .u64 0) hrz
 obtain ⟨Wz, hWz⟩ := eX (((((w1.setCell ⟨br, 0, none⟩ (.int .u64 0)).setCell ⟨br, 1, none⟩ (.int .u64 0)).setCell ⟨br, 2, none⟩ (.int .u64 0)).setCell ⟨br, 3, none⟩ (.int .u64 0)))
 rw [hWz] at h4 f4
 rw [hWz]
 have u0 := cR 0 (.int .u64 0) h4
 have u1 := cR 1 (.int .u64 0) h4
 have u2 := cR 2 (.int .u64 0) h4
 have u3 := cR 3 (.int .u64 0) h4
 refine bodyPost_ret (v := .tuple #[.slice none 0 0, .agg #[.int .u64 0, .int .u64 0, .int .u64 0, .int .u64 0], .int .i64 200]) (by simp [results, Tryz.results10, go_sem, u0, u1, u2, u3]) rfl ?_
 exact ⟨rfl, (HFR.out.trans HF1.out (by simp)).trans f4 (fun i hi hl => by rw [List.mem_singleton] at hi; have := HB3.out; have := HBA.out; omega)⟩
theorem encode_row (r : Rc) (P : List Pr) (K D : List Int) (a : S4) (ha : a.Bd) (fm fo fp ft : FuncId) (BODY : List Int) (w : World) (hr : RcOk w r P K D) (hs : r.name.size ≤ 9223372036854775806) (hm : RcMay r P K D) (hkb : 1 ≤ r.kind ∧ r.kind ≤ 7) (hpr : Primes w)
  (hfp : Hid (∀ (args : Array Value) (W : World), (callFunc fp args).run Tryz.prog W = .ok (.enter fp args) W)) (hk : lkT r.kind = some #[.func (.func fm) #[] #[], .func (.func fo) #[] #[], .func (.func fp) #[] #[], .func (.func ft) #[] #[]])
  (HPUT : Hid (∀ W0 W b A, FreshW W0 W b 2048 ([], 0) A → RcOk W r P K D → RcA A r P K D → Calls Tryz.prog fp #[.pointer (some ⟨b, 0, none⟩), .agg r.arr] W fun e w' => e = .returned (.tuple #[]) ∧ FreshW W0 w' b 2048 (BODY, 0) A))
  (hbl : BODY.length ≤ 2000) (hbb : ∀ z ∈ BODY, 0 ≤ z ∧ z < 256) :
  Calls Tryz.prog 10 #[.agg r.arr, .agg a.arr] w fun e w' => ∃ g n, e = .returned (.tuple #[.slice (some ⟨g, 0, none⟩) n n, .agg (sealR a (hbL r.kind BODY)).arr, .int .i64 0]) ∧ n = (recL a r.kind BODY).length ∧ w'.heap[g]? = some (.cells (bv (recL a r.kind BODY)).toArray 5 (0, 0)) ∧ w.heap.size ≤ g ∧ Frm [] w w' := by
 obtain ⟨PO, hPO⟩ : ∃ PO : Ending → World → Prop, (fun e w' => ∃ g n, e = .returned (.tuple #[.slice (some ⟨g, 0, none⟩) n n, .agg (sealR a (hbL r.kind BODY)).arr, .int .i64 0]) ∧ n = (recL a r.kind BODY).length ∧ w'.heap[g]? = some (.cells (bv (recL a r.kind BODY)).toArray 5 (0, 0)) ∧ w.heap.size ≤ g ∧ Frm [] w w') = PO := ⟨_, rfl⟩
 rw [hPO]
 have HP : Hid (∀ g n w', n = (recL a r.kind BODY).length → w'.heap[g]? = some (.cells (bv (recL a r.kind BODY)).toArray 5 (0, 0)) → w.heap.size ≤ g → Frm [] w w' → PO (.returned (.tuple #[.slice (some ⟨g, 0, none⟩) n n, .agg (sealR a (hbL r.kind BODY)).arr, .int .i64 0])) w') := hid (fun g n w' h1 h2 h3 h4 => by rw [← hPO]; exact ⟨g, n, rfl, h1, h2, h3, h4⟩)
 obtain ⟨SR, hSR⟩ := eX (sealR a (hbL r.kind BODY))
 have HSR := hid hSR
 rw [hSR] at HP
 have HRL : Hid (recL a r.kind BODY = hbL r.kind BODY ++ selL SR) := hid (by rw [← hSR]; rfl)
 obtain ⟨RL, hRL⟩ := eX (recL a r.kind BODY)
 rw [hRL] at HP HRL
 have HSB : Hid SR.Bd := hid (by rw [← hSR]; exact shaD_Bd _)
 have HAB := hid ha
 have HPR := hid hpr
 have HBB := hid hbb
 have hlk : ∀ (W : World) (m : Nat), W.heap[m]? = some (.map (rowsT 7) 7) → (Instr.lookup 60 (.map (some m)) (.int .i64 r.kind) false).run Tryz.prog W = .ok (.agg #[.func (.func fm) #[] #[], .func (.func fo) #[] #[], .func (.func fp) #[] #[], .func (.func ft) #[] #[]]) W := fun W m h => by
  have h2 := run_lookR1 (P := Tryz.prog) (w := W) 60 3 58 m 7 (rowsT 7) r.kind (.agg #[.nilFunc, .nilFunc, .nilFunc, .nilFunc]) Tryz.underlying60 Tryz.underlying3 (by kernel_rfl) h (rowsT_int 7)
  rw [lkT_of, hk] at h2
  exact h2
 have hfd0 : ∀ W : World, (Instr.field 58 (.agg #[.func (.func fm) #[] #[], .func (.func fo) #[] #[], .func (.func fp) #[] #[], .func (.func ft) #[] #[]]) 2).run Tryz.prog W = .ok (.func (.func fp) #[] #[]) W := fun W => by kernel_rfl
 obtain ⟨A, hA1, hA2⟩ := hr.foot
 have HA1 := hid hA1
 have HA2 := hid hA2
 have hrow := heap_alloc_new w (.cells r.arr 26)
 have hfa : Frm [] w (w.alloc (.cells r.arr 26)) := (Frm.refl _ _).alloc _
 obtain ⟨wa, hwa⟩ := eX (w.alloc (.cells r.arr 26))
 obtain ⟨ba, hba⟩ := eX (w.heap.size)
 rw [hwa, hba] at hrow
 rw [hwa] at hfa
 have hrows := heap_alloc_new wa (.cells a.arr 29)
 have hfs : Frm [] wa (wa.alloc (.cells a.arr 29)) := (Frm.refl _ _).alloc _
 obtain ⟨ws, hws⟩ := eX (wa.alloc (.cells a.arr 29))
 obtain ⟨bs, hbs⟩ := eX (wa.heap.size)
 rw [hws, hbs] at hrows
 rw [hws] at hfs
 have hrowr := heap_alloc_new ws (.cells #[.int .u64 0, .int .u64 0, .int .u64 0, .int .u64 0] 29)
 have hfr : Frm [] ws (ws.alloc (.cells #[.int .u64 0, .int .u64 0, .int .u64 0, .int .u64 0] 29)) := (Frm.refl _ _).alloc _
 obtain ⟨wr, hwr⟩ := eX (ws.alloc (.cells #[.int .u64 0, .int .u64 0, .int .u64 0, .int .u64 0] 29))
 obtain ⟨br, hbr⟩ := eX (ws.heap.size)
 rw [hwr, hbr] at hrowr
 rw [hwr] at hfr
 have hb1 : ba + 1 = bs := by rw [← hbs, ← hwa, ← hba]; simp
 have hb2 : bs + 1 = br := by rw [← hbr, ← hws, ← hbs]; simp
 have hb3 : ba + 1 + 1 = br := by omega
 have HB1 := hid hb1
 have HB2 := hid hb2
 have HB3 := hid hb3
 have HFR : Hid (Frm [] w wr) := hid ((hfa.trans hfs (by simp)).trans hfr (by simp))
 have HRA : Hid (∀ W, Frm [] wr W → W.heap[ba]? = some (.cells r.arr 26 (0, 0))) := hid (fun W hf => hf.heap (hfr.heap (hfs.heap hrow (by simp)) (by simp)) (by simp))
 have HRS : Hid (∀ W, Frm [] wr W → W.heap[bs]? = some (.cells a.arr 29 (0, 0))) := hid (fun W hf => hf.heap (hfr.heap hrows (by simp)) (by simp))
 have HRB : Hid (∀ W, Frm [] wr W → W.heap[br]? = some (.cells #[.int .u64 0, .int .u64 0, .int .u64 0, .int .u64 0] 29 (0, 0))) := hid (fun W hf => hf.heap hrowr (by simp))
 have HWA := hid hwa
 have HWS := hid hws
 have HWR := hid hwr
 have HBA := hid hba
 have HBS := hid hbs
 have HBR := hid hbr
 have HX := hid (fun V (hf : Frm [] wr V) => rc_cells (HRA.out V hf))
 have HCK := hid (check_any r P K D wr (hr.k0 HFR.out) hs)
 have HOK := hid hr
 clear hrow hfa hwa hba hrows hfs hws hbs hrowr hfr hwr hbr hb1 hb2 hb3 hr hs ha hpr hbb hk hA1 hA2 hPO hSR hRL
 rw [if_pos hm] at HCK
 clear hm
 obtain ⟨kind, name, typ, frm, guid, origin, snap, pp, pn, pc, obj, at_, many, kp, kn, kc, dp, dl, dc⟩ := r
 obtain ⟨s0, s1, s2, s3⟩ := a
 obtain ⟨t0, t1, t2, t3⟩ := SR
 unfold S4.arr at HWS HRS HP 
 unfold Rc.arr at HWA HRA HCK HPUT ⊢
 unfold S4.arr
 simp only at HWA HWS HRA HRS HX HCK hkb HSR HRL HPUT HOK HA1 hlk HP ⊢
 obtain ⟨q0, q1, q2, q3, q4, q5, q6, q7, q8, q9, q10, q11, q12⟩ := HX.out wr (Frm.refl _ _)
 go_enter Tryz.func10, Tryz.ntmps10
 go_upto_region 1 with fail
 try rw [HWA.out]
 try rw [HBA.out]
 try rw [HBS.out]
 try rw [HB1.out]
 try rw [HWS.out]
 try rw [HB3.out]
 try rw [HBR.out]
 try rw [HB2.out]
 try rw [HWR.out]
 go_wp2_with fail
 refine HCK.out.mono ?_
 rintro e w1 ⟨rfl, hf1⟩
 have HF1 := hid hf1
 clear hf1 q0 q1 q2 q3 q4 q5 q6 q7 q8 q9 q10 q11 q12 HCK
 go_wp2_with fail
 refine (newWriter_any 2048 w1).mono ?_
 rintro e w2 ⟨rfl, hw2, hf2, _⟩
 have HW2 : Hid (FreshW w1 w2 w1.heap.size 2048 ([], 0) A) := hid ((FreshW.born hw2 hf2 (Nat.le_refl _)).with_ (fun k hk => Nat.lt_of_lt_of_le (HA2.out k hk) (HFR.out.trans HF1.out (by simp)).size))
 have HF2 : Hid (Frm [] wr w2) := hid (HF1.out.trans hf2 (by simp))
 obtain ⟨b, hb⟩ := eX (w1.heap.size)
 rw [hb] at HW2 ⊢
 clear hw2 hf2 hb
 go_upto_region 5 with fail
 refine wp_region_tail (S := fun W => (W.cell? ⟨ba, 0, none⟩ = some (.int .i64 kind) ∧ W.cell? ⟨ba, 1, none⟩ = some (.string name) ∧ W.cell? ⟨ba, 2, none⟩ = some (.int .i64 typ) ∧ W.cell? ⟨ba, 3, none⟩ = some (.int .i64 frm) ∧ W.cell? ⟨ba, 4, none⟩ = some (.int .i64 guid) ∧ W.cell? ⟨ba, 5, none⟩ = some (.int .i64 origin) ∧ W.cell? ⟨ba, 6, none⟩ = some (.string snap) ∧ W.cell? ⟨ba, 7, none⟩ = some (.slice pp pn pc) ∧ W.cell? ⟨ba, 8, none⟩ = some (.int .i64 obj) ∧ W.cell? ⟨ba, 9, none⟩ = some (.int .i64 at_) ∧ W.cell? ⟨ba, 10, none⟩ = some (.int .i64 many) ∧ W.cell? ⟨ba, 11, none⟩ = some (.slice kp kn kc) ∧ W.cell? ⟨ba, 12, none⟩ = some (.slice dp dl dc))) 7 8 rfl (by kernel_rfl) (by kernel_rfl) ?_
 refine hI (i := 1) (v := ?_) rfl ?_ (HX.out _ (HF2.out.trans (Frm.refl [] w2).drew (by simp))) ?_
 rotate_left 1
 ·rintro W ⟨k0, k1, k2, k3, k4, k5, k6, k7, k8, k9, k10, k11, k12⟩; (try simp only [lA, lS, lZ]); go_simp; try with_reducible rfl
 try simp only [lA, lS, lZ, Act.put, lI, lW, lX]
 refine hI (i := 2) (v := ?_) rfl ?_ (HX.out _ (HF2.out.trans (Frm.refl [] w2).drew (by simp))) ?_
 rotate_left 1
 ·rintro W ⟨k0, k1, k2, k3, k4, k5, k6, k7, k8, k9, k10, k11, k12⟩; (try simp only [lA, lS, lZ]); go_simp; try with_reducible rfl
 try simp only [lA, lS, lZ, Act.put, lI, lW, lX]
 refine hI (i := 5) (v := ?_) rfl ?_ (HX.out _ (HF2.out.trans (Frm.refl [] w2).drew (by simp))) ?_
 rotate_left 1
 ·rintro W ⟨k0, k1, k2, k3, k4, k5, k6, k7, k8, k9, k10, k11, k12⟩; (try simp only [lA, lS, lZ]); go_simp; try with_reducible rfl
 try simp only [lA, lS, lZ, Act.put, lI, lW, lX]
 refine hI (i := 6) (v := ?_) rfl ?_ (HX.out _ (HF2.out.trans (Frm.refl [] w2).drew (by simp))) ?_
 rotate_left 1
 ·rintro W ⟨k0, k1, k2, k3, k4, k5, k6, k7, k8, k9, k10, k11, k12⟩; (try simp only [lA, lS, lZ]); go_simp; try with_reducible rfl
 try simp only [lA, lS, lZ, Act.put, lI, lW, lX]
 refine wpAnyHT_one (i := 0) rfl (by kernel_rfl) (by kernel_rfl) (fun K hK => ?_)
 try simp only [lA, lZ]
 go_simp
 refine (rows_any _).mono ?_
 rintro e w3 ⟨m, rfl, hm, hmap, hf3⟩
 have HF3 : Hid (Frm [] w2 w3) := hid ((Frm.refl [] w2).drew.trans hf3 (by simp))
 have hs3 := HX.out w3 (HF2.out.trans HF3.out (by simp))
 refine hK _ _ hs3 ?_
 clear hK K
 refine wpAnyHT_str (S' := fun W => (W.cell? ⟨ba, 0, none⟩ = some (.int .i64 kind) ∧ W.cell? ⟨ba, 1, none⟩ = some (.string name) ∧ W.cell? ⟨ba, 2, none⟩ = some (.int .i64 typ) ∧ W.cell? ⟨ba, 3, none⟩ = some (.int .i64 frm) ∧ W.cell? ⟨ba, 4, none⟩ = some (.int .i64 guid) ∧ W.cell? ⟨ba, 5, none⟩ = some (.int .i64 origin) ∧ W.cell? ⟨ba, 6, none⟩ = some (.string snap) ∧ W.cell? ⟨ba, 7, none⟩ = some (.slice pp pn pc) ∧ W.cell? ⟨ba, 8, none⟩ = some (.int .i64 obj) ∧ W.cell? ⟨ba, 9, none⟩ = some (.int .i64 at_) ∧ W.cell? ⟨ba, 10, none⟩ = some (.int .i64 many) ∧ W.cell? ⟨ba, 11, none⟩ = some (.slice kp kn kc) ∧ W.cell? ⟨ba, 12, none⟩ = some (.slice dp dl dc)) ∧ W.heap[m]? = some (.map (rowsT 7) 7)) (fun _ h => h.1) _ _ _ _ ?_
 refine hI (i := 3) (v := ?_) rfl ?_ ⟨hs3, hmap⟩ ?_
 rotate_left 1
 ·(intro W hSw; obtain ⟨⟨k0, k1, k2, k3, k4, k5, k6, k7, k8, k9, k10, k11, k12⟩, sm⟩ := hSw; have hl := hlk W m sm; (try simp only [lA, lS, lZ]); go_simp; try with_reducible rfl)
 try simp only [lA, lS, lZ, Act.put, lI, lW, lX]
 refine hI (i := 4) (v := ?_) rfl ?_ ⟨hs3, hmap⟩ ?_
 rotate_left 1
 ·(intro W hSw; obtain ⟨⟨k0, k1, k2, k3, k4, k5, k6, k7, k8, k9, k10, k11, k12⟩, sm⟩ := hSw; have hfd := hfd0 W; (try simp only [lA, lS, lZ]); go_simp; try with_reducible rfl)
 try simp only [lA, lS, lZ, Act.put, lI, lW, lX]
 refine wpAnyHT_end (by kernel_rfl) ?_
 simp only [List.drop_succ_cons, List.drop_zero]
 clear hlk hfd0
 go_wp2_with fail
 rw [hfp.out, Oper.upon_enter]
 have HW3 := hid (HW2.out.k0 HF3.out)
 refine (HPUT.out w1 w3 b A HW3.out (HOK.out.k0 (HFR.out.trans (HF2.out.trans HF3.out (by simp)) (by simp))) HA1.out).mono ?_
 rintro e w4 ⟨rfl, hw4⟩
 have HW4 := hid hw4
 clear hw4 HW3 HW2 hmap hm hf3 HF2 HF3 HPUT HOK HA1
 go_wp2_with fail
 refine (doneWF_ok w1 w4 b 2048 BODY A HW4.out (by omega) (by omega)).mono ?_
 rintro e w5 ⟨g, rfl, hr5, hw5, _, _, hg5⟩
 have HR5 := hid hr5
 have HF5 : Hid (Frm [] wr w5) := hid (HF1.out.trans hw5.frm (by simp))
 have HG5 := hid hg5
 have HHB : Hid (hbL kind BODY = (le kind 1 ++ le (BODY.length : Int) 4) ++ BODY) := hid rfl
 obtain ⟨nB, hnB⟩ := eX (BODY.length)
 have HNB := hid hnB
 rw [hnB] at hbl HHB ⊢
 obtain ⟨HB, hHB⟩ := eX (hbL kind BODY)
 rw [hHB] at HHB HSR HRL
 have HBL : Hid (HB.length = 5 + nB) := hid (by rw [← hHB, hbL_len, HNB.out])
 have HBD : Hid (∀ z ∈ HB, 0 ≤ z ∧ z < 256) := hid (by rw [← hHB]; exact hbL_bd HBB.out)
 clear hr5 hw5 hg5 HW4 hnB hHB
 go_wp2_with fail
 refine (newWriter_any 2053 w5).mono ?_
 rintro e w6 ⟨rfl, hw6, hf6, _⟩
 have HW6 : Hid (FreshW w5 w6 w5.heap.size 2053 ([], 0) [g]) := hid ((FreshW.born hw6 hf6 (Nat.le_refl _)).with_ (by intro k hk; rw [List.mem_singleton] at hk; subst hk; exact HG5.out))
 have HR6 := hid (HR5.out.kept hf6 (by simp))
 have q0 := (HX.out w6 (HF5.out.trans hf6 (by simp))).1
 obtain ⟨b2, hb2⟩ := eX (w5.heap.size)
 rw [hb2] at HW6 ⊢
 have hu1 := wrapU (n := kind) (by omega) (by omega)
 have hu2 := wrapU (n := (nB : Int)) (by omega) (by omega)
 clear hw6 hf6 hb2 HR5
 go_wp2_with fail
 refine (num_fit w5 w6 b2 2053 [] [g] HW6.out (by omega) kind 1 (by omega) (by omega) (by omega) (by omega) (by simp)).mono ?_
 rintro e w7 ⟨rfl, hw7, hk7⟩
 rw [List.nil_append] at hw7
 have HW7 := hid hw7
 have HR7 := hid (HR6.out.keeps hk7 (by simp [blk]))
 clear hw7 hk7 HW6 HR6 q0 hu1
 go_wp2_with fail
 refine (num_fit w5 w7 b2 2053 _ [g] HW7.out (by omega) (nB : Int) 4 (by omega) (by omega) (by omega) (by omega) (by rw [le_length]; omega)).mono ?_
 rintro e w8 ⟨rfl, hw8, hk8⟩
 have HW8 := hid hw8
 have HR8 := hid (HR7.out.keeps hk8 (by simp [blk]))
 clear hw8 hk8 HW7 HR7 hu2
 have hbf := bytes_fit w5 w8 b2 2053 _ [g] HW8.out (by omega) (some ⟨g, 0, none⟩) BODY nB (fun _ h => by cases h) HR8.out (by rw [HNB.out]; simp only [List.length_append, le_length]; omega)
 rw [HNB.out, ← HHB.out] at hbf
 have HBF := hid hbf
 clear hbf
 go_wp2_with fail
 refine HBF.out.mono ?_
 rintro e w9 ⟨rfl, hw9, _⟩
 have HW9 := hid hw9
 clear hw9 HBF HW8 HR8
 go_wp2_with fail
 refine (doneWF_ok w5 w9 b2 2053 HB [g] HW9.out (by omega) (by rw [HBL.out]; omega)).mono ?_
 rintro e w10 ⟨g2, rfl, hr10, hw10, _, _, hg10⟩
 rw [HBL.out]
 have HR10 := hid hr10
 have HF10 : Hid (Frm [] wr w10) := hid (HF5.out.trans hw10.frm (by simp))
 have HG10 := hid hg10
 have HSE := hid (sealR_any ⟨s0, s1, s2, s3⟩ HAB.out (some ⟨g2, 0, none⟩) (5 + nB) (5 + nB) HB w10 HBL.out (by omega) (by omega) hr10 HBD.out ((HPR.out.kept HFR.out).kept HF10.out))
 rw [HSR.out] at HSE
 unfold S4.arr at HSE
 simp only at HSE
 have p0 := cR 0 (.int .u64 s0) (HRS.out w10 HF10.out)
 have p1 := cR 1 (.int .u64 s1) (HRS.out w10 HF10.out)
 have p2 := cR 2 (.int .u64 s2) (HRS.out w10 HF10.out)
 have p3 := cR 3 (.int .u64 s3) (HRS.out w10 HF10.out)
 clear hr10 hw10 hg10 HW9
 go_wp2_with fail
 refine HSE.out.mono ?_
 rintro e w11 ⟨rfl, hf11⟩
 have hrw := heap_alloc_new w11 (.cells #[.int .u64 t0, .int .u64 t1, .int .u64 t2, .int .u64 t3] 29)
 have hf12 : Frm [] w11 (w11.alloc (.cells #[.int .u64 t0, .int .u64 t1, .int .u64 t2, .int .u64 t3] 29)) := (Frm.refl _ _).alloc _
 obtain ⟨w12, hw12⟩ := eX (w11.alloc (.cells #[.int .u64 t0, .int .u64 t1, .int .u64 t2, .int .u64 t3] 29))
 obtain ⟨bz, hbz⟩ := eX (w11.heap.size)
 rw [hw12, hbz] at hrw
 rw [hw12] at hf12
 have HW12 := hid hw12
 have HBZ := hid hbz
 have HF12 : Hid (Frm [] wr w12) := hid ((HF10.out.trans hf11 (by simp)).trans hf12 (by simp))
 have HR12 := hid (HR10.out.kept (hf11.trans hf12 (by simp)) (by simp))
 have HRZ : Hid (∀ W, Frm [] w12 W → W.heap[bz]? = some (.cells #[.int .u64 t0, .int .u64 t1, .int .u64 t2, .int .u64 t3] 29 (0, 0))) := hid (fun W hf => hf.heap hrw (by simp))
 have HG12 : Hid (g2 < w12.heap.size) := hid (Nat.lt_of_lt_of_le HG10.out (hf11.trans hf12 (by simp)).size)
 have HZR : Hid (¬ bz = br) := hid (by
  have h1 := hf11.size
  have h2 := HF10.out.size
  have h3 := lt_of_heap (HRB.out wr (Frm.refl _ _))
  omega)
 have hrm : roomOf (((5 + nB : Nat) : Int) + 32) = ((5 + nB : Nat) : Int) + 32 := by unfold roomOf; rw [if_neg (by omega), if_neg (by omega)]
 have HRM := hid hrm
 clear hrw hf12 hw12 hbz hf11 HSE p0 p1 p2 p3 HR10 HG10 hrm
 go_upto_region 13 with fail
 try rw [HBZ.out]
 try rw [HW12.out]
 obtain ⟨n2, hn2⟩ := eX (5 + nB)
 have HN2 := hid hn2
 rw [hn2] at HBL HRM ⊢
 have hn2b : n2 ≤ 2005 := by omega
 clear hn2
 go_wp2_with fail
 refine (newWriter_any ((n2 : Int) + 32) w12).mono ?_
 rintro e w13 ⟨rfl, hw13, hf13, _⟩
 rw [HRM.out] at hw13
 have HW13 : Hid (FreshW w12 w13 w12.heap.size ((n2 : Int) + 32) ([], 0) [g2]) := hid ((FreshW.born hw13 hf13 (Nat.le_refl _)).with_ (by intro k hk; rw [List.mem_singleton] at hk; subst hk; exact HG12.out))
 have hbf := bytes_fit w12 w13 w12.heap.size ((n2 : Int) + 32) [] [g2] HW13.out (by omega) (some ⟨g2, 0, none⟩) HB n2 (fun _ h => by cases h) (HR12.out.kept hf13 (by simp)) (by rw [HBL.out]; simp only [List.length_nil]; omega)
 rw [HBL.out, List.nil_append] at hbf
 obtain ⟨b3, hb3⟩ := eX (w12.heap.size)
 rw [hb3] at hbf ⊢
 have HBF := hid hbf
 clear hw13 hf13 hb3 hbf HW13
 go_wp2_with fail
 refine HBF.out.mono ?_
 rintro e w14 ⟨rfl, hw14, _⟩
 have HW14 := hid hw14
 have p0 := cR 0 (.int .u64 t0) (HRZ.out w14 hw14.frm)
 have p1 := cR 1 (.int .u64 t1) (HRZ.out w14 hw14.frm)
 have p2 := cR 2 (.int .u64 t2) (HRZ.out w14 hw14.frm)
 have p3 := cR 3 (.int .u64 t3) (HRZ.out w14 hw14.frm)
 clear hw14 HBF
 go_wp2_with fail
 refine (putSum_any w12 w14 b3 ((n2 : Int) + 32) HB [g2] HW14.out (by omega) t0 t1 t2 t3 HSB.out.a HSB.out.b HSB.out.c HSB.out.d (by rw [HBL.out]; omega)).mono ?_
 rintro e w15 ⟨rfl, hw15, _⟩
 have hrl : HB ++ sumL t0 t1 t2 t3 = RL := HRL.out.symm
 rw [hrl] at hw15
 have HW15 := hid hw15
 have HRN : Hid (RL.length = n2 + 32) := hid (by rw [← hrl, List.length_append, sumL_length, HBL.out])
 clear hw15 hrl HW14 p0 p1 p2 p3
 go_wp2_with fail
 obtain ⟨fp3, g1, g2', g3, _⟩ := HW15.out
 refine (doneW_ok b3 fp3 ((n2 : Int) + 32) RL w15 g1 (by omega) (by rw [HRN.out]; omega)).mono ?_
 rintro e w16 ⟨gz, rfl, h16, hf16, hg16⟩
 have HF16 : Hid (Frm [] w12 w16) := hid (g2'.trans hf16 (by simp))
 have H16 := hid h16
 have HG16 : Hid (w12.heap.size ≤ gz) := hid (Nat.le_trans g2'.size hg16)
 have HPZ := hid (HP.out gz RL.length)
 obtain ⟨nR, hnR⟩ := eX (RL.length)
 rw [hnR] at HPZ ⊢
 have HNR := hid hnR
 clear g1 g2' g3 h16 hf16 hg16 HW15 hnR
 go_upto_region 17 with fail
 have sz : ∀ W, Frm [] w12 W → W.cell? ⟨bz, 0, none⟩ = some (.int .u64 t0) ∧ W.cell? ⟨bz, 1, none⟩ = some (.int .u64 t1) ∧ W.cell? ⟨bz, 2, none⟩ = some (.int .u64 t2) ∧ W.cell? ⟨bz, 3, none⟩ = some (.int .u64 t3) := fun W hf => by
  refine ⟨?_, ?_, ?_, ?_⟩ <;> (rw [cell_of_row _ _ _ _ _ _ (HRZ.out W hf)]; rfl)
 obtain ⟨wd, hwd⟩ := eX (w16.drew)
 have HFD : Frm [] w16 wd := by rw [← hwd]; exact (Frm.refl [] w16).drew
 have s0 := sz wd (HF16.out.trans HFD (by simp))
 have hrz := HRB.out wd (HF12.out.trans (HF16.out.trans HFD (by simp)) (by simp))
 have y0 := fZ 0 hrz
 have v0 := cR 0 (.int .u64 0) hrz
 have y1 := fZ 1 hrz
 have v1 := cR 1 (.int .u64 0) hrz
 have y2 := fZ 2 hrz
 have v2 := cR 2 (.int .u64 0) hrz
 have y3 := fZ 3 hrz
 have v3 := cR 3 (.int .u64 0) hrz
 obtain ⟨h4, f4⟩ := set4 (y0 := .int .u64 t0) (y1 := .int .u64 t1) (y2 := .int .u64 t2) (y3 := .int .u64 t3) hrz
 obtain ⟨Wz, hWz⟩ := eX (((((wd.setCell ⟨br, 0, none⟩ (.int .u64 t0)).setCell ⟨br, 1, none⟩ (.int .u64 t1)).setCell ⟨br, 2, none⟩ (.int .u64 t2)).setCell ⟨br, 3, none⟩ (.int .u64 t3)))
 rw [hWz] at h4 f4
 have hk4 : ∀ k, k ≠ br → k < w16.heap.size → Wz.heap[k]? = w16.heap[k]? := fun k hk hlt => by rw [← hwd] at f4; exact f4.block k hlt (by simpa using hk)
 have hbzl : bz < w16.heap.size := lt_of_heap (HRZ.out w16 HF16.out)
 have sZ : Wz.cell? ⟨bz, 0, none⟩ = some (.int .u64 t0) ∧ Wz.cell? ⟨bz, 1, none⟩ = some (.int .u64 t1) ∧ Wz.cell? ⟨bz, 2, none⟩ = some (.int .u64 t2) ∧ Wz.cell? ⟨bz, 3, none⟩ = some (.int .u64 t3) := by
  have hr := (hk4 bz HZR.out hbzl).trans (HRZ.out w16 HF16.out)
  refine ⟨?_, ?_, ?_, ?_⟩ <;> (rw [cell_of_row _ _ _ _ _ _ hr]; rfl)
 refine wp_region_tail (S := fun W => (W.cell? ⟨bz, 0, none⟩ = some (.int .u64 t0) ∧ W.cell? ⟨bz, 1, none⟩ = some (.int .u64 t1) ∧ W.cell? ⟨bz, 2, none⟩ = some (.int .u64 t2) ∧ W.cell? ⟨bz, 3, none⟩ = some (.int .u64 t3))) 5 6 rfl (by kernel_rfl) (by kernel_rfl) ?_
 rw [hwd]
 refine hI (i := 0) (v := ?_) rfl ?_ s0 ?_
 rotate_left 1
 ·rintro W ⟨e0, e1, e2, e3⟩; (try simp only [lA, lZ]); go_simp; try with_reducible rfl
 try simp only [lA, lZ, Act.put, lI, lW, lX]
 refine hI (i := 1) (v := ?_) rfl ?_ s0 ?_
 rotate_left 1
 ·rintro W ⟨e0, e1, e2, e3⟩; (try simp only [lA, lS, lZ]); go_simp; try with_reducible rfl
 try simp only [lA, lS, lZ, Act.put, lI, lW, lX]
 refine hI (i := 2) (v := ?_) rfl ?_ s0 ?_
 rotate_left 1
 ·rintro W ⟨e0, e1, e2, e3⟩; (try simp only [lA, lS, lZ]); go_simp; try with_reducible rfl
 try simp only [lA, lS, lZ, Act.put, lI, lW, lX]
 refine wpAnyHT_one (i := 3) rfl (by kernel_rfl) (by kernel_rfl) (fun K hK => ?_)
 try simp only [lA, lS, lZ]
 go_simp
 refine hK _ _ s0 ?_
 clear hK K
 try simp only [lA, lS, lZ, Act.put, lI, lW, lX]
 refine wpAnyHT_one (i := 4) rfl (by kernel_rfl) (by kernel_rfl) (fun K hK => ?_)
 try simp only [lA, lS, lZ]
 go_simp
 try rw [hWz]
 refine hK _ _ sZ ?_
 clear hK K
 try simp only [lA, lS, lZ, Act.put, lI, lW, lX]
 refine wpAnyHT_end (by kernel_rfl) ?_
 simp only [List.drop_succ_cons, List.drop_zero]
 have HFZ : Hid (Frm [] w Wz) := hid ((((HFR.out.trans HF12.out (by simp)).trans HF16.out (by simp)).trans HFD (by simp)).trans f4 (fun i hi hl => by rw [List.mem_singleton] at hi; have := HB3.out; have := HBA.out; omega))
 have HHZ : Hid (Wz.heap[gz]? = some (.cells (bv RL).toArray 5 (0, 0))) := hid ((hk4 gz (by have h1 := HG16.out; have h2 := lt_of_heap (HRB.out w12 HF12.out); omega) (lt_of_heap H16.out)).trans H16.out)
 have u0 := cR 0 (.int .u64 t0) h4
 have u1 := cR 1 (.int .u64 t1) h4
 have u2 := cR 2 (.int .u64 t2) h4
 have u3 := cR 3 (.int .u64 t3) h4
 clear HFD hwd h4 f4 hk4 hbzl sz s0 sZ hrz y0 y1 y2 y3 v0 v1 v2 v3
 go_wp2_with fail
 refine bodyPost_ret (v := .tuple #[.slice (some ⟨gz, 0, none⟩) nR nR, .agg #[.int .u64 t0, .int .u64 t1, .int .u64 t2, .int .u64 t3], .int .i64 0]) (by simp [results, Tryz.results10, go_sem, u0, u1, u2, u3]) rfl ?_
 exact HPZ.out Wz (by trivial) HHZ.out (by have h1 := HG16.out; have h2 := HF12.out.size; have h3 := HFR.out.size; omega) HFZ.out
end
section
open Go.RowKit Go.Lib
theorem rcMay_1 {r : Rc} (P : List Pr) (K D : List Int) (h : r.kind = 1) : RcMay r P K D ↔ (MayPk r ∧ SameR r r.onlyPackage P [] K [] D []) := by unfold RcMay; rw [if_pos h]
theorem rcMay_2 {r : Rc} (P : List Pr) (K D : List Int) (h : r.kind = 2) : RcMay r P K D ↔ (MayBg r P ∧ SameR r r.onlyBegin P P K [] D []) := by unfold RcMay; rw [if_neg (by omega), if_pos h]
theorem rcMay_3 {r : Rc} (P : List Pr) (K D : List Int) (h : r.kind = 3) : RcMay r P K D ↔ (MayLv r K ∧ SameR r r.onlyLive P [] K K D []) := by unfold RcMay; rw [if_neg (by omega), if_neg (by omega), if_pos h]
theorem rcMay_4 {r : Rc} (P : List Pr) (K D : List Int) (h : r.kind = 4) : RcMay r P K D ↔ (MayNd r K ∧ SameR r r.onlyNode P [] K K D []) := by unfold RcMay; rw [if_neg (by omega), if_neg (by omega), if_neg (by omega), if_pos h]
theorem rcMay_5 {r : Rc} (P : List Pr) (K D : List Int) (h : r.kind = 5) : RcMay r P K D ↔ (MayWr r ∧ SameR r r.onlyWrite P [] K [] D D) := by unfold RcMay; rw [if_neg (by omega), if_neg (by omega), if_neg (by omega), if_neg (by omega), if_pos h]
theorem rcMay_6 {r : Rc} (P : List Pr) (K D : List Int) (h : r.kind = 6) : RcMay r P K D ↔ (MayCn r ∧ SameR r r.onlyCount P [] K [] D []) := by unfold RcMay; rw [if_neg (by omega), if_neg (by omega), if_neg (by omega), if_neg (by omega), if_neg (by omega), if_pos h]
theorem rcMay_7 {r : Rc} (P : List Pr) (K D : List Int) (h : r.kind = 7) : RcMay r P K D ↔ (MayCn r ∧ SameR r r.onlyCount P [] K [] D []) := by unfold RcMay; rw [if_neg (by omega), if_neg (by omega), if_neg (by omega), if_neg (by omega), if_neg (by omega), if_neg (by omega), if_pos h]
theorem rcMay_kind {r : Rc} {P : List Pr} {K D : List Int} (h : RcMay r P K D) : 1 ≤ r.kind ∧ r.kind ≤ 7 := by
 by_cases h1 : r.kind = 1
 ·omega
 by_cases h2 : r.kind = 2
 ·omega
 by_cases h3 : r.kind = 3
 ·omega
 by_cases h4 : r.kind = 4
 ·omega
 by_cases h5 : r.kind = 5
 ·omega
 by_cases h6 : r.kind = 6
 ·omega
 by_cases h7 : r.kind = 7
 ·omega
 unfold RcMay at h
 rw [if_neg h1, if_neg h2, if_neg h3, if_neg h4, if_neg h5, if_neg h6, if_neg h7] at h
 exact h.elim
def bodyR (r : Rc) (P : List Pr) (K D : List Int) : List Int := if r.kind = 1 then bodyPk r else if r.kind = 2 then bodyBg r P else if r.kind = 3 then bodyLv K else if r.kind = 4 then bodyNd r K else if r.kind = 5 then bodyWr r D else bodyCn r
theorem bodyR_1 {r : Rc} (P : List Pr) (K D : List Int) (h : r.kind = 1) : bodyR r P K D = bodyPk r := by unfold bodyR; rw [if_pos h]
theorem bodyR_2 {r : Rc} (P : List Pr) (K D : List Int) (h : r.kind = 2) : bodyR r P K D = bodyBg r P := by unfold bodyR; rw [if_neg (by omega), if_pos h]
theorem bodyR_3 {r : Rc} (P : List Pr) (K D : List Int) (h : r.kind = 3) : bodyR r P K D = bodyLv K := by unfold bodyR; rw [if_neg (by omega), if_neg (by omega), if_pos h]
theorem bodyR_4 {r : Rc} (P : List Pr) (K D : List Int) (h : r.kind = 4) : bodyR r P K D = bodyNd r K := by unfold bodyR; rw [if_neg (by omega), if_neg (by omega), if_neg (by omega), if_pos h]
theorem bodyR_5 {r : Rc} (P : List Pr) (K D : List Int) (h : r.kind = 5) : bodyR r P K D = bodyWr r D := by unfold bodyR; rw [if_neg (by omega), if_neg (by omega), if_neg (by omega), if_neg (by omega), if_pos h]
theorem bodyR_6 {r : Rc} (P : List Pr) (K D : List Int) (h : r.kind = 6) : bodyR r P K D = bodyCn r := by unfold bodyR; rw [if_neg (by omega), if_neg (by omega), if_neg (by omega), if_neg (by omega), if_neg (by omega)]
theorem bodyR_7 {r : Rc} (P : List Pr) (K D : List Int) (h : r.kind = 7) : bodyR r P K D = bodyCn r := by unfold bodyR; rw [if_neg (by omega), if_neg (by omega), if_neg (by omega), if_neg (by omega), if_neg (by omega)]
theorem txF_bd (s : ByteArray) : ∀ z ∈ txF s, 0 ≤ z ∧ z < 256 := by
 intro z hz
 unfold txF at hz
 rcases List.mem_append.1 hz with h | h
 ·exact le_bd _ _ z h
 ·exact tx_bd s z h
theorem kpT_bd (K : List Int) (more : Int) (k : Nat) : ∀ t, ∀ z ∈ kpT K more k t, 0 ≤ z ∧ z < 256
 | 0 => by simp [kpT]
 | t + 1 => by
  intro z hz
  rw [kpT] at hz
  rcases List.mem_append.1 hz with h | h
  ·exact kpT_bd K more k t z h
  ·exact le_bd _ _ z h
theorem prT_bd (P : List Pr) : ∀ t, ∀ z ∈ prT P t, 0 ≤ z ∧ z < 256
 | 0 => by simp [prT]
 | t + 1 => by
  intro z hz
  rw [prT] at hz
  simp only [List.mem_append] at hz
  rcases hz with h | h | h
  ·exact prT_bd P t z h
  ·exact txF_bd _ z h
  ·exact txF_bd _ z h
theorem bodyR_bd (r : Rc) (P : List Pr) (K D : List Int) (hd : ∀ z ∈ D, 0 ≤ z ∧ z < 256) : ∀ z ∈ bodyR r P K D, 0 ≤ z ∧ z < 256 := by
 intro z hz
 unfold bodyR at hz
 split at hz
 ·unfold bodyPk at hz
  simp only [List.mem_append] at hz
  rcases hz with h | h
  ·exact txF_bd _ z h
  ·exact le_bd _ _ z h
 split at hz
 ·unfold bodyBg at hz
  simp only [List.mem_append] at hz
  rcases hz with (((((((h | h) | h) | h) | h) | h) | h) | h)
  ·exact txF_bd _ z h
  ·exact le_bd _ _ z h
  ·exact le_bd _ _ z h
  ·exact le_bd _ _ z h
  ·exact le_bd _ _ z h
  ·exact txF_bd _ z h
  ·exact le_bd _ _ z h
  ·exact prT_bd _ _ z h
 split at hz
 ·unfold bodyLv keepB at hz
  simp only [List.mem_append] at hz
  rcases hz with h | h
  ·exact le_bd _ _ z h
  ·exact kpT_bd _ _ _ _ z h
 split at hz
 ·unfold bodyNd keepB at hz
  simp only [List.mem_append] at hz
  rcases hz with h | h | h
  ·exact le_bd _ _ z h
  ·exact le_bd _ _ z h
  ·exact kpT_bd _ _ _ _ z h
 split at hz
 ·unfold bodyWr at hz
  simp only [List.mem_append] at hz
  rcases hz with (((h | h) | h) | h)
  ·exact le_bd _ _ z h
  ·exact le_bd _ _ z h
  ·exact le_bd _ _ z h
  ·exact hd z h
 ·unfold bodyCn at hz
  exact le_bd _ _ z hz
theorem bodyR_len {r : Rc} {P : List Pr} {K D : List Int} (hm : RcMay r P K D) (hp : P.length = r.pn) (hk : K.length = r.kn) (hd : D.length = r.dl) : (bodyR r P K D).length ≤ 2000 := by
 have h := rcMay_kind hm
 have h7 : r.kind = 1 ∨ r.kind = 2 ∨ r.kind = 3 ∨ r.kind = 4 ∨ r.kind = 5 ∨ r.kind = 6 ∨ r.kind = 7 := by omega
 rcases h7 with h | h | h | h | h | h | h
 ·have m := ((rcMay_1 P K D h).1 hm).1.1.1.2
  rw [tx_length] at m
  rw [bodyR_1 P K D h]; unfold bodyPk; rw [List.length_append, txF_len, le_length]; omega
 ·have m := ((rcMay_2 P K D h).1 hm).1
  have m1 := nm_len m.1
  have m2 := m.2.2.2.2.2.2.1.1.2
  have m3 := m.2.2.2.2.2.2.2
  have m4 := prT_len m.2.1 P.length (Nat.le_refl _)
  have hns : r.name.data.toList.length = r.name.size := rfl
  rw [tx_length] at m2
  rw [bodyR_2 P K D h]; unfold bodyBg; simp only [List.length_append, txF_len, le_length]; omega
 ·have m := ((rcMay_3 P K D h).1 hm).1.1
  rw [bodyR_3 P K D h]; unfold bodyLv; rw [keepB_len]; omega
 ·have m := ((rcMay_4 P K D h).1 hm).1.2.1
  rw [bodyR_4 P K D h]; unfold bodyNd; rw [List.length_append, keepB_len, le_length]; omega
 ·have m := ((rcMay_5 P K D h).1 hm).1.2.2
  rw [bodyR_5 P K D h]; unfold bodyWr; simp only [List.length_append, le_length]; omega
 ·rw [bodyR_6 P K D h]; unfold bodyCn; rw [le_length]; omega
 ·rw [bodyR_7 P K D h]; unfold bodyCn; rw [le_length]; omega
def recB (a : S4) (r : Rc) (P : List Pr) (K D : List Int) : List Int := recL a r.kind (bodyR r P K D)
def selR (a : S4) (r : Rc) (P : List Pr) (K D : List Int) : S4 := sealR a (hbL r.kind (bodyR r P K D))
def EncR (w : World) (a : S4) (r : Rc) (P : List Pr) (K D : List Int) (e : Ending) (w' : World) : Prop := Frm [] w w' ∧ ((¬ RcMay r P K D ∧ e = .returned (.tuple #[.slice none 0 0, .agg S4.z.arr, .int .i64 200])) ∨ (RcMay r P K D ∧ ∃ g n, e = .returned (.tuple #[.slice (some ⟨g, 0, none⟩) n n, .agg (selR a r P K D).arr, .int .i64 0]) ∧ n = (recB a r P K D).length ∧ w'.heap[g]? = some (.cells (bv (recB a r P K D)).toArray 5 (0, 0)) ∧ w.heap.size ≤ g))
theorem encodeR_any (r : Rc) (P : List Pr) (K D : List Int) (a : S4) (ha : a.Bd) (w : World) (hr : RcOk w r P K D) (hs : r.name.size ≤ 9223372036854775806) (hpr : Primes w) :
  Calls Tryz.prog 10 #[.agg r.arr, .agg a.arr] w (EncR w a r P K D) := by
 by_cases hm : RcMay r P K D
 case neg =>
  refine (encode_bad r P K D a w hr hs hm).mono ?_
  rintro e w' ⟨rfl, hf⟩
  exact ⟨hf, Or.inl ⟨hm, rfl⟩⟩
 have hkb := rcMay_kind hm
 have hbl := bodyR_len hm hr.pl hr.kl hr.dn
 have hbb := bodyR_bd r P K D hr.db
 have h7 : r.kind = 1 ∨ r.kind = 2 ∨ r.kind = 3 ∨ r.kind = 4 ∨ r.kind = 5 ∨ r.kind = 6 ∨ r.kind = 7 := by omega
 rcases h7 with h | h | h | h | h | h | h
 ·have e := rcMay_1 P K D h
  have hp := encode_row r P K D a ha 48 49 50 51 (bodyR r P K D) w hr hs hm hkb hpr (hid (fun _ _ => rfl)) (by unfold lkT; rw [h]; rfl) (hid (fun W0 W b A hw _ _ => by rw [bodyR_1 P K D h]; exact putPackage_any W0 W b A hw r (e.1 hm).1)) hbl hbb
  refine hp.mono ?_
  rintro e w' ⟨g, n, rfl, h1, h2, h3, hf⟩
  exact ⟨hf, Or.inr ⟨hm, g, n, rfl, h1, h2, h3⟩⟩
 ·have e := rcMay_2 P K D h
  have hp := encode_row r P K D a ha 52 53 54 55 (bodyR r P K D) w hr hs hm hkb hpr (hid (fun _ _ => rfl)) (by unfold lkT; rw [h]; rfl) (hid (fun W0 W b A hw hok hA => by rw [bodyR_2 P K D h]; exact putBegin_any W0 W b A hw r P K D hok hA (e.1 hm).1)) hbl hbb
  refine hp.mono ?_
  rintro e w' ⟨g, n, rfl, h1, h2, h3, hf⟩
  exact ⟨hf, Or.inr ⟨hm, g, n, rfl, h1, h2, h3⟩⟩
 ·have e := rcMay_3 P K D h
  have hp := encode_row r P K D a ha 56 57 58 59 (bodyR r P K D) w hr hs hm hkb hpr (hid (fun _ _ => rfl)) (by unfold lkT; rw [h]; rfl) (hid (fun W0 W b A hw hok hA => by rw [bodyR_3 P K D h]; exact putLive_any W0 W b A hw r P K D hok hA (e.1 hm).1)) hbl hbb
  refine hp.mono ?_
  rintro e w' ⟨g, n, rfl, h1, h2, h3, hf⟩
  exact ⟨hf, Or.inr ⟨hm, g, n, rfl, h1, h2, h3⟩⟩
 ·have e := rcMay_4 P K D h
  have hp := encode_row r P K D a ha 60 61 62 63 (bodyR r P K D) w hr hs hm hkb hpr (hid (fun _ _ => rfl)) (by unfold lkT; rw [h]; rfl) (hid (fun W0 W b A hw hok hA => by rw [bodyR_4 P K D h]; exact putNode_any W0 W b A hw r P K D hok hA (e.1 hm).1)) hbl hbb
  refine hp.mono ?_
  rintro e w' ⟨g, n, rfl, h1, h2, h3, hf⟩
  exact ⟨hf, Or.inr ⟨hm, g, n, rfl, h1, h2, h3⟩⟩
 ·have e := rcMay_5 P K D h
  have hp := encode_row r P K D a ha 64 65 66 67 (bodyR r P K D) w hr hs hm hkb hpr (hid (fun _ _ => rfl)) (by unfold lkT; rw [h]; rfl) (hid (fun W0 W b A hw hok hA => by rw [bodyR_5 P K D h]; exact putWrite_any W0 W b A hw r P K D hok hA (e.1 hm).1)) hbl hbb
  refine hp.mono ?_
  rintro e w' ⟨g, n, rfl, h1, h2, h3, hf⟩
  exact ⟨hf, Or.inr ⟨hm, g, n, rfl, h1, h2, h3⟩⟩
 ·have e := rcMay_6 P K D h
  have hp := encode_row r P K D a ha 44 45 46 47 (bodyR r P K D) w hr hs hm hkb hpr (hid (fun _ _ => rfl)) (by unfold lkT; rw [h]; rfl) (hid (fun W0 W b A hw _ _ => by rw [bodyR_6 P K D h]; exact putCount_any W0 W b A hw r (e.1 hm).1)) hbl hbb
  refine hp.mono ?_
  rintro e w' ⟨g, n, rfl, h1, h2, h3, hf⟩
  exact ⟨hf, Or.inr ⟨hm, g, n, rfl, h1, h2, h3⟩⟩
 ·have e := rcMay_7 P K D h
  have hp := encode_row r P K D a ha 44 45 46 47 (bodyR r P K D) w hr hs hm hkb hpr (hid (fun _ _ => rfl)) (by unfold lkT; rw [h]; rfl) (hid (fun W0 W b A hw _ _ => by rw [bodyR_7 P K D h]; exact putCount_any W0 W b A hw r (e.1 hm).1)) hbl hbb
  refine hp.mono ?_
  rintro e w' ⟨g, n, rfl, h1, h2, h3, hf⟩
  exact ⟨hf, Or.inr ⟨hm, g, n, rfl, h1, h2, h3⟩⟩
end
end Go.Proofs.YtajfjkfnmmfhmaaGreatDoor
