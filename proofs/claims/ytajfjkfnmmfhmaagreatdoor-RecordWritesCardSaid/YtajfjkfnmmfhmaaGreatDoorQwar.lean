/- Records: numbers, and a part's beginning, laid down. -/
import Derived.Deep.Cut
import Derived.Test.YtajfjkfnmmfhmaaGreatDoorQwaq
namespace Go.Proofs.YtajfjkfnmmfhmaaGreatDoor
section
open Go.RowKit Go.Lib
set_option maxRecDepth 100000
/-- The first so many numbers, each so much more than it is. -/
def kpT (K : List Int) (more : Int) (k : Nat) : Nat → List Int
  | 0 => []
  | t + 1 => kpT K more k t ++ le (zA K t + more) k
theorem kpT_len (K : List Int) (more : Int) (k : Nat) : ∀ t, (kpT K more k t).length = k * t
  | 0 => rfl
  | t + 1 => by rw [kpT, List.length_append, le_length, kpT_len K more k t, Nat.mul_add, Nat.mul_one]
def keepB (K : List Int) (more : Int) (k : Nat) : List Int := le K.length 2 ++ kpT K more k K.length
theorem keepB_len (K : List Int) (more : Int) (k : Nat) : (keepB K more k).length = 2 + k * K.length := by unfold keepB; rw [List.length_append, le_length, kpT_len]
set_option maxHeartbeats 6400000 in
theorem putKeep_any (w0 w : World) (b : Nat) (A : List Nat) (zs : List Int) (hw : FreshW w0 w b 2048 (zs, 0) A) (p : Option Addr) (n c : Nat) (K : List Int) (hr : RdI w p K) (hn : K.length = n) (hA : K ≠ [] → ∀ k ∈ blk p, k ∈ A) (more : Int) (k : Nat) (hm : 0 ≤ more ∧ more ≤ 1) (hk1 : 1 ≤ k) (hk : k ≤ 4)
    (hK : ∀ i, i < n → (0 ≤ zA K i + more ∧ zA K i + more < 2 ^ (8 * k)) ∧ zA K i ≤ 1048576) (hn2 : n ≤ 240) (hz : zs.length + 2 + k * n ≤ 2048) :
    Calls Tryz.prog 98 #[.pointer (some ⟨b, 0, none⟩), .slice p n c, .int .i64 more, .int .i64 (k : Int)] w fun e w' => e = .returned (.tuple #[]) ∧ FreshW w0 w' b 2048 (zs ++ keepB K more k, 0) A := by
  have HNF := hid (num_fit w0 w b 2048 zs A hw (by omega) (n : Int) 2 (by omega) (by omega) (by omega) (by omega) (by omega))
  have HR := hid hr
  have HN := hid hn
  have HA := hid hA
  have HK := hid hK
  have HLEN : Hid (∀ t, t < n → (((zs ++ le (n : Int) 2) ++ kpT K more k t).length : Int) + k ≤ 2048) := hid (fun t ht => by
    have h1 : k * (t + 1) ≤ k * n := Nat.mul_le_mul_left _ ht
    rw [Nat.mul_add, Nat.mul_one] at h1
    rw [List.length_append, List.length_append, le_length, kpT_len]
    generalize k * t = x at h1 ⊢
    generalize k * n = y at h1 hz
    omega)
  have un := wrapU (n := (n : Int)) (by omega) (by omega)
  clear hw hr hn hA hK hz
  go_enter Tryz.func98, Tryz.ntmps98
  go_wp2_with fail
  refine HNF.out.mono ?_
  rintro e w1 ⟨rfl, hw1, hk1⟩
  obtain ⟨Z, hZ⟩ : ∃ z, zs ++ le (n : Int) 2 = z := ⟨_, rfl⟩
  rw [hZ] at hw1 HLEN
  have HZ := hid hZ
  have HW1 := hid hw1
  have HK1 := hid hk1
  clear hw1 hk1 hZ HNF un
  go_wp2_with fail
  go_loopw [17] (fun i wr => ∃ t : Nat, t ≤ n ∧ i = .int .i64 t ∧ Hid (FreshW w0 wr b 2048 (Z ++ kpT K more k t, 0) A) ∧ Hid (Keeps A w wr)) (fun i _ => n - (intOf i).toNat)
  case atStart => exact ⟨0, by omega, rfl, hid (by simpa [kpT] using HW1.out), HK1⟩
  case round =>
    obtain ⟨t, ht, rfl, hw, hk⟩ := hrel
    have HWr := hid hw.out
    have HKr := hid hk.out
    clear hw hk HW1 HK1
    by_cases hlt : t < n
    case neg =>
      obtain rfl : t = n := by omega
      have HF : Hid (FreshW w0 wr b 2048 (zs ++ keepB K more k, 0) A) := hid (by
        have h := HWr.out
        unfold keepB
        rw [HN.out, ← List.append_assoc, HZ.out]
        exact h)
      clear hlt HWr
      go_wp2_with fail
      first | go_returns | skip
      exact ⟨rfl, HF.out⟩
    have t1 : (t : Int) < (n : Int) := by omega
    obtain ⟨g, o, rfl, hc⟩ := (RdI.keeps HR.out HKr.out HA.out).at (i := t) (by rw [HN.out]; exact hlt)
    have z0 := hc t (by rw [HN.out]; exact hlt)
    have hkt := HK.out t hlt
    have HLT := hid (HLEN.out t hlt)
    have hsu : kpT K more k (t + 1) = kpT K more k t ++ le (zA K t + more) k := rfl
    have HSU := hid hsu
    obtain ⟨x, hx⟩ : ∃ x, zA K t = x := ⟨_, rfl⟩
    rw [hx] at z0 hkt HSU
    have HNF := hid (num_fit w0 wr b 2048 _ A HWr.out (by omega) (x + more) k hkt.1.1 hk1 (by omega) hkt.1.2 HLT.out)
    have hx0 := hkt.1.1
    have hx1 := hkt.2
    have u1 := wrapU (n := x + more) (by omega) (by omega)
    have u4 : wrap64 (x + more) = x + more := by unfold wrap64; omega
    clear hkt hx hsu hc
    go_wp2_with fail
    refine HNF.out.mono ?_
    rintro e w2 ⟨rfl, hw2, hk2⟩
    have HW2 := hid hw2
    have HK2 := hid (HKr.out.trans hk2)
    clear hw2 hk2 HNF u1 u4 hx0 hx1
    go_wp2_with fail
    go_roundw
    case rel => exact ⟨t + 1, by omega, by go_num, hid (by have h := HW2.out; rw [List.append_assoc] at h; rw [HSU.out]; exact h), HK2⟩
    case measure => first | (simp [intOf]; done) | (simp [intOf]; omega)
theorem rise_bd {K : List Int} {lo hi : Int} (h : RiseL K lo hi) : ∀ i, i < K.length → lo ≤ zA K i ∧ zA K i ≤ hi := fun i hi => (h i hi).1
def bodyLv (K : List Int) : List Int := keepB K 0 4
set_option maxHeartbeats 3200000 in
theorem putLive_any (w0 w : World) (b : Nat) (A : List Nat) (hw : FreshW w0 w b 2048 ([], 0) A) (r : Rc) (P : List Pr) (K D : List Int) (hr : RcOk w r P K D) (ha : RcA A r P K D) (hm : MayLv r K) :
    Calls Tryz.prog 58 #[.pointer (some ⟨b, 0, none⟩), .agg r.arr] w fun e w' => e = .returned (.tuple #[]) ∧ FreshW w0 w' b 2048 (bodyLv K, 0) A := by
  obtain ⟨m0, m1⟩ := hm
  have hkl := hr.kl
  unfold bodyLv
  have hal := hw.alloc (.cells r.arr 26)
  have hrow := heap_alloc_new w (.cells r.arr 26)
  have HFA := hid ((Frm.refl [] w).alloc (.cells r.arr 26))
  obtain ⟨bx, hbx⟩ : ∃ z, w.heap.size = z := ⟨_, rfl⟩
  obtain ⟨wa, hwa⟩ : ∃ z, w.alloc (.cells r.arr 26) = z := ⟨_, rfl⟩
  rw [hbx, hwa] at hal hrow
  rw [hwa] at HFA
  have HW0 := hid hal.1
  have HRC : Hid (∀ W : World, Keeps (bx :: A) wa W → W.heap[bx]? = some (.cells r.arr 26 (0, 0))) := hid (fun W h => (h bx (by simp)).trans hrow)
  obtain ⟨q0, q1, q2, q3, q4, q5, q6, q7, q8, q9, q10, q11, q12⟩ := rc_cells hrow
  have HPK : Hid (Calls Tryz.prog 98 #[.pointer (some ⟨b, 0, none⟩), .slice r.kp r.kn r.kc, .int .i64 0, .int .i64 ((4 : Nat) : Int)] wa fun e w' => e = .returned (.tuple #[]) ∧ FreshW w0 w' b 2048 ([] ++ keepB K 0 4, 0) (bx :: A)) := hid (putKeep_any w0 wa b (bx :: A) [] HW0.out r.kp r.kn r.kc K (hr.kr.kept HFA.out (by simp)) hkl (fun h0 k hk => List.mem_cons_of_mem _ (ha.k h0 k hk)) 0 4 (by omega) (by omega) (by omega) (fun i hi => by have h := rise_bd m1 i (by rw [hkl]; exact hi); exact ⟨⟨by omega, by simp; omega⟩, by omega⟩) m0 (by simp; omega))
  simp only [Int.cast_ofNat_Int, List.nil_append] at HPK
  clear hr ha m1
  clear hal hrow hw
  obtain ⟨kind, name, typ, frm, guid, origin, snap, pp, pn, pc, obj, at_, many, kp, kn, kc, dp, dl, dc⟩ := r
  unfold Rc.arr at hwa ⊢
  simp only at hwa HRC HPK m0 hkl q0 q1 q2 q3 q4 q5 q6 q7 q8 q9 q10 q11 q12 ⊢
  go_enter Tryz.func58, Tryz.ntmps58
  go_wp2_with fail
  refine HPK.out.mono ?_
  rintro e w1 ⟨rfl, hw1⟩
  have HW1 := hid hw1
  clear hw1
  go_wp2_with fail
  first | go_returns | skip
  exact ⟨rfl, HW1.out.less (fun k hk => List.mem_cons_of_mem _ hk)⟩
def bodyNd (r : Rc) (K : List Int) : List Int := le r.obj 4 ++ keepB K 1 2
set_option maxHeartbeats 3200000 in
theorem putNode_any (w0 w : World) (b : Nat) (A : List Nat) (hw : FreshW w0 w b 2048 ([], 0) A) (r : Rc) (P : List Pr) (K D : List Int) (hr : RcOk w r P K D) (ha : RcA A r P K D) (hm : MayNd r K) :
    Calls Tryz.prog 62 #[.pointer (some ⟨b, 0, none⟩), .agg r.arr] w fun e w' => e = .returned (.tuple #[]) ∧ FreshW w0 w' b 2048 (bodyNd r K, 0) A := by
  obtain ⟨⟨m0, m1⟩, ⟨m2, m3⟩, m4⟩ := hm
  have hkl := hr.kl
  unfold bodyNd
  have hal := hw.alloc (.cells r.arr 26)
  have hrow := heap_alloc_new w (.cells r.arr 26)
  have HFA := hid ((Frm.refl [] w).alloc (.cells r.arr 26))
  obtain ⟨bx, hbx⟩ : ∃ z, w.heap.size = z := ⟨_, rfl⟩
  obtain ⟨wa, hwa⟩ : ∃ z, w.alloc (.cells r.arr 26) = z := ⟨_, rfl⟩
  rw [hbx, hwa] at hal hrow
  rw [hwa] at HFA
  have HW0 := hid hal.1
  have HRC : Hid (∀ W : World, Keeps (bx :: A) wa W → W.heap[bx]? = some (.cells r.arr 26 (0, 0))) := hid (fun W h => (h bx (by simp)).trans hrow)
  obtain ⟨q0, q1, q2, q3, q4, q5, q6, q7, q8, q9, q10, q11, q12⟩ := rc_cells hrow
  have HPK : Hid (∀ W, Keeps (bx :: A) wa W → FreshW w0 W b 2048 ([] ++ le r.obj 4, 0) (bx :: A) → Calls Tryz.prog 98 #[.pointer (some ⟨b, 0, none⟩), .slice r.kp r.kn r.kc, .int .i64 1, .int .i64 ((2 : Nat) : Int)] W fun e w' => e = .returned (.tuple #[]) ∧ FreshW w0 w' b 2048 (([] ++ le r.obj 4) ++ keepB K 1 2, 0) (bx :: A)) := hid (fun W hkp hfw => putKeep_any w0 W b (bx :: A) _ hfw r.kp r.kn r.kc K ((hr.kr.kept HFA.out (by simp)).keeps hkp (fun h0 k hk => List.mem_cons_of_mem _ (ha.k h0 k hk))) hkl (fun h0 k hk => List.mem_cons_of_mem _ (ha.k h0 k hk)) 1 2 (by omega) (by omega) (by omega) (fun i hi => by have h := rise_bd m4 i (by rw [hkl]; exact hi); exact ⟨⟨by omega, by simp; omega⟩, by omega⟩) (by omega) (by simp [le_length]; omega))
  simp only [Int.cast_ofNat_Int, List.nil_append] at HPK
  clear hr ha m4
  clear hal hrow hw
  obtain ⟨kind, name, typ, frm, guid, origin, snap, pp, pn, pc, obj, at_, many, kp, kn, kc, dp, dl, dc⟩ := r
  unfold Rc.arr at hwa ⊢
  simp only at hwa HRC HPK m0 m1 m2 m3 hkl q0 q1 q2 q3 q4 q5 q6 q7 q8 q9 q10 q11 q12 ⊢
  have u1 := wrapU (n := obj) (by omega) (by omega)
  go_enter Tryz.func62, Tryz.ntmps62
  go_wp2_with fail
  refine (num_fit w0 wa b 2048 [] _ HW0.out (by omega) obj 4 (by omega) (by omega) (by omega) (by omega) (by simp)).mono ?_
  rintro e w1 ⟨rfl, hw1, hk1⟩
  clear q0 q1 q2 q3 q4 q5 q6 q7 q8 q9 q10 q11 q12
  have HW1 := hid hw1
  have HK1 : Hid (Keeps (bx :: A) wa w1) := hid hk1
  obtain ⟨q0, q1, q2, q3, q4, q5, q6, q7, q8, q9, q10, q11, q12⟩ := rc_cells (HRC.out w1 HK1.out)
  simp only at q0 q1 q2 q3 q4 q5 q6 q7 q8 q9 q10 q11 q12
  clear hw1 hk1
  go_wp2_with fail
  rw [List.nil_append] at HW1
  refine (HPK.out w1 HK1.out HW1.out).mono ?_
  rintro e w2 ⟨rfl, hw2⟩
  clear q0 q1 q2 q3 q4 q5 q6 q7 q8 q9 q10 q11 q12
  have HW2 := hid hw2
  clear hw2
  go_wp2_with fail
  first | go_returns | skip
  exact ⟨rfl, HW2.out.less (fun k hk => List.mem_cons_of_mem _ hk)⟩
theorem splitU_sum : ∀ l, ((splitU l).map (fun p => p.length + 1)).sum = l.length + 1
  | [] => rfl
  | b :: l => by
    have ih := splitU_sum l
    unfold splitU
    split
    · simp only [List.map_cons, List.sum_cons, List.length_nil, List.length_cons]
      omega
    · cases hs : splitU l with
      | nil =>
        have h := splitU_len l
        rw [hs] at h
        simp at h
      | cons p ps =>
        rw [hs] at ih
        simp only [List.map_cons, List.sum_cons, List.length_cons] at ih ⊢
        omega
theorem sum_le (L : List (List UInt8)) (h : ∀ p ∈ L, p.length ≤ 24) : (L.map (fun p => p.length + 1)).sum ≤ 25 * L.length := by
  induction L with
  | nil => simp
  | cons p ps ih =>
    have h1 := ih (fun q hq => h q (List.mem_cons_of_mem _ hq))
    have h2 := h p (List.mem_cons_self ..)
    simp only [List.map_cons, List.sum_cons, List.length_cons]
    omega
theorem nm_len {l : List UInt8} (h : NmOk l) : l.length ≤ 175 := by
  rcases h with rfl | ⟨_, h1, h2⟩
  · simp
  · have h3 := splitU_sum (l.drop 1)
    have h4 := sum_le (splitU (l.drop 1)) (fun p hp => by have h := (h2 p hp).1.2; unfold txU at h; rw [List.length_map] at h; exact h)
    have h5 := splitU_len (l.drop 1)
    rw [List.length_drop] at h3
    omega
/-- The first so many properties. -/
def prT (P : List Pr) : Nat → List Int
  | 0 => []
  | t + 1 => prT P t ++ (txF (prA P t).1 ++ txF (prA P t).2)
theorem prT_len {P : List Pr} (h : PropsOk P) : ∀ t, t ≤ P.length → (prT P t).length ≤ 92 * t
  | 0, _ => by simp [prT]
  | t + 1, ht => by
    have h1 := prT_len h t (by omega)
    have h2 := (h t (by omega)).1.1.2
    have h3 := (h t (by omega)).2.1.1.2
    rw [tx_length] at h2 h3
    rw [prT, List.length_append, List.length_append, txF_len, txF_len]
    omega
def bodyBg (r : Rc) (P : List Pr) : List Int := txF r.name ++ le r.typ 1 ++ le r.frm 6 ++ le r.guid 6 ++ le r.origin 1 ++ txF r.snap ++ le r.pn 1 ++ prT P P.length
set_option maxHeartbeats 12800000 in
theorem putBegin_any (w0 w : World) (b : Nat) (A : List Nat) (hw : FreshW w0 w b 2048 ([], 0) A) (r : Rc) (P : List Pr) (K D : List Int) (hr : RcOk w r P K D) (ha : RcA A r P K D) (hm : MayBg r P) :
    Calls Tryz.prog 54 #[.pointer (some ⟨b, 0, none⟩), .agg r.arr] w fun e w' => e = .returned (.tuple #[]) ∧ FreshW w0 w' b 2048 (bodyBg r P, 0) A := by
  obtain ⟨hnm, hpo, m1, ⟨m2, m3⟩, ⟨m4, m5⟩, m6, hsn, m8⟩ := hm
  have mn := nm_len hnm
  have hns : r.name.data.toList.length = r.name.size := rfl
  rw [hns] at mn
  have msn := hsn.1.2
  rw [tx_length] at msn
  have HPO := hid hpo
  have hpl := hr.pl
  have HPL := hid hpl
  unfold bodyBg
  have hal := hw.alloc (.cells r.arr 26)
  have hrow := heap_alloc_new w (.cells r.arr 26)
  have HFA := hid ((Frm.refl [] w).alloc (.cells r.arr 26))
  obtain ⟨bx, hbx⟩ : ∃ z, w.heap.size = z := ⟨_, rfl⟩
  obtain ⟨wa, hwa⟩ : ∃ z, w.alloc (.cells r.arr 26) = z := ⟨_, rfl⟩
  rw [hbx, hwa] at hal hrow
  rw [hwa] at HFA
  have HW0 := hid hal.1
  have HRC : Hid (∀ W : World, Keeps (bx :: A) wa W → W.heap[bx]? = some (.cells r.arr 26 (0, 0))) := hid (fun W h => (h bx (by simp)).trans hrow)
  obtain ⟨q0, q1, q2, q3, q4, q5, q6, q7, q8, q9, q10, q11, q12⟩ := rc_cells hrow
  have HDK : Hid (∀ W : World, Keeps (bx :: A) wa W → RdP W r.pp P) := hid (fun W h => (hr.pr.kept HFA.out (by simp)).keeps h (fun h0 k hk => List.mem_cons_of_mem _ (ha.p h0 k hk)))
  clear hr ha hnm hns hsn hpo
  clear hal hrow hw
  obtain ⟨kind, name, typ, frm, guid, origin, snap, pp, pn, pc, obj, at_, many, kp, kn, kc, dp, dl, dc⟩ := r
  unfold Rc.arr at hwa ⊢
  simp only at hwa HRC HDK HPL hpl m1 m2 m3 m4 m5 m6 m8 mn msn q0 q1 q2 q3 q4 q5 q6 q7 q8 q9 q10 q11 q12 ⊢
  have u2 := wrapU (n := typ) (by omega) (by omega)
  have u3 := wrapU (n := frm) (by omega) (by omega)
  have u4 := wrapU (n := guid) (by omega) (by omega)
  have u5 := wrapU (n := origin) (by omega) (by omega)
  have u6 := wrapU (n := (pn : Int)) (by omega) (by omega)
  go_enter Tryz.func54, Tryz.ntmps54
  go_wp2_with fail
  refine (text_fit w0 wa b 2048 [] _ HW0.out (by omega) name (by omega) (by simp; omega)).mono ?_
  rintro e w1 ⟨rfl, hw1, hk1⟩
  clear q0 q1 q2 q3 q4 q5 q6 q7 q8 q9 q10 q11 q12
  have HW1 := hid hw1
  have HK1 : Hid (Keeps (bx :: A) wa w1) := hid hk1
  obtain ⟨Z1, hZ1⟩ : ∃ z, [] ++ txF name = z := ⟨_, rfl⟩
  rw [hZ1] at HW1
  have HL1 : Hid (Z1.length ≤ 177) := hid (by rw [← hZ1, List.length_append, txF_len]; simp; omega)
  have HZ1 := hid hZ1
  obtain ⟨q0, q1, q2, q3, q4, q5, q6, q7, q8, q9, q10, q11, q12⟩ := rc_cells (HRC.out w1 HK1.out)
  simp only at q0 q1 q2 q3 q4 q5 q6 q7 q8 q9 q10 q11 q12
  clear hw1 hk1 hZ1
  go_wp2_with fail
  refine (num_fit w0 w1 b 2048 Z1 _ HW1.out (by omega) typ 1 (by omega) (by omega) (by omega) (by omega) (by have := HL1.out; omega)).mono ?_
  rintro e w2 ⟨rfl, hw2, hk2⟩
  clear q0 q1 q2 q3 q4 q5 q6 q7 q8 q9 q10 q11 q12
  have HW2 := hid hw2
  have HK2 : Hid (Keeps (bx :: A) wa w2) := hid (HK1.out.trans hk2)
  obtain ⟨Z2, hZ2⟩ : ∃ z, Z1 ++ le typ 1 = z := ⟨_, rfl⟩
  rw [hZ2] at HW2
  have HL2 : Hid (Z2.length ≤ 178) := hid (by have := HL1.out; rw [← hZ2, List.length_append, le_length]; omega)
  have HZ2 := hid hZ2
  obtain ⟨q0, q1, q2, q3, q4, q5, q6, q7, q8, q9, q10, q11, q12⟩ := rc_cells (HRC.out w2 HK2.out)
  simp only at q0 q1 q2 q3 q4 q5 q6 q7 q8 q9 q10 q11 q12
  clear hw2 hk2 hZ2
  go_wp2_with fail
  refine (num_fit w0 w2 b 2048 Z2 _ HW2.out (by omega) frm 6 (by omega) (by omega) (by omega) (by omega) (by have := HL2.out; omega)).mono ?_
  rintro e w3 ⟨rfl, hw3, hk3⟩
  clear q0 q1 q2 q3 q4 q5 q6 q7 q8 q9 q10 q11 q12
  have HW3 := hid hw3
  have HK3 : Hid (Keeps (bx :: A) wa w3) := hid (HK2.out.trans hk3)
  obtain ⟨Z3, hZ3⟩ : ∃ z, Z2 ++ le frm 6 = z := ⟨_, rfl⟩
  rw [hZ3] at HW3
  have HL3 : Hid (Z3.length ≤ 184) := hid (by have := HL2.out; rw [← hZ3, List.length_append, le_length]; omega)
  have HZ3 := hid hZ3
  obtain ⟨q0, q1, q2, q3, q4, q5, q6, q7, q8, q9, q10, q11, q12⟩ := rc_cells (HRC.out w3 HK3.out)
  simp only at q0 q1 q2 q3 q4 q5 q6 q7 q8 q9 q10 q11 q12
  clear hw3 hk3 hZ3
  go_wp2_with fail
  refine (num_fit w0 w3 b 2048 Z3 _ HW3.out (by omega) guid 6 (by omega) (by omega) (by omega) (by omega) (by have := HL3.out; omega)).mono ?_
  rintro e w4 ⟨rfl, hw4, hk4⟩
  clear q0 q1 q2 q3 q4 q5 q6 q7 q8 q9 q10 q11 q12
  have HW4 := hid hw4
  have HK4 : Hid (Keeps (bx :: A) wa w4) := hid (HK3.out.trans hk4)
  obtain ⟨Z4, hZ4⟩ : ∃ z, Z3 ++ le guid 6 = z := ⟨_, rfl⟩
  rw [hZ4] at HW4
  have HL4 : Hid (Z4.length ≤ 190) := hid (by have := HL3.out; rw [← hZ4, List.length_append, le_length]; omega)
  have HZ4 := hid hZ4
  obtain ⟨q0, q1, q2, q3, q4, q5, q6, q7, q8, q9, q10, q11, q12⟩ := rc_cells (HRC.out w4 HK4.out)
  simp only at q0 q1 q2 q3 q4 q5 q6 q7 q8 q9 q10 q11 q12
  clear hw4 hk4 hZ4
  go_wp2_with fail
  refine (num_fit w0 w4 b 2048 Z4 _ HW4.out (by omega) origin 1 (by omega) (by omega) (by omega) (by omega) (by have := HL4.out; omega)).mono ?_
  rintro e w5 ⟨rfl, hw5, hk5⟩
  clear q0 q1 q2 q3 q4 q5 q6 q7 q8 q9 q10 q11 q12
  have HW5 := hid hw5
  have HK5 : Hid (Keeps (bx :: A) wa w5) := hid (HK4.out.trans hk5)
  obtain ⟨Z5, hZ5⟩ : ∃ z, Z4 ++ le origin 1 = z := ⟨_, rfl⟩
  rw [hZ5] at HW5
  have HL5 : Hid (Z5.length ≤ 191) := hid (by have := HL4.out; rw [← hZ5, List.length_append, le_length]; omega)
  have HZ5 := hid hZ5
  obtain ⟨q0, q1, q2, q3, q4, q5, q6, q7, q8, q9, q10, q11, q12⟩ := rc_cells (HRC.out w5 HK5.out)
  simp only at q0 q1 q2 q3 q4 q5 q6 q7 q8 q9 q10 q11 q12
  clear hw5 hk5 hZ5
  go_wp2_with fail
  refine (text_fit w0 w5 b 2048 Z5 _ HW5.out (by omega) snap (by omega) (by have := HL5.out; omega)).mono ?_
  rintro e w6 ⟨rfl, hw6, hk6⟩
  clear q0 q1 q2 q3 q4 q5 q6 q7 q8 q9 q10 q11 q12
  have HW6 := hid hw6
  have HK6 : Hid (Keeps (bx :: A) wa w6) := hid (HK5.out.trans hk6)
  obtain ⟨Z6, hZ6⟩ : ∃ z, Z5 ++ txF snap = z := ⟨_, rfl⟩
  rw [hZ6] at HW6
  have HL6 : Hid (Z6.length ≤ 217) := hid (by have := HL5.out; rw [← hZ6, List.length_append, txF_len]; omega)
  have HZ6 := hid hZ6
  obtain ⟨q0, q1, q2, q3, q4, q5, q6, q7, q8, q9, q10, q11, q12⟩ := rc_cells (HRC.out w6 HK6.out)
  simp only at q0 q1 q2 q3 q4 q5 q6 q7 q8 q9 q10 q11 q12
  clear hw6 hk6 hZ6
  go_wp2_with fail
  refine (num_fit w0 w6 b 2048 Z6 _ HW6.out (by omega) (pn : Int) 1 (by omega) (by omega) (by omega) (by omega) (by have := HL6.out; omega)).mono ?_
  rintro e w7 ⟨rfl, hw7, hk7⟩
  clear q0 q1 q2 q3 q4 q5 q6 q7 q8 q9 q10 q11 q12
  have HW7 := hid hw7
  have HK7 : Hid (Keeps (bx :: A) wa w7) := hid (HK6.out.trans hk7)
  obtain ⟨Z7, hZ7⟩ : ∃ z, Z6 ++ le (pn : Int) 1 = z := ⟨_, rfl⟩
  rw [hZ7] at HW7
  have HL7 : Hid (Z7.length ≤ 218) := hid (by have := HL6.out; rw [← hZ7, List.length_append, le_length]; omega)
  have HZ7 := hid hZ7
  obtain ⟨q0, q1, q2, q3, q4, q5, q6, q7, q8, q9, q10, q11, q12⟩ := rc_cells (HRC.out w7 HK7.out)
  simp only at q0 q1 q2 q3 q4 q5 q6 q7 q8 q9 q10 q11 q12
  clear hw7 hk7 hZ7
  go_wp2_with fail
  clear q0 q1 q2 q3 q4 q5 q6 q7 q8 q9 q10 q11 q12 u2 u3 u4 u5 u6
  go_loopw [43] (fun i wr => ∃ t : Nat, t ≤ pn ∧ i = .int .i64 t ∧ Hid (FreshW w0 wr b 2048 (Z7 ++ prT P t, 0) (bx :: A)) ∧ Hid (Keeps (bx :: A) wa wr)) (fun i _ => pn - (intOf i).toNat)
  case atStart => exact ⟨0, by omega, rfl, hid (by simpa [prT] using HW7.out), HK7⟩
  case round =>
    obtain ⟨t, ht, rfl, hw, hk⟩ := hrel
    have HWr := hid hw.out
    have HKr := hid hk.out
    clear hw hk HW7 HK7
    by_cases hlt : t < pn
    case neg =>
      obtain rfl : t = pn := by omega
      have HF : Hid (FreshW w0 wr b 2048 (txF name ++ le typ 1 ++ le frm 6 ++ le guid 6 ++ le origin 1 ++ txF snap ++ le (t : Int) 1 ++ prT P P.length, 0) A) := hid (by
        have h := HWr.out.less (B := A) (fun k hk => List.mem_cons_of_mem _ hk)
        rw [← HZ7.out, ← HZ6.out, ← HZ5.out, ← HZ4.out, ← HZ3.out, ← HZ2.out, ← HZ1.out, List.nil_append] at h
        rw [HPL.out]
        exact h)
      clear hlt HWr
      go_wp2_with fail
      first | go_returns | skip
      exact ⟨rfl, HF.out⟩
    have t1 : (t : Int) < (pn : Int) := by omega
    obtain ⟨g, o, rfl, hc⟩ := (HDK.out wr HKr.out).at (i := t) (by rw [HPL.out]; exact hlt)
    obtain ⟨z0, z1⟩ := hc t (by rw [HPL.out]; exact hlt)
    rw [prA_get] at z0 z1
    have hp := HPO.out t (by rw [HPL.out]; exact hlt)
    have hl := prT_len HPO.out t (by rw [HPL.out]; omega)
    have hsu : prT P (t + 1) = prT P t ++ (txF (prA P t).1 ++ txF (prA P t).2) := rfl
    have HSU := hid hsu
    have hp1 := hp.1.1.2
    have hp2 := hp.2.1.1.2
    rw [tx_length] at hp1 hp2
    obtain ⟨nm, hnm⟩ : ∃ x, (prA P t).1 = x := ⟨_, rfl⟩
    obtain ⟨vl, hvl⟩ : ∃ x, (prA P t).2 = x := ⟨_, rfl⟩
    rw [hnm] at z0 hp1 HSU
    rw [hvl] at z1 hp2 HSU
    have hlz : (Z7 ++ prT P t).length ≤ 218 + 92 * 11 := by have := HL7.out; rw [List.length_append]; omega
    obtain ⟨Y, hY⟩ : ∃ z, Z7 ++ prT P t = z := ⟨_, rfl⟩
    rw [hY] at hlz HWr
    have HY := hid hY
    have HLZ := hid hlz
    have hal := HWr.out.alloc (.cells #[.string nm, .string vl] 70)
    have hpr := heap_alloc_new wr (.cells #[.string nm, .string vl] 70)
    obtain ⟨bp, hbp⟩ : ∃ z, wr.heap.size = z := ⟨_, rfl⟩
    obtain ⟨wp, hwp⟩ : ∃ z, wr.alloc (.cells #[.string nm, .string vl] 70) = z := ⟨_, rfl⟩
    rw [hbp, hwp] at hal hpr
    have HWP := hid hal.1
    have HKP : Hid (Keeps (bx :: A) wa wp) := hid (HKr.out.trans hal.2)
    have x0 : wp.cell? ⟨bp, 0, none⟩ = some (.string nm) := by rw [cell_of_row _ _ _ _ _ _ hpr]; rfl
    have HPR := hid hpr
    have HN1 := hid (text_fit w0 wp b 2048 Y _ HWP.out (by omega) nm (by omega) (by omega))
    have HBP := hid hbp
    have HWPE := hid hwp
    clear hal hpr hp hl hsu hnm hvl hY hc hbp hwp
    go_upto_region 11 with fail
    first | rw [HBP.out] | skip
    first | rw [HWPE.out] | skip
    go_wp2_with fail
    refine HN1.out.mono ?_
    rintro e w8 ⟨rfl, hw8, hk8⟩
    have HW8 := hid hw8
    have HK8 : Hid (Keeps (bx :: A) wa w8) := hid (HKP.out.trans (hk8.less (fun k hk => List.mem_cons_of_mem _ hk)))
    have x1 : w8.cell? ⟨bp, 1, none⟩ = some (.string vl) := by rw [cell_of_row _ _ _ _ _ _ ((hk8 bp (by simp)).trans HPR.out)]; rfl
    have HN2 := hid (text_fit w0 w8 b 2048 _ _ HW8.out (by omega) vl (by omega) (by rw [List.length_append, txF_len]; omega))
    clear hw8 hk8 HN1 x0 z0 z1
    go_wp2_with fail
    refine HN2.out.mono ?_
    rintro e w9 ⟨rfl, hw9, hk9⟩
    have HW9 := hid hw9
    have HK9 : Hid (Keeps (bx :: A) wa w9) := hid (HK8.out.trans (hk9.less (fun k hk => List.mem_cons_of_mem _ hk)))
    clear hw9 hk9 HN2 x1 hlz hp1 hp2
    go_wp2_with fail
    go_roundw
    case rel => exact ⟨t + 1, by omega, by go_num, hid (by
      have h := HW9.out.less (B := bx :: A) (fun k hk => List.mem_cons_of_mem _ hk)
      rw [← HY.out, List.append_assoc, List.append_assoc] at h
      rw [HSU.out]
      exact h), HK9⟩
    case measure => first | (simp [intOf]; done) | (simp [intOf]; omega)
end
end Go.Proofs.YtajfjkfnmmfhmaaGreatDoor
