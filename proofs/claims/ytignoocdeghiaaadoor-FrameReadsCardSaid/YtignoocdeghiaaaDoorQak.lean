/- Frames: what is laid down of a request. Contracts of package sum: Value, Of. Contracts of package sum: Of by SHA-256 of few bytes, Check. -/
import Derived.Test.YtignoocdeghiaaaDoorQac
import Derived.Test.YtignoocdeghiaaaDoorQaj
namespace Go.Proofs.YtignoocdeghiaaaDoor
section
open Go.RowKit Go.Lib
set_option maxRecDepth 100000

theorem FreshW.alloc {w0 w : World} {b : Nat} {room : Int} {s : List Int × Int} {A : List Nat} (h : FreshW w0 w b room s A) (o : Obj) : FreshW w0 (w.alloc o) b room s (w.heap.size :: A) ∧ Keeps A w (w.alloc o) := by
  obtain ⟨fp, h1, h2, h3, h4⟩ := h
  have hf : Frm [] w (w.alloc o) := (Frm.refl _ _).alloc _
  refine ⟨⟨fp, h1.kept hf (by simp), h2.trans hf (by simp), h3, fun k hk => ?_⟩, hf.keeps (fun k hk => ⟨by simp, (h4 k hk).2⟩)⟩
  rcases List.mem_cons.1 hk with rfl | hk
  · exact ⟨fun hm => absurd (h1.lt _ hm) (Nat.lt_irrefl _), by simp⟩
  · exact ⟨(h4 k hk).1, Nat.lt_of_lt_of_le (h4 k hk).2 hf.size⟩
theorem FreshW.less {w0 w : World} {b : Nat} {room : Int} {s : List Int × Int} {A B : List Nat} (h : FreshW w0 w b room s A) (hB : ∀ k ∈ B, k ∈ A) : FreshW w0 w b room s B := by
  obtain ⟨fp, h1, h2, h3, h4⟩ := h
  exact ⟨fp, h1, h2, h3, fun k hk => h4 k (hB k hk)⟩
theorem Keeps.trans {A : List Nat} {u v w : World} (h : Keeps A u v) (k : Keeps A v w) : Keeps A u w := fun x hx => (k x hx).trans (h x hx)
theorem Keeps.less {A B : List Nat} {u v : World} (h : Keeps A u v) (hB : ∀ k ∈ B, k ∈ A) : Keeps B u v := fun x hx => h x (hB x hx)
/-- A number that fits is laid down. -/
theorem num_fit (w0 w : World) (b : Nat) (room : Int) (zs : List Int) (A : List Nat) (hw : FreshW w0 w b room (zs, 0) A) (hr1 : room ≤ 2147483647) (n : Int) (k : Nat) (hn : 0 ≤ n) (hk1 : 1 ≤ k) (hk8 : k ≤ 8) (hfit : n < 2 ^ (8 * k)) (hz : (zs.length : Int) + k ≤ room) :
    Calls Tryd.prog 47 #[.pointer (some ⟨b, 0, none⟩), .int .u64 n, .int .i64 (k : Int)] w fun e w' => e = .returned (.tuple #[]) ∧ FreshW w0 w' b room (zs ++ le n k, 0) A ∧ Keeps A w w' := by
  have h2 : (2 : Int) ^ (8 * k) ≤ 18446744073709551616 := by
    have hk : k = 1 ∨ k = 2 ∨ k = 3 ∨ k = 4 ∨ k = 5 ∨ k = 6 ∨ k = 7 ∨ k = 8 := by omega
    rcases hk with rfl | rfl | rfl | rfl | rfl | rfl | rfl | rfl <;> decide
  have h := numF_any w0 w b room (zs, 0) A hw (by omega) hr1 (by simp only; omega) n (k : Int) hn (by omega) (by omega) (by omega)
  have e : stepW room (zs, 0) (numF n (k : Int)) = (zs ++ le n k, 0) := by
    have h0 : n / 2 ^ (8 * k) = 0 := Int.ediv_eq_zero_of_lt hn hfit
    unfold numF
    rw [if_neg (by omega), Int.toNat_natCast, if_neg (by rw [h0]; simp)]
    unfold stepW
    simp only [ne_eq, not_true, if_false]
    rw [if_neg (by rw [le_length]; omega)]
  rw [e] at h
  exact h
theorem bytes_fit (w0 w : World) (b : Nat) (room : Int) (zs : List Int) (A : List Nat) (hw : FreshW w0 w b room (zs, 0) A) (hr1 : room ≤ 2147483647) (p : Option Addr) (ns : List Int) (c : Nat) (hc : ns = [] → p = none → c = 0) (hrd : Rd w p ns) (hz : (zs.length : Int) + ns.length ≤ room) :
    Calls Tryd.prog 49 #[.pointer (some ⟨b, 0, none⟩), .slice p ns.length c] w fun e w' => e = .returned (.tuple #[]) ∧ FreshW w0 w' b room (zs ++ ns, 0) A ∧ Keeps A w w' := by
  have h := bytesF_any w0 w b room (zs, 0) A hw (by omega) hr1 (by simp only; omega) p ns c (by omega) hc hrd
  have e : stepW room (zs, 0) (ns, 0) = (zs ++ ns, 0) := by
    unfold stepW
    simp only [ne_eq, not_true, if_false]
    rw [if_neg (by omega)]
  rw [e] at h
  exact h
/-- A text that fits is laid down. -/
def txF (s : ByteArray) : List Int := le s.size 2 ++ tx s
theorem txF_len (s : ByteArray) : (txF s).length = 2 + s.size := by unfold txF; rw [List.length_append, le_length, tx_length]
theorem text_fit (w0 w : World) (b : Nat) (room : Int) (zs : List Int) (A : List Nat) (hw : FreshW w0 w b room (zs, 0) A) (hr1 : room ≤ 2147483647) (t : ByteArray) (ht : t.size ≤ 65535) (hz : (zs.length : Int) + 2 + t.size ≤ room) :
    Calls Tryd.prog 52 #[.pointer (some ⟨b, 0, none⟩), .string t] w fun e w' => e = .returned (.tuple #[]) ∧ FreshW w0 w' b room (zs ++ txF t, 0) A ∧ Keeps A w w' := by
  have h := textF_any w0 w b room (zs, 0) A hw (by omega) hr1 (by simp only; omega) t (by unfold maxLen; omega)
  have et : textF t = (txF t, 0) := by unfold textF; rw [if_neg (by omega)]; rfl
  have e : stepW room (zs, 0) (textF t) = (zs ++ txF t, 0) := by
    rw [et]
    unfold stepW
    simp only [ne_eq, not_true, if_false]
    rw [if_neg (by rw [txF_len]; omega)]
  rw [e] at h
  exact h
def txT (L : List ByteArray) : Nat → List Int
  | 0 => []
  | t + 1 => txT L t ++ txF (L.getD t ByteArray.empty)
theorem txT_len (L : List ByteArray) (h : ∀ s ∈ L, s.size ≤ 240) : ∀ t, (txT L t).length ≤ 242 * t
  | 0 => by simp [txT]
  | t + 1 => by
    have h1 := txT_len L h t
    have h2 : (L.getD t ByteArray.empty).size ≤ 240 := by
      rw [List.getD_eq_getElem?_getD]
      cases hx : L[t]? with
      | none => simp
      | some s => exact h s (List.mem_of_getElem? hx)
    rw [txT, List.length_append, txF_len]; omega
theorem str_at (s0 s1 s2 s3 : ByteArray) (t : Nat) (h : t < 4) (W : World) : (Instr.index 92 (.agg #[.string s0, .string s1, .string s2, .string s3]) (.int .i64 (t : Int))).run Tryd.prog W = .ok (.string ([s0, s1, s2, s3].getD t ByteArray.empty)) W := by
  have h4 : t = 0 ∨ t = 1 ∨ t = 2 ∨ t = 3 := by omega
  rcases h4 with rfl | rfl | rfl | rfl <;> rfl
/-- A request's body. -/
def bodyQ (r : Rq) (ds : List Int) : List Int := le r.ses 1 ++ le r.id 4 ++ le r.verb 1 ++ txT [r.name, r.item, r.other, r.path] 4 ++ le r.at_ 6 ++ le r.many 6 ++ le r.dl 2 ++ ds
set_option maxHeartbeats 6400000 in
theorem putQ_any (w0 w : World) (b : Nat) (A : List Nat) (k0 : Int) (hw : FreshW w0 w b 65524 ([k0], 0) A) (r : Rq) (hm : MayQ r) (ds : List Int) (hd : Rd w r.dp ds) (hl : ds.length = r.dl) (hn : ds = [] → r.dp = none → r.dc = 0) (hb : ds ≠ [] → ∀ k ∈ blk r.dp, k ∈ A) :
    Calls Tryd.prog 28 #[.pointer (some ⟨b, 0, none⟩), .agg r.arr] w fun e w' => e = .returned (.tuple #[]) ∧ FreshW w0 w' b 65524 ([k0] ++ bodyQ r ds, 0) A ∧ Keeps A w w' := by
  have hal := hw.alloc (.cells r.arr 24)
  have hrow := heap_alloc_new w (.cells r.arr 24)
  have HPB := hid (show w.heap.size < (w.alloc (.cells r.arr 24)).heap.size by simp)
  have HFA := hid ((Frm.refl [] w).alloc (.cells r.arr 24))
  have HM := hid hm
  have HL := hid hl
  have HN := hid hn
  have HBK := hid hb
  obtain ⟨bx, hbx⟩ : ∃ z, w.heap.size = z := ⟨_, rfl⟩
  obtain ⟨wa, hwa⟩ : ∃ z, w.alloc (.cells r.arr 24) = z := ⟨_, rfl⟩
  rw [hbx, hwa] at hal hrow HPB
  rw [hwa] at HFA
  have HW0 := hid hal.1
  have HK0 := hid hal.2
  have HR0 := hid hrow
  have HD0 := hid (hd.kept HFA.out (by simp))
  obtain ⟨m0, m1, m2, m3, m4, m5, m6, m7, m8, m9⟩ := hm
  obtain ⟨q0, q1, q2, q3, q4, q5, q6, q7, q8, q9⟩ := rq_cells hrow
  have HRC : Hid (∀ W : World, W.heap[bx]? = wa.heap[bx]? → W.heap[bx]? = some (.cells r.arr 24 (0, 0))) := hid (fun W h => h.trans hrow)
  have HDK : Hid (∀ W : World, Keeps (bx :: A) wa W → Rd W r.dp ds) := hid (fun W h => by
    by_cases h0 : ds = []
    · exact Or.inl h0
    · exact HD0.out.keeps h (fun k hk => List.mem_cons_of_mem _ (hb h0 k hk)))
  clear hal hrow hw hd hl hn hb
  obtain ⟨ses, id, verb, name, item, other, path, at_, many, dp, dl, dc⟩ := r
  unfold Rq.arr at hwa ⊢
  simp only at hwa m0 m1 m2 m3 m4 m5 m6 m7 m8 m9 HL HN HBK HDK q0 q1 q2 q3 q4 q5 q6 q7 q8 q9 ⊢
  have u0 : IntKind.u64.wrap ses = ses := by rw [IntKind.wrap_u64]; omega
  have u1 : IntKind.u64.wrap id = id := by rw [IntKind.wrap_u64]; omega
  have u2 : IntKind.u64.wrap verb = verb := by rw [IntKind.wrap_u64]; omega
  have u7 : IntKind.u64.wrap at_ = at_ := by rw [IntKind.wrap_u64]; omega
  have u8 : IntKind.u64.wrap many = many := by rw [IntKind.wrap_u64]; omega
  have u9 : IntKind.u64.wrap (dl : Int) = (dl : Int) := by rw [IntKind.wrap_u64]; omega
  go_enter Tryd.func28, Tryd.ntmps28
  go_wp2_with fail
  refine (num_fit w0 wa b 65524 [k0] _ HW0.out (by omega) ses 1 (by omega) (by omega) (by omega) (by omega) (by simp)).mono ?_
  rintro e w1 ⟨rfl, hw1, hk1⟩
  clear q0 q1 q2 q3 q4 q5 q6 q7 q8 q9
  have HW1 := hid hw1
  have HK1 : Hid (Keeps (bx :: A) wa w1) := hid hk1
  obtain ⟨Z1, hZ1⟩ : ∃ z, [k0] ++ le ses 1 = z := ⟨_, rfl⟩
  rw [hZ1] at HW1
  have HL1 : Hid (Z1.length ≤ 2) := hid (by rw [← hZ1, List.length_append]; rw [le_length]; simp)
  have HZ1 := hid hZ1
  obtain ⟨q0, q1, q2, q3, q4, q5, q6, q7, q8, q9⟩ := rq_cells (HRC.out w1 (HK1.out bx (by simp)))
  simp only at q0 q1 q2 q3 q4 q5 q6 q7 q8 q9
  clear hw1 hk1 hZ1
  go_wp2_with fail
  refine (num_fit w0 w1 b 65524 Z1 _ HW1.out (by omega) id 4 (by omega) (by omega) (by omega) (by omega) (by have := HL1.out; omega)).mono ?_
  rintro e w2 ⟨rfl, hw2, hk2⟩
  clear q0 q1 q2 q3 q4 q5 q6 q7 q8 q9
  have HW2 := hid hw2
  have HK2 : Hid (Keeps (bx :: A) wa w2) := hid (HK1.out.trans hk2)
  obtain ⟨Z2, hZ2⟩ : ∃ z, Z1 ++ le id 4 = z := ⟨_, rfl⟩
  rw [hZ2] at HW2
  have HL2 : Hid (Z2.length ≤ 6) := hid (by rw [← hZ2, List.length_append]; rw [le_length]; have := HL1.out; omega)
  have HZ2 := hid hZ2
  obtain ⟨q0, q1, q2, q3, q4, q5, q6, q7, q8, q9⟩ := rq_cells (HRC.out w2 (HK2.out bx (by simp)))
  simp only at q0 q1 q2 q3 q4 q5 q6 q7 q8 q9
  clear hw2 hk2 hZ2
  go_wp2_with fail
  refine (num_fit w0 w2 b 65524 Z2 _ HW2.out (by omega) verb 1 (by omega) (by omega) (by omega) (by omega) (by have := HL2.out; omega)).mono ?_
  rintro e w3 ⟨rfl, hw3, hk3⟩
  clear q0 q1 q2 q3 q4 q5 q6 q7 q8 q9
  have HW3 := hid hw3
  have HK3 : Hid (Keeps (bx :: A) wa w3) := hid (HK2.out.trans hk3)
  obtain ⟨Z3, hZ3⟩ : ∃ z, Z2 ++ le verb 1 = z := ⟨_, rfl⟩
  rw [hZ3] at HW3
  have HL3 : Hid (Z3.length ≤ 7) := hid (by rw [← hZ3, List.length_append]; rw [le_length]; have := HL2.out; omega)
  have HZ3 := hid hZ3
  obtain ⟨q0, q1, q2, q3, q4, q5, q6, q7, q8, q9⟩ := rq_cells (HRC.out w3 (HK3.out bx (by simp)))
  simp only at q0 q1 q2 q3 q4 q5 q6 q7 q8 q9
  clear hw3 hk3 hZ3
  go_wp2_with fail
  have HS : Hid (∀ s ∈ [name, item, other, path], s.size ≤ 240) := hid (by intro s hs; simp at hs; rcases hs with rfl | rfl | rfl | rfl <;> assumption)
  go_loopw [30] (fun i wr => ∃ t : Nat, t ≤ 4 ∧ i = .int .i64 t ∧ Hid (FreshW w0 wr b 65524 (Z3 ++ txT [name, item, other, path] t, 0) (bx :: A)) ∧ Hid (Keeps (bx :: A) wa wr)) (fun i _ => 4 - (intOf i).toNat)
  case atStart => exact ⟨0, by omega, rfl, hid (by have h := HW3.out; simpa [txT] using h), HK3⟩
  case round =>
    obtain ⟨t, ht, rfl, hw, hk⟩ := hrel
    have HWr := hid hw.out
    have HKr := hid hk.out
    clear hw hk
    by_cases hlt : t < 4
    · have hix := str_at name item other path t hlt
      have hsu : txT [name, item, other, path] (t + 1) = txT [name, item, other, path] t ++ txF ([name, item, other, path].getD t ByteArray.empty) := rfl
      have hsz : ([name, item, other, path].getD t ByteArray.empty).size ≤ 240 := by
        rw [List.getD_eq_getElem?_getD]
        cases hx : [name, item, other, path][t]? with
        | none => simp
        | some s => exact HS.out s (List.mem_of_getElem? hx)
      have hlen := txT_len [name, item, other, path] HS.out t
      obtain ⟨v, hv⟩ : ∃ v, [name, item, other, path].getD t ByteArray.empty = v := ⟨_, rfl⟩
      rw [hv] at hix hsu hsz
      have HN := hid (text_fit w0 wr b 65524 _ _ HWr.out (by omega) v (by omega) (by rw [List.length_append]; have := HL3.out; omega))
      have HSU := hid hsu
      have t1 : (t : Int) < 4 := by omega
      clear hsu hv hlen hsz
      go_wp2_with fail
      refine HN.out.mono ?_
      rintro e w5 ⟨rfl, hw2, hk2⟩
      have HW2' := hid hw2
      have HK2' := hid (HKr.out.trans hk2)
      clear hw2 hk2 HN
      go_wp2_with fail
      go_roundw
      case rel => exact ⟨t + 1, by omega, by go_num, hid (by have h := HW2'.out; rw [List.append_assoc] at h; rw [HSU.out]; exact h), HK2'⟩
      case measure => first | (simp [intOf]; done) | (simp [intOf]; omega)
    · obtain rfl : t = 4 := by omega
      have hlen := txT_len [name, item, other, path] HS.out 4
      obtain ⟨Z4, hZ4⟩ : ∃ z, Z3 ++ txT [name, item, other, path] 4 = z := ⟨_, rfl⟩
      rw [hZ4] at HWr
      have HL4 : Hid (Z4.length ≤ 1000) := hid (by rw [← hZ4, List.length_append]; have := HL3.out; omega)
      have HZ4 := hid hZ4
      have HW4 := hid HWr.out
      have HK4 := hid HKr.out
      obtain ⟨q0, q1, q2, q3, q4, q5, q6, q7, q8, q9⟩ := rq_cells (HRC.out wr (HK4.out bx (by simp)))
      simp only at q0 q1 q2 q3 q4 q5 q6 q7 q8 q9
      clear hZ4 hlen HWr HKr hlt ht
      rw [show ((4 : Nat) : Int) = 4 from rfl]
      go_wp2_with fail
      refine (num_fit w0 wr b 65524 Z4 _ HW4.out (by omega) at_ 6 (by omega) (by omega) (by omega) (by omega) (by have := HL4.out; omega)).mono ?_
      rintro e w5 ⟨rfl, hw5, hk5⟩
      clear q0 q1 q2 q3 q4 q5 q6 q7 q8 q9
      have HW5 := hid hw5
      have HK5 : Hid (Keeps (bx :: A) wa w5) := hid (HK4.out.trans hk5)
      obtain ⟨Z5, hZ5⟩ : ∃ z, Z4 ++ le at_ 6 = z := ⟨_, rfl⟩
      rw [hZ5] at HW5
      have HL5 : Hid (Z5.length ≤ 1010) := hid (by rw [← hZ5, List.length_append]; rw [le_length]; have := HL4.out; omega)
      have HZ5 := hid hZ5
      obtain ⟨q0, q1, q2, q3, q4, q5, q6, q7, q8, q9⟩ := rq_cells (HRC.out w5 (HK5.out bx (by simp)))
      simp only at q0 q1 q2 q3 q4 q5 q6 q7 q8 q9
      clear hw5 hk5 hZ5
      go_wp2_with fail
      refine (num_fit w0 w5 b 65524 Z5 _ HW5.out (by omega) many 6 (by omega) (by omega) (by omega) (by omega) (by have := HL5.out; omega)).mono ?_
      rintro e w6 ⟨rfl, hw6, hk6⟩
      clear q0 q1 q2 q3 q4 q5 q6 q7 q8 q9
      have HW6 := hid hw6
      have HK6 : Hid (Keeps (bx :: A) wa w6) := hid (HK5.out.trans hk6)
      obtain ⟨Z6, hZ6⟩ : ∃ z, Z5 ++ le many 6 = z := ⟨_, rfl⟩
      rw [hZ6] at HW6
      have HL6 : Hid (Z6.length ≤ 1020) := hid (by rw [← hZ6, List.length_append]; rw [le_length]; have := HL5.out; omega)
      have HZ6 := hid hZ6
      obtain ⟨q0, q1, q2, q3, q4, q5, q6, q7, q8, q9⟩ := rq_cells (HRC.out w6 (HK6.out bx (by simp)))
      simp only at q0 q1 q2 q3 q4 q5 q6 q7 q8 q9
      clear hw6 hk6 hZ6
      go_wp2_with fail
      refine (num_fit w0 w6 b 65524 Z6 _ HW6.out (by omega) (dl : Int) 2 (by omega) (by omega) (by omega) (by omega) (by have := HL6.out; omega)).mono ?_
      rintro e w7 ⟨rfl, hw7, hk7⟩
      clear q0 q1 q2 q3 q4 q5 q6 q7 q8 q9
      have HW7 := hid hw7
      have HK7 : Hid (Keeps (bx :: A) wa w7) := hid (HK6.out.trans hk7)
      obtain ⟨Z7, hZ7⟩ : ∃ z, Z6 ++ le (dl : Int) 2 = z := ⟨_, rfl⟩
      rw [hZ7] at HW7
      have HL7 : Hid (Z7.length ≤ 1030) := hid (by rw [← hZ7, List.length_append]; rw [le_length]; have := HL6.out; omega)
      have HZ7 := hid hZ7
      obtain ⟨q0, q1, q2, q3, q4, q5, q6, q7, q8, q9⟩ := rq_cells (HRC.out w7 (HK7.out bx (by simp)))
      simp only at q0 q1 q2 q3 q4 q5 q6 q7 q8 q9
      clear hw7 hk7 hZ7
      go_wp2_with fail
      have hrd := HDK.out w7 HK7.out
      have HBY := hid (bytes_fit w0 w7 b 65524 Z7 _ HW7.out (by omega) dp ds dc HN.out hrd (by have := HL7.out; have := HL.out; omega))
      rw [HL.out] at HBY
      refine HBY.out.mono ?_
      rintro e w8 ⟨rfl, hw8, hk8⟩
      have HF : Hid (FreshW w0 w8 b 65524 ([k0] ++ bodyQ ⟨ses, id, verb, name, item, other, path, at_, many, dp, dl, dc⟩ ds, 0) A ∧ Keeps A w w8) := hid ⟨by
        have h := hw8.less (B := A) (fun k hk => List.mem_cons_of_mem _ hk)
        rw [← HZ7.out, ← HZ6.out, ← HZ5.out, ← HZ4.out, ← HZ3.out, ← HZ2.out, ← HZ1.out] at h
        unfold bodyQ
        simpa only [List.append_assoc] using h, HK0.out.trans ((HK7.out.trans hk8).less (fun k hk => List.mem_cons_of_mem _ hk))⟩
      clear hw8 hk8 HBY hrd
      go_wp2_with fail
      first | go_returns | skip
      exact ⟨rfl, HF.out.1, HF.out.2⟩
end
section
open Go.RowKit
set_option maxRecDepth 100000

def Z4 : S4 := ⟨0, 0, 0, 0⟩
set_option maxHeartbeats 800000 in
theorem value_0 (r : Nat) (s : S4) (x0 x1 x2 x3 : Int) (w : World) (hr : RowR w r s x0 x1 x2 x3 0) :
    Calls Tryd.prog 87 #[.pointer (some ⟨r, 0, none⟩)] w fun e w' => e = .returned (.agg s.arr) ∧ Frm [] w w' := by
  have hfa : Frm [] w (w.alloc (.cells #[.int .u64 0, .int .u64 0, .int .u64 0, .int .u64 0] 68)) := (Frm.refl _ _).alloc _
  have hra := hfa.heap hr (by simp)
  have q0 : (w.alloc (.cells #[.int .u64 0, .int .u64 0, .int .u64 0, .int .u64 0] 68)).cell? ⟨r, 0, none⟩ = some (.int .u64 s.a) := by rw [cell_of_row _ _ _ _ _ _ hra]; rfl
  have q1 : (w.alloc (.cells #[.int .u64 0, .int .u64 0, .int .u64 0, .int .u64 0] 68)).cell? ⟨r, 1, none⟩ = some (.int .u64 s.b) := by rw [cell_of_row _ _ _ _ _ _ hra]; rfl
  have q2 : (w.alloc (.cells #[.int .u64 0, .int .u64 0, .int .u64 0, .int .u64 0] 68)).cell? ⟨r, 2, none⟩ = some (.int .u64 s.c) := by rw [cell_of_row _ _ _ _ _ _ hra]; rfl
  have q3 : (w.alloc (.cells #[.int .u64 0, .int .u64 0, .int .u64 0, .int .u64 0] 68)).cell? ⟨r, 3, none⟩ = some (.int .u64 s.d) := by rw [cell_of_row _ _ _ _ _ _ hra]; rfl
  have q4 : (w.alloc (.cells #[.int .u64 0, .int .u64 0, .int .u64 0, .int .u64 0] 68)).cell? ⟨r, 4, none⟩ = some (.int .u8 x0) := by rw [cell_of_row _ _ _ _ _ _ hra]; rfl
  have q5 : (w.alloc (.cells #[.int .u64 0, .int .u64 0, .int .u64 0, .int .u64 0] 68)).cell? ⟨r, 5, none⟩ = some (.int .u8 x1) := by rw [cell_of_row _ _ _ _ _ _ hra]; rfl
  have q6 : (w.alloc (.cells #[.int .u64 0, .int .u64 0, .int .u64 0, .int .u64 0] 68)).cell? ⟨r, 6, none⟩ = some (.int .u8 x2) := by rw [cell_of_row _ _ _ _ _ _ hra]; rfl
  have q7 : (w.alloc (.cells #[.int .u64 0, .int .u64 0, .int .u64 0, .int .u64 0] 68)).cell? ⟨r, 7, none⟩ = some (.int .u8 x3) := by rw [cell_of_row _ _ _ _ _ _ hra]; rfl
  have q8 : (w.alloc (.cells #[.int .u64 0, .int .u64 0, .int .u64 0, .int .u64 0] 68)).cell? ⟨r, 8, none⟩ = some (.int .i64 0) := by rw [cell_of_row _ _ _ _ _ _ hra]; rfl
  unfold S4.arr
  clear hr hra hfa
  go_enter Tryd.func87, Tryd.ntmps87
  go_wp2_with fail
  go_returns
  exact ⟨rfl, (Frm.refl _ _).alloc _⟩
set_option maxHeartbeats 1600000 in
theorem value_m (r : Nat) (s : S4) (x0 x1 x2 x3 m : Int) (w : World) (hr : RowR w r s x0 x1 x2 x3 m) (hm : m ≠ 0) (h0 : 0 ≤ x0 ∧ x0 < 256) (h1 : 0 ≤ x1 ∧ x1 < 256) (h2 : 0 ≤ x2 ∧ x2 < 256) (h3 : 0 ≤ x3 ∧ x3 < 256) :
    Calls Tryd.prog 87 #[.pointer (some ⟨r, 0, none⟩)] w fun e w' => e = .returned (.agg (wordS s (lowW x0 x1 x2 x3)).arr) ∧ Frm [] w w' := by
  have hfa : Frm [] w (w.alloc (.cells #[.int .u64 0, .int .u64 0, .int .u64 0, .int .u64 0] 68)) := (Frm.refl _ _).alloc _
  have hra := hfa.heap hr (by simp)
  have q0 : (w.alloc (.cells #[.int .u64 0, .int .u64 0, .int .u64 0, .int .u64 0] 68)).cell? ⟨r, 0, none⟩ = some (.int .u64 s.a) := by rw [cell_of_row _ _ _ _ _ _ hra]; rfl
  have q1 : (w.alloc (.cells #[.int .u64 0, .int .u64 0, .int .u64 0, .int .u64 0] 68)).cell? ⟨r, 1, none⟩ = some (.int .u64 s.b) := by rw [cell_of_row _ _ _ _ _ _ hra]; rfl
  have q2 : (w.alloc (.cells #[.int .u64 0, .int .u64 0, .int .u64 0, .int .u64 0] 68)).cell? ⟨r, 2, none⟩ = some (.int .u64 s.c) := by rw [cell_of_row _ _ _ _ _ _ hra]; rfl
  have q3 : (w.alloc (.cells #[.int .u64 0, .int .u64 0, .int .u64 0, .int .u64 0] 68)).cell? ⟨r, 3, none⟩ = some (.int .u64 s.d) := by rw [cell_of_row _ _ _ _ _ _ hra]; rfl
  have q4 : (w.alloc (.cells #[.int .u64 0, .int .u64 0, .int .u64 0, .int .u64 0] 68)).cell? ⟨r, 4, none⟩ = some (.int .u8 x0) := by rw [cell_of_row _ _ _ _ _ _ hra]; rfl
  have q5 : (w.alloc (.cells #[.int .u64 0, .int .u64 0, .int .u64 0, .int .u64 0] 68)).cell? ⟨r, 5, none⟩ = some (.int .u8 x1) := by rw [cell_of_row _ _ _ _ _ _ hra]; rfl
  have q6 : (w.alloc (.cells #[.int .u64 0, .int .u64 0, .int .u64 0, .int .u64 0] 68)).cell? ⟨r, 6, none⟩ = some (.int .u8 x2) := by rw [cell_of_row _ _ _ _ _ _ hra]; rfl
  have q7 : (w.alloc (.cells #[.int .u64 0, .int .u64 0, .int .u64 0, .int .u64 0] 68)).cell? ⟨r, 7, none⟩ = some (.int .u8 x3) := by rw [cell_of_row _ _ _ _ _ _ hra]; rfl
  have q8 : (w.alloc (.cells #[.int .u64 0, .int .u64 0, .int .u64 0, .int .u64 0] 68)).cell? ⟨r, 8, none⟩ = some (.int .i64 m) := by rw [cell_of_row _ _ _ _ _ _ hra]; rfl
  have hmb : (m == 0) = false := by simp; omega
  have HA : Hid ((w.alloc (.cells #[.int .u64 0, .int .u64 0, .int .u64 0, .int .u64 0] 68)).heap[w.heap.size]? = some (.cells #[.int .u64 0, .int .u64 0, .int .u64 0, .int .u64 0] 68 (0, 0))) := hid (heap_alloc_new _ _)
  have HFA := hid hfa
  have HLO := hid (low_any x0 x1 x2 x3 (w.alloc (.cells #[.int .u64 0, .int .u64 0, .int .u64 0, .int .u64 0] 68)).drew h0 h1 h2 h3)
  have hwo := fun w' => word_any s (lowW x0 x1 x2 x3) w' (lowW_bd _ _ _ _)
  obtain ⟨L, hL⟩ : ∃ L, lowW x0 x1 x2 x3 = L := ⟨_, rfl⟩
  rw [hL] at hwo HLO ⊢
  unfold S4.arr at hwo ⊢
  have HWO := hid hwo
  clear hr hra hfa h0 h1 h2 h3 hwo hL
  go_enter Tryd.func87, Tryd.ntmps87
  go_wp2_with fail
  obtain ⟨wa, hwa⟩ : ∃ wa, w.alloc (.cells #[.int .u64 0, .int .u64 0, .int .u64 0, .int .u64 0] 68) = wa := ⟨_, rfl⟩
  rw [hwa] at q0 q1 q2 q3 q4 q5 q6 q7 q8 HLO HA HFA ⊢
  clear hwa
  go_still_tail 25, (by kernel_rfl)
  refine wpStill_step (fun K hK => ?_)
  go_simp
  refine ⟨_, HLO.out, hK _ ?_⟩
  clear hK K
  repeat still_step
  refine wpStill_nil ?_
  change wpList _ _ _ _ _ wa.drew
  have hfd : Frm [] w wa.drew := HFA.out.drew
  have ha5 : wa.drew.heap[w.heap.size]? = some (.cells #[.int .u64 0, .int .u64 0, .int .u64 0, .int .u64 0] 68 (0, 0)) := HA.out
  obtain ⟨w5, hw5⟩ : ∃ w5, wa.drew = w5 := ⟨_, rfl⟩
  rw [hw5] at hfd ha5 ⊢
  clear hw5 q0 q1 q2 q3 q4 q5 q6 q7 q8 HLO HA HFA
  go_wp2_with fail
  refine (HWO.out w5).mono ?_
  rintro e w6 ⟨rfl, hf6⟩
  have hF6 := hfd.trans hf6 (by simp)
  have hco := hf6.heap ha5 (by simp)
  obtain ⟨sb, hsb⟩ : ∃ sb, w.heap.size = sb := ⟨_, rfl⟩
  rw [hsb] at hco ⊢
  have e0 : w6.cell? ⟨sb, 0, none⟩ = some (.int .u64 0) := by rw [cell_of_row w6 _ _ _ _ _ hco]; rfl
  have e1 : w6.cell? ⟨sb, 1, none⟩ = some (.int .u64 0) := by rw [cell_of_row w6 _ _ _ _ _ hco]; rfl
  have e2 : w6.cell? ⟨sb, 2, none⟩ = some (.int .u64 0) := by rw [cell_of_row w6 _ _ _ _ _ hco]; rfl
  have e3 : w6.cell? ⟨sb, 3, none⟩ = some (.int .u64 0) := by rw [cell_of_row w6 _ _ _ _ _ hco]; rfl
  have z0 : w6.frozen? ⟨sb, 0, none⟩ = false := frozen_of_row w6 _ 0 _ _ hco
  have z1 : w6.frozen? ⟨sb, 1, none⟩ = false := frozen_of_row w6 _ 1 _ _ hco
  have z2 : w6.frozen? ⟨sb, 2, none⟩ = false := frozen_of_row w6 _ 2 _ _ hco
  have z3 : w6.frozen? ⟨sb, 3, none⟩ = false := frozen_of_row w6 _ 3 _ _ hco
  have HS4 := hid (set4 (y0 := .int .u64 (wordS s L).a) (y1 := .int .u64 (wordS s L).b) (y2 := .int .u64 (wordS s L).c) (y3 := .int .u64 (wordS s L).d) hco)
  have HF6 := hid hF6
  have HSB := hid hsb
  clear hco hF6 hf6 hfd ha5 hsb
  go_wp2_with fail
  obtain ⟨h4, f4⟩ := HS4.out
  obtain ⟨wz, hwz⟩ : ∃ wz, (((w6.setCell ⟨sb, 0, none⟩ (.int .u64 (wordS s L).a)).setCell ⟨sb, 1, none⟩ (.int .u64 (wordS s L).b)).setCell ⟨sb, 2, none⟩ (.int .u64 (wordS s L).c)).setCell ⟨sb, 3, none⟩ (.int .u64 (wordS s L).d) = wz := ⟨_, rfl⟩
  rw [hwz] at h4 f4 ⊢
  have g0 : wz.cell? ⟨sb, 0, none⟩ = some (.int .u64 (wordS s L).a) := by rw [cell_of_row wz _ _ _ _ _ h4]; rfl
  have g1 : wz.cell? ⟨sb, 1, none⟩ = some (.int .u64 (wordS s L).b) := by rw [cell_of_row wz _ _ _ _ _ h4]; rfl
  have g2 : wz.cell? ⟨sb, 2, none⟩ = some (.int .u64 (wordS s L).c) := by rw [cell_of_row wz _ _ _ _ _ h4]; rfl
  have g3 : wz.cell? ⟨sb, 3, none⟩ = some (.int .u64 (wordS s L).d) := by rw [cell_of_row wz _ _ _ _ _ h4]; rfl
  refine bodyPost_ret (v := .agg #[.int .u64 (wordS s L).a, .int .u64 (wordS s L).b, .int .u64 (wordS s L).c, .int .u64 (wordS s L).d]) (by simp [results, Tryd.results87, go_sem, g0, g1, g2, g3]) rfl ⟨rfl, HF6.out.trans f4 (fun i hi hl => by simp at hi; have := HSB.out; omega)⟩
/-- Fletcher's sum. -/
def fletch (zs : List Int) : S4 := if zs.length % 4 = 0 then flW Z4 zs (zs.length / 4) else wordS (flW Z4 zs (zs.length / 4)) (lowW (zA zs (4 * (zs.length / 4))) (zA zs (4 * (zs.length / 4) + 1)) (zA zs (4 * (zs.length / 4) + 2)) 0)
theorem zA_bd {zs : List Int} (hb : ∀ z ∈ zs, 0 ≤ z ∧ z < 256) (i : Nat) : 0 ≤ zA zs i ∧ zA zs i < 256 := by
  unfold zA
  rw [List.getD_eq_getElem?_getD]
  by_cases hi : i < zs.length
  · rw [List.getElem?_eq_getElem hi]
    exact hb _ (List.getElem_mem hi)
  · rw [List.getElem?_eq_none (by omega)]
    simp
set_option maxHeartbeats 1600000 in
theorem of_fl (p : Option Addr) (n c : Nat) (zs : List Int) (w : World) (hn : zs.length = n) (hnc : n ≤ c) (hnb : n ≤ 9223372036854775807) (hrd : Rd w p zs) (hb : ∀ z ∈ zs, 0 ≤ z ∧ z < 256) :
    Calls Tryd.prog 75 #[.int .i64 1, .slice p n c] w fun e w' => e = .returned (.tuple #[.agg (fletch zs).arr, .int .i64 0]) ∧ Frm [] w w' := by
  have HRD := hid hrd
  have HB := hid hb
  have HN := hid hn
  clear hrd hb hn
  go_enter Tryd.func75, Tryd.ntmps75
  go_wp2_with fail
  have hfa : Frm [] w (w.alloc (.cells #[.int .u64 0, .int .u64 0, .int .u64 0, .int .u64 0] 68)) := (Frm.refl _ _).alloc _
  have hfb : Frm [] (w.alloc (.cells #[.int .u64 0, .int .u64 0, .int .u64 0, .int .u64 0] 68)) ((w.alloc (.cells #[.int .u64 0, .int .u64 0, .int .u64 0, .int .u64 0] 68)).alloc (.cells #[.int .u64 0, .int .u64 0, .int .u64 0, .int .u64 0, .int .u8 0, .int .u8 0, .int .u8 0, .int .u8 0, .int .i64 0] 131)) := (Frm.refl _ _).alloc _
  have hrow : RowR ((w.alloc (.cells #[.int .u64 0, .int .u64 0, .int .u64 0, .int .u64 0] 68)).alloc (.cells #[.int .u64 0, .int .u64 0, .int .u64 0, .int .u64 0, .int .u8 0, .int .u8 0, .int .u8 0, .int .u8 0, .int .i64 0] 131)) (w.heap.size + 1) Z4 0 0 0 0 0 := heap_alloc_to _ _ (by simp)
  have hres := hfb.heap (heap_alloc_new w (.cells #[.int .u64 0, .int .u64 0, .int .u64 0, .int .u64 0] 68)) (by simp)
  have hab := hfa.trans hfb (by simp)
  obtain ⟨w2, hw2⟩ : ∃ w2, (w.alloc (.cells #[.int .u64 0, .int .u64 0, .int .u64 0, .int .u64 0] 68)).alloc (.cells #[.int .u64 0, .int .u64 0, .int .u64 0, .int .u64 0, .int .u8 0, .int .u8 0, .int .u8 0, .int .u8 0, .int .i64 0] 131) = w2 := ⟨_, rfl⟩
  rw [hw2] at hrow hres hab ⊢
  refine (add_fresh (w.heap.size + 1) Z4 p n c zs w2 hrow HN.out hnc hnb (HRD.out.kept hab (by simp)) HB.out (fun hz hk => by have := HRD.out.lows hz _ hk; omega)).mono ?_
  rintro e w3 ⟨rfl, hr3, hf3⟩
  have hF3 : Frm [] w w3 := hab.trans hf3 (fun i hi hl => by simp at hi; omega)
  have hco := hf3.heap hres (by simp)
  have HVAL : Hid (Calls Tryd.prog 87 #[.pointer (some ⟨w.heap.size + 1, 0, none⟩)] w3 fun e w' => e = .returned (.agg (fletch zs).arr) ∧ Frm [] w3 w') := hid (by
    unfold fletch
    rw [HN.out]
    by_cases hm : n % 4 = 0
    · rw [if_pos hm]
      rw [hm] at hr3
      exact value_0 _ _ _ _ _ _ w3 hr3
    · rw [if_neg hm]
      exact value_m _ _ _ _ _ _ _ w3 hr3 (by omega) (zA_bd HB.out _) (zA_bd HB.out _) (zA_bd HB.out _) (by omega))
  have HF3 := hid hF3
  have HCO := hid hco
  clear hfa hfb hw2 hrow hres hab hr3 hf3 hF3 hco
  go_wp2_with fail
  refine HVAL.out.mono ?_
  rintro e w6 ⟨rfl, hf6⟩
  have hco := hf6.heap HCO.out (by simp)
  obtain ⟨S, hS⟩ : ∃ S, fletch zs = S := ⟨_, rfl⟩
  rw [hS]
  have HS := hid hS
  unfold S4.arr
  obtain ⟨sb, hsb⟩ : ∃ sb, w.heap.size = sb := ⟨_, rfl⟩
  have HSB := hid hsb
  rw [hsb] at hco ⊢
  have e0 : w6.cell? ⟨sb, 0, none⟩ = some (.int .u64 0) := by rw [cell_of_row w6 _ _ _ _ _ hco]; rfl
  have z0 : w6.frozen? ⟨sb, 0, none⟩ = false := frozen_of_row w6 _ 0 _ _ hco
  have e1 : w6.cell? ⟨sb, 1, none⟩ = some (.int .u64 0) := by rw [cell_of_row w6 _ _ _ _ _ hco]; rfl
  have z1 : w6.frozen? ⟨sb, 1, none⟩ = false := frozen_of_row w6 _ 1 _ _ hco
  have e2 : w6.cell? ⟨sb, 2, none⟩ = some (.int .u64 0) := by rw [cell_of_row w6 _ _ _ _ _ hco]; rfl
  have z2 : w6.frozen? ⟨sb, 2, none⟩ = false := frozen_of_row w6 _ 2 _ _ hco
  have e3 : w6.cell? ⟨sb, 3, none⟩ = some (.int .u64 0) := by rw [cell_of_row w6 _ _ _ _ _ hco]; rfl
  have z3 : w6.frozen? ⟨sb, 3, none⟩ = false := frozen_of_row w6 _ 3 _ _ hco
  have HS4 := hid (set4 (y0 := .int .u64 S.a) (y1 := .int .u64 S.b) (y2 := .int .u64 S.c) (y3 := .int .u64 S.d) hco)
  have HF6 := hid hf6
  clear hco hf6 hS hsb
  go_wp2_with fail
  obtain ⟨h4, f4⟩ := HS4.out
  obtain ⟨wz, hwz⟩ : ∃ wz, (((w6.setCell ⟨sb, 0, none⟩ (.int .u64 S.a)).setCell ⟨sb, 1, none⟩ (.int .u64 S.b)).setCell ⟨sb, 2, none⟩ (.int .u64 S.c)).setCell ⟨sb, 3, none⟩ (.int .u64 S.d) = wz := ⟨_, rfl⟩
  rw [hwz] at h4 f4 ⊢
  have g0 : wz.cell? ⟨sb, 0, none⟩ = some (.int .u64 S.a) := by rw [cell_of_row wz _ _ _ _ _ h4]; rfl
  have g1 : wz.cell? ⟨sb, 1, none⟩ = some (.int .u64 S.b) := by rw [cell_of_row wz _ _ _ _ _ h4]; rfl
  have g2 : wz.cell? ⟨sb, 2, none⟩ = some (.int .u64 S.c) := by rw [cell_of_row wz _ _ _ _ _ h4]; rfl
  have g3 : wz.cell? ⟨sb, 3, none⟩ = some (.int .u64 S.d) := by rw [cell_of_row wz _ _ _ _ _ h4]; rfl
  refine bodyPost_ret (v := .tuple #[.agg #[.int .u64 S.a, .int .u64 S.b, .int .u64 S.c, .int .u64 S.d], .int .i64 0]) (by simp [results, Tryd.results75, go_sem, g0, g1, g2, g3]) rfl ⟨by rw [HS.out]; rfl, (HF3.out.trans HF6.out (by simp)).trans f4 (fun i hi hl => by simp at hi; have := HSB.out; omega)⟩
end
section
open Go.RowKit
set_option maxRecDepth 100000

set_option maxHeartbeats 1600000 in
theorem of_sha (p : Option Addr) (n c : Nat) (zs : List Int) (w : World) (hn : zs.length = n) (h55 : n ≤ 55) (hrd : Rd w p zs) (hb : ∀ z ∈ zs, 0 ≤ z ∧ z < 256) (hpr : Primes w) :
    Calls Tryd.prog 75 #[.int .i64 2, .slice p n c] w fun e w' => e = .returned (.tuple #[.agg (shaS zs).arr, .int .i64 0]) ∧ Frm [] w w' := by
  have hfa : Frm [] w (w.alloc (.cells #[.int .u64 0, .int .u64 0, .int .u64 0, .int .u64 0] 68)) := (Frm.refl _ _).alloc _
  have HA := hid (heap_alloc_new w (.cells #[.int .u64 0, .int .u64 0, .int .u64 0, .int .u64 0] 68))
  have HSH := hid (sha_short p n c zs (w.alloc (.cells #[.int .u64 0, .int .u64 0, .int .u64 0, .int .u64 0] 68)) hn h55 (hrd.kept hfa (by simp)) hb (hpr.kept hfa))
  have HFA := hid hfa
  clear hrd hb hn hpr hfa
  go_enter Tryd.func75, Tryd.ntmps75
  go_wp2_with fail
  refine HSH.out.mono ?_
  rintro e w6 ⟨rfl, hf6⟩
  have hco := hf6.heap HA.out (by simp)
  obtain ⟨S, hS⟩ : ∃ S, shaS zs = S := ⟨_, rfl⟩
  rw [hS]
  have HS := hid hS
  unfold S4.arr
  obtain ⟨sb, hsb⟩ : ∃ sb, w.heap.size = sb := ⟨_, rfl⟩
  have HSB := hid hsb
  rw [hsb] at hco ⊢
  have e0 : w6.cell? ⟨sb, 0, none⟩ = some (.int .u64 0) := by rw [cell_of_row w6 _ _ _ _ _ hco]; rfl
  have z0 : w6.frozen? ⟨sb, 0, none⟩ = false := frozen_of_row w6 _ 0 _ _ hco
  have e1 : w6.cell? ⟨sb, 1, none⟩ = some (.int .u64 0) := by rw [cell_of_row w6 _ _ _ _ _ hco]; rfl
  have z1 : w6.frozen? ⟨sb, 1, none⟩ = false := frozen_of_row w6 _ 1 _ _ hco
  have e2 : w6.cell? ⟨sb, 2, none⟩ = some (.int .u64 0) := by rw [cell_of_row w6 _ _ _ _ _ hco]; rfl
  have z2 : w6.frozen? ⟨sb, 2, none⟩ = false := frozen_of_row w6 _ 2 _ _ hco
  have e3 : w6.cell? ⟨sb, 3, none⟩ = some (.int .u64 0) := by rw [cell_of_row w6 _ _ _ _ _ hco]; rfl
  have z3 : w6.frozen? ⟨sb, 3, none⟩ = false := frozen_of_row w6 _ 3 _ _ hco
  have HS4 := hid (set4 (y0 := .int .u64 S.a) (y1 := .int .u64 S.b) (y2 := .int .u64 S.c) (y3 := .int .u64 S.d) hco)
  have HF6 := hid (HFA.out.trans hf6 (by simp))
  clear hco hf6 hS hsb HSH HA
  go_wp2_with fail
  obtain ⟨h4, f4⟩ := HS4.out
  obtain ⟨wz, hwz⟩ : ∃ wz, (((w6.setCell ⟨sb, 0, none⟩ (.int .u64 S.a)).setCell ⟨sb, 1, none⟩ (.int .u64 S.b)).setCell ⟨sb, 2, none⟩ (.int .u64 S.c)).setCell ⟨sb, 3, none⟩ (.int .u64 S.d) = wz := ⟨_, rfl⟩
  rw [hwz] at h4 f4 ⊢
  have g0 : wz.cell? ⟨sb, 0, none⟩ = some (.int .u64 S.a) := by rw [cell_of_row wz _ _ _ _ _ h4]; rfl
  have g1 : wz.cell? ⟨sb, 1, none⟩ = some (.int .u64 S.b) := by rw [cell_of_row wz _ _ _ _ _ h4]; rfl
  have g2 : wz.cell? ⟨sb, 2, none⟩ = some (.int .u64 S.c) := by rw [cell_of_row wz _ _ _ _ _ h4]; rfl
  have g3 : wz.cell? ⟨sb, 3, none⟩ = some (.int .u64 S.d) := by rw [cell_of_row wz _ _ _ _ _ h4]; rfl
  refine bodyPost_ret (v := .tuple #[.agg #[.int .u64 S.a, .int .u64 S.b, .int .u64 S.c, .int .u64 S.d], .int .i64 0]) (by simp [results, Tryd.results75, go_sem, g0, g1, g2, g3]) rfl ⟨by rw [HS.out]; rfl, HF6.out.trans f4 (fun i hi hl => by simp at hi; have := HSB.out; omega)⟩
def S4.eqB (a b : S4) : Bool := a.a == b.a && (a.b == b.b && (a.c == b.c && a.d == b.d))
end
end Go.Proofs.YtignoocdeghiaaaDoor
