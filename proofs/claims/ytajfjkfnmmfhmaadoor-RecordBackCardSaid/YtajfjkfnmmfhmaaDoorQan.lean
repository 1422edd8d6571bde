/- Records: numbers, bytes and texts that fit, laid down by the program's writer. Records: a seal's bytes; a record's seal. Records: what a body's reader takes up. -/
import Derived.Test.YtajfjkfnmmfhmaaDoorQad
import Derived.Test.YtajfjkfnmmfhmaaDoorQam
import Derived.Test.YtajfjkfnmmfhmaaDoorQaf
import Derived.Deep.Cut
import Derived.Test.YtajfjkfnmmfhmaaDoorQag
import Derived.Test.YtajfjkfnmmfhmaaDoorQac
namespace Go.Proofs.YtajfjkfnmmfhmaaDoor
section
open Go.RowKit Go.Lib
set_option maxRecDepth 100000

theorem FreshW.alloc {w0 w : World} {b : Nat} {room : Int} {s : List Int × Int} {A : List Nat} (h : FreshW w0 w b room s A) (o : Obj) : FreshW w0 (w.alloc o) b room s (w.heap.size :: A) ∧ Keeps A w (w.alloc o) := by
  obtain ⟨fp, h1, h2, h3, h4⟩ := h
  have hf : Frm [] w (w.alloc o) := (Frm.refl _ _).alloc _
  refine ⟨⟨fp, h1.kept hf (by simp), h2.trans hf (by simp), h3, fun k hk => ?_⟩, hf.keeps (fun k hk => ⟨by simp, (h4 k hk).2⟩)⟩
  rcases List.mem_cons.1 hk with rfl | hk
  · exact ⟨fun hm => absurd (h1.lt _ hm) (Nat.lt_irrefl _), by simp⟩
  · exact ⟨(h4 k hk).1, Nat.lt_of_lt_of_le (h4 k hk).2 hf.size⟩
theorem FreshW.less {w0 w : World} {b : Nat} {room : Int} {s : List Int × Int} {A B : List Nat} (h : FreshW w0 w b room s A) (hB : ∀ k ∈ B, k ∈ A) : FreshW w0 w b room s B := by
  obtain ⟨fp, h1, h2, h3, h4⟩ := h
  exact ⟨fp, h1, h2, h3, fun k hk => h4 k (hB k hk)⟩
theorem Keeps.trans {A : List Nat} {u v w : World} (h : Keeps A u v) (k : Keeps A v w) : Keeps A u w := fun x hx => (k x hx).trans (h x hx)
theorem Keeps.less {A B : List Nat} {u v : World} (h : Keeps A u v) (hB : ∀ k ∈ B, k ∈ A) : Keeps B u v := fun x hx => h x (hB x hx)
/-- A number that fits is laid down. -/
theorem num_fit (w0 w : World) (b : Nat) (room : Int) (zs : List Int) (A : List Nat) (hw : FreshW w0 w b room (zs, 0) A) (hr1 : room ≤ 2147483647) (n : Int) (k : Nat) (hn : 0 ≤ n) (hk1 : 1 ≤ k) (hk8 : k ≤ 8) (hfit : n < 2 ^ (8 * k)) (hz : (zs.length : Int) + k ≤ room) :
    Calls Tryd.prog 17 #[.pointer (some ⟨b, 0, none⟩), .int .u64 n, .int .i64 (k : Int)] w fun e w' => e = .returned (.tuple #[]) ∧ FreshW w0 w' b room (zs ++ le n k, 0) A ∧ Keeps A w w' := by
  have h2 : (2 : Int) ^ (8 * k) ≤ 18446744073709551616 := by
    have hk : k = 1 ∨ k = 2 ∨ k = 3 ∨ k = 4 ∨ k = 5 ∨ k = 6 ∨ k = 7 ∨ k = 8 := by omega
    rcases hk with rfl | rfl | rfl | rfl | rfl | rfl | rfl | rfl <;> decide
  have h := numF_any w0 w b room (zs, 0) A hw (by omega) hr1 (by simp only; omega) n (k : Int) hn (by omega) (by omega) (by omega)
  have e : stepW room (zs, 0) (numF n (k : Int)) = (zs ++ le n k, 0) := by
    have h0 : n / 2 ^ (8 * k) = 0 := Int.ediv_eq_zero_of_lt hn hfit
    unfold numF
    rw [if_neg (by omega), Int.toNat_natCast, if_neg (by rw [h0]; simp)]
    unfold stepW
    simp only [ne_eq, not_true, if_false]
    rw [if_neg (by rw [le_length]; omega)]
  rw [e] at h
  exact h
theorem bytes_fit (w0 w : World) (b : Nat) (room : Int) (zs : List Int) (A : List Nat) (hw : FreshW w0 w b room (zs, 0) A) (hr1 : room ≤ 2147483647) (p : Option Addr) (ns : List Int) (c : Nat) (hc : ns = [] → p = none → c = 0) (hrd : Rd w p ns) (hz : (zs.length : Int) + ns.length ≤ room) :
    Calls Tryd.prog 18 #[.pointer (some ⟨b, 0, none⟩), .slice p ns.length c] w fun e w' => e = .returned (.tuple #[]) ∧ FreshW w0 w' b room (zs ++ ns, 0) A ∧ Keeps A w w' := by
  have h := bytesF_any w0 w b room (zs, 0) A hw (by omega) hr1 (by simp only; omega) p ns c (by omega) hc hrd
  have e : stepW room (zs, 0) (ns, 0) = (zs ++ ns, 0) := by
    unfold stepW
    simp only [ne_eq, not_true, if_false]
    rw [if_neg (by omega)]
  rw [e] at h
  exact h
/-- A text that fits is laid down. -/
def txF (s : ByteArray) : List Int := le s.size 2 ++ tx s
theorem txF_len (s : ByteArray) : (txF s).length = 2 + s.size := by unfold txF; rw [List.length_append, le_length, tx_length]
theorem text_fit (w0 w : World) (b : Nat) (room : Int) (zs : List Int) (A : List Nat) (hw : FreshW w0 w b room (zs, 0) A) (hr1 : room ≤ 2147483647) (t : ByteArray) (ht : t.size ≤ 65535) (hz : (zs.length : Int) + 2 + t.size ≤ room) :
    Calls Tryd.prog 63 #[.pointer (some ⟨b, 0, none⟩), .string t] w fun e w' => e = .returned (.tuple #[]) ∧ FreshW w0 w' b room (zs ++ txF t, 0) A ∧ Keeps A w w' := by
  have h := textF_any w0 w b room (zs, 0) A hw (by omega) hr1 (by simp only; omega) t (by unfold maxLen; omega)
  have et : textF t = (txF t, 0) := by unfold textF; rw [if_neg (by omega)]; rfl
  have e : stepW room (zs, 0) (textF t) = (zs ++ txF t, 0) := by
    rw [et]
    unfold stepW
    simp only [ne_eq, not_true, if_false]
    rw [if_neg (by rw [txF_len]; omega)]
  rw [e] at h
  exact h
theorem FreshW.with_ {w0 w : World} {b : Nat} {room : Int} {s : List Int × Int} {A : List Nat} (h : FreshW w0 w b room s []) (hA : ∀ k ∈ A, k < w0.heap.size) : FreshW w0 w b room s A := by
  obtain ⟨fp, h1, h2, h3, _⟩ := h
  exact ⟨fp, h1, h2, h3, fun k hk => ⟨fun hm => by have := h3 k hm; have := hA k hk; omega, Nat.lt_of_lt_of_le (hA k hk) h2.size⟩⟩
theorem shaD_bd (zs : List Int) : 0 ≤ (shaD zs).a ∧ (shaD zs).a < 18446744073709551616 := by
  unfold shaD sumV pairW
  generalize blksD H0 (padD zs) ((padD zs).length / 64) = v
  show 0 ≤ IntKind.u64.wrap ((BitVec.ofInt 64 (v.a * 4294967296) ||| BitVec.ofInt 64 v.b).toNat : Int) ∧ IntKind.u64.wrap ((BitVec.ofInt 64 (v.a * 4294967296) ||| BitVec.ofInt 64 v.b).toNat : Int) < 18446744073709551616
  rw [IntKind.wrap_u64]
  omega
end
section
open Go.RowKit Go.Lib
set_option maxRecDepth 100000

def sumL (a b c d : Int) : List Int := le a 8 ++ le b 8 ++ le c 8 ++ le d 8
theorem sumL_length (a b c d : Int) : (sumL a b c d).length = 32 := by simp [sumL, le_length]
/-- What of a sum is laid down behind so many of its four numbers. -/
def sumT (vs : List Int) : Nat → List Int
  | 0 => []
  | t + 1 => sumT vs t ++ le (vs.getD t 0) 8
theorem sumT_length (vs : List Int) (t : Nat) : (sumT vs t).length = 8 * t := by
  induction t with
  | zero => rfl
  | succ t ih => rw [sumT, List.length_append, ih, le_length]; omega
theorem sumT_all (a b c d : Int) : sumT [a, b, c, d] 4 = sumL a b c d := by simp [sumT, sumL]
theorem ptr_at (s0 s1 s2 s3 : Int) (t : Nat) (h : t < 4) (W : World) : (Instr.index 79 (.agg #[.int .u64 s0, .int .u64 s1, .int .u64 s2, .int .u64 s3]) (.int .i64 (t : Int))).run Tryd.prog W = .ok (.int .u64 ([s0, s1, s2, s3].getD t 0)) W := by
  have h4 : t = 0 ∨ t = 1 ∨ t = 2 ∨ t = 3 := by omega
  rcases h4 with rfl | rfl | rfl | rfl <;> rfl
set_option maxHeartbeats 1600000 in
theorem putSum_any (w0 w : World) (b : Nat) (room : Int) (zs : List Int) (A : List Nat) (hw : FreshW w0 w b room (zs, 0) A) (hr1 : room ≤ 2147483647) (s0 s1 s2 s3 : Int) (h0 : 0 ≤ s0 ∧ s0 < 18446744073709551616) (h1 : 0 ≤ s1 ∧ s1 < 18446744073709551616) (h2 : 0 ≤ s2 ∧ s2 < 18446744073709551616) (h3 : 0 ≤ s3 ∧ s3 < 18446744073709551616) (hz : (zs.length : Int) + 32 ≤ room) :
    Calls Tryd.prog 20 #[.pointer (some ⟨b, 0, none⟩), .agg #[.int .u64 s0, .int .u64 s1, .int .u64 s2, .int .u64 s3]] w fun e w' => e = .returned (.tuple #[]) ∧ FreshW w0 w' b room (zs ++ sumL s0 s1 s2 s3, 0) A ∧ Keeps A w w' := by
  have hal := hw.alloc (.cells #[.int .u64 s0, .int .u64 s1, .int .u64 s2, .int .u64 s3] 39)
  have HW0 : Hid (FreshW w0 (w.alloc (.cells #[.int .u64 s0, .int .u64 s1, .int .u64 s2, .int .u64 s3] 39)) b room (zs ++ sumT [s0, s1, s2, s3] 0, 0) A) := hid (by simpa [sumT] using hal.1.less (fun k hk => List.mem_cons_of_mem _ hk))
  have HK0 := hid hal.2
  have HB : Hid (∀ t, t < 4 → 0 ≤ [s0, s1, s2, s3].getD t 0 ∧ [s0, s1, s2, s3].getD t 0 < 18446744073709551616) := hid (fun t ht => by
    have h4 : t = 0 ∨ t = 1 ∨ t = 2 ∨ t = 3 := by omega
    rcases h4 with rfl | rfl | rfl | rfl
    · exact h0
    · exact h1
    · exact h2
    · exact h3)
  clear hal hw h0 h1 h2 h3
  go_enter Tryd.func20, Tryd.ntmps20
  go_wp2_with fail
  go_loopw [15] (fun i wr => ∃ t : Nat, t ≤ 4 ∧ i = .int .i64 t ∧ Hid (FreshW w0 wr b room (zs ++ sumT [s0, s1, s2, s3] t, 0) A) ∧ Hid (Keeps A w wr)) (fun i _ => 4 - (intOf i).toNat)
  case atStart => exact ⟨0, by omega, rfl, HW0, HK0⟩
  case round =>
    clear HW0 HK0
    obtain ⟨t, ht, rfl, hw, hk⟩ := hrel
    by_cases hlt : t < 4
    · have hl : ((zs ++ sumT [s0, s1, s2, s3] t).length : Int) + 8 ≤ room := by rw [List.length_append, sumT_length]; omega
      have hix := ptr_at s0 s1 s2 s3 t hlt
      have hb := HB.out t hlt
      have hsu : sumT [s0, s1, s2, s3] (t + 1) = sumT [s0, s1, s2, s3] t ++ le ([s0, s1, s2, s3].getD t 0) 8 := rfl
      obtain ⟨v, hv⟩ : ∃ v, [s0, s1, s2, s3].getD t 0 = v := ⟨_, rfl⟩
      rw [hv] at hix hb hsu
      have HN := hid (num_fit w0 wr b room _ A hw.out hr1 v 8 hb.1 (by omega) (by omega) hb.2 hl)
      have HSU := hid hsu
      have t1 : (t : Int) < 4 := by omega
      clear hl hw hsu hv hb
      go_wp2_with fail
      refine HN.out.mono ?_
      rintro e w2 ⟨rfl, hw2, hk2⟩
      have HW2 := hid hw2
      have HK2 := hid (hk.out.trans hk2)
      clear hw2 hk2 hk HN
      go_wp2_with fail
      go_roundw
      case rel => exact ⟨t + 1, by omega, by go_num, hid (by have h := HW2.out; rw [List.append_assoc] at h; rw [HSU.out]; exact h), HK2⟩
      case measure => simp [intOf]; omega
    · obtain rfl : t = 4 := by omega
      clear hlt
      rw [sumT_all] at hw
      rw [show ((4 : Nat) : Int) = 4 from rfl]
      go_wp2_with fail
      go_returns
      exact ⟨rfl, hw.out, hk.out⟩
/-- Four numbers within 64 bits. -/
structure S4.Bd (s : S4) : Prop where
  a : 0 ≤ s.a ∧ s.a < 18446744073709551616
  b : 0 ≤ s.b ∧ s.b < 18446744073709551616
  c : 0 ≤ s.c ∧ s.c < 18446744073709551616
  d : 0 ≤ s.d ∧ s.d < 18446744073709551616
theorem pairW_bd (x y : Int) : 0 ≤ pairW x y ∧ pairW x y < 18446744073709551616 := by
  unfold pairW
  show 0 ≤ IntKind.u64.wrap _ ∧ IntKind.u64.wrap _ < 18446744073709551616
  rw [IntKind.wrap_u64]
  omega
theorem shaD_Bd (zs : List Int) : (shaD zs).Bd := ⟨pairW_bd _ _, pairW_bd _ _, pairW_bd _ _, pairW_bd _ _⟩
def S4.z : S4 := ⟨0, 0, 0, 0⟩
theorem S4.z_Bd : S4.z.Bd := by unfold S4.z; exact ⟨by simp, by simp, by simp, by simp⟩
/-- A seal as bytes. -/
def selL (s : S4) : List Int := sumL s.a s.b s.c s.d
theorem selL_len (s : S4) : (selL s).length = 32 := sumL_length _ _ _ _
theorem selL_bd (s : S4) : ∀ z ∈ selL s, 0 ≤ z ∧ z < 256 := by
  intro z hz
  unfold selL sumL at hz
  simp only [List.mem_append] at hz
  rcases hz with ((h | h) | h) | h <;> exact le_bd _ _ z h
/-- A record's seal behind another one. -/
def sealR (a : S4) (hb : List Int) : S4 := shaD (selL a ++ hb)
set_option maxHeartbeats 3200000 in
theorem sealR_any (a : S4) (ha : a.Bd) (p : Option Addr) (n c : Nat) (zs : List Int) (w : World) (hn : zs.length = n) (hn1 : 1 ≤ n) (hnb : n ≤ 1000000) (hrd : Rd w p zs) (hb : ∀ z ∈ zs, 0 ≤ z ∧ z < 256) (hpr : Primes w) :
    Calls Tryd.prog 19 #[.agg a.arr, .slice p n c] w fun e w' => e = .returned (.agg (sealR a zs).arr) ∧ Frm [] w w' := by
  obtain ⟨A, hA1, hA2⟩ : ∃ A : List Nat, (∀ k ∈ blk p, k ∈ A) ∧ ∀ k ∈ A, k < w.heap.size := by
    refine ⟨blk p, fun k hk => hk, fun k hk => ?_⟩
    rcases hrd with h | ⟨g, o, he, hc⟩
    · rw [h] at hn; simp at hn; omega
    · rw [he] at hk
      simp [blk] at hk
      subst hk
      exact World.block_lt_of_cell? w _ (hc 0 (by omega))
  have HA1 := hid hA1
  have HA2 := hid hA2
  have HRD := hid hrd
  have HPR := hid hpr
  have HN := hid hn
  have HBD := hid hb
  have HAB := hid ha
  obtain ⟨S, hS⟩ : ∃ S, sealR a zs = S := ⟨_, rfl⟩
  have HS := hid hS
  rw [hS]
  have hrow := heap_alloc_new w (.cells a.arr 39)
  have hfa : Frm [] w (w.alloc (.cells a.arr 39)) := (Frm.refl _ _).alloc _
  obtain ⟨wa, hwa⟩ : ∃ z, w.alloc (.cells a.arr 39) = z := ⟨_, rfl⟩
  obtain ⟨ba, hba⟩ : ∃ z, w.heap.size = z := ⟨_, rfl⟩
  rw [hwa, hba] at hrow
  rw [hwa] at hfa
  have hrow2 := heap_alloc_new wa (.cells #[.int .u64 0, .int .u64 0, .int .u64 0, .int .u64 0] 39)
  have hfr : Frm [] wa (wa.alloc (.cells #[.int .u64 0, .int .u64 0, .int .u64 0, .int .u64 0] 39)) := (Frm.refl _ _).alloc _
  obtain ⟨wr, hwr⟩ : ∃ z, wa.alloc (.cells #[.int .u64 0, .int .u64 0, .int .u64 0, .int .u64 0] 39) = z := ⟨_, rfl⟩
  obtain ⟨br, hbr⟩ : ∃ z, wa.heap.size = z := ⟨_, rfl⟩
  rw [hwr, hbr] at hrow2
  rw [hwr] at hfr
  have hbs : ba + 1 = br := by rw [← hbr, ← hwa, ← hba]; simp
  have HBS := hid hbs
  have HFR : Hid (Frm [] w wr) := hid (hfa.trans hfr (by simp))
  have HRA : Hid (∀ W, Frm [] wr W → W.heap[ba]? = some (.cells a.arr 39 (0, 0))) := hid (fun W hf => hf.heap (hfr.heap hrow (by simp)) (by simp))
  have HRB : Hid (∀ W, Frm [] wr W → W.heap[br]? = some (.cells #[.int .u64 0, .int .u64 0, .int .u64 0, .int .u64 0] 39 (0, 0))) := hid (fun W hf => hf.heap hrow2 (by simp))
  have HWA := hid hwa
  have HWR := hid hwr
  have HBA := hid hba
  have HBR := hid hbr
  clear hA1 hA2 hrd hpr hn hb ha hS hrow hfa hwa hba hrow2 hfr hwr hbr hbs
  have hr : roomOf (32 + (n : Int)) = 32 + (n : Int) := by unfold roomOf; rw [if_neg (by omega), if_neg (by omega)]
  have HR := hid hr
  obtain ⟨s0, s1, s2, s3⟩ := a
  obtain ⟨t0, t1, t2, t3⟩ := S
  unfold S4.arr at HWA HRA ⊢
  simp only at HWA HRA ⊢
  clear hr
  go_enter Tryd.func19, Tryd.ntmps19
  go_upto_region 1 with fail
  first | rw [HWA.out] | skip
  first | rw [HBA.out] | skip
  first | rw [HBR.out] | skip
  first | rw [HBS.out] | skip
  first | rw [HWR.out] | skip
  go_wp2_with fail
  refine (newWriter_any (32 + (n : Int)) wr).mono ?_
  rintro e w2 ⟨rfl, hw2, hf2, _⟩
  rw [HR.out] at hw2
  have HW2 : Hid (FreshW wr w2 wr.heap.size (32 + (n : Int)) ([], 0) A) := hid ((FreshW.born hw2 hf2 (Nat.le_refl _)).with_ (fun k hk => Nat.lt_of_lt_of_le (HA2.out k hk) HFR.out.size))
  have HF2 := hid hf2
  obtain ⟨b, hb⟩ : ∃ b, wr.heap.size = b := ⟨_, rfl⟩
  rw [hb] at HW2 ⊢
  have q0 : w2.cell? ⟨ba, 0, none⟩ = some (.int .u64 s0) := by rw [cell_of_row _ _ _ _ _ _ (HRA.out w2 HF2.out)]; rfl
  have q1 : w2.cell? ⟨ba, 1, none⟩ = some (.int .u64 s1) := by rw [cell_of_row _ _ _ _ _ _ (HRA.out w2 HF2.out)]; rfl
  have q2 : w2.cell? ⟨ba, 2, none⟩ = some (.int .u64 s2) := by rw [cell_of_row _ _ _ _ _ _ (HRA.out w2 HF2.out)]; rfl
  have q3 : w2.cell? ⟨ba, 3, none⟩ = some (.int .u64 s3) := by rw [cell_of_row _ _ _ _ _ _ (HRA.out w2 HF2.out)]; rfl
  clear hw2 hf2 hb
  go_wp2_with fail
  refine (putSum_any wr w2 b (32 + (n : Int)) [] A HW2.out (by omega) s0 s1 s2 s3 HAB.out.a HAB.out.b HAB.out.c HAB.out.d (by simp only [List.length_nil]; omega)).mono ?_
  rintro e w3 ⟨rfl, hw3, _⟩
  have HW3 := hid hw3
  have HF3 := hid hw3.frm
  have HRD3 := hid (HRD.out.kept (HFR.out.trans HF3.out (by simp)) (by simp))
  clear hw3 HW2 q0 q1 q2 q3
  have hbf := bytes_fit wr w3 b (32 + (n : Int)) _ A HW3.out (by omega) p zs c (fun h => by have := HN.out; rw [h] at this; simp at this; omega) HRD3.out (by simp only [List.nil_append, sumL_length, HN.out]; omega)
  rw [HN.out] at hbf
  have HBF := hid hbf
  clear hbf
  go_wp2_with fail
  refine HBF.out.mono ?_
  rintro e w4 ⟨rfl, hw4, _⟩
  rw [List.nil_append] at hw4
  have HW4 := hid hw4
  have HLN : Hid ((sumL s0 s1 s2 s3 ++ zs).length = 32 + n) := hid (by rw [List.length_append, sumL_length, HN.out])
  clear hw4 HW3 HBF
  go_wp2_with fail
  refine (doneWF_ok wr w4 b (32 + (n : Int)) (sumL s0 s1 s2 s3 ++ zs) A HW4.out (by omega) (by rw [HLN.out]; omega)).mono ?_
  rintro e w5 ⟨g, rfl, hr5, hw5, _, _, _⟩
  rw [HLN.out]
  have HF5 := hid hw5.frm
  have HOF := hid (of_sha2 (some ⟨g, 0, none⟩) (32 + n) (32 + n) (sumL s0 s1 s2 s3 ++ zs) w5 HLN.out (Nat.le_refl _) (by omega) hr5 (fun z hz => by
    rcases List.mem_append.1 hz with h | h
    · exact selL_bd ⟨s0, s1, s2, s3⟩ z h
    · exact HBD.out z h) ((HPR.out.kept HFR.out).kept HF5.out))
  have hsr : shaD (sumL s0 s1 s2 s3 ++ zs) = ⟨t0, t1, t2, t3⟩ := HS.out
  rw [hsr] at HOF
  unfold S4.arr at HOF
  clear hr5 hw5 HW4 hsr
  go_wp2_with fail
  refine HOF.out.mono ?_
  rintro e w6 ⟨rfl, hf6⟩
  have HF6 : Hid (Frm [] wr w6) := hid (HF5.out.trans hf6 (by simp))
  clear hf6 HOF
  have hrw := heap_alloc_new w6 (.cells #[.int .u64 t0, .int .u64 t1, .int .u64 t2, .int .u64 t3] 39)
  have hf7 : Frm [] w6 (w6.alloc (.cells #[.int .u64 t0, .int .u64 t1, .int .u64 t2, .int .u64 t3] 39)) := (Frm.refl _ _).alloc _
  obtain ⟨w7, hw7⟩ : ∃ z, w6.alloc (.cells #[.int .u64 t0, .int .u64 t1, .int .u64 t2, .int .u64 t3] 39) = z := ⟨_, rfl⟩
  obtain ⟨bz, hbz⟩ : ∃ z, w6.heap.size = z := ⟨_, rfl⟩
  rw [hw7, hbz] at hrw
  rw [hw7] at hf7
  have HW7 := hid hw7
  have HBZ := hid hbz
  have HF7 : Hid (Frm [] wr w7) := hid (HF6.out.trans hf7 (by simp))
  have z0 : w7.cell? ⟨bz, 0, none⟩ = some (.int .u64 t0) := by rw [cell_of_row _ _ _ _ _ _ hrw]; rfl
  have z1 : w7.cell? ⟨bz, 1, none⟩ = some (.int .u64 t1) := by rw [cell_of_row _ _ _ _ _ _ hrw]; rfl
  have z2 : w7.cell? ⟨bz, 2, none⟩ = some (.int .u64 t2) := by rw [cell_of_row _ _ _ _ _ _ hrw]; rfl
  have z3 : w7.cell? ⟨bz, 3, none⟩ = some (.int .u64 t3) := by rw [cell_of_row _ _ _ _ _ _ hrw]; rfl
  have hr7 := HRB.out w7 HF7.out
  have y0 := frozen_of_row w7 br 0 _ _ hr7
  have y1 := frozen_of_row w7 br 1 _ _ hr7
  have y2 := frozen_of_row w7 br 2 _ _ hr7
  have y3 := frozen_of_row w7 br 3 _ _ hr7
  have v0 : w7.cell? ⟨br, 0, none⟩ = some (.int .u64 0) := by rw [cell_of_row _ _ _ _ _ _ hr7]; rfl
  have v1 : w7.cell? ⟨br, 1, none⟩ = some (.int .u64 0) := by rw [cell_of_row _ _ _ _ _ _ hr7]; rfl
  have v2 : w7.cell? ⟨br, 2, none⟩ = some (.int .u64 0) := by rw [cell_of_row _ _ _ _ _ _ hr7]; rfl
  have v3 : w7.cell? ⟨br, 3, none⟩ = some (.int .u64 0) := by rw [cell_of_row _ _ _ _ _ _ hr7]; rfl
  clear hw7 hbz hf7 hrw
  go_upto_region 6 with fail
  first | rw [HBZ.out] | skip
  first | rw [HW7.out] | skip
  go_wp2_with fail
  obtain ⟨h4, f4⟩ := set4 (y0 := .int .u64 t0) (y1 := .int .u64 t1) (y2 := .int .u64 t2) (y3 := .int .u64 t3) hr7
  obtain ⟨Wz, hWz⟩ : ∃ z, ((((w7.setCell ⟨br, 0, none⟩ (.int .u64 t0)).setCell ⟨br, 1, none⟩ (.int .u64 t1)).setCell ⟨br, 2, none⟩ (.int .u64 t2)).setCell ⟨br, 3, none⟩ (.int .u64 t3)) = z := ⟨_, rfl⟩
  rw [hWz] at h4 f4
  rw [hWz]
  have u0 : Wz.cell? ⟨br, 0, none⟩ = some (.int .u64 t0) := by rw [cell_of_row _ _ _ _ _ _ h4]; rfl
  have u1 : Wz.cell? ⟨br, 1, none⟩ = some (.int .u64 t1) := by rw [cell_of_row _ _ _ _ _ _ h4]; rfl
  have u2 : Wz.cell? ⟨br, 2, none⟩ = some (.int .u64 t2) := by rw [cell_of_row _ _ _ _ _ _ h4]; rfl
  have u3 : Wz.cell? ⟨br, 3, none⟩ = some (.int .u64 t3) := by rw [cell_of_row _ _ _ _ _ _ h4]; rfl
  refine bodyPost_ret (v := .agg #[.int .u64 t0, .int .u64 t1, .int .u64 t2, .int .u64 t3]) (by simp [results, Tryd.results19, go_sem, u0, u1, u2, u3]) rfl ?_
  exact ⟨rfl, (HFR.out.trans HF7.out (by simp)).trans f4 (fun i hi hl => by rw [List.mem_singleton] at hi; have := HBS.out; have := HBA.out; omega)⟩
end
section
open Go.RowKit Go.Lib
set_option maxRecDepth 100000

/-- Where a reader stands, and its error. -/
abbrev Rst := Nat × Int
def nuS (bs : List Int) (s : Rst) (k : Int) : Int × Nat × Int := readS 0 s.1 s.2 (numT (bs.drop s.1) k)
def txS (bs : List Int) (s : Rst) (k : Int) : List Int × Nat × Int := readS [] s.1 s.2 (textT (bs.drop s.1) k)
def byS (bs : List Int) (s : Rst) (k : Int) : List Int × Nat × Int := readS [] s.1 s.2 (bytesT (bs.drop s.1) k)
theorem nuS_bd {bs : List Int} (hb : ∀ z ∈ bs, 0 ≤ z ∧ z < 256) (s : Rst) (k : Int) (hk : k ≤ 7) : 0 ≤ (nuS bs s k).1 ∧ (nuS bs s k).1 < 72057594037927936 := by
  have h0 : (0 : Int) ≤ 0 ∧ (0 : Int) < 72057594037927936 := by omega
  unfold nuS readS
  split
  · exact h0
  · have hn : 0 ≤ (numT (bs.drop s.1) k).1 ∧ (numT (bs.drop s.1) k).1 < 72057594037927936 := by
      unfold numT
      split
      · exact h0
      · split
        · exact h0
        · rename_i h1 h2
          have hl : ((bs.drop s.1).take k.toNat).length ≤ 7 := by rw [List.length_take]; omega
          have h3 := leV_bd ((bs.drop s.1).take k.toNat) (fun z hz => hb z (List.mem_of_mem_drop (List.mem_of_mem_take hz)))
          have h4 : (2 : Int) ^ (8 * ((bs.drop s.1).take k.toNat).length) ≤ 72057594037927936 := by
            generalize ((bs.drop s.1).take k.toNat).length = x at hl
            have hx : x = 0 ∨ x = 1 ∨ x = 2 ∨ x = 3 ∨ x = 4 ∨ x = 5 ∨ x = 6 ∨ x = 7 := by omega
            rcases hx with rfl | rfl | rfl | rfl | rfl | rfl | rfl | rfl <;> decide
          exact ⟨h3.1, by show leV _ < _; omega⟩
    split
    · exact hn
    · exact hn
/-- A reader that is new since a world. -/
def FrR (w0 w : World) (b g : Nat) (bs : List Int) (s : Rst) : Prop := FreshR w0 w b g bs s.1 s.2
theorem FrR.k0 {w0 w w' : World} {b g : Nat} {bs : List Int} {s : Rst} (h : FrR w0 w b g bs s) (hf : Frm [] w w') : FrR w0 w' b g bs s := by
  obtain ⟨h1, h2, h3, h4⟩ := h
  exact ⟨h1.kept hf (by simp) (by simp), h2.trans hf (by simp), h3, h4⟩
theorem frR_set {w0 w w' : World} {b g bq : Nat} {bs : List Int} {s : Rst} (h : FrR w0 w b g bs s) (hf : Frm [bq] w w') (h1 : ¬ bq = b) (h2 : bq ≠ g) (h3 : w0.heap.size ≤ bq) : FrR w0 w' b g bs s := by
  obtain ⟨a1, a2, a3, a4⟩ := h
  exact ⟨a1.kept hf (by simpa using fun h => h1 h.symm) (by simpa using fun h => h2 h.symm), a2.trans hf (fun i hi hl => by rw [List.mem_singleton] at hi; omega), a3, a4⟩
section
variable (w0 w : World) (b g : Nat) (bs : List Int) (hb : ∀ z ∈ bs, 0 ≤ z ∧ z < 256) (s : Rst) (h : FrR w0 w b g bs s)
include hb h
theorem nR_any (k : Int) (hk0 : 0 ≤ k) (hk : k ≤ 8) : Calls Tryd.prog 23 #[.pointer (some ⟨b, 0, none⟩), .int .i64 k] w fun e w' => e = .returned (.int .u64 (nuS bs s k).1) ∧ FrR w0 w' b g bs (nuS bs s k).2 ∧ Frm [b] w w' :=
  (numR_any b g s.1 bs hb s.2 k w h.1 (by omega) (by omega)).mono (fun _ _ hh => ⟨hh.1, FreshR.next h hh.2.1 hh.2.2, hh.2.2⟩)
theorem tR_any (k : Int) (hk0 : 0 ≤ k) (hk : k ≤ 65535) : Calls Tryd.prog 64 #[.pointer (some ⟨b, 0, none⟩), .int .i64 k] w fun e w' => e = .returned (.string (strOfNums (txS bs s k).1)) ∧ FrR w0 w' b g bs (txS bs s k).2 ∧ Frm [b] w w' :=
  (textR_any b g s.1 bs hb s.2 k w h.1 (by omega) (by omega)).mono (fun _ _ hh => ⟨hh.1, FreshR.next h hh.2.1 hh.2.2, hh.2.2⟩)
omit hb in
theorem bR_any (k : Int) (hk0 : 0 ≤ k) (hk : k < 72057594037927936) : Calls Tryd.prog 71 #[.pointer (some ⟨b, 0, none⟩), .int .i64 k] w fun e w' => ∃ p n c, e = .returned (.slice p n c) ∧ n = (byS bs s k).1.length ∧ Own w' 5 (.slice p n c) (byS bs s k).1 ∧ (∀ k ∈ blk p, w.heap.size ≤ k) ∧ FrR w0 w' b g bs (byS bs s k).2 ∧ Frm [b] w w' := by
  refine (bytesR_any b g s.1 bs s.2 k w h.1 (by omega) (by omega)).mono ?_
  rintro e w' ⟨p, n, c, he, h1, h2, h3, h4, h5⟩
  exact ⟨p, n, c, he, h1, h2, h3, FreshR.next h h4 h5, h5⟩
omit hb in
theorem lR_any : Calls Tryd.prog 60 #[.pointer (some ⟨b, 0, none⟩)] w fun e w' => e = .returned (.int .i64 ((bs.length - s.1 : Nat) : Int)) ∧ ∃ n, w' = w.drewN n := left_any b g s.1 bs s.2 w h.1
end
/-- So many numbers, each so much less than it stands there. -/
def kpS (bs : List Int) (more k : Int) (s : Rst) : Nat → List Int × Rst
  | 0 => ([], s)
  | t + 1 => ((kpS bs more k s t).1 ++ [(nuS bs (kpS bs more k s t).2 k).1 - more], (nuS bs (kpS bs more k s t).2 k).2)
theorem kpS_len (bs : List Int) (more k : Int) (s : Rst) : ∀ t, (kpS bs more k s t).1.length = t
  | 0 => rfl
  | t + 1 => by rw [kpS, List.length_append, kpS_len bs more k s t]; rfl
/-- How many numbers are taken up. -/
def kpN (bs : List Int) (k : Nat) (s : Rst) : Nat := min (nuS bs s 2).1.toNat ((bs.length - (nuS bs s 2).2.1) / k + 1)
def tkK (bs : List Int) (more : Int) (k : Nat) (s : Rst) : List Int × Rst := kpS bs more k (nuS bs s 2).2 (kpN bs k s)
theorem infoInR : (Tryd.prog.info? 3).map (fun i => (i.zero, i.size, i.bytes)) = some (some (.int .i64 0), 1, 8) := by kernel_rfl
set_option maxHeartbeats 6400000 in
theorem takeKeep4_any (w0 w : World) (b g : Nat) (bs : List Int) (hb : ∀ z ∈ bs, 0 ≤ z ∧ z < 256) (hl : bs.length ≤ 2048) (s : Rst) (h : FrR w0 w b g bs s) :
    Calls Tryd.prog 70 #[.pointer (some ⟨b, 0, none⟩), .int .i64 0, .int .i64 4] w fun e w' => ∃ p n c, e = .returned (.slice p n c) ∧ (tkK bs 0 4 s).1.length = n ∧ w'.ownsRow 0 3 1 (.slice p n c) n ((tkK bs 0 4 s).1.map (Value.int .i64)) ∧ (∀ k ∈ blk p, w.heap.size ≤ k) ∧ FrR w0 w' b g bs (tkK bs 0 4 s).2 ∧ Frm [b] w w' := by
  obtain ⟨PO, hPO⟩ : ∃ PO : Ending → World → Prop, (fun e w' => ∃ p n c, e = .returned (.slice p n c) ∧ (tkK bs 0 4 s).1.length = n ∧ w'.ownsRow 0 3 1 (.slice p n c) n ((tkK bs 0 4 s).1.map (Value.int .i64)) ∧ (∀ k ∈ blk p, w.heap.size ≤ k) ∧ FrR w0 w' b g bs (tkK bs 0 4 s).2 ∧ Frm [b] w w') = PO := ⟨_, rfl⟩
  rw [hPO]
  have HP : Hid (∀ p n c w', (tkK bs 0 4 s).1.length = n → w'.ownsRow 0 3 1 (.slice p n c) n ((tkK bs 0 4 s).1.map (Value.int .i64)) → (∀ k ∈ blk p, w.heap.size ≤ k) → FrR w0 w' b g bs (tkK bs 0 4 s).2 → Frm [b] w w' → PO (.returned (.slice p n c)) w') := hid (fun p n c w' h1 h2 h3 h4 h5 => by rw [← hPO]; exact ⟨p, n, c, rfl, h1, h2, h3, h4, h5⟩)
  have HN1 := hid (nR_any w0 w b g bs hb s h 2 (by omega) (by omega))
  have HBS := hid hb
  have HW0 : Hid (w0.heap.size ≤ w.heap.size) := hid h.2.1.size
  have hbd := nuS_bd hb s 2 (by omega)
  obtain ⟨K, hK⟩ : ∃ K, kpN bs 4 s = K := ⟨_, rfl⟩
  have HTK : Hid (tkK bs 0 4 s = kpS bs 0 4 (nuS bs s 2).2 K) := hid (by rw [← hK]; rfl)
  unfold kpN at hK
  obtain ⟨v0, hv0⟩ : ∃ v, nuS bs s 2 = v := ⟨_, rfl⟩
  rw [hv0] at HN1 hbd HTK hK
  obtain ⟨TK, hTK⟩ : ∃ z, tkK bs 0 4 s = z := ⟨_, rfl⟩
  rw [hTK] at HP HTK
  have hKb : K ≤ 2049 := by omega
  have hwr : IntKind.i64.wrap v0.1 = v0.1 := by rw [IntKind.wrap_i64]; omega
  obtain ⟨lf, hlf⟩ : ∃ z : Nat, bs.length - v0.2.1 = z := ⟨_, rfl⟩
  have HLF := hid (fun W (hW : FrR w0 W b g bs v0.2) => lR_any w0 W b g bs v0.2 hW)
  simp only [hlf] at HLF
  rw [hlf] at hK
  have hlfb : lf ≤ 2048 := by omega
  have hmin : ∀ (ts : Array TypeId) (ty : TypeId) (W : World), Sem.run Tryd.prog (Builtin.min_ ts ty #[.int .i64 v0.1, .int .i64 ((lf : Int) / 4 + 1)]) W = .ok (.int .i64 (K : Int)) W := by
    intro ts ty W
    have hm := run_min_int2 (P := Tryd.prog) (w := W) ts ty .i64 .i64 v0.1 ((lf : Int) / 4 + 1)
    have hKe : (if ((lf : Int) / 4 + 1 < v0.1) then ((lf : Int) / 4 + 1) else v0.1) = (K : Int) := by
      split <;> omega
    rwa [hKe] at hm
  clear h hb hv0 hTK hK hlf hPO hl
  go_enter Tryd.func70, Tryd.ntmps70
  go_wp2_with fail
  refine HN1.out.mono ?_
  rintro e w1 ⟨rfl, hr1, hf1⟩
  have HR1 := hid hr1
  have HF1 := hid hf1
  clear hr1 hf1 HN1
  go_wp2_with fail
  refine (HLF.out w1 HR1.out).mono ?_
  rintro e _ ⟨rfl, n2, rfl⟩
  have HR2 := hid (HR1.out.k0 ((Frm.refl [] w1).drewN n2))
  have HF2 := hid (HF1.out.trans ((Frm.refl [] w1).drewN n2) (by simp))
  obtain ⟨w2, hw2⟩ : ∃ z, w1.drewN n2 = z := ⟨_, rfl⟩
  rw [hw2] at HR2 HF2 ⊢
  clear hw2 HR1 HF1 HLF
  go_wp2_with fail
  clear hmin hwr hbd
  go_loopw [7, 17] (fun l i wr => ∃ (t : Nat) (p : Option Addr) (c : Nat), t ≤ K ∧ l = .slice p t c ∧ i = .int .i64 (t : Int) ∧ Hid (wr.ownsRow 0 3 1 (.slice p t c) t ((kpS bs 0 4 v0.2 t).1.map (Value.int .i64))) ∧ Hid (∀ k ∈ blk p, w.heap.size ≤ k ∧ k ≠ b ∧ k ≠ g) ∧ Hid (FrR w0 wr b g bs (kpS bs 0 4 v0.2 t).2) ∧ Hid (Frm [b] w wr)) (fun _ i _ => K - (intOf i).toNat)
  case atStart => exact ⟨0, none, 0, by omega, rfl, rfl, hid (World.ownsRow_nil _ _ _ _), hid (by simp [blk]), HR2, HF2⟩
  case round =>
    obtain ⟨t, p, c, ht, rfl, rfl, ho, hnw, hr, hf⟩ := hrel
    have HO := hid ho.out
    have HNW := hid hnw.out
    have HR := hid hr.out
    have HF := hid hf.out
    clear ho hnw hr hf HR2 HF2
    by_cases hlt : t < K
    case neg =>
      obtain rfl : t = K := by omega
      have HX : Hid (PO (.returned (.slice p t c)) wr) := hid (HP.out p t c wr (by rw [HTK.out, kpS_len]) (by rw [HTK.out]; exact HO.out) (fun k hk => (HNW.out k hk).1) (by rw [HTK.out]; exact HR.out) HF.out)
      clear hlt
      go_wp2_with fail
      first | go_returns | skip
      exact HX.out
    have t1 : (t : Int) < (K : Int) := by omega
    have HSU : Hid (kpS bs 0 4 v0.2 (t + 1) = ((kpS bs 0 4 v0.2 t).1 ++ [(nuS bs (kpS bs 0 4 v0.2 t).2 4).1 - 0], (nuS bs (kpS bs 0 4 v0.2 t).2 4).2)) := hid rfl
    have hll := kpS_len bs 0 4 v0.2 t
    obtain ⟨LL, hLL⟩ : ∃ z, kpS bs 0 4 v0.2 t = z := ⟨_, rfl⟩
    rw [hLL] at HO HR HSU hll
    have HC := hid (nR_any w0 wr b g bs HBS.out LL.2 HR.out 4 (by omega) (by omega))
    have hbd := nuS_bd HBS.out LL.2 4 (by omega)
    obtain ⟨v, hv⟩ : ∃ z, nuS bs LL.2 4 = z := ⟨_, rfl⟩
    rw [hv] at HC hbd HSU
    have HLL := hid hll
    have hwr : IntKind.i64.wrap v.1 = v.1 := by rw [IntKind.wrap_i64]; omega
    have hw64 : wrap64 (v.1 - 0) = v.1 - 0 := by unfold wrap64; omega
    clear hLL hv hll
    go_wp2_with fail
    refine HC.out.mono ?_
    rintro e x7 ⟨rfl, hr, hf⟩
    have HR7 := hid hr
    have HF7 := hid hf
    have HA := hid ((Frm.refl [] x7).alloc (.cells #[.int .i64 (v.1)] 3))
    have HRV := hid (rv_block (heap_alloc_new x7 (.cells #[.int .i64 (v.1)] 3)))
    have HOW := hid (ownsRow_kept (ownsRow_kept HO.out hf (fun k hk hm => by rw [List.mem_singleton] at hm; exact (HNW.out k hk).2.1 hm)) HA.out (by simp))
    have ht46 : t ≤ 2049 := by omega
    clear hr hf HC
    go_wp2_with (at_builtin; refine wpList_appV rfl _ _ 28 rfl 3 1 8 _ Tryd.underlying28 infoInR rfl (by decide) p t c (LL.1.map (Value.int .i64)) rfl HOW.out (some ⟨x7.heap.size, 0, none⟩) 1 1 [.int .i64 (v.1)] rfl rfl (by simp) HRV.out (by intro u hu; simp at hu; subst hu; rfl) (by unfold maxLen; omega) (by omega) ?_)
    intro p8 c8 w8 ho8 hf8 hb8
    have hfa : Frm (blk p) x7 w8 := (HA.out.mono (by simp)).trans hf8.out (fun i hi _ => hi)
    have hr7 := HR7.out
    have hg := hr7.1.cells
    have HNX : Hid (w8.ownsRow 0 3 1 (.slice p8 (t + 1) c8) (t + 1) ((kpS bs 0 4 v0.2 (t + 1)).1.map (Value.int .i64)) ∧ (∀ k ∈ blk p8, w.heap.size ≤ k ∧ k ≠ b ∧ k ≠ g) ∧ FrR w0 w8 b g bs (kpS bs 0 4 v0.2 (t + 1)).2 ∧ Frm [b] w w8) := hid (by
      have h1 := HF.out.size
      have h2 := HF7.out.size
      rw [HSU.out]
      refine ⟨?_, fun k hk => ?_, ⟨hr7.1.kept hfa (fun hm => (HNW.out b hm).2.1 rfl) (fun hm => (HNW.out g hm).2.2 rfl), hr7.2.1.trans hfa (fun i hi hl => by have h3 := (HNW.out i hi).1; have h4 := HW0.out; omega), hr7.2.2⟩, (HF.out.trans HF7.out (fun i hi _ => hi)).trans hfa (fun i hi hl => by have := (HNW.out i hi).1; omega)⟩
      · have h := ho8.out
        simpa using h
      · rcases hb8.out k hk with h | h
        · exact HNW.out k h
        · have e1 : (x7.alloc (.cells #[.int .i64 (v.1)] 3)).heap.size = x7.heap.size + 1 := by simp
          exact ⟨by omega, by have := hg.1; omega, by have := hg.2.1; omega⟩)
    clear ho8 hf8 hb8 hfa hr7 hg HRV HOW HA HR7 HF7 hbd hwr hw64 ht46
    go_wp2_with fail
    go_roundw
    case rel => exact ⟨t + 1, p8, c8, by omega, rfl, by go_num, hid HNX.out.1, hid HNX.out.2.1, hid HNX.out.2.2.1, hid HNX.out.2.2.2⟩
    case measure => first | (simp [intOf]; done) | (simp [intOf]; omega)
set_option maxHeartbeats 6400000 in
theorem takeKeep2_any (w0 w : World) (b g : Nat) (bs : List Int) (hb : ∀ z ∈ bs, 0 ≤ z ∧ z < 256) (hl : bs.length ≤ 2048) (s : Rst) (h : FrR w0 w b g bs s) :
    Calls Tryd.prog 70 #[.pointer (some ⟨b, 0, none⟩), .int .i64 1, .int .i64 2] w fun e w' => ∃ p n c, e = .returned (.slice p n c) ∧ (tkK bs 1 2 s).1.length = n ∧ w'.ownsRow 0 3 1 (.slice p n c) n ((tkK bs 1 2 s).1.map (Value.int .i64)) ∧ (∀ k ∈ blk p, w.heap.size ≤ k) ∧ FrR w0 w' b g bs (tkK bs 1 2 s).2 ∧ Frm [b] w w' := by
  obtain ⟨PO, hPO⟩ : ∃ PO : Ending → World → Prop, (fun e w' => ∃ p n c, e = .returned (.slice p n c) ∧ (tkK bs 1 2 s).1.length = n ∧ w'.ownsRow 0 3 1 (.slice p n c) n ((tkK bs 1 2 s).1.map (Value.int .i64)) ∧ (∀ k ∈ blk p, w.heap.size ≤ k) ∧ FrR w0 w' b g bs (tkK bs 1 2 s).2 ∧ Frm [b] w w') = PO := ⟨_, rfl⟩
  rw [hPO]
  have HP : Hid (∀ p n c w', (tkK bs 1 2 s).1.length = n → w'.ownsRow 0 3 1 (.slice p n c) n ((tkK bs 1 2 s).1.map (Value.int .i64)) → (∀ k ∈ blk p, w.heap.size ≤ k) → FrR w0 w' b g bs (tkK bs 1 2 s).2 → Frm [b] w w' → PO (.returned (.slice p n c)) w') := hid (fun p n c w' h1 h2 h3 h4 h5 => by rw [← hPO]; exact ⟨p, n, c, rfl, h1, h2, h3, h4, h5⟩)
  have HN1 := hid (nR_any w0 w b g bs hb s h 2 (by omega) (by omega))
  have HBS := hid hb
  have HW0 : Hid (w0.heap.size ≤ w.heap.size) := hid h.2.1.size
  have hbd := nuS_bd hb s 2 (by omega)
  obtain ⟨K, hK⟩ : ∃ K, kpN bs 2 s = K := ⟨_, rfl⟩
  have HTK : Hid (tkK bs 1 2 s = kpS bs 1 2 (nuS bs s 2).2 K) := hid (by rw [← hK]; rfl)
  unfold kpN at hK
  obtain ⟨v0, hv0⟩ : ∃ v, nuS bs s 2 = v := ⟨_, rfl⟩
  rw [hv0] at HN1 hbd HTK hK
  obtain ⟨TK, hTK⟩ : ∃ z, tkK bs 1 2 s = z := ⟨_, rfl⟩
  rw [hTK] at HP HTK
  have hKb : K ≤ 2049 := by omega
  have hwr : IntKind.i64.wrap v0.1 = v0.1 := by rw [IntKind.wrap_i64]; omega
  obtain ⟨lf, hlf⟩ : ∃ z : Nat, bs.length - v0.2.1 = z := ⟨_, rfl⟩
  have HLF := hid (fun W (hW : FrR w0 W b g bs v0.2) => lR_any w0 W b g bs v0.2 hW)
  simp only [hlf] at HLF
  rw [hlf] at hK
  have hlfb : lf ≤ 2048 := by omega
  have hmin : ∀ (ts : Array TypeId) (ty : TypeId) (W : World), Sem.run Tryd.prog (Builtin.min_ ts ty #[.int .i64 v0.1, .int .i64 ((lf : Int) / 2 + 1)]) W = .ok (.int .i64 (K : Int)) W := by
    intro ts ty W
    have hm := run_min_int2 (P := Tryd.prog) (w := W) ts ty .i64 .i64 v0.1 ((lf : Int) / 2 + 1)
    have hKe : (if ((lf : Int) / 2 + 1 < v0.1) then ((lf : Int) / 2 + 1) else v0.1) = (K : Int) := by
      split <;> omega
    rwa [hKe] at hm
  clear h hb hv0 hTK hK hlf hPO hl
  go_enter Tryd.func70, Tryd.ntmps70
  go_wp2_with fail
  refine HN1.out.mono ?_
  rintro e w1 ⟨rfl, hr1, hf1⟩
  have HR1 := hid hr1
  have HF1 := hid hf1
  clear hr1 hf1 HN1
  go_wp2_with fail
  refine (HLF.out w1 HR1.out).mono ?_
  rintro e _ ⟨rfl, n2, rfl⟩
  have HR2 := hid (HR1.out.k0 ((Frm.refl [] w1).drewN n2))
  have HF2 := hid (HF1.out.trans ((Frm.refl [] w1).drewN n2) (by simp))
  obtain ⟨w2, hw2⟩ : ∃ z, w1.drewN n2 = z := ⟨_, rfl⟩
  rw [hw2] at HR2 HF2 ⊢
  clear hw2 HR1 HF1 HLF
  go_wp2_with fail
  clear hmin hwr hbd
  go_loopw [7, 17] (fun l i wr => ∃ (t : Nat) (p : Option Addr) (c : Nat), t ≤ K ∧ l = .slice p t c ∧ i = .int .i64 (t : Int) ∧ Hid (wr.ownsRow 0 3 1 (.slice p t c) t ((kpS bs 1 2 v0.2 t).1.map (Value.int .i64))) ∧ Hid (∀ k ∈ blk p, w.heap.size ≤ k ∧ k ≠ b ∧ k ≠ g) ∧ Hid (FrR w0 wr b g bs (kpS bs 1 2 v0.2 t).2) ∧ Hid (Frm [b] w wr)) (fun _ i _ => K - (intOf i).toNat)
  case atStart => exact ⟨0, none, 0, by omega, rfl, rfl, hid (World.ownsRow_nil _ _ _ _), hid (by simp [blk]), HR2, HF2⟩
  case round =>
    obtain ⟨t, p, c, ht, rfl, rfl, ho, hnw, hr, hf⟩ := hrel
    have HO := hid ho.out
    have HNW := hid hnw.out
    have HR := hid hr.out
    have HF := hid hf.out
    clear ho hnw hr hf HR2 HF2
    by_cases hlt : t < K
    case neg =>
      obtain rfl : t = K := by omega
      have HX : Hid (PO (.returned (.slice p t c)) wr) := hid (HP.out p t c wr (by rw [HTK.out, kpS_len]) (by rw [HTK.out]; exact HO.out) (fun k hk => (HNW.out k hk).1) (by rw [HTK.out]; exact HR.out) HF.out)
      clear hlt
      go_wp2_with fail
      first | go_returns | skip
      exact HX.out
    have t1 : (t : Int) < (K : Int) := by omega
    have HSU : Hid (kpS bs 1 2 v0.2 (t + 1) = ((kpS bs 1 2 v0.2 t).1 ++ [(nuS bs (kpS bs 1 2 v0.2 t).2 2).1 - 1], (nuS bs (kpS bs 1 2 v0.2 t).2 2).2)) := hid rfl
    have hll := kpS_len bs 1 2 v0.2 t
    obtain ⟨LL, hLL⟩ : ∃ z, kpS bs 1 2 v0.2 t = z := ⟨_, rfl⟩
    rw [hLL] at HO HR HSU hll
    have HC := hid (nR_any w0 wr b g bs HBS.out LL.2 HR.out 2 (by omega) (by omega))
    have hbd := nuS_bd HBS.out LL.2 2 (by omega)
    obtain ⟨v, hv⟩ : ∃ z, nuS bs LL.2 2 = z := ⟨_, rfl⟩
    rw [hv] at HC hbd HSU
    have HLL := hid hll
    have hwr : IntKind.i64.wrap v.1 = v.1 := by rw [IntKind.wrap_i64]; omega
    have hw64 : wrap64 (v.1 - 1) = v.1 - 1 := by unfold wrap64; omega
    clear hLL hv hll
    go_wp2_with fail
    refine HC.out.mono ?_
    rintro e x7 ⟨rfl, hr, hf⟩
    have HR7 := hid hr
    have HF7 := hid hf
    have HA := hid ((Frm.refl [] x7).alloc (.cells #[.int .i64 (v.1 - 1)] 3))
    have HRV := hid (rv_block (heap_alloc_new x7 (.cells #[.int .i64 (v.1 - 1)] 3)))
    have HOW := hid (ownsRow_kept (ownsRow_kept HO.out hf (fun k hk hm => by rw [List.mem_singleton] at hm; exact (HNW.out k hk).2.1 hm)) HA.out (by simp))
    have ht46 : t ≤ 2049 := by omega
    clear hr hf HC
    go_wp2_with (at_builtin; refine wpList_appV rfl _ _ 28 rfl 3 1 8 _ Tryd.underlying28 infoInR rfl (by decide) p t c (LL.1.map (Value.int .i64)) rfl HOW.out (some ⟨x7.heap.size, 0, none⟩) 1 1 [.int .i64 (v.1 - 1)] rfl rfl (by simp) HRV.out (by intro u hu; simp at hu; subst hu; rfl) (by unfold maxLen; omega) (by omega) ?_)
    intro p8 c8 w8 ho8 hf8 hb8
    have hfa : Frm (blk p) x7 w8 := (HA.out.mono (by simp)).trans hf8.out (fun i hi _ => hi)
    have hr7 := HR7.out
    have hg := hr7.1.cells
    have HNX : Hid (w8.ownsRow 0 3 1 (.slice p8 (t + 1) c8) (t + 1) ((kpS bs 1 2 v0.2 (t + 1)).1.map (Value.int .i64)) ∧ (∀ k ∈ blk p8, w.heap.size ≤ k ∧ k ≠ b ∧ k ≠ g) ∧ FrR w0 w8 b g bs (kpS bs 1 2 v0.2 (t + 1)).2 ∧ Frm [b] w w8) := hid (by
      have h1 := HF.out.size
      have h2 := HF7.out.size
      rw [HSU.out]
      refine ⟨?_, fun k hk => ?_, ⟨hr7.1.kept hfa (fun hm => (HNW.out b hm).2.1 rfl) (fun hm => (HNW.out g hm).2.2 rfl), hr7.2.1.trans hfa (fun i hi hl => by have h3 := (HNW.out i hi).1; have h4 := HW0.out; omega), hr7.2.2⟩, (HF.out.trans HF7.out (fun i hi _ => hi)).trans hfa (fun i hi hl => by have := (HNW.out i hi).1; omega)⟩
      · have h := ho8.out
        simpa using h
      · rcases hb8.out k hk with h | h
        · exact HNW.out k h
        · have e1 : (x7.alloc (.cells #[.int .i64 (v.1 - 1)] 3)).heap.size = x7.heap.size + 1 := by simp
          exact ⟨by omega, by have := hg.1; omega, by have := hg.2.1; omega⟩)
    clear ho8 hf8 hb8 hfa hr7 hg HRV HOW HA HR7 HF7 hbd hwr hw64 ht46
    go_wp2_with fail
    go_roundw
    case rel => exact ⟨t + 1, p8, c8, by omega, rfl, by go_num, hid HNX.out.1, hid HNX.out.2.1, hid HNX.out.2.2.1, hid HNX.out.2.2.2⟩
    case measure => first | (simp [intOf]; done) | (simp [intOf]; omega)
end
end Go.Proofs.YtajfjkfnmmfhmaaDoor
