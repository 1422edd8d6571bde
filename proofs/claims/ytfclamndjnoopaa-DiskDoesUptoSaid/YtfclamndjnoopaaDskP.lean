/- Disks and their power: what the law's awake does. -/
import Derived.Test.YtfclamndjnoopaaDskO
namespace Go.Proofs.Ytfclamndjnoopaa
open Go.RowKit Go.Lib
set_option maxRecDepth 100000

/-- A Write that nothing stops. -/
theorem wr_free {S : PSt} {D : DSt} {at_ m : Nat} {bs : List Int} (ho : S.out = false) (hb : S.bounded = false) (hf : D.failed = false) (hl : bs.length = m * 128) (hm : m ≤ D.n) (ha : at_ + m ≤ D.n) :
    wrE S D at_ bs = 0 ∧ S.wr D at_ bs = S.wrote D at_ bs m := by
  have hd : bs.length / 128 = m := by omega
  have h0 : wrAsk S D at_ bs = 0 := by
    unfold wrAsk askE manyW
    rw [ho, hf, if_pos (show bs.length % 128 = 0 by omega), hd]
    simp only [Bool.false_eq_true, if_false]
    rw [if_neg (by omega)]
  have hj : jW S m = m := by unfold jW; rw [hb]; rfl
  have hne : ¬ (wrAsk S D at_ bs ≠ 0) := fun h => h h0
  unfold wrE PSt.wr
  rw [hd, hj, if_neg hne, if_neg hne]
  refine ⟨by simp, ?_⟩
  simp only [decide_true, Bool.not_true, Int.toNat_natCast]
  unfold PSt.wrote
  simp [ho]
theorem sec_rep (x : Int) : sec (List.replicate 128 x) 0 = List.replicate 128 x := by simp [sec]
/-- A row of bytes of one's own that was made now lies in no rack that was there. -/
theorem inB_new {w0 w : World} {F : List Nat} {g : Nat} {bs : List Int} (hg : w.heap[g]? = some (.cells (bv bs).toArray 5 (0, 0))) (hz : ∀ z ∈ bs, 0 ≤ z ∧ z < 256) (hn : w0.heap.size ≤ g) (hF : ∀ k ∈ F, k < w0.heap.size) : InB w F (some ⟨g, 0, none⟩) bs :=
  ⟨rd_blockD hg, hz, fun _ k hk hm => by simp [blk] at hk; subst hk; have := hF _ hm; omega⟩
/-- Bytes that came in lie in no rack that is new. -/
theorem inB_arg {w0 w : World} {F : List Nat} {p : Option Addr} {bs : List Int} (hr : Rd w0 p bs) (hz : ∀ z ∈ bs, 0 ≤ z ∧ z < 256) (hf : Frm [] w0 w) (hF : ∀ k ∈ F, w0.heap.size ≤ k) : InB w F p bs :=
  ⟨hr.kept hf (by simp), hz, fun hne k hk hm => by
    rcases hr with h | ⟨g, o, rfl, hc⟩
    · exact hne h
    · simp [blk] at hk
      subst hk
      have h0 : 0 < bs.length := List.length_pos_iff.2 hne
      have := World.block_lt_of_cell? w0 _ (hc 0 h0)
      have := hF _ hm
      simp at *
      omega⟩
theorem stp_new {w0 w w' : World} {F F' : List Nat} (hf : Frm [] w0 w) (hF : ∀ k ∈ F, w0.heap.size ≤ k) (h : Stp F F' w w') : Frm [] w0 w' ∧ ∀ k ∈ F', w0.heap.size ≤ k :=
  ⟨hf.trans h.fr (fun k hk hl => by have := hF k hk; omega), fun k hk => (h.nb k hk).elim (hF k) (fun h1 => by have := hf.size; omega)⟩
def r7 : List Int := List.replicate 128 7
def r9 : List Int := List.replicate 128 9
def aS1 (D : DSt) : PSt := PSt.new.wr D 1 r7
def aD1 (D : DSt) : DSt := D.wr PSt.new 1 r7
def aS2 (D : DSt) : PSt := flS (aS1 D) (aD1 D)
def aD2 (D : DSt) : DSt := flD (aS1 D) (aD1 D)
def aS3 (D : DSt) : PSt := (aS2 D).wr (aD2 D) 2 r9
def aD3 (D : DSt) : DSt := (aD2 D).wr (aS2 D) 2 r9
def aS4 (D : DSt) : PSt := (aS3 D).up
def aD4 (D : DSt) : DSt := DSt.up (aS3 D) [] (aD3 D)
/-- What stands in each call of awake. -/
structure Awk (D : DSt) : Prop where
  w1 : wrE PSt.new D 1 r7 = 0
  f1 : downE (aS1 D) (aD1 D) = 0
  b1 : (aS1 D).writes = 1
  w2 : wrE (aS2 D) (aD2 D) 2 r9 = 0
  b2 : (aS2 D).writes = 1 ∧ (aS2 D).ws.length = 0
  n3 : (aS3 D).ws.length = 1
  r4 : askE (aS4 D) (aD4 D) 0 4 = 0
  s4 : (aS4 D).writes = 2
  d4 : (aD4 D).seen = splice (List.replicate 512 0) 128 r7
  n1 : (aD1 D).db = D.db
  n2 : (aD2 D).db = D.db
  n3' : (aD3 D).db = D.db
  n4 : (aD4 D).db = D.db
theorem awk {D : DSt} (hn : D.n = 4) (hf : D.failed = false) (hp : D.plat = List.replicate 512 0) : Awk D := by
  obtain ⟨a1, a2⟩ := wr_free (S := PSt.new) (D := D) (at_ := 1) (m := 1) (bs := r7) rfl rfl hf rfl (by omega) (by omega)
  have a2' : aS1 D = PSt.new.wrote D 1 r7 1 := a2
  have e1 : (aS1 D).ws = [⟨D.db, 1, sec r7 0⟩] := by rw [a2']; rfl
  have h1 : downE (aS1 D) (aD1 D) = 0 := by
    unfold downE
    rw [a2']
    show (if false = true then (5 : Int) else if D.failed = true then 30 else 0) = 0
    rw [hf]; rfl
  have e2 : aS2 D = (aS1 D).rest D.db := by unfold aS2 flS; rw [if_pos h1]; rfl
  have e3 : aD2 D = (aD1 D).flush (aS1 D) := by unfold aD2 flD; rw [if_pos h1]
  have e4 : (aS2 D).ws = [] := by rw [e2]; show restW D.db (aS1 D).ws = []; rw [e1]; simp [restW]
  have hn2 : (aD2 D).n = 4 := by rw [e3]; exact hn
  have hf2 : (aD2 D).failed = false := by rw [e3]; exact hf
  obtain ⟨c1, c2⟩ := wr_free (S := aS2 D) (D := aD2 D) (at_ := 2) (m := 1) (bs := r9) (by rw [e2, a2']; rfl) (by rw [e2, a2']; rfl) hf2 rfl (by omega) (by omega)
  have c2' : aS3 D = (aS2 D).wrote (aD2 D) 2 r9 1 := c2
  have p2 : (aD2 D).plat = splice (List.replicate 512 0) 128 r7 := by
    rw [e3]
    show over D.db D.plat (aS1 D).ws = _
    rw [e1, hp, show sec r7 0 = r7 from sec_rep 7]
    exact over_same (x := ⟨D.db, 1, r7⟩) _ rfl
  have w1 : (aS1 D).writes = 1 := by rw [a2']; rfl
  have w2 : (aS2 D).writes = 1 := by rw [e2]; exact w1
  refine ⟨a1, h1, w1, c1, ⟨w2, by rw [e4]; rfl⟩, ?_, ?_, ?_, ?_, rfl, by rw [e3]; rfl, by unfold aD3; show (aD2 D).db = _; rw [e3]; rfl, by unfold aD4; show (aD2 D).db = _; rw [e3]; rfl⟩
  · rw [c2']
    show ((aS2 D).ws ++ wts _ _ _ _).length = 1
    rw [e4, List.nil_append, wts_length]
  · unfold askE
    show (if false = true then (5 : Int) else if (aD2 D).failed = true then 30 else if (0 : Int) < 0 ∨ (4 : Int) < 0 ∨ ((aD2 D).n : Int) < 4 ∨ ((aD2 D).n : Int) - 4 < 0 then 1 else 0) = 0
    rw [hf2, hn2]; rfl
  · show (aS3 D).writes = 2
    rw [c2']
    show (aS2 D).writes + ((1 : Nat) : Int) = 2
    rw [w2]; rfl
  · show over _ (aD2 D).plat (keptW [] (aS3 D).ws) = _
    rw [p2]
    have : keptW [] (aS3 D).ws = [] := by simp [keptW]
    rw [this]; rfl
theorem awk_bytes : (splice (List.replicate 512 0) 128 r7)[128]? = some 7 ∧ (splice (List.replicate 512 0) 128 r7)[255]? = some 7 ∧ (splice (List.replicate 512 0) 128 r7)[256]? = some 0 := by
  have h := spl_get (List.replicate 512 0) r7 128 (by simp [r7])
  refine ⟨?_, ?_, ?_⟩ <;> rw [h] <;> simp [r7]
theorem rep_in {x : Int} (h : 0 ≤ x ∧ x < 256) : ∀ z ∈ List.replicate 128 x, 0 ≤ z ∧ z < 256 := fun z hz => by rw [(List.mem_replicate.1 hz).2]; exact h
theorem r7_len : r7.length = 128 := by simp [r7]
theorem r9_len : r9.length = 128 := by simp [r9]
set_option maxHeartbeats 3200000 in
theorem awake3_any (w : World) : Calls Try.prog 7 #[] w fun e w' => e = .returned (.bool true) ∧ Frm [] w w' := by
  have HPW := hid (rNew w)
  go_enter Try.func7, Try.ntmps7
  go_wp2_with fail
  refine HPW.out.mono ?_
  rintro e w1 ⟨pb, rfl, hr1, hf1, hl1⟩
  have HDN := hid (rDisk pb 4 PSt.new [] [pb] (by omega) (by omega) w1 hr1)
  have HF1 := hid hf1
  have HL1 : Hid (∀ k ∈ [pb], w.heap.size ≤ k) := hid (by simpa using hl1)
  clear hr1 hf1 hl1 HPW
  go_wp2_with fail
  refine HDN.out.mono ?_
  rintro e w2 ⟨D, rfl, hn, hfl, hp, hs, hnew, hr2, hf2⟩
  have HR2 : Hid (Rack w2 pb PSt.new [D] ([pb] ++ D.blks)) := hid hr2
  have HK := hid (awk hn hfl hp)
  have HF2 := hid (HF1.out.trans hf2 (by simp))
  have HL2 : Hid (∀ k ∈ [pb] ++ D.blks, w.heap.size ≤ k) := hid (fun k hk => by
    rcases List.mem_append.1 hk with h | h
    · exact HL1.out k h
    · have := hnew k h; have := HF1.out.size; omega)
  have HON := hid (rOn pb PSt.new _ _ w2 hr2)
  have HSC := hid (rSectors pb PSt.new _ _ 0 D w2 hr2 rfl)
  have HF7 := hid (full_any 7 w2)
  rw [hn] at HSC
  clear hr2 hn hfl hp hs hnew hf2 HDN HF1 HL1
  go_wp2_with fail
  refine HON.out.mono ?_
  rintro e wx ⟨rfl, rfl⟩
  clear HON
  go_wp2_with fail
  refine HSC.out.mono ?_
  rintro e wy ⟨rfl, rfl⟩
  clear HSC
  go_wp2_with fail
  refine HF7.out.mono ?_
  rintro e w3 ⟨g3, rfl, hg3, hn3, hf3⟩
  have HW1 := hid (rWrite pb PSt.new [D] ([pb] ++ D.blks) 0 D 1 (some ⟨g3, 0, none⟩) 128 r7 w3 (HR2.out.kept hf3 (by simp)) rfl (by omega) (inB_new hg3 (rep_in (by omega)) hn3 HR2.out.low) (by simp [r7]) (by simp [r7]) (by simp [PSt.new]))
  rw [HK.out.w1, r7_len] at HW1
  have HF3 := hid (HF2.out.trans hf3 (by simp))
  clear hg3 hn3 hf3 HF7 HF2 HR2
  go_wp2_with fail
  refine HW1.out.mono ?_
  rintro e w4 ⟨rfl, F4, hr4, hs4⟩
  obtain ⟨hf4, hl4⟩ := stp_new HF3.out HL2.out hs4
  have hr4' : Rack w4 pb (aS1 D) [aD1 D] F4 := hr4
  have HFL := hid (rFlush pb (aS1 D) [aD1 D] F4 0 (aD1 D) w4 hr4' rfl)
  rw [HK.out.f1, HK.out.n1] at HFL
  have HF4 := hid hf4
  have HL4 := hid hl4
  clear hr4 hr4' hs4 hf4 hl4 HW1 HF3 HL2
  go_wp2_with fail
  refine HFL.out.mono ?_
  rintro e w5 ⟨rfl, F5, hr5, hs5⟩
  obtain ⟨hf5, hl5⟩ := stp_new HF4.out HL4.out hs5
  have HR5 : Hid (Rack w5 pb (aS2 D) [aD2 D] F5) := hid hr5
  have HF9 := hid (full_any 9 w5)
  have HF5 := hid hf5
  have HL5 := hid hl5
  clear hr5 hs5 hf5 hl5 HFL HF4 HL4
  go_wp2_with fail
  refine HF9.out.mono ?_
  rintro e w6 ⟨g6, rfl, hg6, hn6, hf6⟩
  have HW2 := hid (rWrite pb (aS2 D) [aD2 D] F5 0 (aD2 D) 2 (some ⟨g6, 0, none⟩) 128 r9 w6 (HR5.out.kept hf6 (by simp)) rfl (by omega) (inB_new hg6 (rep_in (by omega)) hn6 HR5.out.low) (by simp [r9]) (by simp [r9]) (by rw [HK.out.b2.1, HK.out.b2.2]; omega))
  rw [HK.out.w2, r9_len, HK.out.n2] at HW2
  have HF6 := hid (HF5.out.trans hf6 (by simp))
  clear hg6 hn6 hf6 HF9 HF5 HR5
  go_wp2_with fail
  refine HW2.out.mono ?_
  rintro e w7 ⟨rfl, F7, hr7, hs7⟩
  obtain ⟨hf7, hl7⟩ := stp_new HF6.out HL5.out hs7
  have HR7 : Hid (Rack w7 pb (aS3 D) [aD3 D] F7) := hid hr7
  have HWT := hid (rWaiting pb (aS3 D) [aD3 D] F7 w7 HR7.out)
  have HUP := hid (rUpNil pb (aS3 D) [aD3 D] F7 w7 HR7.out)
  rw [HK.out.n3] at HWT
  have HF7 := hid hf7
  have HL7 := hid hl7
  clear hr7 hs7 hf7 hl7 HW2 HF6 HL5 HR7
  go_wp2_with fail
  refine HWT.out.mono ?_
  rintro e wz ⟨rfl, rfl⟩
  clear HWT
  go_wp2_with fail
  refine HUP.out.mono ?_
  rintro e w8 ⟨rfl, F8, hr8, hs8⟩
  obtain ⟨hf8, hl8⟩ := stp_new HF7.out HL7.out hs8
  have HR8 : Hid (Rack w8 pb (aS4 D) [aD4 D] F8) := hid hr8
  have HRD := hid (rRead pb (aS4 D) [aD4 D] F8 0 (aD4 D) 0 4 w8 HR8.out rfl (by omega) (by omega))
  rw [HK.out.r4, HK.out.d4, HK.out.n4] at HRD
  have HF8 := hid hf8
  clear hr8 hs8 hf8 hl8 HUP HF7 HL7
  go_wp2_with fail
  refine HRD.out.mono ?_
  rintro e w9 ⟨hf9, hcase⟩
  rcases hcase with ⟨h, _⟩ | ⟨_, g9, rfl, hg9, hn9⟩
  · exact absurd rfl h
  have hlen : (List.take (Int.toNat 4 * 128) (List.drop (Int.toNat 0 * 128) (splice (List.replicate 512 0) 128 r7))) = splice (List.replicate 512 0) 128 r7 := by
    have : (splice (List.replicate 512 0) 128 r7).length = 512 := by rw [splice_length (by simp [r7])]; simp
    simp only [show Int.toNat 0 * 128 = 0 from rfl, List.drop_zero]
    exact List.take_of_length_le (by rw [this]; decide)
  rw [hlen] at hg9 ⊢
  have hl512 : (splice (List.replicate 512 0) 128 r7).length = 512 := by rw [splice_length (by simp [r7])]; simp
  rw [hl512]
  obtain ⟨b1, b2, b3⟩ := awk_bytes
  have cell : ∀ (zs : List Int), w9.heap[g9]? = some (.cells (bv zs).toArray 5 (0, 0)) → ∀ (k : Nat) (x : Int), zs[k]? = some x → w9.cell? ⟨g9, k, none⟩ = some (.int .u8 x) := fun zs hz k x hx => by
    rw [cell_of_row _ _ _ _ _ _ hz]
    simp [bv, hx]
  have x1 := cell _ hg9 128 7 b1
  have x2 := cell _ hg9 255 7 b2
  have x3 := cell _ hg9 256 0 b3
  have HWR := hid (rWrites pb (aS4 D) [aD4 D] F8 w9 (HR8.out.kept hf9 (by simp)))
  rw [HK.out.s4] at HWR
  have HF9 := hid (HF8.out.trans hf9 (by simp))
  clear hf9 hg9 hn9 hlen hl512 b1 b2 b3 cell HRD HR8 HF8
  go_wp2_with fail
  refine HWR.out.mono ?_
  rintro e wq ⟨rfl, rfl⟩
  go_wp2_with fail
  go_returns
  exact ⟨rfl, HF9.out⟩
end Go.Proofs.Ytfclamndjnoopaa
