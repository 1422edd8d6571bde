/- DiskApart, walked. -/
import Derived.Test.YtfclamndjnoopaaDskS
import Derived.Test.YtfclamndjnoopaaRowO
import Derived.BigRegion
import Derived.Deep.DeepCutAuto
import Derived.Deep.CutBlock
namespace Go.Proofs.Ytfclamndjnoopaa
open Go.RowKit Go.Lib
set_option maxRecDepth 100000

theorem up_nil (S : PSt) (D : DSt) : (DSt.up S [] D).seen = D.plat := by
  show over D.db D.plat (keptW [] S.ws) = D.plat
  have : keptW [] S.ws = [] := by simp [keptW]
  rw [this]; rfl
theorem restS_ws (S : PSt) (db : Nat) : (S.rest db).ws = restW db S.ws := rfl
/-- A row of bytes that lies in neither rack. -/
structure Bk (w : World) (g : Nat) (bs : List Int) (F G : List Nat) : Prop where
  h : w.heap[g]? = some (.cells (bv bs).toArray 5 (0, 0))
  f : g ∉ F
  g' : g ∉ G
theorem Bk.stp {w w' : World} {g : Nat} {bs : List Int} {F F' G : List Nat} (h : Bk w g bs F G) (hs : Stp F F' w w') : Bk w' g bs F' G := ⟨hs.fr.heap h.h h.f, fun hm => (hs.nb _ hm).elim h.f (fun h2 => by have := lt_of_heap h.h; omega), h.g'⟩
theorem Bk.frm {w w' : World} {g : Nat} {bs : List Int} {F G : List Nat} (h : Bk w g bs F G) (hf : Frm [] w w') : Bk w' g bs F G := ⟨hf.heap h.h (by simp), h.f, h.g'⟩
theorem Bk.new {w w' : World} {g : Nat} {bs : List Int} {F G : List Nat} {pb qb : Nat} {S T : PSt} {Ds Qs : List DSt} (hr : Rack w pb S Ds F) (hq : Rack w qb T Qs G) (h : w'.heap[g]? = some (.cells (bv bs).toArray 5 (0, 0))) (hn : w.heap.size ≤ g) : Bk w' g bs F G :=
  ⟨h, fun hm => by have := hr.low _ hm; omega, fun hm => by have := hq.low _ hm; omega⟩
/-- A row of one's own of so many bytes, read as a text. -/
theorem conv_any (w : World) (g n : Nat) (bs : List Int) (h : w.heap[g]? = some (.cells (bv bs).toArray 5 (0, 0))) (hn : bs.length = n) : (convert 22 9 (.slice (some ⟨g, 0, none⟩) n n)).run Try.prog w = .ok (.string (strOfNums bs)) w :=
  cv_any 22 5 9 Try.underlying22 Try.underlying5 Try.underlying9 (rd_blockD h) n hn
/-- Three rows of a world, read as texts. -/
def CvS (W : World) (a b c : Nat) (s t : ByteArray) : Prop :=
  (convert 22 9 (.slice (some ⟨a, 0, none⟩) 1024 1024)).run Try.prog W = .ok (.string s) W ∧ (convert 22 9 (.slice (some ⟨b, 0, none⟩) 1024 1024)).run Try.prog W = .ok (.string s) W ∧ (convert 22 9 (.slice (some ⟨c, 0, none⟩) 1024 1024)).run Try.prog W = .ok (.string t) W
set_option maxHeartbeats 12800000 in
theorem apart_true (pa : Option Addr) (na ca : Nat) (pz : Option Addr) (nb cb : Nat) (ps : Option Addr) (ns cs : Nat) (w : World) (hA : Came w pa na ca) (hB : Came w pz nb cb) (hS : CameT w ps ns cs) (hna : na ≤ 140737488351232) (hnb : nb ≤ 140737488351232) :
    Calls Try.prog 5 #[.slice pa na ca, .slice pz nb cb, .bool true, .slice ps ns cs] w fun e w' => e = .returned (.bool true) ∧ Frm [] w w' := by
  obtain ⟨az, hla, hra, hza, _, hca, _⟩ := hA
  obtain ⟨bs, hlb, hrb, hzb, _, hcb, _⟩ := hB
  obtain ⟨hcs, hns, st, hls, hrs⟩ := hS
  have HLA := hid hla
  have HRA := hid hra
  have HZA := hid hza
  have HLB := hid hlb
  have HRB := hid hrb
  have HZB := hid hzb
  have HLS := hid hls
  have HRS := hid hrs
  obtain ⟨M, hM⟩ : ∃ M, na / 128 = M := ⟨_, rfl⟩
  have hq1 : (na : Int).tdiv 128 = (M : Int) := by rw [Int.tdiv_eq_ediv_of_nonneg (by omega)]; omega
  have hM2 : M ≤ 140737488351232 := by omega
  have HM : Hid (az.length / 128 = M) := hid (by rw [hla, hM])
  have HPW := hid (fun w => rNew w)
  clear hla hra hza hlb hrb hzb hls hrs hM
  go_enter Try.func5, Try.ntmps5
  go_wp2_with fail
  refine (awake3_any _).mono ?_
  rintro e w0 ⟨rfl, hf0⟩
  have HF0 := hid hf0
  clear hf0
  go_wp2_with fail
  refine (HPW.out _).mono ?_
  rintro e w1 ⟨pb, rfl, hr1, hf1, hl1⟩
  have HR1 := hid hr1
  have HF1 := hid (HF0.out.trans hf1 (by simp))
  have HL1 : Hid (∀ k ∈ [pb], w.heap.size ≤ k) := hid (by have := HF0.out.size; simp; omega)
  clear hr1 hf1 hl1 HF0
  go_wp2_with fail
  refine (HPW.out _).mono ?_
  rintro e w2 ⟨qb, rfl, hq2, hf2, hl2⟩
  have HQ2 := hid hq2
  have HR2 := hid (HR1.out.kept hf2 (by simp))
  have HF2 := hid (HF1.out.trans hf2 (by simp))
  have HN2 : Hid (∀ k ∈ [pb], k ∉ [qb]) := hid (fun k hk hm => by simp at hk hm; have := HR1.out.low k (by simp [hk]); omega)
  have HG2 : Hid (∀ k ∈ [qb], w.heap.size ≤ k) := hid (by have := HF1.out.size; simp; omega)
  have HDN := hid (rDisk pb 8 PSt.new [] [pb] (by omega) (by omega) w2 HR2.out)
  clear hq2 hf2 hl2 HPW HR1 HR2 HF1
  go_wp2_with fail
  refine HDN.out.mono ?_
  rintro e w3 ⟨X, rfl, hxn, hxf, hxp, _, hxnew, hr3, hf3⟩
  have HX : Hid (X.n = 8 ∧ X.failed = false ∧ X.plat = List.replicate 1024 0) := hid ⟨hxn, hxf, hxp⟩
  have HQ3 := hid (HQ2.out.kept hf3 (by simp))
  have HF3 := hid (HF2.out.trans hf3 (by simp))
  have HR3 : Hid (Rack w3 pb PSt.new [X] ([pb] ++ X.blks)) := hid hr3
  have HN3 : Hid (∀ k ∈ [pb] ++ X.blks, k ∉ [qb]) := hid (fun k hk hm => by
    rcases List.mem_append.1 hk with h | h
    · exact HN2.out k h hm
    · have := hxnew k h; have := HQ2.out.low k hm; omega)
  have HL3 : Hid (∀ k ∈ [pb] ++ X.blks, w.heap.size ≤ k) := hid (fun k hk => by
    rcases List.mem_append.1 hk with h | h
    · exact HL1.out k h
    · have := hxnew k h; have := HF2.out.size; omega)
  clear hxn hxf hxp hxnew hr3 hf3 HDN HQ2 HF2 HN2 HL1
  have HDN := hid (rDisk pb 8 PSt.new [X] _ (by omega) (by omega) w3 HR3.out)
  go_wp2_with fail
  refine HDN.out.mono ?_
  rintro e w4 ⟨Y, rfl, hyn, hyf, hyp, _, hynew, hr4, hf4⟩
  have HY : Hid (Y.n = 8 ∧ Y.failed = false ∧ Y.plat = List.replicate 1024 0) := hid ⟨hyn, hyf, hyp⟩
  have HXY : Hid (X.db ≠ Y.db) := hid (fun e => by have := hynew Y.db (by simp [DSt.blks]); have := HR3.out.low X.db (by simp [DSt.blks]); omega)
  have HQ4 := hid (HQ3.out.kept hf4 (by simp))
  have HF4 := hid (HF3.out.trans hf4 (by simp))
  have HR4 : Hid (Rack w4 pb PSt.new [X, Y] ([pb] ++ X.blks ++ Y.blks)) := hid hr4
  have HN4 : Hid (∀ k ∈ [pb] ++ X.blks ++ Y.blks, k ∉ [qb]) := hid (fun k hk hm => by
    rcases List.mem_append.1 hk with h | h
    · exact HN3.out k h hm
    · have := hynew k h; have := HQ3.out.low k hm; omega)
  have HL4 : Hid (∀ k ∈ [pb] ++ X.blks ++ Y.blks, w.heap.size ≤ k) := hid (fun k hk => by
    rcases List.mem_append.1 hk with h | h
    · exact HL3.out k h
    · have := hynew k h; have := HF3.out.size; omega)
  clear hyn hyf hyp hynew hr4 hf4 HDN HQ3 HF3 HN3 HL3 HR3
  have HDN := hid (rDisk qb 8 PSt.new [] [qb] (by omega) (by omega) w4 HQ4.out)
  go_wp2_with fail
  refine HDN.out.mono ?_
  rintro e w5 ⟨Z, rfl, hzn, hzf, hzp, _, hznew, hr5, hf5⟩
  have HZ : Hid (Z.n = 8 ∧ Z.failed = false) := hid ⟨hzn, hzf⟩
  have HQ5 : Hid (Rack w5 qb PSt.new [Z] ([qb] ++ Z.blks)) := hid hr5
  have HF5 := hid (HF4.out.trans hf5 (by simp))
  have HR5 := hid (HR4.out.kept hf5 (by simp))
  have HN5 : Hid (∀ k ∈ [pb] ++ X.blks ++ Y.blks, k ∉ [qb] ++ Z.blks) := hid (fun k hk hm => by
    rcases List.mem_append.1 hm with h | h
    · exact HN4.out k hk h
    · have := hznew k h; have := HR4.out.low k hk; omega)
  have HG5 : Hid (∀ k ∈ [qb] ++ Z.blks, w.heap.size ≤ k) := hid (fun k hk => by
    rcases List.mem_append.1 hk with h | h
    · exact HG2.out k h
    · have := hznew k h; have := HF4.out.size; omega)
  have HW := hid (rWrite pb PSt.new [X, Y] _ 0 X 0 pa ca az w5 HR5.out rfl (by omega) (inB_arg HRA.out HZA.out HF5.out HL4.out) (by rw [HLA.out]; exact hca) (by rw [HLA.out]; omega) (by simp [PSt.new]))
  rw [HLA.out] at HW
  clear hzn hzf hzp hznew hr5 hf5 HDN HQ4 HF4 HN4 HG2 HR4 HR5
  go_wp2_with fail
  refine HW.out.mono ?_
  rintro e w6 ⟨rfl, F6, hr6, hs6⟩
  obtain ⟨hf6, hl6⟩ := stp_new HF5.out HL4.out hs6
  obtain ⟨hq6, hn6⟩ := two_step HQ5.out hs6 HN5.out
  obtain ⟨hv, hHV⟩ : ∃ hv, wrE PSt.new X 0 az = hv := ⟨_, rfl⟩
  rw [hHV]
  obtain ⟨S1, hS1⟩ : ∃ S, PSt.new.wr X 0 az = S := ⟨_, rfl⟩
  obtain ⟨X1, hX1⟩ : ∃ E, X.wr PSt.new 0 az = E := ⟨_, rfl⟩
  have HR6 : Hid (Rack w6 pb S1 [X1, Y] F6) := hid (by rw [← hS1, ← hX1]; exact hr6)
  have HC1 : Hid (Calm S1 8) := hid (by
    rw [← hS1]
    have h := Calm.wr (S := PSt.new) (D := X) (at_ := 0) (bs := az) (k := 0) ⟨rfl, rfl, by simp [PSt.new], by simp [PSt.new]⟩ HX.out.2.1
    rw [HX.out.1] at h
    exact h)
  have HTW : Hid (restW Y.db (S1.wr Y 0 bs).ws = S1.ws ∧ restW Y.db (restW X.db (S1.wr Y 0 bs).ws) = [] ∧ ((hv = 0 ∧ S1.ws.length = M) ∨ (hv = 1 ∧ S1.ws.length = 0))) := hid (by
    have h := two_ws (a := az) (b := bs) HXY.out HX.out.2.1 HY.out.2.1
    rw [hHV, hS1, HM.out] at h
    exact h)
  have HX1 : Hid (X1.n = 8 ∧ X1.failed = false ∧ X1.plat = List.replicate 1024 0 ∧ X1.db = X.db) := hid (by rw [← hX1]; exact ⟨HX.out.1, HX.out.2.1, HX.out.2.2, rfl⟩)
  have HF6 := hid hf6
  have HL6 := hid hl6
  have HQ6 := hid hq6
  have HN6 := hid hn6
  clear HW
  have HW := hid (rWrite pb S1 [X1, Y] F6 1 Y 0 pz cb bs w6 HR6.out rfl (by omega) (inB_arg HRB.out HZB.out HF6.out HL6.out) (by rw [HLB.out]; exact hcb) (by rw [HLB.out]; omega) (by have := HC1.out.w; have := HC1.out.l; omega))
  rw [HLB.out] at HW
  clear hr6 hs6 hf6 hl6 hq6 hn6 hHV hS1 hX1 HF5 HL4 HQ5 HN5 HX HXY HR6 HM
  go_wp2_with fail
  refine HW.out.mono ?_
  rintro e w7 ⟨rfl, F7, hr7, hs7⟩
  obtain ⟨hf7, hl7⟩ := stp_new HF6.out HL6.out hs7
  obtain ⟨hq7, hn7⟩ := two_step HQ6.out hs7 HN6.out
  obtain ⟨S2, hS2⟩ : ∃ S, S1.wr Y 0 bs = S := ⟨_, rfl⟩
  obtain ⟨Y1, hY1⟩ : ∃ E, Y.wr S1 0 bs = E := ⟨_, rfl⟩
  have HR7 : Hid (Rack w7 pb S2 [X1, Y1] F7) := hid (by rw [← hS2, ← hY1]; exact hr7)
  have HC2 : Hid (Calm S2 16) := hid (by
    rw [← hS2]
    have h := Calm.wr (S := S1) (D := Y) (at_ := 0) (bs := bs) (k := 8) HC1.out HY.out.2.1
    rw [HY.out.1] at h
    exact h)
  rw [hS2] at HTW
  have HY1 : Hid (Y1.n = 8 ∧ Y1.db = Y.db) := hid (by rw [← hY1]; exact ⟨HY.out.1, rfl⟩)
  have HF7 := hid hf7
  have HL7 := hid hl7
  have HN7 := hid hn7
  clear HW
  have HW := hid (rWrite qb PSt.new [Z] ([qb] ++ Z.blks) 0 Z 0 pa ca az w7 hq7 rfl (by omega) (inB_arg HRA.out HZA.out HF7.out HG5.out) (by rw [HLA.out]; exact hca) (by rw [HLA.out]; omega) (by simp [PSt.new]))
  rw [HLA.out] at HW
  clear hr7 hs7 hf7 hl7 hq7 hn7 hS2 hY1 HF6 HL6 HQ6 HN6 HC1 HY
  go_wp2_with fail
  refine HW.out.mono ?_
  rintro e w8 ⟨rfl, G8, hq8, hs8⟩
  obtain ⟨hf8, hg8⟩ := stp_new HF7.out HG5.out hs8
  obtain ⟨hr8, hn8⟩ := two_step HR7.out hs8 (fun k hk hm => HN7.out k hm hk)
  obtain ⟨T1, hT1⟩ : ∃ S, PSt.new.wr Z 0 az = S := ⟨_, rfl⟩
  obtain ⟨Z1, hZ1⟩ : ∃ E, Z.wr PSt.new 0 az = E := ⟨_, rfl⟩
  have HQ8 : Hid (Rack w8 qb T1 [Z1] G8) := hid (by rw [← hT1, ← hZ1]; exact hq8)
  have HT1 : Hid (T1.out = false) := hid (by
    rw [← hT1]
    exact (Calm.wr (S := PSt.new) (D := Z) (at_ := 0) (bs := az) (k := 0) ⟨rfl, rfl, by simp [PSt.new], by simp [PSt.new]⟩ HZ.out.2).o)
  have HZ1 : Hid (Z1.n = 8 ∧ Z1.failed = false ∧ Z1.db = Z.db) := hid (by rw [← hZ1]; exact ⟨HZ.out.1, HZ.out.2, rfl⟩)
  have HF8 := hid hf8
  have HG8 := hid hg8
  have HR8 := hid hr8
  have HN8 : Hid (∀ k ∈ F7, k ∉ G8) := hid (fun k hk hm => hn8 k hm hk)
  clear hq8 hs8 hf8 hg8 hr8 hn8 hT1 hZ1 HF7 HG5 HR7 HN7 HZ HRA HZA HLA HRB HZB HLB
  go_wp2_with fail
  have HFL := hid (rFlush pb S2 [X1, Y1] F7 0 X1 w8 HR8.out rfl)
  rw [down_ok HC2.out.o HX1.out.2.1, HX1.out.2.2.2] at HFL
  go_wp2_with fail
  refine HFL.out.mono ?_
  rintro e w9 ⟨rfl, F9, hr9, hs9⟩
  obtain ⟨hf9, hl9⟩ := stp_new HF8.out HL7.out hs9
  obtain ⟨hq9, hn9⟩ := two_step HQ8.out hs9 HN8.out
  have hS3 : flS S2 X1 = S2.rest X.db := by unfold flS; rw [if_pos (down_ok HC2.out.o HX1.out.2.1), HX1.out.2.2.2]
  obtain ⟨X2, hX2⟩ : ∃ E, flD S2 X1 = E := ⟨_, rfl⟩
  obtain ⟨S3, hS3'⟩ : ∃ S, S2.rest X.db = S := ⟨_, rfl⟩
  have HR9 : Hid (Rack w9 pb S3 [X2, Y1] F9) := hid (by rw [← hS3', ← hS3, ← hX2]; exact hr9)
  have HC3 : Hid (Calm S3 16) := hid (by rw [← hS3']; exact HC2.out.rest _)
  have HX2 : Hid (X2.n = 8 ∧ X2.failed = false ∧ X2.db = X.db) := hid (by
    obtain ⟨d1, d2, d3⟩ := flD_n S2 X1
    rw [← hX2]
    exact ⟨d1.trans HX1.out.1, d2.trans HX1.out.2.1, d3.trans HX1.out.2.2.2⟩)
  have HE : Hid (X2.plat = X2.seen) := hid (by
    have h := HR8.out.inv (i := 0) (D := X1) rfl
    have e : X2 = X1.flush S2 := by rw [← hX2]; unfold flD; rw [if_pos (down_ok HC2.out.o HX1.out.2.1)]
    rw [e]
    exact h.symm)
  have HLF : Hid ((S3.rest Y.db).ws.length = 0) := hid (by rw [restS_ws, ← hS3', restS_ws, HTW.out.2.1]; rfl)
  have HF9 := hid hf9
  have HL9 := hid hl9
  have HQ9 := hid hq9
  have HN9 := hid hn9
  have HTV : Hid ((hv = 0 ∧ S1.ws.length = M) ∨ (hv = 1 ∧ S1.ws.length = 0)) := hid HTW.out.2.2
  clear hr9 hs9 hf9 hl9 hq9 hn9 hS3 hX2 hS3' HF8 HL7 HR8 HN8 HQ8 HFL HTW HC2 HX1
  have HWT := hid (rWaiting pb S3 [X2, Y1] F9 w9 HR9.out)
  have HRZ := hid (read_ok HQ9.out (i := 0) (D := Z1) rfl HT1.out HZ1.out.2.1 HZ1.out.1)
  rw [HZ1.out.2.2] at HRZ
  have hWL : (0 : Int) ≤ (S3.ws.length : Int) ∧ (S3.ws.length : Int) ≤ 16 := by have := HC3.out.l; omega
  obtain ⟨NW, hNW⟩ : ∃ n, S3.ws.length = n := ⟨_, rfl⟩
  rw [hNW] at HWT hWL
  clear hNW
  go_wp2_with fail
  refine HWT.out.mono ?_
  rintro e wq ⟨rfl, rfl⟩
  clear HWT
  go_wp2_with fail
  refine HRZ.out.mono ?_
  rintro e w10 ⟨g10, rfl, hg10, hh10, hf10⟩
  have HR10 := hid (HR9.out.kept hf10 (by simp))
  have HQ10 := hid (HQ9.out.kept hf10 (by simp))
  have HF10 := hid (HF9.out.trans hf10 (by simp))
  have HZ2 : Hid (Bk w10 g10 Z1.seen F9 G8) := hid (Bk.new HR9.out HQ9.out hg10 hh10)
  have HFA := hid (rFail pb S3 [X2, Y1] F9 1 Y1 w10 HR10.out rfl)
  rw [HY1.out.2] at HFA
  clear hg10 hh10 hf10 HRZ HR9 HQ9 HF9
  go_wp2_with fail
  refine HFA.out.mono ?_
  rintro e w11 ⟨rfl, F11, hr11, hs11⟩
  obtain ⟨hf11, hl11⟩ := stp_new HF10.out HL9.out hs11
  obtain ⟨hq11, hn11⟩ := two_step HQ10.out hs11 HN9.out
  have HZ3 := hid (HZ2.out.stp hs11)
  have HR11 : Hid (Rack w11 pb (S3.rest Y.db) [X2, Y1.fail] F11) := hid hr11
  have HF11 := hid hf11
  have HL11 := hid hl11
  have HQ11 := hid hq11
  have HN11 := hid hn11
  obtain ⟨S4, hS4⟩ : ∃ S, S3.rest Y.db = S := ⟨_, rfl⟩
  have HC4 : Hid (Calm S4 16) := hid (by rw [← hS4]; exact HC3.out.rest _)
  rw [hS4] at HR11 HLF
  have HWT := hid (rWaiting pb S4 [X2, Y1.fail] F11 w11 HR11.out)
  rw [HLF.out] at HWT
  have HRX := hid (read_ok HR11.out (i := 0) (D := X2) rfl HC4.out.o HX2.out.2.1 HX2.out.1)
  rw [HX2.out.2.2] at HRX
  clear hr11 hs11 hf11 hl11 hq11 hn11 hS4 HFA HF10 HL9 HQ10 HN9 HZ2 HR10 HC3 HLF HW
  have htv := HTV.out
  clear HTV
  go_wp2_with fail
  refine HWT.out.mono ?_
  rintro e wq ⟨rfl, rfl⟩
  clear HWT
  rcases htv with ⟨rfl, hl1⟩ | ⟨rfl, hl1⟩
  · (try rw [hl1])
    clear hl1
    go_wp2_with fail
    refine HRX.out.mono ?_
    rintro e w12 ⟨g12, rfl, hg12, hh12, hf12⟩
    have HXL : Hid (X2.seen.length = 1024) := hid (by rw [(HR11.out.disk (i := 0) (D := X2) rfl).sn, HX2.out.1])
    have HB12 : Hid (Bk w12 g12 X2.seen F11 G8) := hid (Bk.new HR11.out HQ11.out hg12 hh12)
    have HR12 := hid (HR11.out.kept hf12 (by simp))
    have HQ12 := hid (HQ11.out.kept hf12 (by simp))
    have HF12 := hid (HF11.out.trans hf12 (by simp))
    have HZ4 := hid (HZ3.out.frm hf12)
    have HUP := hid (rUpNil pb S4 [X2, Y1.fail] F11 w12 HR12.out)
    clear hg12 hh12 hf12 HRX HR11 HQ11 HF11 HZ3
    go_wp2_with fail
    refine HUP.out.mono ?_
    rintro e w13 ⟨rfl, F13, hr13, hs13⟩
    obtain ⟨hf13, hl13⟩ := stp_new HF12.out HL11.out hs13
    obtain ⟨hq13, hn13⟩ := two_step HQ12.out hs13 HN11.out
    have HR13 : Hid (Rack w13 pb S4.up [DSt.up S4 [] X2, DSt.up S4 [] Y1.fail] F13) := hid hr13
    have HF13 := hid hf13
    have HL13 := hid hl13
    have HQ13 := hid hq13
    have HN13 := hid hn13
    have HZ5 := hid (HZ4.out.stp hs13)
    have HB13 := hid (HB12.out.stp hs13)
    have HRX := hid (read_ok HR13.out (i := 0) (D := DSt.up S4 [] X2) rfl rfl HX2.out.2.1 HX2.out.1)
    rw [show (DSt.up S4 [] X2).db = X.db from HX2.out.2.2, show (DSt.up S4 [] X2).seen = X2.plat from by rw [up_nil]] at HRX
    clear hr13 hs13 hf13 hl13 hq13 hn13 HUP HR12 HQ12 HF12 HZ4 HB12 HL11 HN11
    go_wp2_with fail
    refine HRX.out.mono ?_
    rintro e w14 ⟨g14, rfl, hg14, hh14, hf14⟩
    have HB14 : Hid (Bk w14 g14 X2.plat F13 G8) := hid (Bk.new HR13.out HQ13.out hg14 hh14)
    have HR14 := hid (HR13.out.kept hf14 (by simp))
    have HQ14 := hid (HQ13.out.kept hf14 (by simp))
    have HF14 := hid (HF13.out.trans hf14 (by simp))
    have HZ6 := hid (HZ5.out.frm hf14)
    have HB15 := hid (HB13.out.frm hf14)
    have HRZ := hid (read_ok HQ14.out (i := 0) (D := Z1) rfl HT1.out HZ1.out.2.1 HZ1.out.1)
    rw [HZ1.out.2.2] at HRZ
    clear hg14 hh14 hf14 HRX HR13 HQ13 HF13 HZ5 HB13
    go_wp2_with fail
    refine HRZ.out.mono ?_
    rintro e w15 ⟨g15, rfl, hg15, hh15, hf15⟩
    have HC15 : Hid (Bk w15 g15 Z1.seen F13 G8) := hid (Bk.new HR14.out HQ14.out hg15 hh15)
    have HR15 := hid (HR14.out.kept hf15 (by simp))
    have HQ15 := hid (HQ14.out.kept hf15 (by simp))
    have HF15 := hid (HF14.out.trans hf15 (by simp))
    have HZ7 := hid (HZ6.out.frm hf15)
    have HB16 := hid (HB15.out.frm hf15)
    have HB17 := hid (HB14.out.frm hf15)
    have HRP := hid (rReplace pb S4.up [DSt.up S4 [] X2, DSt.up S4 [] Y1.fail] F13 1 (DSt.up S4 [] Y1.fail) w15 HR15.out rfl)
    rw [show (DSt.up S4 [] Y1.fail).db = Y.db from HY1.out.2] at HRP
    clear hg15 hh15 hf15 HRZ HR14 HQ14 HF14 HZ6 HB15 HB14
    go_wp2_with fail
    refine HRP.out.mono ?_
    rintro e w16 ⟨rfl, F16, hr16, hs16⟩
    obtain ⟨hf16, hl16⟩ := stp_new HF15.out HL13.out hs16
    obtain ⟨hq16, hn16⟩ := two_step HQ15.out hs16 HN13.out
    obtain ⟨Y4, hY4⟩ : ∃ E, (DSt.up S4 [] Y1.fail).fresh = E := ⟨_, rfl⟩
    have HR16 : Hid (Rack w16 pb (S4.up.rest Y.db) [DSt.up S4 [] X2, Y4] F16) := hid (by rw [← hY4]; exact hr16)
    have HY4 : Hid (Y4.n = 8 ∧ Y4.failed = false ∧ Y4.db = Y.db ∧ Y4.seen = List.replicate 1024 0) := hid (by
      rw [← hY4]
      exact ⟨HY1.out.1, rfl, HY1.out.2, by show List.replicate (Y1.n * 128) 0 = _; rw [HY1.out.1]⟩)
    have HF16 := hid hf16
    have HL16 := hid hl16
    have HQ16 := hid hq16
    have HN16 := hid hn16
    have HZ8 := hid (HZ7.out.stp hs16)
    have HB18 := hid (HB16.out.stp hs16)
    have HB19 := hid (HB17.out.stp hs16)
    have HC16 := hid (HC15.out.stp hs16)
    have HRY := hid (read_ok HR16.out (i := 1) (D := Y4) rfl rfl HY4.out.2.1 HY4.out.1)
    rw [HY4.out.2.2.1, HY4.out.2.2.2] at HRY
    clear hr16 hs16 hf16 hl16 hq16 hn16 hY4 HRP HR15 HQ15 HF15 HZ7 HB16 HB17 HC15 HL13 HN13
    go_wp2_with fail
    refine HRY.out.mono ?_
    rintro e w17 ⟨g17, rfl, hg17, hh17, hf17⟩
    have HR17 := hid (HR16.out.kept hf17 (by simp))
    have HQ17 := hid (HQ16.out.kept hf17 (by simp))
    have HF17 := hid (HF16.out.trans hf17 (by simp))
    have HZ9 := hid (HZ8.out.frm hf17).h
    have HB20 := hid (HB18.out.frm hf17).h
    have HB21 := hid (HB19.out.frm hf17).h
    have HC17 := hid (HC16.out.frm hf17).h
    have HY17 := hid hg17
    have hXL : Hid (X2.seen.length = 1024 ∧ X2.plat.length = 1024) := hid (by
      have h := HR16.out.disk (i := 0) (D := DSt.up S4 [] X2) rfl
      have h2 := h.pn
      have e : (DSt.up S4 [] X2).plat = X2.plat := up_nil S4 X2
      rw [e] at h2
      exact ⟨HXL.out, by rw [h2]; show X2.n * 128 = 1024; rw [HX2.out.1]⟩)
    have hlZ : Hid (Z1.seen.length = 1024) := hid (by rw [(HQ16.out.disk (i := 0) (D := Z1) rfl).sn, HZ1.out.1])
    clear hg17 hh17 hf17 HRY HR16 HQ16 HF16 HZ8 HB18 HB19 HC16
    obtain ⟨zs, hzs⟩ : ∃ zs, bv (List.replicate 1024 0) = zs := ⟨_, rfl⟩
    have hmk := make_bytes 1024 (by omega)
    rw [hzs] at hmk
    simp only [Int.cast_ofNat_Int] at hmk
    obtain ⟨sZ, hsZ⟩ : ∃ s, strOfNums Z1.seen = s := ⟨_, rfl⟩
    obtain ⟨s0, hs0⟩ : ∃ s, strOfNums (List.replicate 1024 0) = s := ⟨_, rfl⟩
    have hfa : Frm [] w17 (w17.alloc (.cells zs.toArray 5)).drew := ((Frm.refl [] w17).alloc _).drew
    have HV0 : Hid (CvS w17.drew g10 g15 g17 sZ s0) := hid ⟨by rw [← hsZ]; exact conv_any w17.drew g10 1024 Z1.seen HZ9.out hlZ.out, by rw [← hsZ]; exact conv_any w17.drew g15 1024 Z1.seen HC17.out hlZ.out, by rw [← hs0]; exact conv_any w17.drew g17 1024 _ HY17.out (by simp)⟩
    have HV1 : Hid (CvS (w17.alloc (.cells zs.toArray 5)).drew g10 g15 g17 sZ s0) := hid ⟨by rw [← hsZ]; exact conv_any _ g10 1024 Z1.seen (hfa.heap HZ9.out (by simp)) hlZ.out, by rw [← hsZ]; exact conv_any _ g15 1024 Z1.seen (hfa.heap HC17.out (by simp)) hlZ.out, by rw [← hs0]; exact conv_any _ g17 1024 _ (hfa.heap HY17.out (by simp)) (by simp)⟩
    have e7 := conv_any (w17.alloc (.cells zs.toArray 5)).drew w17.heap.size 1024 (List.replicate 1024 0) (by rw [hzs]; exact heap_alloc_new w17 _) (by simp)
    rw [hs0] at e7
    clear hfa hsZ
    go_upto_region 29 with fail
    unfold CvS at HV0 HV1
    obtain ⟨i1, i2, i3⟩ := HV0.out
    obtain ⟨j1, j2, j3⟩ := HV1.out
    clear HV0 HV1
    go_region
    obtain ⟨w18, hw18⟩ : ∃ W, (w17.alloc (.cells zs.toArray 5)).drew = W := ⟨_, rfl⟩
    rw [hw18]
    have hf18 : Frm [] w17 w18 := by rw [← hw18]; exact ((Frm.refl [] w17).alloc _).drew
    have HR18 := hid (HR17.out.kept hf18 (by simp))
    have HQ18 := hid (HQ17.out.kept hf18 (by simp))
    have HF18 := hid (HF17.out.trans hf18 (by simp))
    have HB22 := hid (hf18.heap HB20.out (by simp))
    have HB23 := hid (hf18.heap HB21.out (by simp))
    clear hf18 hw18 i1 i2 i3 j1 j2 j3 e7 HR17 HQ17 HF17 HB20 HB21 HZ9 HC17 HY17
    go_upto_region 31 with fail
    obtain ⟨sX, hsX⟩ : ∃ s, strOfNums X2.seen = s := ⟨_, rfl⟩
    have i1 := conv_any w18.drew g12 1024 _ HB22.out hXL.out.1
    have i2 := conv_any w18.drew g14 1024 _ HB23.out hXL.out.2
    rw [HE.out, hsX] at i2
    rw [hsX] at i1
    clear hsX
    go_region
    obtain ⟨w19, hw19⟩ : ∃ W, w18.drew = W := ⟨_, rfl⟩
    rw [hw19]
    have hf19 : Frm [] w18 w19 := by rw [← hw19]; exact (Frm.refl [] w18).drew
    clear hw19 i1 i2
    have HR19 := hid (HR18.out.kept hf19 (by simp))
    have HQ19 := hid (HQ18.out.kept hf19 (by simp))
    have HF19 := hid (HF18.out.trans hf19 (by simp))
    have HUP := hid (rUp pb (S4.up.rest Y.db) [DSt.up S4 [] X2, Y4] F16 ps st cs w19 HR19.out (by
      rcases HRS.out with h | ⟨g, o, rfl, hc⟩
      · exact Or.inl h
      · refine Or.inr ⟨g, o, rfl, fun i u hu => ?_⟩
        rw [HF19.out.cell (p := ⟨g, o + i, none⟩) (World.block_lt_of_cell? w _ (hc i u hu)) (by simp)]
        exact hc i u hu) (fun hne k hk hm => by
      rcases HRS.out with h | ⟨g, o, rfl, hc⟩
      · simp at h; exact hne h
      · simp [blk] at hk
        subst hk
        have h0 : 0 < st.length := List.length_pos_iff.2 hne
        have := World.block_lt_of_cell? w _ (hc 0 (.bool st[0]) (by simp [h0]))
        have := HL16.out _ hm
        simp at *
        omega) (by rw [HLS.out]; omega))
    rw [HLS.out] at HUP
    clear hf19 HR18 HQ18 HF18 HB22 HB23
    go_wp2_with fail
    refine HUP.out.mono ?_
    rintro e w20 ⟨rfl, F20, hr20, hs20⟩
    obtain ⟨hf20, hl20⟩ := stp_new HF19.out HL16.out hs20
    obtain ⟨hq20, hn20⟩ := two_step HQ19.out hs20 HN16.out
    have HON := hid (rOn qb _ _ _ w20 hq20)
    rw [HT1.out] at HON
    have HWT := hid (rWaiting pb _ _ _ w20 hr20)
    rw [show (S4.up.rest Y.db).up.ws.length = 0 from rfl] at HWT
    have HF20 := hid hf20
    clear hr20 hs20 hf20 hl20 hq20 hn20 HUP HR19 HQ19 HF19
    go_wp2_with fail
    refine HON.out.mono ?_
    rintro e wq ⟨rfl, rfl⟩
    go_wp2_with fail
    refine HWT.out.mono ?_
    rintro e wq ⟨rfl, rfl⟩
    go_wp2_with fail
    go_returns
    exact ⟨rfl, HF20.out⟩
  · (try rw [hl1])
    clear hl1
    go_wp2_with fail
    refine HRX.out.mono ?_
    rintro e w12 ⟨g12, rfl, hg12, hh12, hf12⟩
    have HXL : Hid (X2.seen.length = 1024) := hid (by rw [(HR11.out.disk (i := 0) (D := X2) rfl).sn, HX2.out.1])
    have HB12 : Hid (Bk w12 g12 X2.seen F11 G8) := hid (Bk.new HR11.out HQ11.out hg12 hh12)
    have HR12 := hid (HR11.out.kept hf12 (by simp))
    have HQ12 := hid (HQ11.out.kept hf12 (by simp))
    have HF12 := hid (HF11.out.trans hf12 (by simp))
    have HZ4 := hid (HZ3.out.frm hf12)
    have HUP := hid (rUpNil pb S4 [X2, Y1.fail] F11 w12 HR12.out)
    clear hg12 hh12 hf12 HRX HR11 HQ11 HF11 HZ3
    go_wp2_with fail
    refine HUP.out.mono ?_
    rintro e w13 ⟨rfl, F13, hr13, hs13⟩
    obtain ⟨hf13, hl13⟩ := stp_new HF12.out HL11.out hs13
    obtain ⟨hq13, hn13⟩ := two_step HQ12.out hs13 HN11.out
    have HR13 : Hid (Rack w13 pb S4.up [DSt.up S4 [] X2, DSt.up S4 [] Y1.fail] F13) := hid hr13
    have HF13 := hid hf13
    have HL13 := hid hl13
    have HQ13 := hid hq13
    have HN13 := hid hn13
    have HZ5 := hid (HZ4.out.stp hs13)
    have HB13 := hid (HB12.out.stp hs13)
    have HRX := hid (read_ok HR13.out (i := 0) (D := DSt.up S4 [] X2) rfl rfl HX2.out.2.1 HX2.out.1)
    rw [show (DSt.up S4 [] X2).db = X.db from HX2.out.2.2, show (DSt.up S4 [] X2).seen = X2.plat from by rw [up_nil]] at HRX
    clear hr13 hs13 hf13 hl13 hq13 hn13 HUP HR12 HQ12 HF12 HZ4 HB12 HL11 HN11
    go_wp2_with fail
    refine HRX.out.mono ?_
    rintro e w14 ⟨g14, rfl, hg14, hh14, hf14⟩
    have HB14 : Hid (Bk w14 g14 X2.plat F13 G8) := hid (Bk.new HR13.out HQ13.out hg14 hh14)
    have HR14 := hid (HR13.out.kept hf14 (by simp))
    have HQ14 := hid (HQ13.out.kept hf14 (by simp))
    have HF14 := hid (HF13.out.trans hf14 (by simp))
    have HZ6 := hid (HZ5.out.frm hf14)
    have HB15 := hid (HB13.out.frm hf14)
    have HRZ := hid (read_ok HQ14.out (i := 0) (D := Z1) rfl HT1.out HZ1.out.2.1 HZ1.out.1)
    rw [HZ1.out.2.2] at HRZ
    clear hg14 hh14 hf14 HRX HR13 HQ13 HF13 HZ5 HB13
    go_wp2_with fail
    refine HRZ.out.mono ?_
    rintro e w15 ⟨g15, rfl, hg15, hh15, hf15⟩
    have HC15 : Hid (Bk w15 g15 Z1.seen F13 G8) := hid (Bk.new HR14.out HQ14.out hg15 hh15)
    have HR15 := hid (HR14.out.kept hf15 (by simp))
    have HQ15 := hid (HQ14.out.kept hf15 (by simp))
    have HF15 := hid (HF14.out.trans hf15 (by simp))
    have HZ7 := hid (HZ6.out.frm hf15)
    have HB16 := hid (HB15.out.frm hf15)
    have HB17 := hid (HB14.out.frm hf15)
    have HRP := hid (rReplace pb S4.up [DSt.up S4 [] X2, DSt.up S4 [] Y1.fail] F13 1 (DSt.up S4 [] Y1.fail) w15 HR15.out rfl)
    rw [show (DSt.up S4 [] Y1.fail).db = Y.db from HY1.out.2] at HRP
    clear hg15 hh15 hf15 HRZ HR14 HQ14 HF14 HZ6 HB15 HB14
    go_wp2_with fail
    refine HRP.out.mono ?_
    rintro e w16 ⟨rfl, F16, hr16, hs16⟩
    obtain ⟨hf16, hl16⟩ := stp_new HF15.out HL13.out hs16
    obtain ⟨hq16, hn16⟩ := two_step HQ15.out hs16 HN13.out
    obtain ⟨Y4, hY4⟩ : ∃ E, (DSt.up S4 [] Y1.fail).fresh = E := ⟨_, rfl⟩
    have HR16 : Hid (Rack w16 pb (S4.up.rest Y.db) [DSt.up S4 [] X2, Y4] F16) := hid (by rw [← hY4]; exact hr16)
    have HY4 : Hid (Y4.n = 8 ∧ Y4.failed = false ∧ Y4.db = Y.db ∧ Y4.seen = List.replicate 1024 0) := hid (by
      rw [← hY4]
      exact ⟨HY1.out.1, rfl, HY1.out.2, by show List.replicate (Y1.n * 128) 0 = _; rw [HY1.out.1]⟩)
    have HF16 := hid hf16
    have HL16 := hid hl16
    have HQ16 := hid hq16
    have HN16 := hid hn16
    have HZ8 := hid (HZ7.out.stp hs16)
    have HB18 := hid (HB16.out.stp hs16)
    have HB19 := hid (HB17.out.stp hs16)
    have HC16 := hid (HC15.out.stp hs16)
    have HRY := hid (read_ok HR16.out (i := 1) (D := Y4) rfl rfl HY4.out.2.1 HY4.out.1)
    rw [HY4.out.2.2.1, HY4.out.2.2.2] at HRY
    clear hr16 hs16 hf16 hl16 hq16 hn16 hY4 HRP HR15 HQ15 HF15 HZ7 HB16 HB17 HC15 HL13 HN13
    go_wp2_with fail
    refine HRY.out.mono ?_
    rintro e w17 ⟨g17, rfl, hg17, hh17, hf17⟩
    have HR17 := hid (HR16.out.kept hf17 (by simp))
    have HQ17 := hid (HQ16.out.kept hf17 (by simp))
    have HF17 := hid (HF16.out.trans hf17 (by simp))
    have HZ9 := hid (HZ8.out.frm hf17).h
    have HB20 := hid (HB18.out.frm hf17).h
    have HB21 := hid (HB19.out.frm hf17).h
    have HC17 := hid (HC16.out.frm hf17).h
    have HY17 := hid hg17
    have hXL : Hid (X2.seen.length = 1024 ∧ X2.plat.length = 1024) := hid (by
      have h := HR16.out.disk (i := 0) (D := DSt.up S4 [] X2) rfl
      have h2 := h.pn
      have e : (DSt.up S4 [] X2).plat = X2.plat := up_nil S4 X2
      rw [e] at h2
      exact ⟨HXL.out, by rw [h2]; show X2.n * 128 = 1024; rw [HX2.out.1]⟩)
    have hlZ : Hid (Z1.seen.length = 1024) := hid (by rw [(HQ16.out.disk (i := 0) (D := Z1) rfl).sn, HZ1.out.1])
    clear hg17 hh17 hf17 HRY HR16 HQ16 HF16 HZ8 HB18 HB19 HC16
    obtain ⟨zs, hzs⟩ : ∃ zs, bv (List.replicate 1024 0) = zs := ⟨_, rfl⟩
    have hmk := make_bytes 1024 (by omega)
    rw [hzs] at hmk
    simp only [Int.cast_ofNat_Int] at hmk
    obtain ⟨sZ, hsZ⟩ : ∃ s, strOfNums Z1.seen = s := ⟨_, rfl⟩
    obtain ⟨s0, hs0⟩ : ∃ s, strOfNums (List.replicate 1024 0) = s := ⟨_, rfl⟩
    have hfa : Frm [] w17 (w17.alloc (.cells zs.toArray 5)).drew := ((Frm.refl [] w17).alloc _).drew
    have HV0 : Hid (CvS w17.drew g10 g15 g17 sZ s0) := hid ⟨by rw [← hsZ]; exact conv_any w17.drew g10 1024 Z1.seen HZ9.out hlZ.out, by rw [← hsZ]; exact conv_any w17.drew g15 1024 Z1.seen HC17.out hlZ.out, by rw [← hs0]; exact conv_any w17.drew g17 1024 _ HY17.out (by simp)⟩
    have HV1 : Hid (CvS (w17.alloc (.cells zs.toArray 5)).drew g10 g15 g17 sZ s0) := hid ⟨by rw [← hsZ]; exact conv_any _ g10 1024 Z1.seen (hfa.heap HZ9.out (by simp)) hlZ.out, by rw [← hsZ]; exact conv_any _ g15 1024 Z1.seen (hfa.heap HC17.out (by simp)) hlZ.out, by rw [← hs0]; exact conv_any _ g17 1024 _ (hfa.heap HY17.out (by simp)) (by simp)⟩
    have e7 := conv_any (w17.alloc (.cells zs.toArray 5)).drew w17.heap.size 1024 (List.replicate 1024 0) (by rw [hzs]; exact heap_alloc_new w17 _) (by simp)
    rw [hs0] at e7
    clear hfa hsZ
    go_upto_region 29 with fail
    unfold CvS at HV0 HV1
    obtain ⟨i1, i2, i3⟩ := HV0.out
    obtain ⟨j1, j2, j3⟩ := HV1.out
    clear HV0 HV1
    go_region
    obtain ⟨w18, hw18⟩ : ∃ W, (w17.alloc (.cells zs.toArray 5)).drew = W := ⟨_, rfl⟩
    rw [hw18]
    have hf18 : Frm [] w17 w18 := by rw [← hw18]; exact ((Frm.refl [] w17).alloc _).drew
    have HR18 := hid (HR17.out.kept hf18 (by simp))
    have HQ18 := hid (HQ17.out.kept hf18 (by simp))
    have HF18 := hid (HF17.out.trans hf18 (by simp))
    have HB22 := hid (hf18.heap HB20.out (by simp))
    have HB23 := hid (hf18.heap HB21.out (by simp))
    clear hf18 hw18 i1 i2 i3 j1 j2 j3 e7 HR17 HQ17 HF17 HB20 HB21 HZ9 HC17 HY17
    go_upto_region 31 with fail
    obtain ⟨sX, hsX⟩ : ∃ s, strOfNums X2.seen = s := ⟨_, rfl⟩
    have i1 := conv_any w18.drew g12 1024 _ HB22.out hXL.out.1
    have i2 := conv_any w18.drew g14 1024 _ HB23.out hXL.out.2
    rw [HE.out, hsX] at i2
    rw [hsX] at i1
    clear hsX
    go_region
    obtain ⟨w19, hw19⟩ : ∃ W, w18.drew = W := ⟨_, rfl⟩
    rw [hw19]
    have hf19 : Frm [] w18 w19 := by rw [← hw19]; exact (Frm.refl [] w18).drew
    clear hw19 i1 i2
    have HR19 := hid (HR18.out.kept hf19 (by simp))
    have HQ19 := hid (HQ18.out.kept hf19 (by simp))
    have HF19 := hid (HF18.out.trans hf19 (by simp))
    have HUP := hid (rUp pb (S4.up.rest Y.db) [DSt.up S4 [] X2, Y4] F16 ps st cs w19 HR19.out (by
      rcases HRS.out with h | ⟨g, o, rfl, hc⟩
      · exact Or.inl h
      · refine Or.inr ⟨g, o, rfl, fun i u hu => ?_⟩
        rw [HF19.out.cell (p := ⟨g, o + i, none⟩) (World.block_lt_of_cell? w _ (hc i u hu)) (by simp)]
        exact hc i u hu) (fun hne k hk hm => by
      rcases HRS.out with h | ⟨g, o, rfl, hc⟩
      · simp at h; exact hne h
      · simp [blk] at hk
        subst hk
        have h0 : 0 < st.length := List.length_pos_iff.2 hne
        have := World.block_lt_of_cell? w _ (hc 0 (.bool st[0]) (by simp [h0]))
        have := HL16.out _ hm
        simp at *
        omega) (by rw [HLS.out]; omega))
    rw [HLS.out] at HUP
    clear hf19 HR18 HQ18 HF18 HB22 HB23
    go_wp2_with fail
    refine HUP.out.mono ?_
    rintro e w20 ⟨rfl, F20, hr20, hs20⟩
    obtain ⟨hf20, hl20⟩ := stp_new HF19.out HL16.out hs20
    obtain ⟨hq20, hn20⟩ := two_step HQ19.out hs20 HN16.out
    have HON := hid (rOn qb _ _ _ w20 hq20)
    rw [HT1.out] at HON
    have HWT := hid (rWaiting pb _ _ _ w20 hr20)
    rw [show (S4.up.rest Y.db).up.ws.length = 0 from rfl] at HWT
    have HF20 := hid hf20
    clear hr20 hs20 hf20 hl20 hq20 hn20 HUP HR19 HQ19 HF19
    go_wp2_with fail
    refine HON.out.mono ?_
    rintro e wq ⟨rfl, rfl⟩
    go_wp2_with fail
    refine HWT.out.mono ?_
    rintro e wq ⟨rfl, rfl⟩
    go_wp2_with fail
    go_returns
    exact ⟨rfl, HF20.out⟩
set_option maxHeartbeats 12800000 in
theorem apart_false (pa : Option Addr) (na ca : Nat) (pz : Option Addr) (nb cb : Nat) (ps : Option Addr) (ns cs : Nat) (w : World) (hA : Came w pa na ca) (hB : Came w pz nb cb) (hS : CameT w ps ns cs) (hna : na ≤ 140737488351232) (hnb : nb ≤ 140737488351232) :
    Calls Try.prog 5 #[.slice pa na ca, .slice pz nb cb, .bool false, .slice ps ns cs] w fun e w' => e = .returned (.bool true) ∧ Frm [] w w' := by
  obtain ⟨az, hla, hra, hza, _, hca, _⟩ := hA
  obtain ⟨bs, hlb, hrb, hzb, _, hcb, _⟩ := hB
  obtain ⟨hcs, hns, st, hls, hrs⟩ := hS
  have HLA := hid hla
  have HRA := hid hra
  have HZA := hid hza
  have HLB := hid hlb
  have HRB := hid hrb
  have HZB := hid hzb
  have HLS := hid hls
  have HRS := hid hrs
  obtain ⟨M, hM⟩ : ∃ M, na / 128 = M := ⟨_, rfl⟩
  have hq1 : (na : Int).tdiv 128 = (M : Int) := by rw [Int.tdiv_eq_ediv_of_nonneg (by omega)]; omega
  have hM2 : M ≤ 140737488351232 := by omega
  have HM : Hid (az.length / 128 = M) := hid (by rw [hla, hM])
  have HPW := hid (fun w => rNew w)
  clear hla hra hza hlb hrb hzb hls hrs hM
  go_enter Try.func5, Try.ntmps5
  go_wp2_with fail
  refine (awake3_any _).mono ?_
  rintro e w0 ⟨rfl, hf0⟩
  have HF0 := hid hf0
  clear hf0
  go_wp2_with fail
  refine (HPW.out _).mono ?_
  rintro e w1 ⟨pb, rfl, hr1, hf1, hl1⟩
  have HR1 := hid hr1
  have HF1 := hid (HF0.out.trans hf1 (by simp))
  have HL1 : Hid (∀ k ∈ [pb], w.heap.size ≤ k) := hid (by have := HF0.out.size; simp; omega)
  clear hr1 hf1 hl1 HF0
  go_wp2_with fail
  refine (HPW.out _).mono ?_
  rintro e w2 ⟨qb, rfl, hq2, hf2, hl2⟩
  have HQ2 := hid hq2
  have HR2 := hid (HR1.out.kept hf2 (by simp))
  have HF2 := hid (HF1.out.trans hf2 (by simp))
  have HN2 : Hid (∀ k ∈ [pb], k ∉ [qb]) := hid (fun k hk hm => by simp at hk hm; have := HR1.out.low k (by simp [hk]); omega)
  have HG2 : Hid (∀ k ∈ [qb], w.heap.size ≤ k) := hid (by have := HF1.out.size; simp; omega)
  have HDN := hid (rDisk pb 8 PSt.new [] [pb] (by omega) (by omega) w2 HR2.out)
  clear hq2 hf2 hl2 HPW HR1 HR2 HF1
  go_wp2_with fail
  refine HDN.out.mono ?_
  rintro e w3 ⟨X, rfl, hxn, hxf, hxp, _, hxnew, hr3, hf3⟩
  have HX : Hid (X.n = 8 ∧ X.failed = false ∧ X.plat = List.replicate 1024 0) := hid ⟨hxn, hxf, hxp⟩
  have HQ3 := hid (HQ2.out.kept hf3 (by simp))
  have HF3 := hid (HF2.out.trans hf3 (by simp))
  have HR3 : Hid (Rack w3 pb PSt.new [X] ([pb] ++ X.blks)) := hid hr3
  have HN3 : Hid (∀ k ∈ [pb] ++ X.blks, k ∉ [qb]) := hid (fun k hk hm => by
    rcases List.mem_append.1 hk with h | h
    · exact HN2.out k h hm
    · have := hxnew k h; have := HQ2.out.low k hm; omega)
  have HL3 : Hid (∀ k ∈ [pb] ++ X.blks, w.heap.size ≤ k) := hid (fun k hk => by
    rcases List.mem_append.1 hk with h | h
    · exact HL1.out k h
    · have := hxnew k h; have := HF2.out.size; omega)
  clear hxn hxf hxp hxnew hr3 hf3 HDN HQ2 HF2 HN2 HL1
  have HDN := hid (rDisk pb 8 PSt.new [X] _ (by omega) (by omega) w3 HR3.out)
  go_wp2_with fail
  refine HDN.out.mono ?_
  rintro e w4 ⟨Y, rfl, hyn, hyf, hyp, _, hynew, hr4, hf4⟩
  have HY : Hid (Y.n = 8 ∧ Y.failed = false ∧ Y.plat = List.replicate 1024 0) := hid ⟨hyn, hyf, hyp⟩
  have HXY : Hid (X.db ≠ Y.db) := hid (fun e => by have := hynew Y.db (by simp [DSt.blks]); have := HR3.out.low X.db (by simp [DSt.blks]); omega)
  have HQ4 := hid (HQ3.out.kept hf4 (by simp))
  have HF4 := hid (HF3.out.trans hf4 (by simp))
  have HR4 : Hid (Rack w4 pb PSt.new [X, Y] ([pb] ++ X.blks ++ Y.blks)) := hid hr4
  have HN4 : Hid (∀ k ∈ [pb] ++ X.blks ++ Y.blks, k ∉ [qb]) := hid (fun k hk hm => by
    rcases List.mem_append.1 hk with h | h
    · exact HN3.out k h hm
    · have := hynew k h; have := HQ3.out.low k hm; omega)
  have HL4 : Hid (∀ k ∈ [pb] ++ X.blks ++ Y.blks, w.heap.size ≤ k) := hid (fun k hk => by
    rcases List.mem_append.1 hk with h | h
    · exact HL3.out k h
    · have := hynew k h; have := HF3.out.size; omega)
  clear hyn hyf hyp hynew hr4 hf4 HDN HQ3 HF3 HN3 HL3 HR3
  have HDN := hid (rDisk qb 8 PSt.new [] [qb] (by omega) (by omega) w4 HQ4.out)
  go_wp2_with fail
  refine HDN.out.mono ?_
  rintro e w5 ⟨Z, rfl, hzn, hzf, hzp, _, hznew, hr5, hf5⟩
  have HZ : Hid (Z.n = 8 ∧ Z.failed = false) := hid ⟨hzn, hzf⟩
  have HQ5 : Hid (Rack w5 qb PSt.new [Z] ([qb] ++ Z.blks)) := hid hr5
  have HF5 := hid (HF4.out.trans hf5 (by simp))
  have HR5 := hid (HR4.out.kept hf5 (by simp))
  have HN5 : Hid (∀ k ∈ [pb] ++ X.blks ++ Y.blks, k ∉ [qb] ++ Z.blks) := hid (fun k hk hm => by
    rcases List.mem_append.1 hm with h | h
    · exact HN4.out k hk h
    · have := hznew k h; have := HR4.out.low k hk; omega)
  have HG5 : Hid (∀ k ∈ [qb] ++ Z.blks, w.heap.size ≤ k) := hid (fun k hk => by
    rcases List.mem_append.1 hk with h | h
    · exact HG2.out k h
    · have := hznew k h; have := HF4.out.size; omega)
  have HW := hid (rWrite pb PSt.new [X, Y] _ 0 X 0 pa ca az w5 HR5.out rfl (by omega) (inB_arg HRA.out HZA.out HF5.out HL4.out) (by rw [HLA.out]; exact hca) (by rw [HLA.out]; omega) (by simp [PSt.new]))
  rw [HLA.out] at HW
  clear hzn hzf hzp hznew hr5 hf5 HDN HQ4 HF4 HN4 HG2 HR4 HR5
  go_wp2_with fail
  refine HW.out.mono ?_
  rintro e w6 ⟨rfl, F6, hr6, hs6⟩
  obtain ⟨hf6, hl6⟩ := stp_new HF5.out HL4.out hs6
  obtain ⟨hq6, hn6⟩ := two_step HQ5.out hs6 HN5.out
  obtain ⟨hv, hHV⟩ : ∃ hv, wrE PSt.new X 0 az = hv := ⟨_, rfl⟩
  rw [hHV]
  obtain ⟨S1, hS1⟩ : ∃ S, PSt.new.wr X 0 az = S := ⟨_, rfl⟩
  obtain ⟨X1, hX1⟩ : ∃ E, X.wr PSt.new 0 az = E := ⟨_, rfl⟩
  have HR6 : Hid (Rack w6 pb S1 [X1, Y] F6) := hid (by rw [← hS1, ← hX1]; exact hr6)
  have HC1 : Hid (Calm S1 8) := hid (by
    rw [← hS1]
    have h := Calm.wr (S := PSt.new) (D := X) (at_ := 0) (bs := az) (k := 0) ⟨rfl, rfl, by simp [PSt.new], by simp [PSt.new]⟩ HX.out.2.1
    rw [HX.out.1] at h
    exact h)
  have HTW : Hid (restW Y.db (S1.wr Y 0 bs).ws = S1.ws ∧ restW Y.db (restW X.db (S1.wr Y 0 bs).ws) = [] ∧ ((hv = 0 ∧ S1.ws.length = M) ∨ (hv = 1 ∧ S1.ws.length = 0))) := hid (by
    have h := two_ws (a := az) (b := bs) HXY.out HX.out.2.1 HY.out.2.1
    rw [hHV, hS1, HM.out] at h
    exact h)
  have HX1 : Hid (X1.n = 8 ∧ X1.failed = false ∧ X1.plat = List.replicate 1024 0 ∧ X1.db = X.db) := hid (by rw [← hX1]; exact ⟨HX.out.1, HX.out.2.1, HX.out.2.2, rfl⟩)
  have HF6 := hid hf6
  have HL6 := hid hl6
  have HQ6 := hid hq6
  have HN6 := hid hn6
  clear HW
  have HW := hid (rWrite pb S1 [X1, Y] F6 1 Y 0 pz cb bs w6 HR6.out rfl (by omega) (inB_arg HRB.out HZB.out HF6.out HL6.out) (by rw [HLB.out]; exact hcb) (by rw [HLB.out]; omega) (by have := HC1.out.w; have := HC1.out.l; omega))
  rw [HLB.out] at HW
  clear hr6 hs6 hf6 hl6 hq6 hn6 hHV hS1 hX1 HF5 HL4 HQ5 HN5 HX HXY HR6 HM
  go_wp2_with fail
  refine HW.out.mono ?_
  rintro e w7 ⟨rfl, F7, hr7, hs7⟩
  obtain ⟨hf7, hl7⟩ := stp_new HF6.out HL6.out hs7
  obtain ⟨hq7, hn7⟩ := two_step HQ6.out hs7 HN6.out
  obtain ⟨S2, hS2⟩ : ∃ S, S1.wr Y 0 bs = S := ⟨_, rfl⟩
  obtain ⟨Y1, hY1⟩ : ∃ E, Y.wr S1 0 bs = E := ⟨_, rfl⟩
  have HR7 : Hid (Rack w7 pb S2 [X1, Y1] F7) := hid (by rw [← hS2, ← hY1]; exact hr7)
  have HC2 : Hid (Calm S2 16) := hid (by
    rw [← hS2]
    have h := Calm.wr (S := S1) (D := Y) (at_ := 0) (bs := bs) (k := 8) HC1.out HY.out.2.1
    rw [HY.out.1] at h
    exact h)
  rw [hS2] at HTW
  have HY1 : Hid (Y1.n = 8 ∧ Y1.db = Y.db) := hid (by rw [← hY1]; exact ⟨HY.out.1, rfl⟩)
  have HF7 := hid hf7
  have HL7 := hid hl7
  have HN7 := hid hn7
  clear HW
  have HW := hid (rWrite qb PSt.new [Z] ([qb] ++ Z.blks) 0 Z 0 pa ca az w7 hq7 rfl (by omega) (inB_arg HRA.out HZA.out HF7.out HG5.out) (by rw [HLA.out]; exact hca) (by rw [HLA.out]; omega) (by simp [PSt.new]))
  rw [HLA.out] at HW
  clear hr7 hs7 hf7 hl7 hq7 hn7 hS2 hY1 HF6 HL6 HQ6 HN6 HC1 HY
  go_wp2_with fail
  refine HW.out.mono ?_
  rintro e w8 ⟨rfl, G8, hq8, hs8⟩
  obtain ⟨hf8, hg8⟩ := stp_new HF7.out HG5.out hs8
  obtain ⟨hr8, hn8⟩ := two_step HR7.out hs8 (fun k hk hm => HN7.out k hm hk)
  obtain ⟨T1, hT1⟩ : ∃ S, PSt.new.wr Z 0 az = S := ⟨_, rfl⟩
  obtain ⟨Z1, hZ1⟩ : ∃ E, Z.wr PSt.new 0 az = E := ⟨_, rfl⟩
  have HQ8 : Hid (Rack w8 qb T1 [Z1] G8) := hid (by rw [← hT1, ← hZ1]; exact hq8)
  have HT1 : Hid (T1.out = false) := hid (by
    rw [← hT1]
    exact (Calm.wr (S := PSt.new) (D := Z) (at_ := 0) (bs := az) (k := 0) ⟨rfl, rfl, by simp [PSt.new], by simp [PSt.new]⟩ HZ.out.2).o)
  have HZ1 : Hid (Z1.n = 8 ∧ Z1.failed = false ∧ Z1.db = Z.db) := hid (by rw [← hZ1]; exact ⟨HZ.out.1, HZ.out.2, rfl⟩)
  have HF8 := hid hf8
  have HG8 := hid hg8
  have HR8 := hid hr8
  have HN8 : Hid (∀ k ∈ F7, k ∉ G8) := hid (fun k hk hm => hn8 k hm hk)
  clear hq8 hs8 hf8 hg8 hr8 hn8 hT1 hZ1 HF7 HG5 HR7 HN7 HZ HRA HZA HLA HRB HZB HLB
  go_wp2_with fail
  obtain ⟨S3, rfl⟩ : ∃ S, S = S2 := ⟨_, rfl⟩
  obtain ⟨X2, rfl⟩ : ∃ E, E = X1 := ⟨_, rfl⟩
  have HC3 := HC2
  have HX2 : Hid (X2.n = 8 ∧ X2.failed = false ∧ X2.db = X.db) := hid ⟨HX1.out.1, HX1.out.2.1, HX1.out.2.2.2⟩
  have HE : Hid (X2.plat = List.replicate 1024 0) := hid HX1.out.2.2.1
  have HLF : Hid ((S3.rest Y.db).ws.length = S1.ws.length) := hid (by rw [restS_ws, HTW.out.1])
  obtain ⟨w9, rfl⟩ : ∃ W, W = w8 := ⟨_, rfl⟩
  obtain ⟨F9, rfl⟩ : ∃ F, F = F7 := ⟨_, rfl⟩
  have HR9 := HR8
  have HF9 := HF8
  have HL9 := HL7
  have HQ9 := HQ8
  have HN9 := HN8
  have HTV : Hid ((hv = 0 ∧ S1.ws.length = M) ∨ (hv = 1 ∧ S1.ws.length = 0)) := hid HTW.out.2.2
  clear HF8 HL7 HR8 HN8 HQ8 HTW HC2 HX1
  have HWT := hid (rWaiting pb S3 [X2, Y1] F9 w9 HR9.out)
  have HRZ := hid (read_ok HQ9.out (i := 0) (D := Z1) rfl HT1.out HZ1.out.2.1 HZ1.out.1)
  rw [HZ1.out.2.2] at HRZ
  have hWL : (0 : Int) ≤ (S3.ws.length : Int) ∧ (S3.ws.length : Int) ≤ 16 := by have := HC3.out.l; omega
  obtain ⟨NW, hNW⟩ : ∃ n, S3.ws.length = n := ⟨_, rfl⟩
  rw [hNW] at HWT hWL
  clear hNW
  go_wp2_with fail
  refine HWT.out.mono ?_
  rintro e wq ⟨rfl, rfl⟩
  clear HWT
  go_wp2_with fail
  refine HRZ.out.mono ?_
  rintro e w10 ⟨g10, rfl, hg10, hh10, hf10⟩
  have HR10 := hid (HR9.out.kept hf10 (by simp))
  have HQ10 := hid (HQ9.out.kept hf10 (by simp))
  have HF10 := hid (HF9.out.trans hf10 (by simp))
  have HZ2 : Hid (Bk w10 g10 Z1.seen F9 G8) := hid (Bk.new HR9.out HQ9.out hg10 hh10)
  have HFA := hid (rFail pb S3 [X2, Y1] F9 1 Y1 w10 HR10.out rfl)
  rw [HY1.out.2] at HFA
  clear hg10 hh10 hf10 HRZ HR9 HQ9 HF9
  go_wp2_with fail
  refine HFA.out.mono ?_
  rintro e w11 ⟨rfl, F11, hr11, hs11⟩
  obtain ⟨hf11, hl11⟩ := stp_new HF10.out HL9.out hs11
  obtain ⟨hq11, hn11⟩ := two_step HQ10.out hs11 HN9.out
  have HZ3 := hid (HZ2.out.stp hs11)
  have HR11 : Hid (Rack w11 pb (S3.rest Y.db) [X2, Y1.fail] F11) := hid hr11
  have HF11 := hid hf11
  have HL11 := hid hl11
  have HQ11 := hid hq11
  have HN11 := hid hn11
  obtain ⟨S4, hS4⟩ : ∃ S, S3.rest Y.db = S := ⟨_, rfl⟩
  have HC4 : Hid (Calm S4 16) := hid (by rw [← hS4]; exact HC3.out.rest _)
  rw [hS4] at HR11 HLF
  have HWT := hid (rWaiting pb S4 [X2, Y1.fail] F11 w11 HR11.out)
  rw [HLF.out] at HWT
  have HRX := hid (read_ok HR11.out (i := 0) (D := X2) rfl HC4.out.o HX2.out.2.1 HX2.out.1)
  rw [HX2.out.2.2] at HRX
  clear hr11 hs11 hf11 hl11 hq11 hn11 hS4 HFA HF10 HL9 HQ10 HN9 HZ2 HR10 HC3 HLF HW
  have htv := HTV.out
  clear HTV
  go_wp2_with fail
  refine HWT.out.mono ?_
  rintro e wq ⟨rfl, rfl⟩
  clear HWT
  rcases htv with ⟨rfl, hl1⟩ | ⟨rfl, hl1⟩
  · (try rw [hl1])
    clear hl1
    go_wp2_with fail
    refine HRX.out.mono ?_
    rintro e w12 ⟨g12, rfl, hg12, hh12, hf12⟩
    have HXL : Hid (X2.seen.length = 1024) := hid (by rw [(HR11.out.disk (i := 0) (D := X2) rfl).sn, HX2.out.1])
    have HB12 : Hid (Bk w12 g12 X2.seen F11 G8) := hid (Bk.new HR11.out HQ11.out hg12 hh12)
    have HR12 := hid (HR11.out.kept hf12 (by simp))
    have HQ12 := hid (HQ11.out.kept hf12 (by simp))
    have HF12 := hid (HF11.out.trans hf12 (by simp))
    have HZ4 := hid (HZ3.out.frm hf12)
    have HUP := hid (rUpNil pb S4 [X2, Y1.fail] F11 w12 HR12.out)
    clear hg12 hh12 hf12 HRX HR11 HQ11 HF11 HZ3
    go_wp2_with fail
    refine HUP.out.mono ?_
    rintro e w13 ⟨rfl, F13, hr13, hs13⟩
    obtain ⟨hf13, hl13⟩ := stp_new HF12.out HL11.out hs13
    obtain ⟨hq13, hn13⟩ := two_step HQ12.out hs13 HN11.out
    have HR13 : Hid (Rack w13 pb S4.up [DSt.up S4 [] X2, DSt.up S4 [] Y1.fail] F13) := hid hr13
    have HF13 := hid hf13
    have HL13 := hid hl13
    have HQ13 := hid hq13
    have HN13 := hid hn13
    have HZ5 := hid (HZ4.out.stp hs13)
    have HB13 := hid (HB12.out.stp hs13)
    have HRX := hid (read_ok HR13.out (i := 0) (D := DSt.up S4 [] X2) rfl rfl HX2.out.2.1 HX2.out.1)
    rw [show (DSt.up S4 [] X2).db = X.db from HX2.out.2.2, show (DSt.up S4 [] X2).seen = X2.plat from by rw [up_nil]] at HRX
    clear hr13 hs13 hf13 hl13 hq13 hn13 HUP HR12 HQ12 HF12 HZ4 HB12 HL11 HN11
    go_wp2_with fail
    refine HRX.out.mono ?_
    rintro e w14 ⟨g14, rfl, hg14, hh14, hf14⟩
    have HB14 : Hid (Bk w14 g14 X2.plat F13 G8) := hid (Bk.new HR13.out HQ13.out hg14 hh14)
    have HR14 := hid (HR13.out.kept hf14 (by simp))
    have HQ14 := hid (HQ13.out.kept hf14 (by simp))
    have HF14 := hid (HF13.out.trans hf14 (by simp))
    have HZ6 := hid (HZ5.out.frm hf14)
    have HB15 := hid (HB13.out.frm hf14)
    have HRZ := hid (read_ok HQ14.out (i := 0) (D := Z1) rfl HT1.out HZ1.out.2.1 HZ1.out.1)
    rw [HZ1.out.2.2] at HRZ
    clear hg14 hh14 hf14 HRX HR13 HQ13 HF13 HZ5 HB13
    go_wp2_with fail
    refine HRZ.out.mono ?_
    rintro e w15 ⟨g15, rfl, hg15, hh15, hf15⟩
    have HC15 : Hid (Bk w15 g15 Z1.seen F13 G8) := hid (Bk.new HR14.out HQ14.out hg15 hh15)
    have HR15 := hid (HR14.out.kept hf15 (by simp))
    have HQ15 := hid (HQ14.out.kept hf15 (by simp))
    have HF15 := hid (HF14.out.trans hf15 (by simp))
    have HZ7 := hid (HZ6.out.frm hf15)
    have HB16 := hid (HB15.out.frm hf15)
    have HB17 := hid (HB14.out.frm hf15)
    have HRP := hid (rReplace pb S4.up [DSt.up S4 [] X2, DSt.up S4 [] Y1.fail] F13 1 (DSt.up S4 [] Y1.fail) w15 HR15.out rfl)
    rw [show (DSt.up S4 [] Y1.fail).db = Y.db from HY1.out.2] at HRP
    clear hg15 hh15 hf15 HRZ HR14 HQ14 HF14 HZ6 HB15 HB14
    go_wp2_with fail
    refine HRP.out.mono ?_
    rintro e w16 ⟨rfl, F16, hr16, hs16⟩
    obtain ⟨hf16, hl16⟩ := stp_new HF15.out HL13.out hs16
    obtain ⟨hq16, hn16⟩ := two_step HQ15.out hs16 HN13.out
    obtain ⟨Y4, hY4⟩ : ∃ E, (DSt.up S4 [] Y1.fail).fresh = E := ⟨_, rfl⟩
    have HR16 : Hid (Rack w16 pb (S4.up.rest Y.db) [DSt.up S4 [] X2, Y4] F16) := hid (by rw [← hY4]; exact hr16)
    have HY4 : Hid (Y4.n = 8 ∧ Y4.failed = false ∧ Y4.db = Y.db ∧ Y4.seen = List.replicate 1024 0) := hid (by
      rw [← hY4]
      exact ⟨HY1.out.1, rfl, HY1.out.2, by show List.replicate (Y1.n * 128) 0 = _; rw [HY1.out.1]⟩)
    have HF16 := hid hf16
    have HL16 := hid hl16
    have HQ16 := hid hq16
    have HN16 := hid hn16
    have HZ8 := hid (HZ7.out.stp hs16)
    have HB18 := hid (HB16.out.stp hs16)
    have HB19 := hid (HB17.out.stp hs16)
    have HC16 := hid (HC15.out.stp hs16)
    have HRY := hid (read_ok HR16.out (i := 1) (D := Y4) rfl rfl HY4.out.2.1 HY4.out.1)
    rw [HY4.out.2.2.1, HY4.out.2.2.2] at HRY
    clear hr16 hs16 hf16 hl16 hq16 hn16 hY4 HRP HR15 HQ15 HF15 HZ7 HB16 HB17 HC15 HL13 HN13
    go_wp2_with fail
    refine HRY.out.mono ?_
    rintro e w17 ⟨g17, rfl, hg17, hh17, hf17⟩
    have HR17 := hid (HR16.out.kept hf17 (by simp))
    have HQ17 := hid (HQ16.out.kept hf17 (by simp))
    have HF17 := hid (HF16.out.trans hf17 (by simp))
    have HZ9 := hid (HZ8.out.frm hf17).h
    have HB20 := hid (HB18.out.frm hf17).h
    have HB21 := hid (HB19.out.frm hf17).h
    have HC17 := hid (HC16.out.frm hf17).h
    have HY17 := hid hg17
    have hXL : Hid (X2.seen.length = 1024 ∧ X2.plat.length = 1024) := hid (by
      have h := HR16.out.disk (i := 0) (D := DSt.up S4 [] X2) rfl
      have h2 := h.pn
      have e : (DSt.up S4 [] X2).plat = X2.plat := up_nil S4 X2
      rw [e] at h2
      exact ⟨HXL.out, by rw [h2]; show X2.n * 128 = 1024; rw [HX2.out.1]⟩)
    have hlZ : Hid (Z1.seen.length = 1024) := hid (by rw [(HQ16.out.disk (i := 0) (D := Z1) rfl).sn, HZ1.out.1])
    clear hg17 hh17 hf17 HRY HR16 HQ16 HF16 HZ8 HB18 HB19 HC16
    obtain ⟨zs, hzs⟩ : ∃ zs, bv (List.replicate 1024 0) = zs := ⟨_, rfl⟩
    have hmk := make_bytes 1024 (by omega)
    rw [hzs] at hmk
    simp only [Int.cast_ofNat_Int] at hmk
    obtain ⟨sZ, hsZ⟩ : ∃ s, strOfNums Z1.seen = s := ⟨_, rfl⟩
    obtain ⟨s0, hs0⟩ : ∃ s, strOfNums (List.replicate 1024 0) = s := ⟨_, rfl⟩
    have hfa : Frm [] w17 (w17.alloc (.cells zs.toArray 5)).drew := ((Frm.refl [] w17).alloc _).drew
    have HV0 : Hid (CvS w17.drew g10 g15 g17 sZ s0) := hid ⟨by rw [← hsZ]; exact conv_any w17.drew g10 1024 Z1.seen HZ9.out hlZ.out, by rw [← hsZ]; exact conv_any w17.drew g15 1024 Z1.seen HC17.out hlZ.out, by rw [← hs0]; exact conv_any w17.drew g17 1024 _ HY17.out (by simp)⟩
    have HV1 : Hid (CvS (w17.alloc (.cells zs.toArray 5)).drew g10 g15 g17 sZ s0) := hid ⟨by rw [← hsZ]; exact conv_any _ g10 1024 Z1.seen (hfa.heap HZ9.out (by simp)) hlZ.out, by rw [← hsZ]; exact conv_any _ g15 1024 Z1.seen (hfa.heap HC17.out (by simp)) hlZ.out, by rw [← hs0]; exact conv_any _ g17 1024 _ (hfa.heap HY17.out (by simp)) (by simp)⟩
    have e7 := conv_any (w17.alloc (.cells zs.toArray 5)).drew w17.heap.size 1024 (List.replicate 1024 0) (by rw [hzs]; exact heap_alloc_new w17 _) (by simp)
    rw [hs0] at e7
    clear hfa hsZ
    go_upto_region 29 with fail
    unfold CvS at HV0 HV1
    obtain ⟨i1, i2, i3⟩ := HV0.out
    obtain ⟨j1, j2, j3⟩ := HV1.out
    clear HV0 HV1
    go_region
    obtain ⟨w18, hw18⟩ : ∃ W, (w17.alloc (.cells zs.toArray 5)).drew = W := ⟨_, rfl⟩
    rw [hw18]
    have hf18 : Frm [] w17 w18 := by rw [← hw18]; exact ((Frm.refl [] w17).alloc _).drew
    have HR18 := hid (HR17.out.kept hf18 (by simp))
    have HQ18 := hid (HQ17.out.kept hf18 (by simp))
    have HF18 := hid (HF17.out.trans hf18 (by simp))
    have HB22 := hid (hf18.heap HB20.out (by simp))
    have HB23 := hid (hf18.heap HB21.out (by simp))
    clear hf18 hw18 i1 i2 i3 j1 j2 j3 e7 HR17 HQ17 HF17 HB20 HB21 HZ9 HC17 HY17
    go_upto_region 31 with fail
    have hf18' : Frm [] w18 (w18.alloc (.cells zs.toArray 5)).drew := ((Frm.refl [] w18).alloc _).drew
    have i1 := conv_any w18.drew g14 1024 _ HB23.out hXL.out.2
    have i2 := conv_any (w18.alloc (.cells zs.toArray 5)).drew g14 1024 _ (hf18'.heap HB23.out (by simp)) hXL.out.2
    have i3 := conv_any (w18.alloc (.cells zs.toArray 5)).drew w18.heap.size 1024 (List.replicate 1024 0) (by rw [hzs]; exact heap_alloc_new w18 _) (by simp)
    rw [HE.out, hs0] at i1 i2
    rw [hs0] at i3
    clear hf18'
    go_region
    obtain ⟨w19, hw19⟩ : ∃ W, (w18.alloc (.cells zs.toArray 5)).drew = W := ⟨_, rfl⟩
    rw [hw19]
    have hf19 : Frm [] w18 w19 := by rw [← hw19]; exact ((Frm.refl [] w18).alloc _).drew
    clear hw19 i1 i2 i3
    have HR19 := hid (HR18.out.kept hf19 (by simp))
    have HQ19 := hid (HQ18.out.kept hf19 (by simp))
    have HF19 := hid (HF18.out.trans hf19 (by simp))
    have HUP := hid (rUp pb (S4.up.rest Y.db) [DSt.up S4 [] X2, Y4] F16 ps st cs w19 HR19.out (by
      rcases HRS.out with h | ⟨g, o, rfl, hc⟩
      · exact Or.inl h
      · refine Or.inr ⟨g, o, rfl, fun i u hu => ?_⟩
        rw [HF19.out.cell (p := ⟨g, o + i, none⟩) (World.block_lt_of_cell? w _ (hc i u hu)) (by simp)]
        exact hc i u hu) (fun hne k hk hm => by
      rcases HRS.out with h | ⟨g, o, rfl, hc⟩
      · simp at h; exact hne h
      · simp [blk] at hk
        subst hk
        have h0 : 0 < st.length := List.length_pos_iff.2 hne
        have := World.block_lt_of_cell? w _ (hc 0 (.bool st[0]) (by simp [h0]))
        have := HL16.out _ hm
        simp at *
        omega) (by rw [HLS.out]; omega))
    rw [HLS.out] at HUP
    clear hf19 HR18 HQ18 HF18 HB22 HB23
    go_wp2_with fail
    refine HUP.out.mono ?_
    rintro e w20 ⟨rfl, F20, hr20, hs20⟩
    obtain ⟨hf20, hl20⟩ := stp_new HF19.out HL16.out hs20
    obtain ⟨hq20, hn20⟩ := two_step HQ19.out hs20 HN16.out
    have HON := hid (rOn qb _ _ _ w20 hq20)
    rw [HT1.out] at HON
    have HWT := hid (rWaiting pb _ _ _ w20 hr20)
    rw [show (S4.up.rest Y.db).up.ws.length = 0 from rfl] at HWT
    have HF20 := hid hf20
    clear hr20 hs20 hf20 hl20 hq20 hn20 HUP HR19 HQ19 HF19
    go_wp2_with fail
    refine HON.out.mono ?_
    rintro e wq ⟨rfl, rfl⟩
    go_wp2_with fail
    refine HWT.out.mono ?_
    rintro e wq ⟨rfl, rfl⟩
    go_wp2_with fail
    go_returns
    exact ⟨rfl, HF20.out⟩
  · (try rw [hl1])
    clear hl1
    go_wp2_with fail
    refine HRX.out.mono ?_
    rintro e w12 ⟨g12, rfl, hg12, hh12, hf12⟩
    have HXL : Hid (X2.seen.length = 1024) := hid (by rw [(HR11.out.disk (i := 0) (D := X2) rfl).sn, HX2.out.1])
    have HB12 : Hid (Bk w12 g12 X2.seen F11 G8) := hid (Bk.new HR11.out HQ11.out hg12 hh12)
    have HR12 := hid (HR11.out.kept hf12 (by simp))
    have HQ12 := hid (HQ11.out.kept hf12 (by simp))
    have HF12 := hid (HF11.out.trans hf12 (by simp))
    have HZ4 := hid (HZ3.out.frm hf12)
    have HUP := hid (rUpNil pb S4 [X2, Y1.fail] F11 w12 HR12.out)
    clear hg12 hh12 hf12 HRX HR11 HQ11 HF11 HZ3
    go_wp2_with fail
    refine HUP.out.mono ?_
    rintro e w13 ⟨rfl, F13, hr13, hs13⟩
    obtain ⟨hf13, hl13⟩ := stp_new HF12.out HL11.out hs13
    obtain ⟨hq13, hn13⟩ := two_step HQ12.out hs13 HN11.out
    have HR13 : Hid (Rack w13 pb S4.up [DSt.up S4 [] X2, DSt.up S4 [] Y1.fail] F13) := hid hr13
    have HF13 := hid hf13
    have HL13 := hid hl13
    have HQ13 := hid hq13
    have HN13 := hid hn13
    have HZ5 := hid (HZ4.out.stp hs13)
    have HB13 := hid (HB12.out.stp hs13)
    have HRX := hid (read_ok HR13.out (i := 0) (D := DSt.up S4 [] X2) rfl rfl HX2.out.2.1 HX2.out.1)
    rw [show (DSt.up S4 [] X2).db = X.db from HX2.out.2.2, show (DSt.up S4 [] X2).seen = X2.plat from by rw [up_nil]] at HRX
    clear hr13 hs13 hf13 hl13 hq13 hn13 HUP HR12 HQ12 HF12 HZ4 HB12 HL11 HN11
    go_wp2_with fail
    refine HRX.out.mono ?_
    rintro e w14 ⟨g14, rfl, hg14, hh14, hf14⟩
    have HB14 : Hid (Bk w14 g14 X2.plat F13 G8) := hid (Bk.new HR13.out HQ13.out hg14 hh14)
    have HR14 := hid (HR13.out.kept hf14 (by simp))
    have HQ14 := hid (HQ13.out.kept hf14 (by simp))
    have HF14 := hid (HF13.out.trans hf14 (by simp))
    have HZ6 := hid (HZ5.out.frm hf14)
    have HB15 := hid (HB13.out.frm hf14)
    have HRZ := hid (read_ok HQ14.out (i := 0) (D := Z1) rfl HT1.out HZ1.out.2.1 HZ1.out.1)
    rw [HZ1.out.2.2] at HRZ
    clear hg14 hh14 hf14 HRX HR13 HQ13 HF13 HZ5 HB13
    go_wp2_with fail
    refine HRZ.out.mono ?_
    rintro e w15 ⟨g15, rfl, hg15, hh15, hf15⟩
    have HC15 : Hid (Bk w15 g15 Z1.seen F13 G8) := hid (Bk.new HR14.out HQ14.out hg15 hh15)
    have HR15 := hid (HR14.out.kept hf15 (by simp))
    have HQ15 := hid (HQ14.out.kept hf15 (by simp))
    have HF15 := hid (HF14.out.trans hf15 (by simp))
    have HZ7 := hid (HZ6.out.frm hf15)
    have HB16 := hid (HB15.out.frm hf15)
    have HB17 := hid (HB14.out.frm hf15)
    have HRP := hid (rReplace pb S4.up [DSt.up S4 [] X2, DSt.up S4 [] Y1.fail] F13 1 (DSt.up S4 [] Y1.fail) w15 HR15.out rfl)
    rw [show (DSt.up S4 [] Y1.fail).db = Y.db from HY1.out.2] at HRP
    clear hg15 hh15 hf15 HRZ HR14 HQ14 HF14 HZ6 HB15 HB14
    go_wp2_with fail
    refine HRP.out.mono ?_
    rintro e w16 ⟨rfl, F16, hr16, hs16⟩
    obtain ⟨hf16, hl16⟩ := stp_new HF15.out HL13.out hs16
    obtain ⟨hq16, hn16⟩ := two_step HQ15.out hs16 HN13.out
    obtain ⟨Y4, hY4⟩ : ∃ E, (DSt.up S4 [] Y1.fail).fresh = E := ⟨_, rfl⟩
    have HR16 : Hid (Rack w16 pb (S4.up.rest Y.db) [DSt.up S4 [] X2, Y4] F16) := hid (by rw [← hY4]; exact hr16)
    have HY4 : Hid (Y4.n = 8 ∧ Y4.failed = false ∧ Y4.db = Y.db ∧ Y4.seen = List.replicate 1024 0) := hid (by
      rw [← hY4]
      exact ⟨HY1.out.1, rfl, HY1.out.2, by show List.replicate (Y1.n * 128) 0 = _; rw [HY1.out.1]⟩)
    have HF16 := hid hf16
    have HL16 := hid hl16
    have HQ16 := hid hq16
    have HN16 := hid hn16
    have HZ8 := hid (HZ7.out.stp hs16)
    have HB18 := hid (HB16.out.stp hs16)
    have HB19 := hid (HB17.out.stp hs16)
    have HC16 := hid (HC15.out.stp hs16)
    have HRY := hid (read_ok HR16.out (i := 1) (D := Y4) rfl rfl HY4.out.2.1 HY4.out.1)
    rw [HY4.out.2.2.1, HY4.out.2.2.2] at HRY
    clear hr16 hs16 hf16 hl16 hq16 hn16 hY4 HRP HR15 HQ15 HF15 HZ7 HB16 HB17 HC15 HL13 HN13
    go_wp2_with fail
    refine HRY.out.mono ?_
    rintro e w17 ⟨g17, rfl, hg17, hh17, hf17⟩
    have HR17 := hid (HR16.out.kept hf17 (by simp))
    have HQ17 := hid (HQ16.out.kept hf17 (by simp))
    have HF17 := hid (HF16.out.trans hf17 (by simp))
    have HZ9 := hid (HZ8.out.frm hf17).h
    have HB20 := hid (HB18.out.frm hf17).h
    have HB21 := hid (HB19.out.frm hf17).h
    have HC17 := hid (HC16.out.frm hf17).h
    have HY17 := hid hg17
    have hXL : Hid (X2.seen.length = 1024 ∧ X2.plat.length = 1024) := hid (by
      have h := HR16.out.disk (i := 0) (D := DSt.up S4 [] X2) rfl
      have h2 := h.pn
      have e : (DSt.up S4 [] X2).plat = X2.plat := up_nil S4 X2
      rw [e] at h2
      exact ⟨HXL.out, by rw [h2]; show X2.n * 128 = 1024; rw [HX2.out.1]⟩)
    have hlZ : Hid (Z1.seen.length = 1024) := hid (by rw [(HQ16.out.disk (i := 0) (D := Z1) rfl).sn, HZ1.out.1])
    clear hg17 hh17 hf17 HRY HR16 HQ16 HF16 HZ8 HB18 HB19 HC16
    obtain ⟨zs, hzs⟩ : ∃ zs, bv (List.replicate 1024 0) = zs := ⟨_, rfl⟩
    have hmk := make_bytes 1024 (by omega)
    rw [hzs] at hmk
    simp only [Int.cast_ofNat_Int] at hmk
    obtain ⟨sZ, hsZ⟩ : ∃ s, strOfNums Z1.seen = s := ⟨_, rfl⟩
    obtain ⟨s0, hs0⟩ : ∃ s, strOfNums (List.replicate 1024 0) = s := ⟨_, rfl⟩
    have hfa : Frm [] w17 (w17.alloc (.cells zs.toArray 5)).drew := ((Frm.refl [] w17).alloc _).drew
    have HV0 : Hid (CvS w17.drew g10 g15 g17 sZ s0) := hid ⟨by rw [← hsZ]; exact conv_any w17.drew g10 1024 Z1.seen HZ9.out hlZ.out, by rw [← hsZ]; exact conv_any w17.drew g15 1024 Z1.seen HC17.out hlZ.out, by rw [← hs0]; exact conv_any w17.drew g17 1024 _ HY17.out (by simp)⟩
    have HV1 : Hid (CvS (w17.alloc (.cells zs.toArray 5)).drew g10 g15 g17 sZ s0) := hid ⟨by rw [← hsZ]; exact conv_any _ g10 1024 Z1.seen (hfa.heap HZ9.out (by simp)) hlZ.out, by rw [← hsZ]; exact conv_any _ g15 1024 Z1.seen (hfa.heap HC17.out (by simp)) hlZ.out, by rw [← hs0]; exact conv_any _ g17 1024 _ (hfa.heap HY17.out (by simp)) (by simp)⟩
    have e7 := conv_any (w17.alloc (.cells zs.toArray 5)).drew w17.heap.size 1024 (List.replicate 1024 0) (by rw [hzs]; exact heap_alloc_new w17 _) (by simp)
    rw [hs0] at e7
    clear hfa hsZ
    go_upto_region 29 with fail
    unfold CvS at HV0 HV1
    obtain ⟨i1, i2, i3⟩ := HV0.out
    obtain ⟨j1, j2, j3⟩ := HV1.out
    clear HV0 HV1
    go_region
    obtain ⟨w18, hw18⟩ : ∃ W, (w17.alloc (.cells zs.toArray 5)).drew = W := ⟨_, rfl⟩
    rw [hw18]
    have hf18 : Frm [] w17 w18 := by rw [← hw18]; exact ((Frm.refl [] w17).alloc _).drew
    have HR18 := hid (HR17.out.kept hf18 (by simp))
    have HQ18 := hid (HQ17.out.kept hf18 (by simp))
    have HF18 := hid (HF17.out.trans hf18 (by simp))
    have HB22 := hid (hf18.heap HB20.out (by simp))
    have HB23 := hid (hf18.heap HB21.out (by simp))
    clear hf18 hw18 i1 i2 i3 j1 j2 j3 e7 HR17 HQ17 HF17 HB20 HB21 HZ9 HC17 HY17
    go_upto_region 31 with fail
    have hf18' : Frm [] w18 (w18.alloc (.cells zs.toArray 5)).drew := ((Frm.refl [] w18).alloc _).drew
    have i1 := conv_any w18.drew g14 1024 _ HB23.out hXL.out.2
    have i2 := conv_any (w18.alloc (.cells zs.toArray 5)).drew g14 1024 _ (hf18'.heap HB23.out (by simp)) hXL.out.2
    have i3 := conv_any (w18.alloc (.cells zs.toArray 5)).drew w18.heap.size 1024 (List.replicate 1024 0) (by rw [hzs]; exact heap_alloc_new w18 _) (by simp)
    rw [HE.out, hs0] at i1 i2
    rw [hs0] at i3
    clear hf18'
    go_region
    obtain ⟨w19, hw19⟩ : ∃ W, (w18.alloc (.cells zs.toArray 5)).drew = W := ⟨_, rfl⟩
    rw [hw19]
    have hf19 : Frm [] w18 w19 := by rw [← hw19]; exact ((Frm.refl [] w18).alloc _).drew
    clear hw19 i1 i2 i3
    have HR19 := hid (HR18.out.kept hf19 (by simp))
    have HQ19 := hid (HQ18.out.kept hf19 (by simp))
    have HF19 := hid (HF18.out.trans hf19 (by simp))
    have HUP := hid (rUp pb (S4.up.rest Y.db) [DSt.up S4 [] X2, Y4] F16 ps st cs w19 HR19.out (by
      rcases HRS.out with h | ⟨g, o, rfl, hc⟩
      · exact Or.inl h
      · refine Or.inr ⟨g, o, rfl, fun i u hu => ?_⟩
        rw [HF19.out.cell (p := ⟨g, o + i, none⟩) (World.block_lt_of_cell? w _ (hc i u hu)) (by simp)]
        exact hc i u hu) (fun hne k hk hm => by
      rcases HRS.out with h | ⟨g, o, rfl, hc⟩
      · simp at h; exact hne h
      · simp [blk] at hk
        subst hk
        have h0 : 0 < st.length := List.length_pos_iff.2 hne
        have := World.block_lt_of_cell? w _ (hc 0 (.bool st[0]) (by simp [h0]))
        have := HL16.out _ hm
        simp at *
        omega) (by rw [HLS.out]; omega))
    rw [HLS.out] at HUP
    clear hf19 HR18 HQ18 HF18 HB22 HB23
    go_wp2_with fail
    refine HUP.out.mono ?_
    rintro e w20 ⟨rfl, F20, hr20, hs20⟩
    obtain ⟨hf20, hl20⟩ := stp_new HF19.out HL16.out hs20
    obtain ⟨hq20, hn20⟩ := two_step HQ19.out hs20 HN16.out
    have HON := hid (rOn qb _ _ _ w20 hq20)
    rw [HT1.out] at HON
    have HWT := hid (rWaiting pb _ _ _ w20 hr20)
    rw [show (S4.up.rest Y.db).up.ws.length = 0 from rfl] at HWT
    have HF20 := hid hf20
    clear hr20 hs20 hf20 hl20 hq20 hn20 HUP HR19 HQ19 HF19
    go_wp2_with fail
    refine HON.out.mono ?_
    rintro e wq ⟨rfl, rfl⟩
    go_wp2_with fail
    refine HWT.out.mono ?_
    rintro e wq ⟨rfl, rfl⟩
    go_wp2_with fail
    go_returns
    exact ⟨rfl, HF20.out⟩
end Go.Proofs.Ytfclamndjnoopaa
